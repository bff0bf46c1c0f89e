import Derived.Test.YtbeionikiiccpaaDoorHmxa
namespace Go.Proofs.YtbeionikiiccpaaDoor
open Go.RowKit
open Sha
set_option maxRecDepth 8000
theorem ws_len (b : List UInt8) : (ws b).length = 64 := w2_len b 48
theorem z8_lit : cU (List.replicate 8 0) = #[.int .u32 0, .int .u32 0, .int .u32 0, .int .u32 0, .int .u32 0, .int .u32 0, .int .u32 0, .int .u32 0] := by rfl
theorem MX.start (w : World) (s : St) (b : List UInt8) : MX w s b (fun _ => false) (fr s b w.heap.size undef undef undef undef undef undef undef) (((w.alloc (.cells (cU s.l) 72)).alloc (.cells (cB b) 75)).alloc (.cells #[.int .u32 0, .int .u32 0, .int .u32 0, .int .u32 0, .int .u32 0, .int .u32 0, .int .u32 0, .int .u32 0] 72)).drew := by
  have no : ∀ {p : Prop}, (fun _ : Nat => false) 0 = true → p := by intro p h; cases h
  refine ⟨0, 0, 0, _, _, _, _, _, _, _, ⟨no, no, no, no, no, no, no, fun h => no h, fun h => no h, fun h => no h, ?_, ?_, ?_, ?_, ?_, no, no, no⟩, rfl⟩
  · exact (((Row.new w (cU s.l) 72).alloc _).alloc _).drew
  · have := (Row.new (w.alloc (.cells (cU s.l) 72)) (cB b) 75).alloc (.cells (cU (List.replicate 8 0)) 72)
    rw [World.size_alloc, z8_lit] at this
    exact this.drew
  · have := Row.new ((w.alloc (.cells (cU s.l) 72)).alloc (.cells (cB b) 75)) (cU (List.replicate 8 0)) 72
    rw [World.size_alloc, World.size_alloc, z8_lit] at this
    exact ⟨_, by simp, this.drew⟩
  · exact ((((Below.refl _ _).alloc (Nat.le_refl _) _).alloc (by simp) _).alloc (by simp; omega) _).drew
  · simp
structure ML (W wr : World) (s : St) (b : List UInt8) (g5 g6 g7 : Nat) (S : List UInt32) (v : St) : Prop where
  r5 : Row wr g5 (cU (ws b)) 105
  r6 : Row wr g6 (cU ks) 105
  r7 : Row wr g7 (cU v.l) 72
  rs : Row wr W.heap.size (cU S) 72
  rz : ∃ c, c.size = 8 ∧ Row wr (W.heap.size + 1 + 1) c 72
  be : Below W.heap.size W wr
  i5 : W.heap.size + 3 ≤ g5
  i6 : W.heap.size + 3 ≤ g6
  i7 : W.heap.size + 3 ≤ g7
  n5 : g5 ≠ g7
  n6 : g6 ≠ g7
theorem ML.c {W wr : World} {s : St} {b : List UInt8} {g5 g6 g7 : Nat} {S : List UInt32} {v : St} (h : ML W wr s b g5 g6 g7 S v) :
    wr.cell? ⟨g7, 0, none⟩ = some (.int .u32 (u v.a)) ∧ wr.cell? ⟨g7, 1, none⟩ = some (.int .u32 (u v.b)) ∧ wr.cell? ⟨g7, 2, none⟩ = some (.int .u32 (u v.c)) ∧ wr.cell? ⟨g7, 3, none⟩ = some (.int .u32 (u v.d)) ∧
    wr.cell? ⟨g7, 4, none⟩ = some (.int .u32 (u v.e)) ∧ wr.cell? ⟨g7, 5, none⟩ = some (.int .u32 (u v.f)) ∧ wr.cell? ⟨g7, 6, none⟩ = some (.int .u32 (u v.g)) ∧ wr.cell? ⟨g7, 7, none⟩ = some (.int .u32 (u v.h)) := by
  refine ⟨?_, ?_, ?_, ?_, ?_, ?_, ?_, ?_⟩ <;> (rw [h.r7.cell]; rfl)
theorem ML.drewN {W wr : World} {s : St} {b : List UInt8} {g5 g6 g7 : Nat} {S : List UInt32} {v : St} (h : ML W wr s b g5 g6 g7 S v) (n : Nat) : ML W (wr.drewN n) s b g5 g6 g7 S v :=
  ⟨h.r5.drewN n, h.r6.drewN n, h.r7.drewN n, h.rs.drewN n, h.rz.imp fun _ q => ⟨q.1, q.2.drewN n⟩, ⟨h.be.os, h.be.tape, h.be.output, h.be.size, h.be.block⟩, h.i5, h.i6, h.i7, h.n5, h.n6⟩
theorem ML.store {W wr : World} {s : St} {b : List UInt8} {g5 g6 g7 : Nat} {S : List UInt32} {v : St} (h : ML W wr s b g5 g6 g7 S v) (v' : St) : ML W (wr.setRow g7 (cU v'.l)) s b g5 g6 g7 S v' := by
  have := h.i7
  exact ⟨h.r5.setRow_other _ _ h.n5, h.r6.setRow_other _ _ h.n6, h.r7.setRow _, h.rs.setRow_other _ _ (by omega), h.rz.imp fun _ q => ⟨q.1, q.2.setRow_other _ _ (by omega)⟩, below_row h.be (by omega) _, h.i5, h.i6, h.i7, h.n5, h.n6⟩
theorem u_not (a : UInt32) : bits .xor .u32 4294967295 (u a) = u (nt a) := by
  have e : (4294967295 : Int) = u 4294967295 := rfl
  rw [e, u_xor]
  refine congrArg u ?_
  apply UInt32.eq_of_toBitVec_eq
  unfold xr nt
  rw [UInt32.toBitVec_xor, UInt32.toBitVec_not]
  exact BitVec.allOnes_xor
theorem u_add5 (a b c d e : UInt32) : ((u a + u b + u c + u d) % 4294967296 + u e) % 4294967296 = u (ad (ad (ad (ad a b) c) d) e) := by
  rw [u_add4, u_add]
theorem x1_eq (v : St) (kk ww : UInt32) : ((u v.h + bits .xor .u32 (bits .xor .u32 (u (rr v.e 6)) (u (rr v.e 11))) (u (rr v.e 25)) + bits .xor .u32 (bits .and .u32 (u v.e) (u v.f)) (bits .and .u32 (bits .xor .u32 4294967295 (u v.e)) (u v.g)) + u kk) % 4294967296 + u ww) % 4294967296 = u (x1 v kk ww) := by
  simp only [u_not, u_xor, u_and, u_add5, x1]
theorem y1_eq (v : St) : (bits .xor .u32 (bits .xor .u32 (u (rr v.a 2)) (u (rr v.a 13))) (u (rr v.a 22)) + bits .xor .u32 (bits .xor .u32 (bits .and .u32 (u v.a) (u v.b)) (bits .and .u32 (u v.a) (u v.c))) (bits .and .u32 (u v.b) (u v.c))) % 4294967296 = u (y1 v) := by
  simp only [u_xor, u_and, u_add, y1]
theorem rnd_cells (v : St) (kk ww : UInt32) : (#[.int .u32 ((u (x1 v kk ww) + u (y1 v)) % 4294967296), .int .u32 (u v.a), .int .u32 (u v.b), .int .u32 (u v.c), .int .u32 ((u v.d + u (x1 v kk ww)) % 4294967296), .int .u32 (u v.e), .int .u32 (u v.f), .int .u32 (u v.g)] : Array Value) = cU (rnd v kk ww).l := by
  rw [u_add, u_add]; rfl
def part (s v : List UInt32) (k : Nat) : List UInt32 := (List.range 8).map fun j => if j < k then ad (s.getD j 0) (v.getD j 0) else s.getD j 0
theorem part_zero (s v : St) : part s.l v.l 0 = s.l := by rfl
theorem part_last (s v : St) : part s.l v.l 8 = (sm s v).l := by rfl
theorem part_len (s v : List UInt32) (k : Nat) : (part s v k).length = 8 := by simp [part]
theorem part_at (s v : List UInt32) (k : Nat) (h : k < 8) : (part s v k).getD k 0 = s.getD k 0 := by
  simp [part, h]
theorem part_next (s v : List UInt32) (k : Nat) (h : k < 8) : part s v (k + 1) = (part s v k).set k (ad (s.getD k 0) (v.getD k 0)) := by
  match k, h with
  | 0, _ => rfl
  | 1, _ => rfl
  | 2, _ => rfl
  | 3, _ => rfl
  | 4, _ => rfl
  | 5, _ => rfl
  | 6, _ => rfl
  | 7, _ => rfl
theorem ML.put {W wr : World} {s : St} {b : List UInt8} {g5 g6 g7 : Nat} {S : List UInt32} {v : St} (h : ML W wr s b g5 g6 g7 S v) (k n : Nat) (x : UInt32) : ML W ((wr.setCell ⟨W.heap.size, k, none⟩ (.int .u32 (u x))).drewN n) s b g5 g6 g7 (S.set k x) v := by
  have h5 := h.i5
  have h6 := h.i6
  have h7 := h.i7
  refine ⟨(h.r5.set_other _ _ (by simp; omega)).drewN n, (h.r6.set_other _ _ (by simp; omega)).drewN n, (h.r7.set_other _ _ (by simp; omega)).drewN n, ?_, h.rz.imp fun _ q => ⟨q.1, (q.2.set_other _ _ (by simp; omega)).drewN n⟩, ?_, h.i5, h.i6, h.i7, h.n5, h.n6⟩
  · have := (h.rs.set k (.int .u32 (u x))).drewN n
    rwa [cU_set] at this
  · have := h.be.setCell (p := ⟨W.heap.size, k, none⟩) (Nat.le_refl _) (.int .u32 (u x))
    exact ⟨this.os, this.tape, this.output, this.size, this.block⟩
theorem MX.done {w w' : World} {s : St} {b : List UInt8} {L : Nat → Bool} {a : Act} (hL : ∀ i, i < 10 → L i = true) (h : MX w s b L a w') :
    ∃ g5 g6 g7, ML w w' s b g5 g6 g7 s.l s ∧ a = fr s b w.heap.size (.pointer (some ⟨g5, 0, none⟩)) (.pointer (some ⟨g6, 0, none⟩)) (.pointer (some ⟨g7, 0, none⟩)) (.agg (cB b)) (.agg (cU (ws b))) (.agg (cU ks)) (.agg (cU s.l)) := by
  obtain ⟨g5, g6, g7, v5, v6, v7, v12, v13, v14, v15, h, rfl⟩ := h
  have h12 := h.o0 (hL 0 (by omega))
  have h13 := h.o1 (hL 1 (by omega))
  have h14 := h.o2 (hL 2 (by omega))
  have h15 := h.o3 (hL 3 (by omega))
  obtain ⟨e5, i5, c5, s5, r5, q5⟩ := h.o4 (hL 4 (by omega))
  obtain ⟨e6, i6, c6, s6, r6, q6⟩ := h.o5 (hL 5 (by omega))
  obtain ⟨e7, i7, c7, s7, r7, q7⟩ := h.o6 (hL 6 (by omega))
  have q5 := q5 (hL 7 (by omega))
  have q6 := q6 (hL 8 (by omega))
  have q7 := q7 (hL 9 (by omega))
  subst h12 h13 h14 h15 e5 e6 e7 q5 q6 q7
  exact ⟨g5, g6, g7, ⟨r5, r6, r7, h.rs, h.rz, h.be, i5, i6, i7, h.n2 (hL 4 (by omega)) (hL 6 (by omega)), h.n3 (hL 5 (by omega)) (hL 6 (by omega))⟩, rfl⟩
set_option maxHeartbeats 2000000 in
set_option maxRecDepth 100000 in
theorem mix_any (s : St) (b : List UInt8) (w : World) (hb : b.length = 64) :
    Calls Tryd.prog 44 #[.agg (cU s.l), .agg (cB b)] w fun e w' => e = .returned (.agg (cU (mx s b).l)) ∧ Below w.heap.size w w' := by
  have hst := hide (MX.start w s b)
  go_enter Tryd.func44, Tryd.ntmps44
  go_wp2
  rename_i K hK
  have HK := hide hK
  clear hK
  refine region_invH (by kernel_rfl) (MX w s b) ?_ ?_ ?_ ?_
  · intro i o ho e he hbnd
    match i, ho with
    | 0, ho => simp at ho; subst ho; simp at he
    | 1, ho => simp at ho; subst ho; simp at he; subst he; decide
    | 2, ho => simp at ho; subst ho; simp at he; subst he; decide
    | 3, ho => simp at ho; subst ho; simp at he; subst he; simp [Region.binds] at hbnd
    | 4, ho => simp at ho; subst ho; simp at he
    | 5, ho => simp at ho; subst ho; simp at he
    | 6, ho => simp at ho; subst ho; simp at he
    | 7, ho => simp at ho; subst ho; simp at he; rcases he with rfl | rfl | rfl | rfl | rfl | rfl | rfl | rfl | rfl | rfl <;> decide
    | 8, ho => simp at ho; subst ho; simp at he; rcases he with rfl | rfl | rfl | rfl | rfl | rfl | rfl | rfl | rfl | rfl | rfl <;> decide
    | 9, ho => simp at ho; subst ho; simp at he; rcases he with rfl | rfl | rfl | rfl | rfl | rfl | rfl | rfl | rfl | rfl | rfl | rfl <;> decide
    | n + 10, ho => simp at ho
  · exact unhide hst
  · intro L a w' i o ho hL hd hI
    obtain ⟨g5, g6, g7, v5, v6, v7, v12, v13, v14, v15, hI, rfl⟩ := hI
    match i, ho, hL with
    | 0, ho, hL =>
      have hop : o.op = .load 75 (.tmp 3) := by obtain rfl := Option.some.inj ho; rfl
      have hds : o.dst = some 12 := by obtain rfl := Option.some.inj ho; rfl
      have hgd : o.guard = none := by obtain rfl := Option.some.inj ho; rfl
      refine op_wp ho hgd ?_
      clear ho hgd hst HK
      refine wp_load_row 75 (.tmp 3) hop (w.heap.size + 1) rfl 75 (cB b) (0, 0) _ hI.rb Tryd.underlying75 rfl (sz68 hb) ?_
      rw [hds]
      exact ⟨_, _, _, _, _, _, _, _, _, _, hI.l0, rfl⟩
    | 1, ho, hL =>
      obtain rfl := Option.some.inj ho
      refine op_wp ho rfl ?_
      clear ho
      have h12 := hI.o0 (hd ⟨0, .data⟩ (by simp) rfl)
      subst h12
      clear hd
      unfold fr
      have HI := hide hI
      clear hI hst HK
      go_wp2_with fail
      refine (words_any b w' hb).mono ?_
      rintro e w1 ⟨rfl, hbl⟩
      exact ⟨_, _, _, _, _, _, _, _, _, _, ((unhide HI).below hbl).l1, rfl⟩
    | 2, ho, hL =>
      obtain rfl := Option.some.inj ho
      refine op_wp ho rfl ?_
      clear ho
      clear hd
      unfold fr
      have HI := hide hI
      clear hI hst HK
      go_wp2_with fail
      refine (rounds_any w').mono ?_
      rintro e w1 ⟨rfl, hbl⟩
      exact ⟨_, _, _, _, _, _, _, _, _, _, ((unhide HI).below hbl).l2, rfl⟩
    | 3, ho, hL =>
      have hop : o.op = .load 72 (.tmp 2) := by obtain rfl := Option.some.inj ho; rfl
      have hds : o.dst = some 15 := by obtain rfl := Option.some.inj ho; rfl
      have hgd : o.guard = none := by obtain rfl := Option.some.inj ho; rfl
      refine op_wp ho hgd ?_
      clear ho hgd hst HK
      refine wp_load_row 72 (.tmp 2) hop (w.heap.size) rfl 72 (cU s.l) (0, 0) _ hI.rs Tryd.underlying72 rfl (sz65 s) ?_
      rw [hds]
      exact ⟨_, _, _, _, _, _, _, _, _, _, hI.l3, rfl⟩
    | 4, ho, hL =>
      obtain rfl := Option.some.inj ho
      refine op_wp ho rfl ?_
      clear ho
      clear hd
      unfold fr
      have HI := hide hI
      have HL := hide hL
      clear hI hst HK hL
      go_wp2_with fail
      exact ⟨_, _, _, _, _, _, _, _, _, _, (unhide HI).l4 _ rfl (unhide HL), rfl⟩
    | 5, ho, hL =>
      obtain rfl := Option.some.inj ho
      refine op_wp ho rfl ?_
      clear ho
      clear hd
      unfold fr
      have HI := hide hI
      have HL := hide hL
      clear hI hst HK hL
      go_wp2_with fail
      exact ⟨_, _, _, _, _, _, _, _, _, _, (unhide HI).l5 _ rfl (unhide HL), rfl⟩
    | 6, ho, hL =>
      obtain rfl := Option.some.inj ho
      refine op_wp ho rfl ?_
      clear ho
      clear hd
      unfold fr
      have HI := hide hI
      have HL := hide hL
      clear hI hst HK hL
      go_wp2_with fail
      exact ⟨_, _, _, _, _, _, _, _, _, _, (unhide HI).l6 _ rfl (unhide HL), rfl⟩
    | 7, ho, hL =>
      have hop : o.op = .store 105 (.tmp 5) (.tmp 13) := by obtain rfl := Option.some.inj ho; rfl
      have hds : o.dst = none := by obtain rfl := Option.some.inj ho; rfl
      have hgd : o.guard = none := by obtain rfl := Option.some.inj ho; rfl
      have h4 : L 4 = true := hd ⟨4, .data⟩ (by obtain rfl := Option.some.inj ho; simp) rfl
      have h1 : L 1 = true := hd ⟨1, .data⟩ (by obtain rfl := Option.some.inj ho; simp) rfl
      refine op_wp ho hgd ?_
      clear ho hgd hst HK
      have e13 := hI.o1 h1
      obtain ⟨e5, gg, c, hc, r, q⟩ := hI.o4 h4
      subst e13 e5
      refine wp_store_row 105 (.tmp 5) (.tmp 13) hop g5 (cU (ws b)) rfl rfl 105 c r (sz74 (ws_len b)) (by rw [hc, cU_size]; exact (ws_len b).symm) (cU_one _) ?_
      rw [hds]
      exact ⟨_, _, _, _, _, _, _, _, _, _, hI.l7 h4, rfl⟩
    | 8, ho, hL =>
      have hop : o.op = .store 105 (.tmp 6) (.tmp 14) := by obtain rfl := Option.some.inj ho; rfl
      have hds : o.dst = none := by obtain rfl := Option.some.inj ho; rfl
      have hgd : o.guard = none := by obtain rfl := Option.some.inj ho; rfl
      have h5 : L 5 = true := hd ⟨5, .data⟩ (by obtain rfl := Option.some.inj ho; simp) rfl
      have h2 : L 2 = true := hd ⟨2, .data⟩ (by obtain rfl := Option.some.inj ho; simp) rfl
      refine op_wp ho hgd ?_
      clear ho hgd hst HK
      have e14 := hI.o2 h2
      obtain ⟨e6, gg, c, hc, r, q⟩ := hI.o5 h5
      subst e14 e6
      refine wp_store_row 105 (.tmp 6) (.tmp 14) hop g6 (cU ks) rfl rfl 105 c r (sz74 ks_len) (by rw [hc, cU_size]; exact ks_len.symm) (cU_one _) ?_
      rw [hds]
      exact ⟨_, _, _, _, _, _, _, _, _, _, hI.l8 h5, rfl⟩
    | 9, ho, hL =>
      have hop : o.op = .store 72 (.tmp 7) (.tmp 15) := by obtain rfl := Option.some.inj ho; rfl
      have hds : o.dst = none := by obtain rfl := Option.some.inj ho; rfl
      have hgd : o.guard = none := by obtain rfl := Option.some.inj ho; rfl
      have h6 : L 6 = true := hd ⟨6, .data⟩ (by obtain rfl := Option.some.inj ho; simp) rfl
      have h3 : L 3 = true := hd ⟨3, .data⟩ (by obtain rfl := Option.some.inj ho; simp) rfl
      refine op_wp ho hgd ?_
      clear ho hgd hst HK
      have e15 := hI.o3 h3
      obtain ⟨e7, gg, c, hc, r, q⟩ := hI.o6 h6
      subst e15 e7
      refine wp_store_row 72 (.tmp 7) (.tmp 15) hop g7 (cU s.l) rfl rfl 72 c r (sz65 s) (by rw [hc, cU_size]; rfl) (cU_one _) ?_
      rw [hds]
      exact ⟨_, _, _, _, _, _, _, _, _, _, hI.l9 h6, rfl⟩
    | n + 10, ho, hL => simp at ho
  · intro L a w' hL hI
    have hL' : ∀ i, i < 10 → L i = true := fun i hi => hL i hi
    obtain ⟨g5, g6, g7, hM, rfl⟩ := MX.done hL' hI
    clear hL hL' hI hst
    refine unhide HK _ _ ?_
    clear HK
    unfold fr
    have HM := hide hM
    clear hM
    go_wp2
    go_loopw [16] (fun i wr => ∃ t : Nat, t ≤ 64 ∧ i = .int .i64 t ∧ ML w wr s b g5 g6 g7 s.l (rn (ws b) s t)) (fun i _ => 64 - (intOf i).toNat)
    case atStart => exact ⟨0, by omega, rfl, unhide HM⟩
    case round =>
      clear HM
      obtain ⟨t, ht, rfl, h1⟩ := hrel
      by_cases hlt : t < 64
      · have i0 : (0 : Int) ≤ (t : Int) := by omega
        have i1 : (t : Int) < 64 := by omega
        have hk := hide (show ks.length = 64 from rfl)
        have c5 : wr.cell? ⟨g5, t, none⟩ = some (.int .u32 (u ((ws b).getD t 0))) := by rw [h1.r5.cell]; exact cU_get _ _ (by rw [ws_len]; omega)
        have c6 : wr.cell? ⟨g6, t, none⟩ = some (.int .u32 (u (ks.getD t 0))) := by rw [h1.r6.cell]; exact cU_get _ _ (by rw [ks_len]; omega)
        generalize hv : rn (ws b) s t = v at h1
        generalize hkk : ks.getD t 0 = kk at c6
        generalize hww : (ws b).getD t 0 = ww at c5
        have HV := hide hv
        have HKK := hide hkk
        have HWW := hide hww
        clear hv hkk hww
        obtain ⟨f0, f1, f2, f3, f4, f5, f6, f7⟩ := h1.c
        have hnot : (if IntKind.u32.signed = true then (-1 : Int) else IntKind.u32.max) = 4294967295 := rfl
        go_wp2_with fail
        go_quiet ((go_at_call 62; exact Calls.quiet_of_same (turn_any _ _ _ (by omega) (by omega))))
        rw [x1_eq]
        have h2 := h1.drewN nq
        clear h1 f0 f1 f2 f3 f4 f5 f6 f7 c5 c6
        generalize wr.drewN nq = w2 at *
        obtain ⟨f0, f1, f2, f3, f4, f5, f6, f7⟩ := h2.c
        go_wp2_with fail
        go_quiet ((go_at_call 62; exact Calls.quiet_of_same (turn_any _ _ _ (by omega) (by omega))))
        rw [y1_eq]
        have h3 := h2.drewN nq
        clear h2 f0 f1 f2 f3 f4 f5 f6 f7
        generalize w2.drewN nq = w3 at *
        obtain ⟨f0, f1, f2, f3, f4, f5, f6, f7⟩ := h3.c
        have H3 := hide h3
        clear h3
        go_wp2_with (refine wpList_store_row rfl 72 (.tmp 7) (.tmp 102) rfl g7 (cU (rnd v kk ww).l) (by rfl) (by exact congrArg Value.agg (rnd_cells v kk ww)) 72 (cU v.l) (unhide H3).r7 (sz65 _) (by rw [cU_size, cU_size]; rfl) (cU_one _) ?_)
        go_roundw
        case rel =>
          refine ⟨t + 1, by omega, by go_num, ?_⟩
          have e : rn (ws b) s (t + 1) = rnd v kk ww := by rw [rn, unhide HV, unhide HKK, unhide HWW]
          rw [e]
          exact (unhide H3).store _
        case measure => simp [intOf]; omega
      · have h64 : t = 64 := by omega
        have hd : decide ((t : Int) < 64) = false := by simp; omega
        generalize hv : rn (ws b) s t = v at h1
        have HV := hide (show rn (ws b) s 64 = v by rw [← hv, h64])
        clear hv hlt h64
        have h0 : ML w wr s b g5 g6 g7 (part s.l v.l 0) v := h1
        have H0 := hide h0
        clear h0 h1
        go_wp2
        go_loopw [104] (fun i wr => ∃ k : Nat, k ≤ 8 ∧ i = .int .i64 k ∧ ML w wr s b g5 g6 g7 (part s.l v.l k) v) (fun i _ => 8 - (intOf i).toNat)
        case atStart => exact ⟨0, by omega, rfl, unhide H0⟩
        case round =>
          clear H0
          obtain ⟨k, hk, rfl, h1⟩ := hrel
          by_cases hlt : k < 8
          · have i0 : (0 : Int) ≤ (k : Int) := by omega
            have i1 : (k : Int) < 8 := by omega
            have c2 : wr.cell? ⟨w.heap.size, k, none⟩ = some (.int .u32 (u (s.l.getD k 0))) := by
              rw [h1.rs.cell, cU_get _ _ (by rw [part_len]; exact hlt), part_at _ _ _ hlt]
            have z2 : wr.frozen? ⟨w.heap.size, k, none⟩ = false := h1.rs.frozen k
            have c7 : wr.cell? ⟨g7, k, none⟩ = some (.int .u32 (u (v.l.getD k 0))) := by
              rw [h1.r7.cell, cU_get _ _ (show k < 8 from hlt)]
            have n7 : g7 ≠ w.heap.size := by have := h1.i7; omega
            generalize hx : s.l.getD k 0 = x at c2
            generalize hy : v.l.getD k 0 = y at c7
            have HX := hide hx
            have HY := hide hy
            have H1 := hide h1
            clear hx hy h1
            go_wp2
            go_region
            all_goals (go_wp2; go_roundw)
            case rel =>
              refine ⟨k + 1, by omega, by go_num, ?_⟩
              rw [u_add, part_next _ _ _ hlt, unhide HX, unhide HY]
              exact (unhide H1).put k 1 _
            case measure => simp [intOf]; omega
          · have hk8 : k = 8 := by omega
            have hd8 : decide ((k : Int) < 8) = false := by simp; omega
            have e8 : part s.l v.l k = (mx s b).l := by rw [hk8, part_last, mx, unhide HV]
            obtain ⟨c, hc, rz⟩ := h1.rz
            have rs := h1.rs
            rw [e8] at rs
            have hbe := h1.be
            clear h1 hk8 e8 hlt hk HV
            have HR := hide rs
            have HZ := hide rz
            clear rs rz
            go_wp2_with (first | (refine wpList_load_row rfl 72 (.tmp 2) rfl w.heap.size rfl 72 (cU (mx s b).l) (0, 0) _ (unhide HR) Tryd.underlying72 rfl (sz65 _) ?_) | (refine wpList_store_row rfl 72 (.tmp 4) (.tmp 116) rfl (w.heap.size + 1 + 1) (cU (mx s b).l) (by rfl) (by rfl) 72 c (unhide HZ) (sz65 _) (by rw [hc, cU_size]; rfl) (cU_one _) ?_))
            have hr := (unhide HZ).setRow (cU (mx s b).l)
            exact bodyPost_ret (v := .agg (cU (mx s b).l)) (results_cell_row Tryd.results44 _ _ (w.heap.size + 1 + 1) 72 (cU (mx s b).l) (0, 0) _ rfl hr Tryd.underlying72 rfl (sz65 _)) rfl ⟨rfl, below_row hbe (by omega) _⟩
end Go.Proofs.YtbeionikiiccpaaDoor
