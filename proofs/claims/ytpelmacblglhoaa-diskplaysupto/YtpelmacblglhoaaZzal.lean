import Derived.Test.YtpelmacblglhoaaZzai
import Derived.Test.YtpelmacblglhoaaRgcr
import Derived.Test.YtpelmacblglhoaaZzag
namespace Go.Proofs.Ytpelmacblglhoaa
open Go.RowKit
set_option maxHeartbeats 8000000
set_option maxRecDepth 8000
theorem get_getD {α : Type} {l : List α} {i : Nat} {z : α} (h : i < l.length) : l[i]? = some (l.getD i z) := by simp [h]
/-- All cells that a round of a crash reads, in any later world. -/
theorem crs_cells {w W W' : World} {D : Nat} {d : Ds} {vl vw : Value} {g1 : Nat} {st : St} {k g n cap : Nat} (h : Crs w D d vl vw g1 st k W) (ho : Ok d) (hlen : st.length = d.ws.length) (hk : k < d.ws.length) (hv : vl = .slice (some ⟨g, 0, none⟩) n cap) (b : Below W.heap.size W W') :
    W'.cell? ⟨D, 1, none⟩ = some vl ∧ W'.cell? ⟨g, (d.ws.getD k (0, [])).1, none⟩ = some (S ((crs d.last d.ws st k).getD (d.ws.getD k (0, [])).1 [])) ∧ W'.frozen? ⟨g, (d.ws.getD k (0, [])).1, none⟩ = false ∧ W'.cell? ⟨g1, k, none⟩ = some (I ((st.getD k none).getD 0 : Nat)) := by
  subst hv
  have hd := h.dat.below b
  have hi := (ho.lt _ (mem_getD (z := (0, [])) hk)).1
  have hn : (crs d.last d.ws st k).length = n := by
    obtain ⟨p, c, e⟩ := owns_form hd.ls
    cases e
    rfl
  obtain ⟨cs, q⟩ := owns_lt hd.ls g rfl
  have hls : W'.ownsRow 0 9 1 (.slice (some ⟨g, 0, none⟩) n cap) n ((crs d.last d.ws st k).map S) := by
    have := hd.ls
    rw [show ({ d with ws := [], last := crs d.last d.ws st k } : Ds).last.length = n from hn] at this
    exact this
  have hi2 : (d.ws.getD k (0, [])).1 < (crs d.last d.ws st k).length := by rw [crs_len]; exact hi
  refine ⟨hd.c.2.1, owns_cell hls _ _ ?_, frz q _, owns_cell (owns_below h.ss b) k _ (cellsN_at st k (by omega))⟩
  rw [List.getElem?_map, get_getD hi2]
  rfl
def crashv (d : Ds) (l : List Kp) : Int := if (stps (List.replicate d.ws.length none) l).isSome then 0 else 82
def Ds.crash (d : Ds) (l : List Kp) : Ds := match stps (List.replicate d.ws.length none) l with
  | none => d
  | some st => { ws := [], last := crs d.last d.ws st d.ws.length, fuse := 0, dead := false, acts := d.acts }
theorem crash_any {D : Nat} {d : Ds} {vw vl : Value} {w : World} (h : DAt D d vw vl w) (ho : Ok d) (a : Option Addr) (n cap : Nat) (l : List Kp) (hp : Kls w a n l) (hn : n ≤ 1000000000000000) (hst : ∀ st, stps (List.replicate d.ws.length none) l = some st → ∀ i, (st.getD i none).getD 0 < 256) :
    Calls Try.prog 28 #[ptr D, .slice a n cap] w fun e w' => e = .returned (I (crashv d l)) ∧ ∃ vw', DAt D (d.crash l) vw' vl w' ∧ Only (fun k => k = D ∨ vl.ownBlock = some k) w w' ∧ (∀ k, vw'.ownBlock = some k → vw.ownBlock = some k) := by
  have H0 := hide (sets_any h ho a n cap l hp hn)
  have HD := hide h
  have HO := hide ho
  have HS := hide hst
  have hl := h.lt
  clear h ho hp hst
  go_enter Try.func28, Try.ntmps28
  go_wp2_with fail
  refine (unhide H0).mono ?_
  clear H0
  rintro e w1 (⟨e0, rfl, b1⟩ | ⟨st, g1, e0, rfl, r1, q1, hg1, b1⟩)
  · have HF := hide (show crashv d l = 82 ∧ d.crash l = d by simp [crashv, Ds.crash, e0])
    have HX := hide (And.intro ((unhide HD).below b1) b1)
    clear e0 b1
    go_wp2
    go_ret
    rw [(unhide HF).1, (unhide HF).2]
    exact ⟨rfl, vw, (unhide HX).1, Only.of_below (unhide HX).2, fun k hk => hk⟩
  · have HF := hide (show crashv d l = 0 ∧ d.crash l = { ws := [], last := crs d.last d.ws st d.ws.length, fuse := 0, dead := false, acts := d.acts } by simp [crashv, Ds.crash, e0])
    have HS2 := hide (unhide HS st e0)
    have h1 := (unhide HD).below b1
    have H1 := hide (empty_any h1)
    have hl1 := h1.lt
    obtain ⟨g, c2, cur2, e2, hgx, _⟩ := owns_at h1.ls (by have := (unhide HO).len; omega)
    have hgl : g < w.heap.size := owns_blk (unhide HD).ls g (by rw [e2]; rfl)
    obtain ⟨p3, c3, e3⟩ := owns_form h1.ws
    have HX := hide (And.intro h1 (And.intro r1 (And.intro b1 (And.intro hg1 (And.intro e2 e3)))))
    clear e0 r1 b1 h1 hgx HS
    go_wp2_with fail
    refine (unhide H1).mono ?_
    rintro e w2 ⟨rfl, h2, o2⟩
    have HC := hide (show Crs w D d vl vw g1 st 0 w2 from by
      obtain ⟨h1, r1, b1, hg1, e2, e3⟩ := unhide HX
      refine ⟨h2, owns_only h1.ws o2 (fun k hk => h1.nw k hk), owns_only r1 o2 (fun k hk q => ?_), (Only.of_below b1).trans o2 (fun k _ q => Or.inl q)⟩
      cases hk
      have q' : g1 = D := q
      have := (unhide HD).lt
      omega)
    have hl2 := h2.lt
    obtain ⟨h1, r1, b1, hg1, e2, e3⟩ := unhide HX
    have hfew := (unhide HO).few
    have HE2 := hide e2
    subst e3
    clear h1 r1 b1 hg1 h2 o2 HX H1
    go_wp2
    go_loopw [24] (fun i wr => ∃ k : Nat, k ≤ d.ws.length ∧ i = .int .i64 k ∧ Crs w D d vl (.slice p3 d.ws.length c3) g1 st k wr) (fun i _ => d.ws.length - (Go.RowKit.intOf i).toNat)
    case atStart => exact ⟨0, by omega, rfl, unhide HC⟩
    case round =>
      clear HC
      obtain ⟨k, hk, rfl, hc⟩ := hrel
      have HK := hide hc
      by_cases hlt : k < d.ws.length
      · have hlt' : (k : Int) < (d.ws.length : Int) := by omega
        obtain ⟨g9, c9, cur9, e9, hq9, _⟩ := owns_at hc.ws (by omega)
        cases e9
        have z := cellsW_at d.ws k hlt
        have z0 := owns_cell hc.ws _ _ z.1
        have z1 := owns_cell hc.ws _ _ z.2
        have hz9 := lt_of_row hq9
        have HCell := hide (fun (W' : World) (b : Below wr.heap.size wr W') => crs_cells hc (unhide HO) q1 hlt e2 b)
        have hxx := (unhide HO).lt _ (mem_getD (z := (0, [])) hlt)
        have hset := unhide HS2 k
        have hll : ((crs d.last d.ws st k).getD (d.ws.getD k (0, [])).1 []).length = 512 := crs_sz st (unhide HO).sz (unhide HO).lt k (by omega) _ (mem_getD (by rw [crs_len]; exact hxx.1))
        have HStep := hide (fun (W' : World) (b : Below wr.heap.size wr W') => Crs.step hc b e2)
        clear hc z hq9
        generalize (crs d.last d.ws st k).getD (d.ws.getD k (0, [])).1 [] = la at *
        generalize d.ws.getD k (0, []) = x at *
        obtain ⟨x1, x2⟩ := x
        simp only at z0 z1 hxx hll HCell HStep
        generalize (st.getD k none).getD 0 = s9 at *
        have e2' := unhide HE2
        obtain ⟨hx1, hx2⟩ := hxx
        have hx1' : (x1 : Int) < (d.last.length : Int) := by omega
        have ba := (Below.refl wr.heap.size wr).alloc (Nat.le_refl _) (.cells #[I x1, S x2] 69)
        obtain ⟨p0, p1, p2, p4⟩ := unhide HCell _ ba
        have hz := heap_alloc_new wr (.cells #[I x1, S x2] 69)
        have y0 : (wr.alloc (.cells #[I x1, S x2] 69)).cell? ⟨wr.heap.size, 0, none⟩ = some (I x1) := cell_of_row _ _ 0 _ 69 (0, 0) hz
        have y1 : (wr.alloc (.cells #[I x1, S x2] 69)).cell? ⟨wr.heap.size, 1, none⟩ = some (S x2) := cell_of_row _ _ 1 _ 69 (0, 0) hz
        have HT := hide (fun W => torn_any la x2 s9 W hll hx2 hset)
        have HAl := hide (And.intro ba hz)
        clear ba hz
        rw [e2'] at p0
        generalize tornv la x2 s9 = tv at *
        go_wp2
        refine rcr D g d.last.length c2 wr.heap.size g1 d.ws.length k x1 s9 la x2 tv rfl rfl rfl _ _ (show 51 ≤ 58 from by decide) rfl rfl rfl rfl (fun L W => (L 22 = true → L 3 = true ∧ L 5 = true ∧ L 9 = true ∧ L 11 = true ∧ L 13 = true ∧ L 15 = true ∧ L 19 = true ∧ L 20 = true) ∧ ∃ W0, Below wr.heap.size wr W0 ∧ W0.heap[wr.heap.size]? = some (.cells #[I x1, S x2] 69 (0, 0)) ∧ W = (if L 22 then W0.setCell ⟨g, 0 + x1, none⟩ (S tv) else W0)) ?_ ?_ hx1 hlt hx1 ?_ ?_ ?_ ?_ ?_ ?_ ?_ ?_ ?_ ?_
        · exact ⟨(fun h => by cases h), _, below_drew (unhide HAl).1, (unhide HAl).2, rfl⟩
        · rintro i hi L W ⟨q1, W0, q2, q3, q4⟩
          have h22 : i ≠ 22 := by rintro rfl; simp at hi
          have e22 : upd L i 22 = L 22 := by simp [upd, Ne.symm h22]
          refine ⟨fun h => ?_, W0, q2, q3, by rw [e22]; exact q4⟩
          rw [e22] at h
          have := q1 h
          simp only [upd]
          refine ⟨?_, ?_, ?_, ?_, ?_, ?_, ?_, ?_⟩ <;> split <;> simp_all
        · rintro L W ⟨q1, W0, q2, q3, q4⟩ hL
          have h22 : L 22 = false := Bool.eq_false_iff.2 (fun h => by have := (q1 h).1; rw [hL] at this; cases this)
          rw [h22] at q4
          simp only [Bool.false_eq_true, if_false] at q4
          subst q4
          obtain ⟨t0, t1, t2, t4⟩ := unhide HCell _ q2
          rw [e2'] at t0
          exact t0
        · rintro L W ⟨q1, W0, q2, q3, q4⟩ hL
          have h22 : L 22 = false := Bool.eq_false_iff.2 (fun h => by have := (q1 h).2.1; rw [hL] at this; cases this)
          rw [h22] at q4
          simp only [Bool.false_eq_true, if_false] at q4
          subst q4
          obtain ⟨t0, t1, t2, t4⟩ := unhide HCell _ q2
          exact cell_of_row W _ 0 _ 69 (0, 0) q3
        · rintro L W ⟨q1, W0, q2, q3, q4⟩ hL
          have h22 : L 22 = false := Bool.eq_false_iff.2 (fun h => by have := (q1 h).2.2.1; rw [hL] at this; cases this)
          rw [h22] at q4
          simp only [Bool.false_eq_true, if_false] at q4
          subst q4
          obtain ⟨t0, t1, t2, t4⟩ := unhide HCell _ q2
          rw [e2'] at t0
          exact t0
        · rintro L W ⟨q1, W0, q2, q3, q4⟩ hL
          have h22 : L 22 = false := Bool.eq_false_iff.2 (fun h => by have := (q1 h).2.2.2.1; rw [hL] at this; cases this)
          rw [h22] at q4
          simp only [Bool.false_eq_true, if_false] at q4
          subst q4
          obtain ⟨t0, t1, t2, t4⟩ := unhide HCell _ q2
          exact cell_of_row W _ 0 _ 69 (0, 0) q3
        · rintro L W ⟨q1, W0, q2, q3, q4⟩ hL
          have h22 : L 22 = false := Bool.eq_false_iff.2 (fun h => by have := (q1 h).2.2.2.2.1; rw [hL] at this; cases this)
          rw [h22] at q4
          simp only [Bool.false_eq_true, if_false] at q4
          subst q4
          obtain ⟨t0, t1, t2, t4⟩ := unhide HCell _ q2
          rw [Nat.zero_add]
          exact t1
        · rintro L W ⟨q1, W0, q2, q3, q4⟩ hL
          have h22 : L 22 = false := Bool.eq_false_iff.2 (fun h => by have := (q1 h).2.2.2.2.2.1; rw [hL] at this; cases this)
          rw [h22] at q4
          simp only [Bool.false_eq_true, if_false] at q4
          subst q4
          obtain ⟨t0, t1, t2, t4⟩ := unhide HCell _ q2
          exact cell_of_row W _ 1 _ 69 (0, 0) q3
        · rintro L W ⟨q1, W0, q2, q3, q4⟩ hL
          have h22 : L 22 = false := Bool.eq_false_iff.2 (fun h => by have := (q1 h).2.2.2.2.2.2.1; rw [hL] at this; cases this)
          rw [h22] at q4
          simp only [Bool.false_eq_true, if_false] at q4
          subst q4
          obtain ⟨t0, t1, t2, t4⟩ := unhide HCell _ q2
          rw [Nat.zero_add]
          exact t4
        · rintro L W ⟨q1, W0, q2, q3, q4⟩ hL
          refine (unhide HT W).mono ?_
          rintro e w' ⟨rfl, b4⟩
          have h22 : L 22 = false := Bool.eq_false_iff.2 (fun h => by have := (q1 h).2.2.2.2.2.2.2; rw [hL] at this; cases this)
          have e22 : upd L 20 22 = false := by simp [upd, h22]
          rw [h22] at q4
          simp only [Bool.false_eq_true, if_false] at q4
          subst q4
          refine ⟨rfl, fun h => ?_, w', q2.trans (b4.mono q2.size), (b4.block _ (lt_of_row q3)).trans q3, ?_⟩
          · rw [e22] at h
            cases h
          · rw [e22]
            rfl
        · rintro L W ⟨q1, W0, q2, q3, q4⟩ hL f20 f21 f3 f5 f9 f11 f13 f15 f19
          rw [hL] at q4
          simp only [Bool.false_eq_true, if_false] at q4
          subst q4
          obtain ⟨t0, t1, t2, t4⟩ := unhide HCell _ q2
          refine ⟨⟨fun _ => by simp [upd, f3, f5, f9, f11, f13, f15, f19, f20], W, q2, q3, by simp [upd]⟩, ⟨_, by rw [Nat.zero_add]; exact t1⟩, by rw [Nat.zero_add]; exact t2⟩
        · rintro L W hall ⟨q1, W0, q2, q3, q4⟩
          rw [hall 22 (by omega)] at q4
          simp only [if_true] at q4
          rw [Nat.zero_add] at q4
          have HN := hide (unhide HStep W0 q2)
          rw [← q4] at HN
          clear q1 q2 q3 q4
          simp only [Act.put, List.setIfInBounds_toArray, List.set_cons_succ, List.set_cons_zero]
          go_wp2
          go_round
          case measure => simp [Go.RowKit.intOf]; omega
          case rel => exact ⟨k + 1, by omega, by simp, unhide HN⟩
      · have hlt' : ¬ (k : Int) < (d.ws.length : Int) := by omega
        obtain rfl : k = d.ws.length := by omega
        have hd := hc.dat
        obtain ⟨m0, m1, m2, m3, m4⟩ := hd.c
        have hlD := hd.lt
        have f3 := frz hd.blk 3
        have hd2 := hd.set (d' := { ws := [], last := crs d.last d.ws st d.ws.length, fuse := d.fuse, dead := false, acts := d.acts }) (vw' := .slice none 0 0) (vl' := vl) 3 (.bool false) rfl (owns_nil _ _ _) hd.ls
        have hd3 := hd2.set (d' := { ws := [], last := crs d.last d.ws st d.ws.length, fuse := 0, dead := false, acts := d.acts }) (vw' := .slice none 0 0) (vl' := vl) 2 (I 0) rfl (owns_nil _ _ _) hd2.ls
        have n2 := hd2.c.2.2.1
        have f2 := frz hd2.blk 2
        have hlD2 := hd2.lt
        have HN := hide (And.intro hd3 ((hc.onl.put ⟨D, 3, none⟩ (.bool false) (Or.inl (Or.inl rfl))).put ⟨D, 2, none⟩ (I 0) (Or.inl (Or.inl rfl))))
        simp only at n2 m2 m3
        clear hd hd2 hd3 hc e2
        go_wp2
        go_ret
        rw [(unhide HF).1, (unhide HF).2]
        have hN := unhide HN
        rw [unhide HE2] at hN
        exact ⟨rfl, .slice none 0 0, hN.1, hN.2, fun k hk => by cases hk⟩
end Go.Proofs.Ytpelmacblglhoaa
namespace Go.Proofs.Ytpelmacblglhoaa
open Go.RowKit
set_option maxHeartbeats 4000000
set_option maxRecDepth 8000
theorem wpList_conv {P : Program} {ops : Array Oper} {rest : List Oper} {o : Oper} {a : Act} {w : World} {Q : Exit → Act → World → Prop} (hgd : o.guard = none) (src dst : TypeId) (x : Operand) (ho : o.op = .convert src dst x)
    (v v' : Value) (hx : a.eval x = v) (hrun : (convert src dst v).run P w = .ok v' w)
    (h : wpList P ops Q rest (a.put o.dst v') w) : wpList P ops Q (o :: rest) a w :=
  wpList_plain hgd fun _ hK => by
    unfold Oper.wp execOp
    simp only [ho, hx, Sem.run_bind, hrun, Result.andThen_ok]
    exact hK _ _ h
theorem fold_push (l : List UInt8) (r : ByteArray) : (l.map fun c => (c.toNat : Int)).foldl (fun r n => r.push (UInt8.ofNat n.toNat)) r = ⟨r.data ++ l.toArray⟩ := by
  induction l generalizing r with
  | nil => simp
  | cons c l ih =>
    simp only [List.map_cons, List.foldl_cons, ih]
    simp [ByteArray.push]
/-- What lies in memory as bytes is the text of them. -/
theorem run_text (w : World) (g o len cap : Nat) (l : List UInt8) (hl : l.length = len) (h : ∀ j, j < len → w.cell? ⟨g, o + j, none⟩ = some (.int .u8 ((l.getD j 0).toNat : Int))) :
    (convert 63 9 (.slice (some ⟨g, o, none⟩) len cap)).run Try.prog w = .ok (.string ⟨l.toArray⟩) w := by
  rw [run_convert_bytes_string w 63 9 5 _ _ _ Try.underlying63 Try.underlying5 Try.underlying9]
  have hload : (loadCells ⟨g, o, none⟩ len).run Try.prog w = .ok ((l.map fun c => (c.toNat : Int)).map (Value.int .u8)).toArray w := by
    have := run_loadCells_list (P := Try.prog) w ⟨g, o, none⟩ ((l.map fun c => (c.toNat : Int)).map (Value.int .u8)) (fun j v hv => by
      have hadd : (⟨g, o, none⟩ : Addr).add j = ⟨g, o + j, none⟩ := by unfold Addr.add; split <;> simp_all
      rw [hadd]
      have hj : j < len := by
        have := (List.getElem?_eq_some_iff.1 hv).1
        simpa [hl] using this
      rw [h j hj, ← hv]
      simp [List.getElem?_map, List.getElem?_eq_getElem (by omega : j < l.length)])
    simpa [hl] using this
  rw [run_bytesToString w _ _ _ _ hload, fold_push]
  simp
def pkv (c : Int) (n : Nat) : Nat := ((if c < 0 then -(c + 1) else c) % n).toNat
theorem pkv_lt (c : Int) (n : Nat) (h : 0 < n) : pkv c n < n := by
  unfold pkv
  have h1 := Int.emod_lt_of_pos (if c < 0 then -(c + 1) else c) (show (0 : Int) < n by omega)
  have h2 := Int.emod_nonneg (if c < 0 then -(c + 1) else c) (show (n : Int) ≠ 0 by omega)
  omega
set_option maxHeartbeats 2000000 in
theorem pick_any (c : Int) (n : Nat) (w : World) (hn : 0 < n) (hn2 : n ≤ 9000000000000000000) (h1 : -9223372036854775808 ≤ c) (h2 : c ≤ 9223372036854775807) : Calls Try.prog 8 #[.int .i64 c, .int .i64 (n : Int)] w fun e w' => e = .returned (.int .i64 (pkv c n : Nat)) ∧ w' = w := by
  have hni : ¬ (n : Int) = 0 := by omega
  by_cases h : c < 0
  · have e : ((pkv c n : Nat) : Int) = Int.tmod (-(c + 1)) n := by
      unfold pkv
      rw [if_pos h, Int.tmod_eq_emod_of_nonneg (by omega)]
      have := Int.emod_nonneg (-(c + 1)) (show (n : Int) ≠ 0 by omega)
      omega
    have HE := hide e
    clear e
    go_enter Try.func8, Try.ntmps8
    go_wp2
    go_ret
    exact ⟨ret_int (by rw [unhide HE, Int.neg_tmod]), rfl⟩
  · have e : ((pkv c n : Nat) : Int) = c % n := by
      unfold pkv
      rw [if_neg h]
      have := Int.emod_nonneg c (show (n : Int) ≠ 0 by omega)
      omega
    have HE := hide e
    clear e
    go_enter Try.func8, Try.ntmps8
    go_wp2
    go_ret
    exact ⟨ret_int (unhide HE).symm, rfl⟩

abbrev B (c : UInt8) : Value := .int .u8 (c.toNat : Int)
/-- The byte of a block at a place. -/
def bt (c : Int) (i : Nat) : UInt8 := UInt8.ofNat (((c + ((i / 32 : Nat) : Int)) % 256).toNat)
theorem bt_eq (c : Int) (i : Nat) : ((bt c i).toNat : Int) = (c + ((i / 32 : Nat) : Int)) % 256 := by
  unfold bt
  rw [UInt8.toNat_ofNat']
  omega
/-- A block of a raw number. -/
def blkv (c : Int) : Bs := (List.range 512).map (bt c)
theorem blkv_len (c : Int) : (blkv c).length = 512 := by simp [blkv]
def halfB (c : Int) (k : Nat) : List Value := ((List.range k).map (fun i => B (bt c i))) ++ List.replicate (512 - k) (B 0)
theorem halfB_set (c : Int) (k : Nat) (hk : k < 512) : (halfB c k).set k (B (bt c k)) = halfB c (k + 1) := by
  unfold halfB
  have e : 512 - k = (512 - (k + 1)) + 1 := by omega
  rw [List.set_append_right _ _ (by simp), e, List.replicate_succ, List.range_succ, List.map_append]
  simp
theorem halfB_at (c : Int) (k : Nat) (hk : k < 512) : (halfB c k)[k]? = some (B 0) := by
  unfold halfB
  rw [List.getElem?_append_right (by simp), List.length_map, List.length_range, Nat.sub_self, List.getElem?_replicate, if_pos (by omega)]
theorem halfB_all (c : Int) : halfB c 512 = (blkv c).map B := by simp [halfB, blkv]
theorem made5 (m : Nat) : (madeCells (Value.int .u8 0).cells (m * 1)).toList = List.replicate m (B 0) := by
  rw [show (Value.int .u8 0).cells = #[B 0] from rfl, Nat.mul_one]
  unfold madeCells
  apply List.ext_getElem
  · simp
  · intro i h1 h2
    simp [Nat.mod_one]
theorem text_of {w : World} {g : Nat} {X : Bs} (h : w.ownsRow 0 5 1 (.slice (some ⟨g, 0, none⟩) X.length X.length) X.length (X.map B)) : (convert 63 9 (.slice (some ⟨g, 0, none⟩) X.length X.length)).run Try.prog w = .ok (S X) w := by
  refine run_text w g 0 X.length X.length X rfl (fun j hj => ?_)
  rw [Nat.zero_add]
  exact owns_cell h j _ (by simp [hj])
theorem block_any (c : Int) (w : World) : Calls Try.prog 20 #[I c] w fun e w' => e = .returned (S (blkv c)) ∧ Below w.heap.size w w' := by
  go_enter Try.func20, Try.ntmps20
  go_wp2_with (first | (refine make_own 63 5 _ 1 1 Try.underlying63 info5 rfl (.const (.int .i64 512)) (.const (.int .i64 512)) rfl _ _ 512 rfl rfl rfl rfl (by omega) (by omega) ?_; intro w1 ho1 b1 _; rw [made5] at ho1; have HO1 := hide ho1; have HB1 := hide b1; clear ho1 b1) | fail)
  go_loopw [4] (fun i wr => ∃ k : Nat, k ≤ 512 ∧ i = .int .i64 k ∧ wr.ownsRow 0 5 1 (.slice (some ⟨w.heap.size, 0, none⟩) 512 512) 512 (halfB c k) ∧ Below w.heap.size w wr) (fun i _ => 512 - (Go.RowKit.intOf i).toNat)
  case atStart => exact ⟨0, by omega, rfl, by simpa [halfB] using unhide HO1, unhide HB1⟩
  case round =>
    obtain ⟨k, hk, rfl, ho, hb⟩ := hrel
    have HO := hide ho
    have HB := hide hb
    by_cases hlt : k < 512
    · have hlt' : (k : Int) < 512 := by omega
      have c0 := owns_cell ho k _ (halfB_at c k hlt)
      obtain ⟨cs, q⟩ := owns_lt ho _ rfl
      have hz := frz q k
      have hl := lt_of_row q
      have HS := hide (halfB_set c k hlt)
      have HE := hide (bt_eq c k)
      clear ho hb q
      go_wp2
      go_round
      case measure => simp [Go.RowKit.intOf]; omega
      case rel =>
        have e : wrap64 (c + (k : Int) / 32) % 256 = ((bt c k).toNat : Int) := by
          rw [unhide HE]
          unfold wrap64
          omega
        rw [e]
        have o := owns_set (unhide HO) k (B (bt c k))
        rw [unhide HS] at o
        exact ⟨k + 1, by omega, by simp, o, (unhide HB).setCell (p := ⟨w.heap.size, k, none⟩) (Nat.le_refl _) _⟩
    · have hlt' : ¬ (k : Int) < 512 := by omega
      obtain rfl : k = 512 := by omega
      rw [halfB_all] at ho
      have ht := text_of (X := blkv c) (by rw [blkv_len]; exact ho)
      rw [blkv_len] at ht
      have HT := hide ht
      clear ho hb ht
      generalize hX : blkv c = X at *
      have HX := hide hX
      clear hX
      go_wp2_with (refine wpList_conv rfl 63 9 (.tmp 20) rfl _ _ (by rfl) (unhide HT) ?_)
      go_ret
      exact ⟨by rw [unhide HX]; rfl, unhide HB⟩
/-- same: of the same lists. -/
theorem same_any (a b : Option Addr) (n cap1 cap2 : Nat) (l : List Bs) (w : World) (ha : Sts w a n l) (hb : Sts w b n l) (hn : n ≤ 1000000000000) : Calls Try.prog 10 #[.slice a n cap1, .slice b n cap2] w fun e w' => e = .returned (.bool true) ∧ Below w.heap.size w w' := by
  have hN := ha.1
  subst hN
  have HA := hide ha
  have HB := hide hb
  clear ha hb
  go_enter Try.func10, Try.ntmps10
  go_wp2
  go_loopw [5] (fun i wr => ∃ k : Nat, k ≤ l.length ∧ i = .int .i64 k ∧ Below w.heap.size w wr) (fun i _ => l.length - (Go.RowKit.intOf i).toNat)
  case atStart => exact ⟨0, by omega, rfl, Below.refl _ _⟩
  case round =>
    obtain ⟨k, hk, rfl, hw⟩ := hrel
    have HW := hide hw
    by_cases hlt : k < l.length
    · obtain ⟨p, o, rfl, hpl, hc0⟩ := ((unhide HA).below hw).at hlt
      obtain ⟨p2, o2, rfl, hpl2, hc2⟩ := ((unhide HB).below hw).at hlt
      have hlt' : (k : Int) < (l.length : Int) := by omega
      generalize l.getD k [] = x at *
      clear hw
      go_wp2
      go_region
      go_wp2
      go_round
      case measure => simp [Go.RowKit.intOf]; omega
      case rel => exact ⟨k + 1, by omega, by simp, below_drew (unhide HW)⟩
    · have hlt' : ¬ (k : Int) < (l.length : Int) := by omega
      clear hw
      go_wp2
      go_ret
      exact ⟨rfl, unhide HW⟩
end Go.Proofs.Ytpelmacblglhoaa
