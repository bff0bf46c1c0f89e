import Derived.Test.YtjopnhhdemfniaaGreatDoorZdsi
import Derived.Test.YtjopnhhdemfniaaGreatDoorZdetl
namespace Go.Proofs.YtjopnhhdemfniaaGreatDoor
open Go.RowKit
set_option maxHeartbeats 8000000
set_option maxRecDepth 8000
theorem get_getD {α : Type} {l : List α} {i : Nat} {z : α} (h : i < l.length) : l[i]? = some (l.getD i z) := by simp [h]
/-- All cells that a round of a crash reads, in any later world. -/
theorem crs_cells {w W W' : World} {D : Nat} {d : Ds} {vl vw : Value} {g1 : Nat} {st : St} {k g n cap : Nat} (h : Crs w D d vl vw g1 st k W) (ho : Ok d) (hlen : st.length = d.ws.length) (hk : k < d.ws.length) (hv : vl = .slice (some ⟨g, 0, none⟩) n cap) (b : Below W.heap.size W W') :
    W'.cell? ⟨D, 1, none⟩ = some vl ∧ W'.cell? ⟨g, (d.ws.getD k (0, [])).1, none⟩ = some (S ((crs d.last d.ws st k).getD (d.ws.getD k (0, [])).1 [])) ∧ W'.frozen? ⟨g, (d.ws.getD k (0, [])).1, none⟩ = false ∧ W'.cell? ⟨g1, k, none⟩ = some (I ((st.getD k none).getD 0 : Nat)) := by
  subst hv
  have hd := h.dat.below b
  have hi := (ho.lt _ (mem_getD (z := (0, [])) hk)).1
  have hn : (crs d.last d.ws st k).length = n := by
    obtain ⟨p, c, e⟩ := owns_form hd.ls
    cases e
    rfl
  obtain ⟨cs, q⟩ := owns_lt hd.ls g rfl
  have hls : W'.ownsRow 0 9 1 (.slice (some ⟨g, 0, none⟩) n cap) n ((crs d.last d.ws st k).map S) := by
    have := hd.ls
    rw [show ({ d with ws := [], last := crs d.last d.ws st k } : Ds).last.length = n from hn] at this
    exact this
  have hi2 : (d.ws.getD k (0, [])).1 < (crs d.last d.ws st k).length := by rw [crs_len]; exact hi
  refine ⟨hd.c.2.1, owns_cell hls _ _ ?_, frz q _, owns_cell (owns_below h.ss b) k _ (cellsN_at st k (by omega))⟩
  rw [List.getElem?_map, get_getD hi2]
  rfl
def crashv (d : Ds) (l : List Kp) : Int := if (stps (List.replicate d.ws.length none) l).isSome then 0 else 82
def Ds.crash (d : Ds) (l : List Kp) : Ds := match stps (List.replicate d.ws.length none) l with
  | none => d
  | some st => { ws := [], last := crs d.last d.ws st d.ws.length, fuse := 0, dead := false, acts := d.acts }
theorem crash_any {D : Nat} {d : Ds} {vw vl : Value} {w : World} (h : DAt D d vw vl w) (ho : Ok d) (a : Option Addr) (n cap : Nat) (l : List Kp) (hp : Kls w a n l) (hn : n ≤ 1000000000000000) (hst : ∀ st, stps (List.replicate d.ws.length none) l = some st → ∀ i, (st.getD i none).getD 0 < 256) :
    Calls Tryz.prog 37 #[ptr D, .slice a n cap] w fun e w' => e = .returned (I (crashv d l)) ∧ ∃ vw', DAt D (d.crash l) vw' vl w' ∧ Only (fun k => k = D ∨ vl.ownBlock = some k) w w' ∧ (∀ k, vw'.ownBlock = some k → vw.ownBlock = some k) := by
  have H0 := hide (sets_any h ho a n cap l hp hn)
  have HD := hide h
  have HO := hide ho
  have HS := hide hst
  have hl := h.lt
  clear h ho hp hst
  go_enter Tryz.func37, Tryz.ntmps37
  go_wp2_with fail
  refine (unhide H0).mono ?_
  clear H0
  rintro e w1 (⟨e0, rfl, b1⟩ | ⟨st, g1, e0, rfl, r1, q1, hg1, b1⟩)
  · have HF := hide (show crashv d l = 82 ∧ d.crash l = d by simp [crashv, Ds.crash, e0])
    have HX := hide (And.intro ((unhide HD).below b1) b1)
    clear e0 b1
    go_wp2
    go_ret
    rw [(unhide HF).1, (unhide HF).2]
    exact ⟨rfl, vw, (unhide HX).1, Only.of_below (unhide HX).2, fun k hk => hk⟩
  · have HF := hide (show crashv d l = 0 ∧ d.crash l = { ws := [], last := crs d.last d.ws st d.ws.length, fuse := 0, dead := false, acts := d.acts } by simp [crashv, Ds.crash, e0])
    have HS2 := hide (unhide HS st e0)
    have h1 := (unhide HD).below b1
    have H1 := hide (empty_any h1)
    have hl1 := h1.lt
    obtain ⟨g, c2, cur2, e2, hgx, _⟩ := owns_at h1.ls (by have := (unhide HO).len; omega)
    have hgl : g < w.heap.size := owns_blk (unhide HD).ls g (by rw [e2]; rfl)
    obtain ⟨p3, c3, e3⟩ := owns_form h1.ws
    have HX := hide (And.intro h1 (And.intro r1 (And.intro b1 (And.intro hg1 (And.intro e2 e3)))))
    clear e0 r1 b1 h1 hgx HS
    go_wp2_with fail
    refine (unhide H1).mono ?_
    rintro e w2 ⟨rfl, h2, o2⟩
    have HC := hide (show Crs w D d vl vw g1 st 0 w2 from by
      obtain ⟨h1, r1, b1, hg1, e2, e3⟩ := unhide HX
      refine ⟨h2, owns_only h1.ws o2 (fun k hk => h1.nw k hk), owns_only r1 o2 (fun k hk q => ?_), (Only.of_below b1).trans o2 (fun k _ q => Or.inl q)⟩
      cases hk
      have q' : g1 = D := q
      have := (unhide HD).lt
      omega)
    have hl2 := h2.lt
    obtain ⟨h1, r1, b1, hg1, e2, e3⟩ := unhide HX
    have hfew := (unhide HO).few
    have HE2 := hide e2
    subst e3
    clear h1 r1 b1 hg1 h2 o2 HX H1
    go_wp2
    go_loopw [24] (fun i wr => ∃ k : Nat, k ≤ d.ws.length ∧ i = .int .i64 k ∧ Crs w D d vl (.slice p3 d.ws.length c3) g1 st k wr) (fun i _ => d.ws.length - (Go.RowKit.intOf i).toNat)
    case atStart => exact ⟨0, by omega, rfl, unhide HC⟩
    case round =>
      clear HC
      obtain ⟨k, hk, rfl, hc⟩ := hrel
      have HK := hide hc
      by_cases hlt : k < d.ws.length
      · have hlt' : (k : Int) < (d.ws.length : Int) := by omega
        obtain ⟨g9, c9, cur9, e9, hq9, _⟩ := owns_at hc.ws (by omega)
        cases e9
        have z := cellsW_at d.ws k hlt
        have z0 := owns_cell hc.ws _ _ z.1
        have z1 := owns_cell hc.ws _ _ z.2
        have hz9 := lt_of_row hq9
        have HCell := hide (fun (W' : World) (b : Below wr.heap.size wr W') => crs_cells hc (unhide HO) q1 hlt e2 b)
        have hxx := (unhide HO).lt _ (mem_getD (z := (0, [])) hlt)
        have hset := unhide HS2 k
        have hll : ((crs d.last d.ws st k).getD (d.ws.getD k (0, [])).1 []).length = 512 := crs_sz st (unhide HO).sz (unhide HO).lt k (by omega) _ (mem_getD (by rw [crs_len]; exact hxx.1))
        have HStep := hide (fun (W' : World) (b : Below wr.heap.size wr W') => Crs.step hc b e2)
        clear hc z hq9
        generalize (crs d.last d.ws st k).getD (d.ws.getD k (0, [])).1 [] = la at *
        generalize d.ws.getD k (0, []) = x at *
        obtain ⟨x1, x2⟩ := x
        simp only at z0 z1 hxx hll HCell HStep
        generalize (st.getD k none).getD 0 = s9 at *
        have e2' := unhide HE2
        obtain ⟨hx1, hx2⟩ := hxx
        have hx1' : (x1 : Int) < (d.last.length : Int) := by omega
        have ba := (Below.refl wr.heap.size wr).alloc (Nat.le_refl _) (.cells #[I x1, S x2] 164)
        obtain ⟨p0, p1, p2, p4⟩ := unhide HCell _ ba
        have hz := heap_alloc_new wr (.cells #[I x1, S x2] 164)
        have y0 : (wr.alloc (.cells #[I x1, S x2] 164)).cell? ⟨wr.heap.size, 0, none⟩ = some (I x1) := cell_of_row _ _ 0 _ 164 (0, 0) hz
        have y1 : (wr.alloc (.cells #[I x1, S x2] 164)).cell? ⟨wr.heap.size, 1, none⟩ = some (S x2) := cell_of_row _ _ 1 _ 164 (0, 0) hz
        have HT := hide (fun W => torn_any la x2 s9 W hll hx2 hset)
        have HAl := hide (And.intro ba hz)
        clear ba hz
        rw [e2'] at p0
        generalize tornv la x2 s9 = tv at *
        go_wp2
        refine rcr D g d.last.length c2 wr.heap.size g1 d.ws.length k x1 s9 la x2 tv rfl rfl rfl _ _ (show 51 ≤ 58 from by decide) rfl rfl rfl rfl (fun L W => (L 22 = true → L 3 = true ∧ L 5 = true ∧ L 9 = true ∧ L 11 = true ∧ L 13 = true ∧ L 15 = true ∧ L 19 = true ∧ L 20 = true) ∧ ∃ W0, Below wr.heap.size wr W0 ∧ W0.heap[wr.heap.size]? = some (.cells #[I x1, S x2] 164 (0, 0)) ∧ W = (if L 22 then W0.setCell ⟨g, 0 + x1, none⟩ (S tv) else W0)) ?_ ?_ hx1 hlt hx1 ?_ ?_ ?_ ?_ ?_ ?_ ?_ ?_ ?_ ?_
        · exact ⟨(fun h => by cases h), _, below_drew (unhide HAl).1, (unhide HAl).2, rfl⟩
        · rintro i hi L W ⟨q1, W0, q2, q3, q4⟩
          have h22 : i ≠ 22 := by rintro rfl; simp at hi
          have e22 : upd L i 22 = L 22 := by simp [upd, Ne.symm h22]
          refine ⟨fun h => ?_, W0, q2, q3, by rw [e22]; exact q4⟩
          rw [e22] at h
          have := q1 h
          simp only [upd]
          refine ⟨?_, ?_, ?_, ?_, ?_, ?_, ?_, ?_⟩ <;> split <;> simp_all
        · rintro L W ⟨q1, W0, q2, q3, q4⟩ hL
          have h22 : L 22 = false := Bool.eq_false_iff.2 (fun h => by have := (q1 h).1; rw [hL] at this; cases this)
          rw [h22] at q4
          simp only [Bool.false_eq_true, if_false] at q4
          subst q4
          obtain ⟨t0, t1, t2, t4⟩ := unhide HCell _ q2
          rw [e2'] at t0
          exact t0
        · rintro L W ⟨q1, W0, q2, q3, q4⟩ hL
          have h22 : L 22 = false := Bool.eq_false_iff.2 (fun h => by have := (q1 h).2.1; rw [hL] at this; cases this)
          rw [h22] at q4
          simp only [Bool.false_eq_true, if_false] at q4
          subst q4
          obtain ⟨t0, t1, t2, t4⟩ := unhide HCell _ q2
          exact cell_of_row W _ 0 _ 164 (0, 0) q3
        · rintro L W ⟨q1, W0, q2, q3, q4⟩ hL
          have h22 : L 22 = false := Bool.eq_false_iff.2 (fun h => by have := (q1 h).2.2.1; rw [hL] at this; cases this)
          rw [h22] at q4
          simp only [Bool.false_eq_true, if_false] at q4
          subst q4
          obtain ⟨t0, t1, t2, t4⟩ := unhide HCell _ q2
          rw [e2'] at t0
          exact t0
        · rintro L W ⟨q1, W0, q2, q3, q4⟩ hL
          have h22 : L 22 = false := Bool.eq_false_iff.2 (fun h => by have := (q1 h).2.2.2.1; rw [hL] at this; cases this)
          rw [h22] at q4
          simp only [Bool.false_eq_true, if_false] at q4
          subst q4
          obtain ⟨t0, t1, t2, t4⟩ := unhide HCell _ q2
          exact cell_of_row W _ 0 _ 164 (0, 0) q3
        · rintro L W ⟨q1, W0, q2, q3, q4⟩ hL
          have h22 : L 22 = false := Bool.eq_false_iff.2 (fun h => by have := (q1 h).2.2.2.2.1; rw [hL] at this; cases this)
          rw [h22] at q4
          simp only [Bool.false_eq_true, if_false] at q4
          subst q4
          obtain ⟨t0, t1, t2, t4⟩ := unhide HCell _ q2
          rw [Nat.zero_add]
          exact t1
        · rintro L W ⟨q1, W0, q2, q3, q4⟩ hL
          have h22 : L 22 = false := Bool.eq_false_iff.2 (fun h => by have := (q1 h).2.2.2.2.2.1; rw [hL] at this; cases this)
          rw [h22] at q4
          simp only [Bool.false_eq_true, if_false] at q4
          subst q4
          obtain ⟨t0, t1, t2, t4⟩ := unhide HCell _ q2
          exact cell_of_row W _ 1 _ 164 (0, 0) q3
        · rintro L W ⟨q1, W0, q2, q3, q4⟩ hL
          have h22 : L 22 = false := Bool.eq_false_iff.2 (fun h => by have := (q1 h).2.2.2.2.2.2.1; rw [hL] at this; cases this)
          rw [h22] at q4
          simp only [Bool.false_eq_true, if_false] at q4
          subst q4
          obtain ⟨t0, t1, t2, t4⟩ := unhide HCell _ q2
          rw [Nat.zero_add]
          exact t4
        · rintro L W ⟨q1, W0, q2, q3, q4⟩ hL
          refine (unhide HT W).mono ?_
          rintro e w' ⟨rfl, b4⟩
          have h22 : L 22 = false := Bool.eq_false_iff.2 (fun h => by have := (q1 h).2.2.2.2.2.2.2; rw [hL] at this; cases this)
          have e22 : upd L 20 22 = false := by simp [upd, h22]
          rw [h22] at q4
          simp only [Bool.false_eq_true, if_false] at q4
          subst q4
          refine ⟨rfl, fun h => ?_, w', q2.trans (b4.mono q2.size), (b4.block _ (lt_of_row q3)).trans q3, ?_⟩
          · rw [e22] at h
            cases h
          · rw [e22]
            rfl
        · rintro L W ⟨q1, W0, q2, q3, q4⟩ hL f20 f21 f3 f5 f9 f11 f13 f15 f19
          rw [hL] at q4
          simp only [Bool.false_eq_true, if_false] at q4
          subst q4
          obtain ⟨t0, t1, t2, t4⟩ := unhide HCell _ q2
          refine ⟨⟨fun _ => by simp [upd, f3, f5, f9, f11, f13, f15, f19, f20], W, q2, q3, by simp [upd]⟩, ⟨_, by rw [Nat.zero_add]; exact t1⟩, by rw [Nat.zero_add]; exact t2⟩
        · rintro L W hall ⟨q1, W0, q2, q3, q4⟩
          rw [hall 22 (by omega)] at q4
          simp only [if_true] at q4
          rw [Nat.zero_add] at q4
          have HN := hide (unhide HStep W0 q2)
          rw [← q4] at HN
          clear q1 q2 q3 q4
          simp only [Act.put, List.setIfInBounds_toArray, List.set_cons_succ, List.set_cons_zero]
          go_wp2
          go_round
          case measure => simp [Go.RowKit.intOf]; omega
          case rel => exact ⟨k + 1, by omega, by simp, unhide HN⟩
      · have hlt' : ¬ (k : Int) < (d.ws.length : Int) := by omega
        obtain rfl : k = d.ws.length := by omega
        have hd := hc.dat
        obtain ⟨m0, m1, m2, m3, m4⟩ := hd.c
        have hlD := hd.lt
        have f3 := frz hd.blk 3
        have hd2 := hd.set (d' := { ws := [], last := crs d.last d.ws st d.ws.length, fuse := d.fuse, dead := false, acts := d.acts }) (vw' := .slice none 0 0) (vl' := vl) 3 (.bool false) rfl (owns_nil _ _ _) hd.ls
        have hd3 := hd2.set (d' := { ws := [], last := crs d.last d.ws st d.ws.length, fuse := 0, dead := false, acts := d.acts }) (vw' := .slice none 0 0) (vl' := vl) 2 (I 0) rfl (owns_nil _ _ _) hd2.ls
        have n2 := hd2.c.2.2.1
        have f2 := frz hd2.blk 2
        have hlD2 := hd2.lt
        have HN := hide (And.intro hd3 ((hc.onl.put ⟨D, 3, none⟩ (.bool false) (Or.inl (Or.inl rfl))).put ⟨D, 2, none⟩ (I 0) (Or.inl (Or.inl rfl))))
        simp only at n2 m2 m3
        clear hd hd2 hd3 hc e2
        go_wp2
        go_ret
        rw [(unhide HF).1, (unhide HF).2]
        have hN := unhide HN
        rw [unhide HE2] at hN
        exact ⟨rfl, .slice none 0 0, hN.1, hN.2, fun k hk => by cases hk⟩
end Go.Proofs.YtjopnhhdemfniaaGreatDoor
namespace Go.Proofs.YtjopnhhdemfniaaGreatDoor
open Go.RowKit
set_option maxHeartbeats 8000000
set_option maxRecDepth 8000
/-- What lasts when the first k pending writes are laid down. -/
def snc (last : List Bs) (ws : List Wr) : Nat → List Bs
  | 0 => last
  | k + 1 => (snc last ws k).set (ws.getD k (0, [])).1 (ws.getD k (0, [])).2
theorem snc_len (last : List Bs) (ws : List Wr) (k : Nat) : (snc last ws k).length = last.length := by
  induction k with
  | zero => rfl
  | succ k ih => simp [snc, ih]
theorem snc_sz {last : List Bs} {ws : List Wr} (h : ∀ y ∈ last, y.length = 512) (hw : ∀ x ∈ ws, x.1 < last.length ∧ x.2.length = 512) (k : Nat) (hk : k ≤ ws.length) : ∀ y ∈ snc last ws k, y.length = 512 := by
  induction k with
  | zero => exact h
  | succ k ih => exact set_sz (ih (by omega)) (hw _ (mem_getD (z := (0, [])) (show k < ws.length by omega))).2
/-- Between two writes of a Sync. -/
structure Snc (w : World) (D : Nat) (d : Ds) (vl vw : Value) (k : Nat) (W : World) : Prop where
  dat : DAt D { d with ws := [], last := snc d.last d.ws k } (.slice none 0 0) vl W
  ws : W.ownsRow 0 164 2 vw d.ws.length (cellsW d.ws)
  onl : Only (fun k => k = D ∨ vl.ownBlock = some k) w W
theorem Snc.step {w W W' : World} {D : Nat} {d : Ds} {vl vw : Value} {k g n cap : Nat} (h : Snc w D d vl vw k W) (b : Below W.heap.size W W') (hv : vl = .slice (some ⟨g, 0, none⟩) n cap) :
    Snc w D d vl vw (k + 1) (W'.setCell ⟨g, (d.ws.getD k (0, [])).1, none⟩ (S (d.ws.getD k (0, [])).2)) := by
  subst hv
  have hd := h.dat.below b
  have hw := owns_below h.ws b
  have hls := hd.ls
  have hlen : (({ d with ws := [], last := snc d.last d.ws k } : Ds).last).length = n := by
    obtain ⟨p, c, e⟩ := owns_form hls
    cases e
    rfl
  have oth : ∀ {t a m : Nat} {v : Value} {xs : List Value}, W'.ownsRow 0 t a v m xs → t ≠ 9 → ∀ k, v.ownBlock = some k → ¬ k = g := by
    intro t a m v xs hv ht k hk q
    obtain ⟨c1, q1⟩ := owns_lt hv k hk
    obtain ⟨c2, q2⟩ := owns_lt hls g rfl
    rw [q, q2] at q1
    cases q1
    exact ht rfl
  have e : snc d.last d.ws (k + 1) = (snc d.last d.ws k).set (d.ws.getD k (0, [])).1 (d.ws.getD k (0, [])).2 := rfl
  generalize (d.ws.getD k (0, [])).1 = i at *
  generalize (d.ws.getD k (0, [])).2 = x at *
  have O := Only.setCell W' ⟨g, i, none⟩ (S x)
  refine ⟨⟨?_, owns_nil _ _ _, ?_⟩, owns_only hw O (oth hw (by decide)), ?_⟩
  · rw [O.block D hd.lt (fun q => hd.nl g rfl q.symm)]
    exact hd.blk
  · show World.ownsRow _ 0 9 1 _ (snc d.last d.ws (k + 1)).length ((snc d.last d.ws (k + 1)).map S)
    rw [e, List.length_set, List.map_set]
    have e2 : (snc d.last d.ws k).length = n := hlen
    rw [e2]
    have h3 := hls
    rw [hlen] at h3
    exact owns_set h3 i (S x)
  · exact (h.onl.trans (Only.of_below (P := fun _ => False) b) (fun _ _ q => q.elim)).put ⟨g, i, none⟩ (S x) (Or.inl (Or.inr rfl))
theorem snc_cells {w W W' : World} {D : Nat} {d : Ds} {vl vw : Value} {k g n cap : Nat} (h : Snc w D d vl vw k W) (ho : Ok d) (hk : k < d.ws.length) (hv : vl = .slice (some ⟨g, 0, none⟩) n cap) (b : Below W.heap.size W W') :
    W'.cell? ⟨D, 1, none⟩ = some vl ∧ W'.cell? ⟨g, (d.ws.getD k (0, [])).1, none⟩ = some (S ((snc d.last d.ws k).getD (d.ws.getD k (0, [])).1 [])) ∧ W'.frozen? ⟨g, (d.ws.getD k (0, [])).1, none⟩ = false := by
  subst hv
  have hd := h.dat.below b
  have hi := (ho.lt _ (mem_getD (z := (0, [])) hk)).1
  have hn : (snc d.last d.ws k).length = n := by
    obtain ⟨p, c, e⟩ := owns_form hd.ls
    cases e
    rfl
  obtain ⟨cs, q⟩ := owns_lt hd.ls g rfl
  have hls : W'.ownsRow 0 9 1 (.slice (some ⟨g, 0, none⟩) n cap) n ((snc d.last d.ws k).map S) := by
    have := hd.ls
    rw [show ({ d with ws := [], last := snc d.last d.ws k } : Ds).last.length = n from hn] at this
    exact this
  have hi2 : (d.ws.getD k (0, [])).1 < (snc d.last d.ws k).length := by rw [snc_len]; exact hi
  refine ⟨hd.c.2.1, owns_cell hls _ _ ?_, frz q _⟩
  rw [List.getElem?_map, get_getD hi2]
  rfl
def syncv (d : Ds) : Int := if d.dead then 2 else actv d
def Ds.sync (d : Ds) : Ds := if d.dead then d else if actv d ≠ 0 then d.act else { d.act with ws := [], last := snc d.last d.ws d.ws.length }
theorem sync_any {D : Nat} {d : Ds} {vw vl : Value} {w : World} (h : DAt D d vw vl w) (ho : Ok d) (ha : 0 ≤ d.acts ∧ d.acts ≤ 1000000000000000000) :
    Calls Tryz.prog 87 #[ptr D] w fun e w' => e = .returned (I (syncv d)) ∧ ∃ vw', DAt D d.sync vw' vl w' ∧ Only (fun k => k = D ∨ vl.ownBlock = some k) w w' ∧ (∀ k, vw'.ownBlock = some k → vw.ownBlock = some k) := by
  have H1 := hide (act_any h ho.fuse ha)
  obtain ⟨c0, c1, c2, c3, c4⟩ := h.c
  have hl := h.lt
  have HD := hide h
  have HO := hide ho
  unfold syncv Ds.sync
  clear h ho ha
  cases hdd : d.dead with
  | true =>
    rw [hdd] at c3
    simp only [if_true]
    go_enter Tryz.func87, Tryz.ntmps87
    go_wp2
    go_ret
    exact ⟨rfl, vw, unhide HD, Only.refl _ _, fun k hk => hk⟩
  | false =>
    rw [hdd] at c3
    simp only [Bool.false_eq_true, if_false]
    by_cases ht : actv d = 0
    · have n2 : ¬ actv d ≠ 0 := by simpa using ht
      rw [if_neg n2, ht]
      rw [ht] at H1
      clear n2 ht
      have ed : d.act.ws = d.ws ∧ d.act.last = d.last := ⟨act_ws d, act_last d⟩
      have HE := hide ed
      have HOA := hide (unhide HO).act
      clear ed
      rw [show ({ d.act with ws := [], last := snc d.last d.ws d.ws.length } : Ds) = { d.act with ws := [], last := snc d.act.last d.act.ws d.act.ws.length } by rw [(unhide HE).1, (unhide HE).2]]
      generalize d.act = a at *
      clear HE
      go_enter Tryz.func87, Tryz.ntmps87
      go_wp2_with fail
      refine (unhide H1).mono ?_
      rintro e w2 ⟨rfl, h2, o2⟩
      have hl2 := h2.lt
      have H3 := hide (empty_any h2)
      have X2 := hide (And.intro h2 o2)
      obtain ⟨g, c2', cur2, e2, hgx, _⟩ := owns_at h2.ls (by have := (unhide HOA).len; omega)
      obtain ⟨p3, c3', e3⟩ := owns_form h2.ws
      have HE2 := hide (And.intro e2 e3)
      clear h2 o2 hgx
      go_wp2_with fail
      refine (unhide H3).mono ?_
      rintro e w4 ⟨rfl, h4, o4⟩
      have HC := hide (show Snc w D a vl vw 0 w4 from by
        obtain ⟨h2, o2⟩ := unhide X2
        exact ⟨h4, owns_only h2.ws o4 (fun k hk => h2.nw k hk), (o2.mono (fun _ _ q => Or.inl q)).trans o4 (fun k _ q => Or.inl q)⟩)
      have hl4 := h4.lt
      have hfew := (unhide HOA).few
      obtain ⟨e2, e3⟩ := unhide HE2
      subst e3
      clear h4 o4 X2 H3 HD HO
      go_wp2
      go_loopw [20] (fun i wr => ∃ k : Nat, k ≤ a.ws.length ∧ i = .int .i64 k ∧ Snc w D a vl (.slice p3 a.ws.length c3') k wr) (fun i _ => a.ws.length - (Go.RowKit.intOf i).toNat)
      case atStart => exact ⟨0, by omega, rfl, unhide HC⟩
      case round =>
        clear HC
        obtain ⟨k, hk, rfl, hc⟩ := hrel
        have HK := hide hc
        by_cases hlt : k < a.ws.length
        · have hlt' : (k : Int) < (a.ws.length : Int) := by omega
          obtain ⟨g9, c9, cur9, e9, hq9, _⟩ := owns_at hc.ws (by omega)
          cases e9
          have z := cellsW_at a.ws k hlt
          have z0 := owns_cell hc.ws _ _ z.1
          have z1 := owns_cell hc.ws _ _ z.2
          have hz9 := lt_of_row hq9
          have hxx := (unhide HOA).lt _ (mem_getD (z := (0, [])) hlt)
          have ba := (Below.refl wr.heap.size wr).alloc (Nat.le_refl _) (.cells #[I (a.ws.getD k (0, [])).1, S (a.ws.getD k (0, [])).2] 164)
          have hz := heap_alloc_new wr (.cells #[I (a.ws.getD k (0, [])).1, S (a.ws.getD k (0, [])).2] 164)
          obtain ⟨p0, p1, p2⟩ := snc_cells hc (unhide HOA) hlt e2 (below_drew ba)
          have HStep := hide (Snc.step hc (below_drew ba) e2)
          have hgl := blk_lt p1
          clear hc z hq9
          generalize (snc a.last a.ws k).getD (a.ws.getD k (0, [])).1 [] = la at *
          generalize a.ws.getD k (0, []) = x at *
          obtain ⟨x1, x2⟩ := x
          simp only at z0 z1 hxx HStep p1 p2 hz ba
          obtain ⟨hx1, hx2⟩ := hxx
          have hx1' : (x1 : Int) < (a.last.length : Int) := by omega
          have y0 : (wr.alloc (.cells #[I x1, S x2] 164)).cell? ⟨wr.heap.size, 0, none⟩ = some (I x1) := cell_of_row _ _ 0 _ 164 (0, 0) hz
          have y1 : (wr.alloc (.cells #[I x1, S x2] 164)).cell? ⟨wr.heap.size, 1, none⟩ = some (S x2) := cell_of_row _ _ 1 _ 164 (0, 0) hz
          have p0' : (wr.alloc (.cells #[I x1, S x2] 164)).cell? ⟨D, 1, none⟩ = some (.slice (some ⟨g, 0, none⟩) a.last.length c2') := by rw [← e2]; exact p0
          have p1' : (wr.alloc (.cells #[I x1, S x2] 164)).cell? ⟨g, x1, none⟩ = some (S la) := p1
          have p2' : (wr.alloc (.cells #[I x1, S x2] 164)).frozen? ⟨g, x1, none⟩ = false := p2
          clear p0 p1 p2 ba hz
          go_wp2
          go_region
          go_wp2
          go_round
          case measure => simp [Go.RowKit.intOf]; omega
          case rel => exact ⟨k + 1, by omega, by simp, unhide HStep⟩
        · have hlt' : ¬ (k : Int) < (a.ws.length : Int) := by omega
          obtain rfl : k = a.ws.length := by omega
          clear hc e2
          go_wp2
          go_ret
          have hK := unhide HK
          rw [(unhide HE2).1] at hK
          exact ⟨rfl, .slice none 0 0, hK.dat, hK.onl, fun k hk => by cases hk⟩
    · have n2 : actv d ≠ 0 := ht
      rw [if_pos n2]
      generalize actv d = r at *
      go_enter Tryz.func87, Tryz.ntmps87
      go_wp2_with fail
      refine (unhide H1).mono ?_
      rintro e w2 ⟨rfl, h2, o2⟩
      have HF := hide (And.intro h2 (o2.mono (Q := fun k => k = D ∨ vl.ownBlock = some k) (fun _ _ q => Or.inl q)))
      clear h2 o2
      go_wp2
      go_ret
      exact ⟨rfl, vw, (unhide HF).1, (unhide HF).2, fun k hk => hk⟩
end Go.Proofs.YtjopnhhdemfniaaGreatDoor
