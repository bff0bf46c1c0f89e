import Derived.Test.YtjopnhhdemfniaaGreatDoorZqab
import Derived.Test.YtjopnhhdemfniaaGreatDoorZrgpn
/- One more page behind the list that a state's box holds, in a drawn region. -/
namespace Go.Proofs.YtjopnhhdemfniaaGreatDoor
open Go.RowKit
structure Ap5 (wr : World) (X : Nat) (row : Value → Array Value) (v : Value) (n : Nat) (xs : List Value) (z : List Value) (il ib ia is : Nat) (c : Cav) (L : Nat → Bool) (W : World) : Prop where
  pre : L ib = false → W = wr.drew
  mid : L ib = true → c.a = wr.heap.size ∧ (L ia = false → W = wr.drew.alloc (.cells z.toArray 24))
  post : L ia = true → L ib = true ∧ L il = true ∧ ∃ p cap, c.v = .slice p (n + 1) cap ∧ W.ownsRow 0 24 5 c.v (n + 1) (xs ++ z) ∧ Only (fun k => v.ownBlock = some k ∨ k = X) wr W ∧ (∀ k, c.v.ownBlock = some k → v.ownBlock = some k ∨ wr.heap.size ≤ k) ∧ W.heap[X]? = some (.cells (row (if L is = true then c.v else v)) 83 (0, 0))
  lst : L is = true → L ia = true
variable {wr : World} {X : Nat} {row : Value → Array Value} {v : Value} {n : Nat} {xs : List Value} {z : List Value} {il ib ia is : Nat} {c : Cav} {L : Nat → Bool} {W : World}
theorem Ap5.start (wr : World) (X : Nat) (row : Value → Array Value) (v : Value) (n : Nat) (xs : List Value) (z : List Value) (il ib ia is : Nat) : Ap5 wr X row v n xs z il ib ia is ⟨0, v⟩ (fun _ => false) wr.drew :=
  ⟨fun _ => rfl, (fun q => nomatch q), (fun q => nomatch q), (fun q => nomatch q)⟩
theorem Ap5.pure (h : Ap5 wr X row v n xs z il ib ia is c L W) {i : Nat} (h1 : i ≠ ib) (h2 : i ≠ ia) (h3 : i ≠ is) : Ap5 wr X row v n xs z il ib ia is c (upd L i) W := by
  refine ⟨?_, ?_, ?_, ?_⟩
  · rw [upd_ne (Ne.symm h1)]; exact h.pre
  · rw [upd_ne (Ne.symm h1), upd_ne (Ne.symm h2)]; exact h.mid
  · rw [upd_ne (Ne.symm h1), upd_ne (Ne.symm h2), upd_ne (Ne.symm h3)]
    intro q
    obtain ⟨a, b, r⟩ := h.post q
    refine ⟨a, ?_, r⟩
    by_cases e : il = i
    · rw [e]; exact upd_self _ _
    · rw [upd_ne e]; exact b
  · rw [upd_ne (Ne.symm h2), upd_ne (Ne.symm h3)]; exact h.lst
/-- The blocks of before stand, as long as the list was not loaded. -/
theorem Ap5.old (h : Ap5 wr X row v n xs z il ib ia is c L W) (hl : L il = false) {k : Nat} (hk : k < wr.heap.size) : W.heap[k]? = wr.heap[k]? := by
  cases hb : L ib
  · rw [h.pre hb]; rfl
  · have ha : L ia = false := by
      cases q : L ia
      · rfl
      · rw [(h.post q).2.1] at hl; cases hl
    rw [(h.mid hb).2 ha]
    exact heap_alloc_old wr.drew _ hk
/-- Blocks that are neither the list's nor the box stand always. -/
theorem Ap5.off (h : Ap5 wr X row v n xs z il ib ia is c L W) {k : Nat} (hk : k < wr.heap.size) (h1 : v.ownBlock ≠ some k) (h2 : k ≠ X) : W.heap[k]? = wr.heap[k]? := by
  cases hb : L ib
  · rw [h.pre hb]; rfl
  · cases ha : L ia
    · rw [(h.mid hb).2 ha]
      exact heap_alloc_old wr.drew _ hk
    · obtain ⟨_, _, p, cap, _, _, o, _⟩ := h.post ha
      exact o.block k hk (fun q => q.elim h1 h2)
theorem Ap5.build (h : Ap5 wr X row v n xs z il ib ia is c L W) (hL : L ib = false) (h1 : ib ≠ ia) (h2 : ib ≠ is) : W = wr.drew ∧ Ap5 wr X row v n xs z il ib ia is ⟨wr.heap.size, c.v⟩ (upd L ib) (wr.drew.alloc (.cells z.toArray 24)) := by
  have ha : L ia = false := by
    cases q : L ia
    · rfl
    · rw [(h.post q).1] at hL; cases hL
  refine ⟨h.pre hL, ⟨?_, ?_, ?_, ?_⟩⟩
  · intro q; rw [upd_self] at q; cases q
  · intro _; exact ⟨rfl, fun _ => rfl⟩
  · rw [upd_ne (Ne.symm h1), ha]; exact fun q => nomatch q
  · rw [upd_ne (Ne.symm h1), upd_ne (Ne.symm h2)]; exact h.lst
theorem Ap5.app (h : Ap5 wr X row v n xs z il ib ia is c L W) (hI : L il = true) (hB : L ib = true) (hA : L ia = false) (hown : wr.ownsRow 0 24 5 v n xs) (hX : wr.heap[X]? = some (.cells (row v) 83 (0, 0))) (hn : n + 1 ≤ 1000000000) (hz : z.length = 5) (hz1 : ∀ u ∈ z, u.oneCell' = true) (ty : TypeId) (h1 : ia ≠ ib) (h2 : ia ≠ is) :
    ∃ c' W', c'.a = c.a ∧ (Builtin.append_ #[27, 27] ty #[v, .slice (some ⟨c.a, 0, none⟩) 1 1]).run Tryz.prog W = .ok c'.v W' ∧ Ap5 wr X row v n xs z il ib ia is c' (upd L ia) W' := by
  obtain ⟨m1, m2⟩ := h.mid hB
  have hS : L is = false := by
    cases q : L is
    · rfl
    · rw [h.lst q] at hA; cases hA
  have hown' : wr.drew.ownsRow 0 24 5 v n xs := owns_below hown (Below.refl _ _).drew
  obtain ⟨p, cap, w', hr, q2, q3, q4⟩ := app_own 27 24 ty _ 5 64 Tryz.underlying27 info24p rfl (by decide) v n xs wr.drew hown' z hz hz1 (by omega) (by omega)
  refine ⟨⟨c.a, .slice p (n + 1) cap⟩, w', rfl, ?_, ⟨?_, ?_, ?_, ?_⟩⟩
  · rw [m2 hA, m1]
    exact hr
  · rw [upd_ne (Ne.symm h1), hB]; exact fun q => nomatch q
  · rw [upd_ne (Ne.symm h1), upd_self]
    exact fun _ => ⟨m1, fun q => nomatch q⟩
  · intro _
    rw [upd_ne (Ne.symm h1), upd_ne (Ne.symm h2), hS]
    have hXl := lt_of_row hX
    have hXv : v.ownBlock ≠ some X := fun e => by
      obtain ⟨cs, q⟩ := owns_lt hown X e
      rw [hX] at q
      cases q
    refine ⟨hB, ?_, p, cap, rfl, q2, (Only.of_below (P := fun k => v.ownBlock = some k ∨ k = X) (Below.refl _ _).drew).trans q3 (fun k _ q => .inl q), q4, ?_⟩
    · by_cases e : il = ia
      · rw [e]; exact upd_self _ _
      · rw [upd_ne e]; exact hI
    · rw [if_neg (by simp)]
      exact (q3.block X hXl hXv).trans hX
  · rw [upd_ne (Ne.symm h2), hS]; exact fun q => nomatch q
theorem Ap5.store (h : Ap5 wr X row v n xs z il ib ia is c L W) (hA : L ia = true) (hS : L is = false) (h1 : is ≠ ib) (h2 : is ≠ ia) (h3 : is ≠ il) (hrow : ((row v).toList.take 3 ++ [c.v] ++ (row v).toList.drop 4).toArray = row c.v) (hsz : 3 + 1 ≤ (row v).size) :
    (Instr.storeAt 27 (.pointer (some ⟨X, 0 + 3, none⟩)) c.v).run Tryz.prog W = .ok () (W.setRow X (row c.v)) ∧ Ap5 wr X row v n xs z il ib ia is c (upd L is) (W.setRow X (row c.v)) := by
  obtain ⟨a, b, p, cap, e, q1, q2, q3, q4⟩ := h.post hA
  rw [hS, if_neg (by simp)] at q4
  constructor
  · have hst := s_sta Tryz.sizeOf27 (o := 0 + 3) q4 c.v (by rw [e]; rfl) (by omega) (by rw [e]; show ∀ y ∈ [Value.slice p (n + 1) cap], y.oneCell' = true; simp [Value.oneCell'])
    rw [hst]
    have e2 : c.v.cells.toList = [c.v] := by rw [e]; rfl
    rw [e2]
    exact congrArg (fun r => Result.ok () (W.setRow X r)) hrow
  · refine ⟨?_, ?_, ?_, ?_⟩
    · rw [upd_ne (Ne.symm h1), a]; exact fun q => nomatch q
    · rw [upd_ne (Ne.symm h1), upd_ne (Ne.symm h2)]
      intro q
      refine ⟨(h.mid q).1, fun q2 => ?_⟩
      rw [hA] at q2
      cases q2
    · intro _
      rw [upd_ne (Ne.symm h1), upd_ne (Ne.symm h3), upd_self, if_pos rfl]
      have hne : ∀ k, c.v.ownBlock = some k → ¬ k = X := fun k hk e' => by
        obtain ⟨cs, q⟩ := owns_lt q1 k hk
        rw [e', q4] at q
        cases q
      exact ⟨a, b, p, cap, e, owns_only q1 (setRow_Only _ _ _) hne, q2.trans (setRow_Only _ _ _) (fun k _ q => .inr q), q3, setRow_row q4⟩
    · intro _
      rw [upd_ne (Ne.symm h2)]
      exact hA
theorem s_sl27a (g n cap k : Nat) (hk : k ≤ n) (hn : n ≤ cap) {w : World} : (Instr.sliceAt 27 (.slice (some ⟨g, 0, none⟩) n cap) none (some (.int .i64 (k : Int))) none).run Tryz.prog w = .ok (.slice (some ⟨g, 0, none⟩) k cap) w := by
  have h1 : (k : Int) ≤ (cap : Int) := by omega
  have u := Tryz.underlying27
  have z := Tryz.sizeOf24
  simp [Instr.sliceAt, go_sem, u, z, h1]
end Go.Proofs.YtjopnhhdemfniaaGreatDoor
namespace Go.Proofs.YtjopnhhdemfniaaGreatDoor
open Go.RowKit
set_option maxHeartbeats 4000000
theorem pvs_cat (L M : List Pv) : pvs (L ++ M) = pvs L ++ pvs M := by simp [pvs]
/-- append(v, pages...): the pages stand anywhere. -/
theorem appP_run (T : TypeId) (v : Value) (L M : List Pv) (w : World) (h : w.ownsRow 0 24 5 v L.length (pvs L)) (a : Addr) (c : Nat) (hM : ∀ j u, (pvs M)[j]? = some u → w.cell? (a.add j) = some u) (hone : ∀ u ∈ pvs M, u.oneCell' = true) (hn : L.length + M.length ≤ 1000000000) :
    ∃ v' w', (Builtin.append_ #[27, 27] T #[v, .slice (some a) M.length c]).run Tryz.prog w = .ok v' w' ∧ w'.ownsRow 0 24 5 v' (L ++ M).length (pvs (L ++ M)) ∧ Only (fun k => v.ownBlock = some k) w w' ∧ (∀ k, v'.ownBlock = some k → v.ownBlock = some k ∨ w.heap.size ≤ k) := by
  obtain ⟨i0, hi, hz0, hz1, hz2⟩ := info_parts info24p
  obtain ⟨v', w', hr, h2, h3, _, h5⟩ := run_append_own_at (P := Tryz.prog) w 0 27 T 24 i0 _ 5 64 Tryz.underlying27 hi hz0 hz1 hz2 rfl (by decide) v L.length (pvs L) h a M.length c (pvs M) (pvs_len M) hM hone (by unfold maxLen; omega) (by omega) (Nat.zero_le _)
  refine ⟨v', w', hr, ?_, Only.of_grown h3, ?_⟩
  · rw [List.length_append, pvs_cat]
    exact h2
  · intro k hk
    rcases h5 with h5 | h5
    · left; rw [← h5]; exact hk
    · right; rw [hk] at h5; have := Option.some.inj h5; omega
/-- The cells of an own list of pages, as what is appended. -/
theorem pvs_cells {w : World} {g n cap : Nat} {L : List Pv} (h : w.ownsRow 0 24 5 (.slice (some ⟨g, 0, none⟩) n cap) n (pvs L)) : ∀ j u, (pvs L)[j]? = some u → w.cell? ((⟨g, 0, none⟩ : Addr).add j) = some u := World.ownsRow.cells h (g := g) rfl
def born (b : Int) (x : Pv) : Pv := ({ x.1 with birth := b }, x.2)
theorem pvs_born (L : List Pv) (j : Nat) (b : Int) : (pvs L).set (j * 5 + 2) (I b) = pvs (L.modify j (born b)) := by
  induction L generalizing j with
  | nil => simp [pvs]
  | cons x L ih =>
    cases j with
    | zero => simp [pvs, pvc, born]
    | succ j =>
      have := ih j
      simp only [pvs, List.flatMap_cons, List.modify_succ_cons] at *
      rw [show (j + 1) * 5 + 2 = (pvc x).length + (j * 5 + 2) by simp [pvc]; omega, List.set_append_right _ _ (by omega), Nat.add_sub_cancel_left, this]
theorem pvs_at2 (L : List Pv) (j : Nat) (h : j < L.length) : ∃ u, (pvs L)[j * 5 + 2]? = some u := by
  refine ⟨_, List.getElem?_eq_getElem ?_⟩
  rw [pvs_len]
  omega
end Go.Proofs.YtjopnhhdemfniaaGreatDoor
namespace Go.Proofs.YtjopnhhdemfniaaGreatDoor
open Go.RowKit
set_option maxHeartbeats 8000000
set_option maxRecDepth 8000
/-- What a state's pages are in memory. -/
def Sps (w : World) (q : Option Addr) (L : List Pv) : Prop := (0 < L.length → ∃ g o, q = some ⟨g, o, none⟩ ∧ ∀ j u, (pvs L)[j]? = some u → w.cell? ⟨g, o + j, none⟩ = some u) ∧ Pgs w q L.length (L.map (·.1))
theorem Sps.below {w w' : World} {q : Option Addr} {L : List Pv} (h : Sps w q L) (hb : Below w.heap.size w w') : Sps w' q L := by
  refine ⟨fun h0 => ?_, h.2.below hb⟩
  obtain ⟨g, o, e, hc⟩ := h.1 h0
  exact ⟨g, o, e, fun j u hj => (hb.cell (by exact blk_lt (hc j u hj))).trans (hc j u hj)⟩
/-- Pages whose births were written so far. -/
def bkl (L : List Pv) (b : Int) (k : Nat) : List Pv := (L.take k).map (born b) ++ L.drop k
theorem bkl_zero (L : List Pv) (b : Int) : bkl L b 0 = L := by simp [bkl]
theorem bkl_len (L : List Pv) (b : Int) (k : Nat) : (bkl L b k).length = L.length := by
  simp [bkl]
  omega
theorem bkl_next (L : List Pv) (b : Int) (k : Nat) (h : k < L.length) : (bkl L b k).modify k (born b) = bkl L b (k + 1) := by
  induction L generalizing k with
  | nil => simp at h
  | cons x L ih =>
    cases k with
    | zero => simp [bkl]
    | succ k =>
      have := ih k (by simpa using h)
      simp only [bkl, List.take_succ_cons, List.drop_succ_cons, List.map_cons, List.cons_append, List.modify_succ_cons] at *
      rw [this]
theorem pvs_one (L : List Pv) (h : ∀ x ∈ L, x.2.oneCell' = true) : ∀ u ∈ pvs L, u.oneCell' = true := by
  intro u hu
  obtain ⟨x, hx, hu⟩ := List.mem_flatMap.1 hu
  simp only [pvc, List.mem_cons, List.not_mem_nil, or_false] at hu
  rcases hu with rfl | rfl | rfl | rfl | rfl
  · rfl
  · rfl
  · rfl
  · exact h x hx
  · rfl
end Go.Proofs.YtjopnhhdemfniaaGreatDoor
