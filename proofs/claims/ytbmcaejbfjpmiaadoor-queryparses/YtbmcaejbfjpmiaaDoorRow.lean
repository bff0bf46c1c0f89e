import Derived.Test.YtbmcaejbfjpmiaaDoorMrk
namespace Go.Proofs.YtbmcaejbfjpmiaaDoor
open Go.RowKit Go.Lib
/-- A slice of fields that has its block for itself. -/
def Row (w : World) (v : Value) (L : List Fl) : Prop := w.ownsRow 0 44 2 v L.length (cellsF L)
theorem Row.form {w : World} {v : Value} {L : List Fl} (h : Row w v L) : (v = .slice none 0 0 ∧ L = []) ∨ ∃ g cap cur, v = .slice (some ⟨g, 0, none⟩) L.length cap ∧ w.heap[g]? = some (.cells cur 44 (0, 0)) ∧ L.length ≤ cap ∧ cap ≤ maxLen ∧ cur.size = cap * 2 ∧ cur.toList.take (L.length * 2) = cellsF L := by
  rcases h.2 with ⟨e, q⟩ | ⟨g, cap, cur, e1, _, e2, e3, e4, e5, e6⟩
  · exact .inl ⟨e, List.eq_nil_of_length_eq_zero q⟩
  · exact .inr ⟨g, cap, cur, e1, e2, e3, e4, e5, e6⟩
theorem Row.keep {w w' : World} {v : Value} {L : List Fl} (h : Row w v L) (hb : ∀ g, v.ownBlock = some g → w'.heap[g]? = w.heap[g]?) : Row w' v L := by
  refine ⟨h.1, ?_⟩
  rcases h.2 with q | ⟨g, cap, cur, e1, e2, e3, e4⟩
  · exact .inl q
  · exact .inr ⟨g, cap, cur, e1, e2, (hb g (by rw [e1]; rfl)).trans e3, e4⟩
theorem Row.lt {w : World} {v : Value} {L : List Fl} (h : Row w v L) : ∀ g, v.ownBlock = some g → g < w.heap.size := fun g hg => (World.ownsRow.lt h g hg).2
theorem Row.below {w w' : World} {v : Value} {L : List Fl} (h : Row w v L) (k : Below w.heap.size w w') : Row w' v L := h.keep (fun g hg => k.block g (h.lt g hg))
theorem Row.fls {w : World} {v : Value} {L : List Fl} (h : Row w v L) : ∃ p cap, v = .slice p L.length cap ∧ Fls w p L.length L := by
  have hc := fun {g : Nat} (hg : v.ownBlock = some g) => World.ownsRow.cells h hg
  rcases h.form with ⟨e, q⟩ | ⟨g, cap, cur, e1, e2⟩
  · subst q
    exact ⟨none, 0, by rw [e]; rfl, rfl, fun h => by simp at h⟩
  · refine ⟨_, cap, e1, rfl, fun _ => ⟨g, 0, rfl, fun j hj => ?_⟩⟩
    subst e1
    obtain ⟨h1, h2⟩ := cellsF_at L j hj
    have a1 := hc (g := g) rfl _ _ h1
    have a2 := hc (g := g) rfl _ _ h2
    have hadd : ∀ i, (⟨g, 0, none⟩ : Addr).add i = ⟨g, i, none⟩ := fun i => by unfold Addr.add; split <;> simp_all
    rw [hadd] at a1 a2
    rw [Nat.zero_add]
    exact ⟨a1, a2⟩
theorem cellsF_set2 (L : List Fl) (k : Nat) (f : Fl) (h : k < L.length) : ((cellsF L).set (k * 2) (S f.1)).set (k * 2 + 1) (S f.2) = cellsF (L.set k f) := by
  induction L generalizing k with
  | nil => simp at h
  | cons g l ih =>
    have e : cellsF (g :: l) = S g.1 :: S g.2 :: cellsF l := by simp [cellsF]
    cases k with
    | zero => simp [cellsF]
    | succ k =>
      rw [e, show (k + 1) * 2 = k * 2 + 1 + 1 by omega, List.set_cons_succ, List.set_cons_succ, List.set_cons_succ, List.set_cons_succ, ih k (by simpa using h), List.set_cons_succ]
      simp [cellsF]
/-- A field of it is written over. -/
theorem Row.set {w : World} {v : Value} {L : List Fl} (h : Row w v L) (g k : Nat) (hg : v.ownBlock = some g) (hk : k < L.length) (f : Fl) : Row ((w.setCell ⟨g, k * 2, none⟩ (S f.1)).setCell ⟨g, k * 2 + 1, none⟩ (S f.2)) v (L.set k f) := by
  rcases h.form with ⟨e, _⟩ | ⟨g', cap, cur, e1, e2, e3, e4, e5, e6⟩
  · rw [e] at hg; cases hg
  · have eg : g' = g := by rw [e1] at hg; simpa [Value.ownBlock] using hg
    subst eg
    refine ⟨by rw [cellsF_len], .inr ⟨g', cap, (cur.setIfInBounds (k * 2) (S f.1)).setIfInBounds (k * 2 + 1) (S f.2), by rw [List.length_set]; exact e1, Nat.zero_le _, ?_, by rw [List.length_set]; exact e3, e4, by simp [e5], ?_⟩⟩
    · rw [heap_setCell_same _ _ _ _ 44 _ (heap_setCell_same w g' (k * 2) cur 44 (S f.1) e2)]
    · rw [List.length_set, Array.toList_setIfInBounds, Array.toList_setIfInBounds, List.take_set, List.take_set, e6, cellsF_set2 L k f hk]
/-- It grows by one field: what stood in its block below its length stands there still. -/
theorem setCells_other {w : World} {g k : Nat} {a b : Value} {i : Nat} (h : i ≠ g) : ((w.setCell ⟨g, k, none⟩ a).setCell ⟨g, k + 1, none⟩ b).heap[i]? = w.heap[i]? := by
  rw [Below.heap_setCell _ _ _ _ h, Below.heap_setCell _ _ _ _ h]
end Go.Proofs.YtbmcaejbfjpmiaaDoor
