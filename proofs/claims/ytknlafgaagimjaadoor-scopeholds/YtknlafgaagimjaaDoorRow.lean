import Derived.Test.YtknlafgaagimjaaDoorMrk
namespace Go.Proofs.YtknlafgaagimjaaDoor
open Go.RowKit Go.Lib
/-- A slice of fields that has its block for itself. -/
def Row (w : World) (v : Value) (L : List Bs) : Prop := w.ownsRow 0 9 1 v L.length (L.map fun x => S x)
theorem Row.form {w : World} {v : Value} {L : List Bs} (h : Row w v L) : (v = .slice none 0 0 ∧ L = []) ∨ ∃ g cap cur, v = .slice (some ⟨g, 0, none⟩) L.length cap ∧ w.heap[g]? = some (.cells cur 9 (0, 0)) ∧ L.length ≤ cap ∧ cap ≤ maxLen ∧ cur.size = cap * 1 ∧ cur.toList.take (L.length * 1) = L.map fun x => S x := by
  rcases h.2 with ⟨e, q⟩ | ⟨g, cap, cur, e1, _, e2, e3, e4, e5, e6⟩
  · exact .inl ⟨e, List.eq_nil_of_length_eq_zero q⟩
  · exact .inr ⟨g, cap, cur, e1, e2, e3, e4, e5, e6⟩
theorem Row.keep {w w' : World} {v : Value} {L : List Bs} (h : Row w v L) (hb : ∀ g, v.ownBlock = some g → w'.heap[g]? = w.heap[g]?) : Row w' v L := by
  refine ⟨h.1, ?_⟩
  rcases h.2 with q | ⟨g, cap, cur, e1, e2, e3, e4⟩
  · exact .inl q
  · exact .inr ⟨g, cap, cur, e1, e2, (hb g (by rw [e1]; rfl)).trans e3, e4⟩
theorem Row.lt {w : World} {v : Value} {L : List Bs} (h : Row w v L) : ∀ g, v.ownBlock = some g → g < w.heap.size := fun g hg => (World.ownsRow.lt h g hg).2
theorem Row.below {w w' : World} {v : Value} {L : List Bs} (h : Row w v L) (k : Below w.heap.size w w') : Row w' v L := h.keep (fun g hg => k.block g (h.lt g hg))
theorem Row.fls {w : World} {v : Value} {L : List Bs} (h : Row w v L) : ∃ p cap, v = .slice p L.length cap ∧ Sts w p L.length L := by
  have hO : Own 0 w v L := h
  obtain ⟨p, cap, e⟩ := hO.form
  subst e
  exact ⟨p, cap, rfl, hO.sts⟩
/-- A text of it is written over. -/
theorem Row.set {w : World} {v : Value} {L : List Bs} (h : Row w v L) (g k : Nat) (hg : v.ownBlock = some g) (f : Bs) : Row (w.setCell ⟨g, k, none⟩ (S f)) v (L.set k f) := by
  rcases h.form with ⟨e, _⟩ | ⟨g', cap, cur, e1, e2, e3, e4, e5, e6⟩
  · rw [e] at hg; cases hg
  · have eg : g' = g := by rw [e1] at hg; simpa [Value.ownBlock] using hg
    subst eg
    refine ⟨by simp, .inr ⟨g', cap, cur.setIfInBounds k (S f), by rw [List.length_set]; exact e1, Nat.zero_le _, ?_, by rw [List.length_set]; exact e3, e4, by simp [e5], ?_⟩⟩
    · rw [heap_setCell_same w g' k cur 9 (S f) e2]
    · rw [List.length_set, Array.toList_setIfInBounds, List.take_set, e6, List.map_set]
theorem setCells_other {w : World} {g k : Nat} {a : Value} {i : Nat} (h : i ≠ g) : (w.setCell ⟨g, k, none⟩ a).heap[i]? = w.heap[i]? := by
  rw [Below.heap_setCell _ _ _ _ h]
end Go.Proofs.YtknlafgaagimjaaDoor
