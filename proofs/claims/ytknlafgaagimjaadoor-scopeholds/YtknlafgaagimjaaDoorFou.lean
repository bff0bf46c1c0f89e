import Derived.Test.YtknlafgaagimjaaDoorRgq
namespace Go.Proofs.YtknlafgaagimjaaDoor
open Go.RowKit Go.Lib
/-- A row of n lists of fields, in block G: each list has a block of its own, no two the same, none below B. -/
structure Rows (B G n : Nat) (vs : Nat → Value) (w : World) (Ls : Nat → List Bs) : Prop where
  kind : ∃ cur, w.heap[G]? = some (.cells cur 24 (0, 0))
  high : B ≤ G
  cell : ∀ i, i < n → w.cell? ⟨G, i, none⟩ = some (vs i)
  row : ∀ i, i < n → Row w (vs i) (Ls i)
  apart : ∀ i j, i < n → j < n → i ≠ j → ∀ g, (vs i).ownBlock = some g → (vs j).ownBlock ≠ some g
  above : ∀ i, i < n → ∀ g, (vs i).ownBlock = some g → B ≤ g
variable {B G n : Nat} {vs : Nat → Value} {w w' : World} {Ls : Nat → List Bs}
theorem Rows.neG (h : Rows B G n vs w Ls) (i : Nat) (hi : i < n) : (vs i).ownBlock ≠ some G := by
  intro e
  obtain ⟨c1, h1⟩ := h.kind
  obtain ⟨c2, h2⟩ := (h.row i hi).kind G e
  rw [h1] at h2
  cases h2
theorem Rows.ltG (h : Rows B G n vs w Ls) : G < w.heap.size := by
  obtain ⟨c1, h1⟩ := h.kind
  exact (Array.getElem?_eq_some_iff.1 h1).1
theorem Rows.below (h : Rows B G n vs w Ls) (k : Below w.heap.size w w') : Rows B G n vs w' Ls := by
  obtain ⟨c1, h1⟩ := h.kind
  have e := k.block G h.ltG
  exact ⟨⟨c1, e.trans h1⟩, h.high, fun i hi => (World.cell?_of_block e).trans (h.cell i hi), fun i hi => (h.row i hi).below k, h.apart, h.above⟩
/-- A field of the i-th list is written over. -/
theorem Rows.set (h : Rows B G n vs w Ls) (i k g : Nat) (hi : i < n) (hg : (vs i).ownBlock = some g) (f : Bs) :
    Rows B G n vs (w.setCell ⟨g, k, none⟩ (S f)) (fun j => if j = i then (Ls i).set k f else Ls j) := by
  have hne : G ≠ g := fun e => h.neG i hi (by rw [hg, e])
  have e := setCells_other (w := w) (k := k) (a := S f) hne
  obtain ⟨c1, h1⟩ := h.kind
  refine ⟨⟨c1, e.trans h1⟩, h.high, fun j hj => (World.cell?_of_block e).trans (h.cell j hj), fun j hj => ?_, h.apart, h.above⟩
  by_cases hji : j = i
  · subst hji
    rw [if_pos rfl]
    exact (h.row j hj).set g k hg f
  · rw [if_neg hji]
    exact (h.row j hj).keep (fun g' hg' => setCells_other (fun e' => h.apart j i hj hi hji g' hg' (by rw [hg, e'])))
/-- Where the i-th list lies, if it has a k-th field. -/
theorem Rows.at (h : Rows B G n vs w Ls) (i k : Nat) (hi : i < n) (hk : k < (Ls i).length) : ∃ g cap cur, vs i = .slice (some ⟨g, 0, none⟩) (Ls i).length cap ∧ (vs i).ownBlock = some g ∧ w.heap[g]? = some (.cells cur 9 (0, 0)) ∧ k < cur.size ∧ B ≤ g ∧ g < w.heap.size ∧ g ≠ G := by
  rcases (h.row i hi).form with ⟨_, q⟩ | ⟨g, cap, cur, e1, e2, e3, e4, e5, e6⟩
  · rw [q] at hk; simp at hk
  · have eo : (vs i).ownBlock = some g := by rw [e1]; rfl
    refine ⟨g, cap, cur, e1, eo, e2, by omega, h.above i hi g eo, (Array.getElem?_eq_some_iff.1 e2).1, fun e => h.neG i hi (by rw [eo, e])⟩
/-- What stands when i lists are all marks and k fields of the next one are. -/
def part (Ls : Nat → List Bs) (i k : Nat) : Nat → List Bs := fun j => if j < i then List.replicate (Ls j).length (mk j) else if j = i then List.replicate (min k (Ls j).length) (mk j) ++ (Ls j).drop k else Ls j
theorem part_zero (Ls : Nat → List Bs) : part Ls 0 0 = Ls := by
  funext j
  unfold part
  by_cases h : j = 0 <;> simp [h]
theorem part_len (Ls : Nat → List Bs) (i k j : Nat) : (part Ls i k j).length = (Ls j).length := by
  unfold part
  split
  · simp
  · split
    · simp; omega
    · rfl
theorem part_step (Ls : Nat → List Bs) (i k : Nat) (hk : k < (Ls i).length) : (fun j => if j = i then (part Ls i k i).set k (mk i) else part Ls i k j) = part Ls i (k + 1) := by
  funext j
  by_cases hj : j = i
  · subst hj
    rw [if_pos rfl]
    unfold part
    rw [if_neg (Nat.lt_irrefl _), if_pos rfl, if_neg (Nat.lt_irrefl _), if_pos rfl, Nat.min_eq_left (Nat.le_of_lt hk), Nat.min_eq_left hk, List.set_append_right _ _ (by simp)]
    simp [List.replicate_succ']
    rw [List.drop_eq_getElem_cons hk]
    rfl
  · rw [if_neg hj]
    unfold part
    simp [hj]
theorem part_next (Ls : Nat → List Bs) (i : Nat) : part Ls i (Ls i).length = part Ls (i + 1) 0 := by
  funext j
  unfold part
  by_cases h1 : j < i
  · rw [if_pos h1, if_pos (by omega)]
  · by_cases h2 : j = i
    · subst h2
      rw [if_neg h1, if_pos rfl, if_pos (by omega)]
      simp
    · rw [if_neg h1, if_neg h2, if_neg (by omega)]
      split <;> simp
end Go.Proofs.YtknlafgaagimjaaDoor
