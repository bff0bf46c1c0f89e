import Derived.Test.YtllialbdofklgaaGreatDoorNfc
import Derived.Test.YtllialbdofklgaaGreatDoorZndg
namespace Go.Proofs.YtllialbdofklgaaGreatDoor
open Go.RowKit
set_option maxHeartbeats 16000000
set_option maxRecDepth 8000
theorem alloc_old (w : World) (o : Obj) {r : Nat} (h : r < w.heap.size) : (w.alloc o).heap[r]? = w.heap[r]? := ((Below.refl w.heap.size w).alloc (Nat.le_refl _) o).block r h
theorem owns_base {B B' e n m : Nat} {w : World} {v : Value} {xs : List Value} (hB : B' ≤ B) (h : w.ownsRow B e n v m xs) : w.ownsRow B' e n v m xs := by
  refine ⟨h.1, ?_⟩
  rcases h.2 with q | ⟨g, cap, cur, e1, e2, e3⟩
  · exact .inl q
  · exact .inr ⟨g, cap, cur, e1, Nat.le_trans hB e2, e3⟩
theorem owns_ge {B e n m : Nat} {w : World} {v : Value} {xs : List Value} (h : w.ownsRow B e n v m xs) : ∀ k, v.ownBlock = some k → B ≤ k := by
  intro k hk
  rcases h.2 with ⟨e1, _⟩ | ⟨g, cap, cur, e1, e2, e3⟩
  · rw [e1] at hk; cases hk
  · rw [e1] at hk
    cases hk
    exact e2
end Go.Proofs.YtllialbdofklgaaGreatDoor
