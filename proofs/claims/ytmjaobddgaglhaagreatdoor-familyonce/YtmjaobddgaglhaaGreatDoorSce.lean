import Derived.Test.YtmjaobddgaglhaaGreatDoorZscb
import Derived.Test.YtmjaobddgaglhaaGreatDoorProg
import Derived.Test.YtmjaobddgaglhaaGreatDoorZdsa
import Derived.Lib.Split
import Derived.Lib.SplitLaws
import Derived.Lib.IndexBytes
namespace Go.Proofs.YtmjaobddgaglhaaGreatDoor
open Go.RowKit Go.Lib
def cellsS (l : List Bs) : Array Value := (l.map fun x => S x).toArray
theorem sts_new (w : World) (l : List Bs) : Sts (w.alloc (.cells (cellsS l) 9)) (some ⟨w.heap.size, 0, none⟩) l.length l := by
  refine ⟨rfl, fun _ => ⟨w.heap.size, 0, rfl, fun j hj => ?_⟩⟩
  rw [Nat.zero_add]
  rw [cell_of_row _ _ j _ 9 (0, 0) (heap_alloc_new _ _)]
  simp [cellsS, hj]
end Go.Proofs.YtmjaobddgaglhaaGreatDoor
