import Derived.Test.YtmjaobddgaglhaaGreatDoorZfmi
import Derived.Test.YtmjaobddgaglhaaGreatDoorZdetl
import Derived.Test.YtmjaobddgaglhaaGreatDoorZsmc
import Derived.Deep.QuietTactic
import Derived.BigQuiet
import Derived.Laws.CopyRow
import Derived.Laws.MakeOwn
/- Both Begins. -/
namespace Go.Proofs.YtmjaobddgaglhaaGreatDoor
open Go.RowKit
set_option maxHeartbeats 4000000
set_option maxRecDepth 8000
section
variable {K : Nat} {W0 : World} {F : Value → Array Value} {Z T Y : Array Value} {r : List Bs} {c : Option Addr × Nat × Nat × Nat} {L : Nat → Bool} {W W2 : World}
end
theorem part17 {W : World} {g o n : Nat} {CS : Array Value} {t : TypeId} {f : Nat × Nat} {vs : List Value} (hr : W.heap[g]? = some (.cells CS t f)) (h : (CS.toList.drop o).take n = vs) (hn : vs.length = n) {j : Nat} {v : Value} (hj : vs[j]? = some v) : W.cell? ⟨g, o + j, none⟩ = some v := by
  have hl : j < n := by rw [← hn]; exact (List.getElem?_eq_some_iff.1 hj).1
  rw [cell_of_row W g (o + j) CS t f hr, ← hj, ← h, List.getElem?_take_of_lt hl, List.getElem?_drop, Array.getElem?_toList]
end Go.Proofs.YtmjaobddgaglhaaGreatDoor
