import Derived.Test.YtmjaobddgaglhaaGreatDoorLai
import Derived.Test.YtmjaobddgaglhaaGreatDoorZdsa
import Derived.Deep.Slices
import Derived.SizedLaws
import Derived.SliceStrings
namespace Go.Proofs.YtmjaobddgaglhaaGreatDoor
open Go Go.ChangeShapes Go.WideShapes Go.ChangeAt
theorem cells9 : Tryz.prog.cellsOf 9 = 1 := by kernel_rfl
theorem laidOut : laidOutB Tryz.prog = true := by kernel_rfl
end Go.Proofs.YtmjaobddgaglhaaGreatDoor
