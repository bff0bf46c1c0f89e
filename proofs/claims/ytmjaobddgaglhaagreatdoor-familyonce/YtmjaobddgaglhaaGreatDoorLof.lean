import Derived.Test.YtmjaobddgaglhaaGreatDoorLif
import Derived.Test.YtmjaobddgaglhaaGreatDoorZfde
namespace Go.Proofs.YtmjaobddgaglhaaGreatDoor
open Go Go.ChangeShapes Go.WideShapes Go.ChangeAt
theorem cells3 : Tryz.prog.cellsOf 3 = 1 := by kernel_rfl
end Go.Proofs.YtmjaobddgaglhaaGreatDoor
