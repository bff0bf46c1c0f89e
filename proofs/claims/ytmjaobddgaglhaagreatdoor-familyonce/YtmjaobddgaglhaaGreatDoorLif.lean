import Derived.Test.YtmjaobddgaglhaaGreatDoorLai
import Derived.Test.YtmjaobddgaglhaaGreatDoorZdsa
import Derived.Deep.Slices
import Derived.SizedLaws
import Derived.SliceStrings
namespace Go.Proofs.YtmjaobddgaglhaaGreatDoor
open Go Go.ChangeShapes Go.WideShapes Go.ChangeAt
theorem laidOut : laidOutB Tryz.prog = true := by kernel_rfl
end Go.Proofs.YtmjaobddgaglhaaGreatDoor
