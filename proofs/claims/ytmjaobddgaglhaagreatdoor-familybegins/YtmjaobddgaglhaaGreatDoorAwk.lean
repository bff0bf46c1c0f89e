import Derived.Test.YtmjaobddgaglhaaGreatDoorZrgpr
import Derived.Test.YtmjaobddgaglhaaGreatDoorZfde
namespace Go.Proofs.YtmjaobddgaglhaaGreatDoor
open Go.RowKit
set_option maxHeartbeats 4000000
set_option maxRecDepth 8000
theorem g7 : keyG [107, 0, 0, 0, 7] (ab ++ [0, 0, 0, 0, 0, 5, 0, 0, 0, 0, 0, 9]) = true := by decide +kernel
end Go.Proofs.YtmjaobddgaglhaaGreatDoor
