import Derived.Test.YtjopnhhdemfniaaGreatDoorQbj
import Derived.Test.YtjopnhhdemfniaaGreatDoorZqbe
import Derived.Deep.CutRange
import Derived.Deep.CutBlock
import Derived.Test.YtjopnhhdemfniaaGreatDoorZqaf
/- Pins in a row. -/
namespace Go.Proofs.YtjopnhhdemfniaaGreatDoor
open Go.RowKit
set_option maxHeartbeats 4000000
abbrev Pw := Pn × Value
end Go.Proofs.YtjopnhhdemfniaaGreatDoor
