import Derived.Test.YtllialbdofklgaaGreatDoorNqe
import Derived.Test.YtllialbdofklgaaGreatDoorNqf
import Derived.Test.YtllialbdofklgaaGreatDoorZrgsd
import Derived.Test.YtllialbdofklgaaGreatDoorZnee
import Derived.Test.YtllialbdofklgaaGreatDoorZnds
namespace Go.Proofs.YtllialbdofklgaaGreatDoor
open Go.RowKit
set_option maxHeartbeats 16000000
set_option maxRecDepth 8000
/-- A node in a box. -/
def bxc (n : Nd) (ka va ia : Option Addr) (kc vc ic : Nat) : Array Value := #[.bool n.leaf, .slice ka n.keys.length kc, .slice va n.vals.length vc, .slice ia n.kids.length ic]
end Go.Proofs.YtllialbdofklgaaGreatDoor
