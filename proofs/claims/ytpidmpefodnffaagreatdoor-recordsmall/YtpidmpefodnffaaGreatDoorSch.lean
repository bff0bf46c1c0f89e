import Derived.Test.YtpidmpefodnffaaGreatDoorSce
import Derived.Maps.OwnSet
import Derived.Maps.RangeWalk
import Derived.Sort.KeysCollected
import Derived.Sort.OwnSorted
import Derived.OwnWalk
import Derived.Maps.AppendAt
namespace Go.Proofs.YtpidmpefodnffaaGreatDoor
open Go.RowKit Go.Lib Go.Maps Go.Sort
/-- Texts in memory of one's own. -/
def OwnS (B : Nat) (w : World) (v : Value) (l : List Bs) : Prop := w.ownsRow B 9 1 v l.length (l.map encStr)
end Go.Proofs.YtpidmpefodnffaaGreatDoor
