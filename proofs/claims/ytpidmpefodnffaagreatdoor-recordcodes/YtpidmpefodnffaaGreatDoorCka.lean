import Derived.Test.YtpidmpefodnffaaGreatDoorDsa
import Derived.WalkKit
import Derived.Laws.EntriesVeiled
namespace Go.Proofs.YtpidmpefodnffaaGreatDoor
open Go.RowKit
def st (n : Int) : Int := if n < -1099511627776 then -1099511627776 else if 1099511627776 < n then 1099511627776 else n
set_option maxHeartbeats 2000000
end Go.Proofs.YtpidmpefodnffaaGreatDoor
