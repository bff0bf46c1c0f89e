import Derived.Test.YtpidmpefodnffaaGreatDoorZrca
import Derived.Test.YtpidmpefodnffaaGreatDoorZfde
import Derived.Test.YtpidmpefodnffaaGreatDoorZfdj
import Derived.Test.YtpidmpefodnffaaGreatDoorZtra
import Derived.Test.YtpidmpefodnffaaGreatDoorZprc
import Derived.Test.YtpidmpefodnffaaGreatDoorZpaa
import Derived.Test.YtpidmpefodnffaaGreatDoorZidx
namespace Go.Proofs.YtpidmpefodnffaaGreatDoor
open Go.RowKit
set_option maxHeartbeats 4000000
set_option maxRecDepth 8000
theorem ne30s (k v : Bs) (W : World) : (binOp .neq 30 (.agg #[S k, S v]) (.agg #[S k, S v])).run Tryz.prog W = .ok (.bool false) W := by
  rw [ne30]; simp
end Go.Proofs.YtpidmpefodnffaaGreatDoor
