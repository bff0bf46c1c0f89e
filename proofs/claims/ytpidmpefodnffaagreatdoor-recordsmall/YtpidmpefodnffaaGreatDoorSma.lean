import Derived.Test.YtpidmpefodnffaaGreatDoorNzb
import Derived.Test.YtpidmpefodnffaaGreatDoorZrca
import Derived.Test.YtpidmpefodnffaaGreatDoorRce
import Derived.Test.YtpidmpefodnffaaGreatDoorRcf
import Derived.Test.YtpidmpefodnffaaGreatDoorZpaa
import Derived.Test.YtpidmpefodnffaaGreatDoorZpac
import Derived.Test.YtpidmpefodnffaaGreatDoorZidx
namespace Go.Proofs.YtpidmpefodnffaaGreatDoor
open Go.RowKit
set_option maxHeartbeats 4000000
set_option maxRecDepth 8000
theorem ne30s (k v : Bs) (W : World) : (binOp .neq 30 (.agg #[S k, S v]) (.agg #[S k, S v])).run Tryz.prog W = .ok (.bool false) W := by
  rw [ne30]; simp
theorem ne60s (a : Int) (b : Bs) (c d : Int) (W : World) : (binOp .neq 60 (.agg #[I a, S b, I c, I d]) (.agg #[I a, S b, I c, I d])).run Tryz.prog W = .ok (.bool false) W := by
  simp [go_sem]
theorem ne62s (a b c d : Int) (f : Bs) (W : World) : (binOp .neq 62 (.agg #[I a, I b, I c, I d, S f]) (.agg #[I a, I b, I c, I d, S f])).run Tryz.prog W = .ok (.bool false) W := by
  simp [go_sem]
theorem ne64s (a b : Int) (c d : Bs) (W : World) : (binOp .neq 64 (.agg #[I a, I b, S c, S d]) (.agg #[I a, I b, S c, S d])).run Tryz.prog W = .ok (.bool false) W := by
  simp [go_sem]
theorem ne58s (a b c : Int) (d : Bs) (f : Int) (g : Bool) (h i : Int) (j : Bs) (W : World) : (binOp .neq 58 (.agg #[I a, I b, I c, S d, I f, .bool g, I h, I i, S j]) (.agg #[I a, I b, I c, S d, I f, .bool g, I h, I i, S j])).run Tryz.prog W = .ok (.bool false) W := by
  simp [go_sem]
end Go.Proofs.YtpidmpefodnffaaGreatDoor
