import Derived.Test.YtjopnhhdemfniaaGreatDoorZpgc
import Derived.Test.YtjopnhhdemfniaaGreatDoorZphd
import Derived.Test.YtjopnhhdemfniaaGreatDoorZhnu
import Derived.Test.YtjopnhhdemfniaaGreatDoorZdetl
import Derived.Test.YtjopnhhdemfniaaGreatDoorZpgf
import Derived.Test.YtjopnhhdemfniaaGreatDoorPjh
namespace Go.Proofs.YtjopnhhdemfniaaGreatDoor
open Go.RowKit
set_option maxHeartbeats 8000000
set_option maxRecDepth 8000
theorem s_mul (x y : Operand) (a b : Int) (h0 : -9223372036854775808 ≤ a * b) (h1 : a * b ≤ 9223372036854775807) {w : World} : (do eqGuard .mul 3 x y (I a) (I b); binOp .mul 3 (I a) (I b) : Sem Value).run Tryz.prog w = .ok (I (a * b)) w := by
  have q : IntKind.i64.wrap (a * b) = a * b := by rw [IntKind.wrap_i64]; omega
  simp [go_sem, eqGuard, q]
theorem s_add (x y : Operand) (a b : Int) (h0 : -9223372036854775808 ≤ a + b) (h1 : a + b ≤ 9223372036854775807) {w : World} : (do eqGuard .add 3 x y (I a) (I b); binOp .add 3 (I a) (I b) : Sem Value).run Tryz.prog w = .ok (I (a + b)) w := by
  have q : IntKind.i64.wrap (a + b) = a + b := by rw [IntKind.wrap_i64]; omega
  simp [go_sem, eqGuard, q]
end Go.Proofs.YtjopnhhdemfniaaGreatDoor
