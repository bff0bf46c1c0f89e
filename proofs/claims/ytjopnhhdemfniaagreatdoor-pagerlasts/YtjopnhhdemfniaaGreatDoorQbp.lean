import Derived.Test.YtjopnhhdemfniaaGreatDoorZqbn
import Derived.Test.YtjopnhhdemfniaaGreatDoorZrgpn
import Derived.Test.YtjopnhhdemfniaaGreatDoorZpme
import Derived.Test.YtjopnhhdemfniaaGreatDoorZpis
import Derived.Test.YtjopnhhdemfniaaGreatDoorZpic
import Derived.Deep.QuietTactic
import Derived.BigQuiet
/- Pieces of the law's body. -/
namespace Go.Proofs.YtjopnhhdemfniaaGreatDoor
open Go.RowKit
set_option maxHeartbeats 4000000
theorem s_neS (x y : Operand) (s : Bs) {w : World} : (do eqGuard .neq 9 x y (S s) (S s); binOp .neq 9 (S s) (S s) : Sem Value).run Tryz.prog w = .ok (.bool false) w := by
  simp [eqGuard, binOp, go_sem, Op.stringOp]
variable {wr : World} {H G : List Int} {c : C3} {L : Nat → Bool} {W : World}
theorem app22_e (T : TypeId) (p q : Option Addr) (n cap c : Nat) (h : n ≤ cap) (w : World) : (Builtin.append_ #[22, 22] T #[.slice p n cap, .slice q 0 c]).run Tryz.prog w = .ok (.slice p n cap) w := by
  have z := Tryz.sizeOf3
  cases p <;> cases q <;> simp [Builtin.append_, go_sem, z, h, Builtin.lenOf, Builtin.firstCells, loadCells, storeCells]
end Go.Proofs.YtjopnhhdemfniaaGreatDoor
