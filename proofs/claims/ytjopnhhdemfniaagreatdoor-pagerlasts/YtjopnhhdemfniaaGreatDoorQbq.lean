import Derived.Test.YtjopnhhdemfniaaGreatDoorQbp
import Derived.Test.YtjopnhhdemfniaaGreatDoorZqbn
import Derived.BigQuiet
import Derived.Deep.CutRange
import Derived.Deep.CutBlock
namespace Go.Proofs.YtjopnhhdemfniaaGreatDoor
open Go.RowKit
set_option maxHeartbeats 16000000
set_option maxRecDepth 8000
theorem wp_sl {ops : Array Oper} {rest : List Oper} {o : Oper} {act : Act} {Q : Exit → Act → World → Prop} {w : World} (hgd : o.guard = none) (t : TypeId) (x : Operand) (lo hi : Option Operand) (ho : o.op = .slice t x lo hi none) (vx : Value) (vl vh : Option Value) (hx : act.eval x = vx) (hl : lo.map act.eval = vl) (hh : hi.map act.eval = vh) (r : Value) (hr : (Instr.sliceAt t vx vl vh none).run Tryz.prog w = .ok r w) (hK : wpList Tryz.prog ops Q rest (act.put o.dst r) w) : wpList Tryz.prog ops Q (o :: rest) act w := by
  refine wpList_plain hgd fun K hK2 => ?_
  unfold Oper.wp
  simp only [g_sl ho hx hl hh rfl hr]
  exact hK2 _ _ hK
def i64 (z : Int) : Prop := -9223372036854775808 ≤ z ∧ z ≤ 9223372036854775807
end Go.Proofs.YtjopnhhdemfniaaGreatDoor
