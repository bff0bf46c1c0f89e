import Derived.Test.YtmjaobddgaglhaaGreatDoorZfmi
import Derived.Test.YtmjaobddgaglhaaGreatDoorFml
import Derived.Test.YtmjaobddgaglhaaGreatDoorZsmc
import Derived.Deep.QuietTactic
import Derived.BigQuiet
import Derived.Deep.Cut
import Derived.Deep.CutRange
/- FamilyBegins. -/
namespace Go.Proofs.YtmjaobddgaglhaaGreatDoor
open Go.RowKit Go.Lib
set_option maxHeartbeats 8000000
set_option maxRecDepth 20000
theorem wp_run {ops : Array Oper} {rest : List Oper} {o : Oper} {a : Act} {w w' : World} {r : Value} {Q : Exit → Act → World → Prop} (hgd : o.guard = none) (he : (execOp a.eval o).run Tryz.prog w = .ok (.value r) w') (h : wpList Tryz.prog ops Q rest (a.put o.dst r) w') : wpList Tryz.prog ops Q (o :: rest) a w := by
  refine wpList_plain hgd fun K hK => ?_
  unfold Oper.wp
  rw [he]
  exact hK _ _ h
end Go.Proofs.YtmjaobddgaglhaaGreatDoor
