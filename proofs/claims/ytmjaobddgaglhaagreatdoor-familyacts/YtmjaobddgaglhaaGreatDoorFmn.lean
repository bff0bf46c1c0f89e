import Derived.Test.YtmjaobddgaglhaaGreatDoorZfmi
import Derived.Test.YtmjaobddgaglhaaGreatDoorZdetl
import Derived.Test.YtmjaobddgaglhaaGreatDoorZsmc
import Derived.Deep.Cut
import Derived.Deep.CutRange
/- FamilyBegins. -/
namespace Go.Proofs.YtmjaobddgaglhaaGreatDoor
open Go.RowKit Go.Lib
set_option maxHeartbeats 8000000
set_option maxRecDepth 20000
theorem ne26s (a b c : Int) (d : Bs) (e : Int) (f : Bool) (g h : Int) (i : Bs) (W : World) : (binOp .neq 26 (.agg #[I a, I b, I c, S d, I e, .bool f, I g, I h, S i]) (.agg #[I a, I b, I c, S d, I e, .bool f, I g, I h, S i])).run Tryz.prog W = .ok (.bool false) W := by
  simp [go_sem]
theorem wp_run {ops : Array Oper} {rest : List Oper} {o : Oper} {a : Act} {w w' : World} {r : Value} {Q : Exit → Act → World → Prop} (hgd : o.guard = none) (he : (execOp a.eval o).run Tryz.prog w = .ok (.value r) w') (h : wpList Tryz.prog ops Q rest (a.put o.dst r) w') : wpList Tryz.prog ops Q (o :: rest) a w := by
  refine wpList_plain hgd fun K hK => ?_
  unfold Oper.wp
  rw [he]
  exact hK _ _ h
theorem own_ne {B : Nat} {W : World} {v : Value} {u : List Bs} (h : OwnS B W v u) {b : Nat} (hb : b < B) : v.ownBlock ≠ some b := fun e => by
  have := (World.ownsRow.lt h b e).1
  omega
theorem own_ne2 {B : Nat} {W : World} {v : Value} {u : List Bs} (h : OwnS B W v u) {b : Nat} {cs : Array Value} {t : TypeId} (hr : W.heap[b]? = some (.cells cs t (0, 0))) (ht : t ≠ 9) : v.ownBlock ≠ some b := fun e => by
  rcases h.2 with q | ⟨g, cap, cur, e1, e2, e3, e4⟩
  · rw [q.1] at e; cases e
  · rw [e1] at e
    obtain rfl : g = b := by simpa [Value.ownBlock] using e
    rw [e3] at hr
    simp at hr
    exact ht hr.2.symm
theorem only_row {P : Nat → Prop} {W W2 : World} (h : Only P W W2) {b : Nat} {o : Obj} (hr : W.heap[b]? = some o) (hp : ¬ P b) : W2.heap[b]? = some o := (h.block b (lt_of_row hr) hp).trans hr
end Go.Proofs.YtmjaobddgaglhaaGreatDoor
