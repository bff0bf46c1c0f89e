import Derived.Test.YtfaahjbkdlkmjaaDoorJxd
import Derived.Laws.Rows
/- Jot: a value's box, stored and loaded. -/
namespace Go.Proofs.YtfaahjbkdlkmjaaDoor
open Go Go.RowKit Go.Lib
set_option linter.unusedVariables false
theorem inf25s : (Tryd.prog.info? 25).map (·.size) = some 5 := by kernel_rfl
theorem st25 {ops : Array Oper} {rest : List Oper} {o : Oper} {a : Act} {w : World} {Q : Exit → Act → World → Prop} (hgd : o.guard = none) (x y : Operand) (ho : o.op = .store 25 x y)
    (P : Nat) (hx : a.eval x = .pointer (some ⟨P, 0, none⟩)) (vs : Array Value) (hy : a.eval y = .agg vs) (old : Array Value) (hv : vs.size = 5) (ho5 : old.size = 5) (hg : w.heap[P]? = some (.cells old 25 (0, 0))) (hone : vs.all (·.oneCell') = true)
    (h : wpList Tryd.prog ops Q rest (a.put o.dst undef) (w.setRow P vs)) : wpList Tryd.prog ops Q (o :: rest) a w :=
  wpList_store_row hgd 25 x y ho P vs hx hy 25 old hg (by rw [inf25s, hv]) (by rw [ho5, hv]) hone h
theorem ld25 {ops : Array Oper} {rest : List Oper} {o : Oper} {a : Act} {w : World} {Q : Exit → Act → World → Prop} (hgd : o.guard = none) (x : Operand) (ho : o.op = .load 25 x)
    (P : Nat) (hx : a.eval x = .pointer (some ⟨P, 0, none⟩)) (cs : Array Value) (hn : cs.size = 5) (hg : w.heap[P]? = some (.cells cs 25 (0, 0)))
    (h : wpList Tryd.prog ops Q rest (a.put o.dst (.agg cs)) w) : wpList Tryd.prog ops Q (o :: rest) a w :=
  wpList_load_row hgd 25 x ho P hx 25 cs (0, 0) _ hg Tryd.underlying25 rfl (by rw [inf25s, hn]) h
/-- A box that is made and filled. -/
theorem mk25 (w : World) (cs : Array Value) : ∃ W, W = (w.alloc (.cells #[I 0, I 0, S [], .slice none 0 0, .slice none 0 0] 25)).setRow w.heap.size cs ∧ W.heap[w.heap.size]? = some (.cells cs 25 (0, 0)) ∧ Below w.heap.size w W := by
  refine ⟨_, rfl, setRow_row (heap_alloc_new w _), ?_⟩
  exact bel_set ((Below.refl _ _).alloc (Nat.le_refl _) _) _ _ (Nat.le_refl _) (by simp)
end Go.Proofs.YtfaahjbkdlkmjaaDoor
