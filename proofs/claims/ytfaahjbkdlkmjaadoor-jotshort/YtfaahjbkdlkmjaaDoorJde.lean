import Derived.Test.YtfaahjbkdlkmjaaDoorJdd
import Derived.Defers
import Derived.Recover
import Derived.Laws.Pointers
/- Jot: Print. -/
namespace Go.Proofs.YtfaahjbkdlkmjaaDoor
open Go Go.RowKit Go.Lib
set_option linter.unusedVariables false
set_option linter.unusedSimpArgs false
set_option maxRecDepth 20000 in
theorem catch11 (g : Nat) (x : Value) (y : Value) (E A : Int) (older : List PanicEntry) (w : World) (h1 : w.heap[g]? = some (.cells #[x] 9 (0, 0))) (h2 : w.heap[g + 1]? = some (.cells #[y] 28 (0, 0))) :
    CallsD Tryd.prog 11 #[.pointer (some ⟨g, 0, none⟩), .pointer (some ⟨g + 1, 0, none⟩)] (.panicking ({ v := flt E A, recovered := false } :: older)) w fun e u' w' =>
      e = .returned (.tuple #[]) ∧ u' = .panicking ({ v := flt E A, recovered := true } :: older) ∧ w'.heap[g]? = some (.cells #[S []] 9 (0, 0)) ∧ w'.heap[g + 1]? = some (.cells #[I E] 28 (0, 0)) ∧ Below g w w' := by
  have c1 : w.cell? ⟨g, 0, none⟩ = some x := by rw [Lib.cell_of_heap h1]; rfl
  have c2 : w.cell? ⟨g + 1, 0, none⟩ = some y := by rw [Lib.cell_of_heap h2]; rfl
  have z1 : w.frozen? ⟨g, 0, none⟩ = false := Lib.frozen_of_heap h1 0
  have z2 : w.frozen? ⟨g + 1, 0, none⟩ = false := Lib.frozen_of_heap h2 0
  refine callsD_of_wpS Tryd.func11 rfl fun c₀ cs hu => ?_
  apply wpS_seq
  apply wpS_region
  simp [wpOpsS, go_sem, recoverD, hu, Tryd.ntmps11, Exit.thenS]
  apply wpS_seq
  apply wpS_region
  simp [wpOpsS, go_sem, Exit.thenS]
  refine wpS_cond (t := true) (by rfl) ?_
  simp only [if_true]
  have t1 := ta_39 (.agg #[I E, I A])
  have f0 : ∀ W : World, (Instr.field 39 (.agg #[I E, I A]) 0).run Tryd.prog W = .ok (I E) W := fun W => by kernel_rfl
  refine wpS_of_wp ?_
  change Code.wp Tryd.prog _ _ { tmps := #[.pointer (some ⟨g, 0, none⟩), .pointer (some ⟨g + 1, 0, none⟩), flt E A, flt E A, flt E A, .bool true, undef, undef, undef], defers := [] } w
  go_region
  simp [bodyPostS, results, Tryd.results11]
  have e1 : ((w.setCell ⟨g, 0, none⟩ (S [])).setCell ⟨g + 1, 0, none⟩ (I E)).heap[g]? = some (.cells #[S []] 9 (0, 0)) := by
    rw [heap_setCell_other _ _ _ _ (by simp)]
    exact heap_setCell_same w g 0 _ 9 (S []) h1
  have e2 : ((w.setCell ⟨g, 0, none⟩ (S [])).setCell ⟨g + 1, 0, none⟩ (I E)).heap[g + 1]? = some (.cells #[I E] 28 (0, 0)) :=
    heap_setCell_same _ (g + 1) 0 _ 28 (I E) ((heap_setCell_other _ _ _ _ (by simp)).trans h2)
  exact ⟨e1, e2, (((Below.refl g w).setCell (p := ⟨g, 0, none⟩) (Nat.le_refl _) _).setCell (p := ⟨g + 1, 0, none⟩) (by simp) _).drew⟩
set_option maxRecDepth 20000 in
theorem idle11 (p1 p2 : Addr) (w : World) :
    CallsD Tryd.prog 11 #[.pointer (some p1), .pointer (some p2)] .returning w fun e u' w' => e = .returned (.tuple #[]) ∧ u' = .returning ∧ w' = w := by
  refine callsD_of_wpS Tryd.func11 rfl fun c₀ cs hu => ?_
  apply wpS_seq
  apply wpS_region
  simp [wpOpsS, go_sem, recoverD, hu, Tryd.ntmps11, Exit.thenS]
  apply wpS_seq
  apply wpS_region
  simp [wpOpsS, go_sem, Exit.thenS]
  refine wpS_cond (t := false) (by rfl) ?_
  simp only [Bool.false_eq_true, if_false]
  refine wpS_of_wp (wp_skip ?_)
  cases c₀
  simp_all [bodyPostS, results, Tryd.results11]
end Go.Proofs.YtfaahjbkdlkmjaaDoor
