import Derived.Test.YtfaahjbkdlkmjaaDoorJet
/- Jot: Parse's deferred closure. -/
namespace Go.Proofs.YtfaahjbkdlkmjaaDoor
open Go Go.RowKit Go.Lib
set_option linter.unusedVariables false
set_option linter.unusedSimpArgs false
/-- Three boxes, written over. -/
theorem box7 {w : World} {g : Nat} {x0 x1 x2 x3 x4 y z : Value} (h1 : w.heap[g]? = some (.cells #[x0, x1, x2, x3, x4] 25 (0, 0))) (h2 : w.heap[g + 1]? = some (.cells #[y] 28 (0, 0))) (h3 : w.heap[g + 2]? = some (.cells #[z] 3 (0, 0))) (a b c d e f h : Value) :
    ∃ W, W = ((((((w.setCell ⟨g, 0, none⟩ a).setCell ⟨g, 1, none⟩ b).setCell ⟨g, 2, none⟩ c).setCell ⟨g, 3, none⟩ d).setCell ⟨g, 4, none⟩ e).setCell ⟨g + 1, 0, none⟩ f).setCell ⟨g + 2, 0, none⟩ h ∧
      W.heap[g]? = some (.cells #[a, b, c, d, e] 25 (0, 0)) ∧ W.heap[g + 1]? = some (.cells #[f] 28 (0, 0)) ∧ W.heap[g + 2]? = some (.cells #[h] 3 (0, 0)) ∧ Below g w W := by
  obtain ⟨w5, hw5⟩ : ∃ w5, set5 w g a b c d e = w5 := ⟨_, rfl⟩
  have s1 := set5_row h1 a b c d e
  have s2 := (set5_other w g (g + 1) a b c d e (by omega)).trans h2
  have s3 := (set5_other w g (g + 2) a b c d e (by omega)).trans h3
  have sb := set5_below w g g (Nat.le_refl _) a b c d e
  rw [hw5] at s1 s2 s3 sb
  refine ⟨_, rfl, ?_⟩
  unfold set5 at hw5
  rw [hw5]
  clear hw5
  obtain ⟨w6, hw6⟩ : ∃ w6, w5.setCell ⟨g + 1, 0, none⟩ f = w6 := ⟨_, rfl⟩
  have t1 := (heap_setCell_other w5 ⟨g + 1, 0, none⟩ g f (by simp)).trans s1
  have t2 := heap_setCell_same w5 (g + 1) 0 _ 28 f s2
  have t3 := (heap_setCell_other w5 ⟨g + 1, 0, none⟩ (g + 2) f (by simp)).trans s3
  have tb := sb.setCell (p := ⟨g + 1, 0, none⟩) (by simp) f
  rw [hw6] at t1 t2 t3 tb ⊢
  exact ⟨(heap_setCell_other w6 ⟨g + 2, 0, none⟩ g h (by simp)).trans t1, (heap_setCell_other w6 ⟨g + 2, 0, none⟩ (g + 1) h (by simp)).trans t2, heap_setCell_same w6 (g + 2) 0 _ 3 h t3, tb.setCell (p := ⟨g + 2, 0, none⟩) (by simp) h⟩
set_option maxHeartbeats 4000000 in
set_option maxRecDepth 20000 in
theorem catch15 (g : Nat) (x0 x1 x2 x3 x4 y z : Value) (E A : Int) (older : List PanicEntry) (w : World) (h1 : w.heap[g]? = some (.cells #[x0, x1, x2, x3, x4] 25 (0, 0))) (h2 : w.heap[g + 1]? = some (.cells #[y] 28 (0, 0))) (h3 : w.heap[g + 2]? = some (.cells #[z] 3 (0, 0))) :
    CallsD Tryd.prog 15 #[.pointer (some ⟨g, 0, none⟩), .pointer (some ⟨g + 1, 0, none⟩), .pointer (some ⟨g + 2, 0, none⟩)] (.panicking ({ v := flt E A, recovered := false } :: older)) w fun e u' w' =>
      e = .returned (.tuple #[]) ∧ u' = .panicking ({ v := flt E A, recovered := true } :: older) ∧ w'.heap[g]? = some (.cells #[I 0, I 0, S [], .slice none 0 0, .slice none 0 0] 25 (0, 0)) ∧ w'.heap[g + 1]? = some (.cells #[I E] 28 (0, 0)) ∧ w'.heap[g + 2]? = some (.cells #[I A] 3 (0, 0)) ∧ Below g w w' := by
  obtain ⟨w1, hw1⟩ : ∃ w1, w.alloc (.cells #[I E, I A] 39) = w1 := ⟨_, rfl⟩
  have hb1 : Below w.heap.size w w1 := by rw [← hw1]; exact (Below.refl _ _).alloc (Nat.le_refl _) _
  have hr1 : w1.heap[w.heap.size]? = some (.cells #[I E, I A] 39 (0, 0)) := by rw [← hw1]; exact heap_alloc_new w _
  have k1 := (hb1.block _ (lt_of_row h1)).trans h1
  have k2 := (hb1.block _ (lt_of_row h2)).trans h2
  have k3 := (hb1.block _ (lt_of_row h3)).trans h3
  have hlt := lt_of_row h1
  have b0 : w1.cell? ⟨w.heap.size, 0, none⟩ = some (I E) := by rw [cell_at hr1]; rfl
  have b1 : w1.cell? ⟨w.heap.size, 1, none⟩ = some (I A) := by rw [cell_at hr1]; rfl
  have c0 : w1.cell? ⟨g, 0, none⟩ = some x0 := by rw [cell_at k1]; rfl
  have c1 : w1.cell? ⟨g, 1, none⟩ = some x1 := by rw [cell_at k1]; rfl
  have c2 : w1.cell? ⟨g, 2, none⟩ = some x2 := by rw [cell_at k1]; rfl
  have c3 : w1.cell? ⟨g, 3, none⟩ = some x3 := by rw [cell_at k1]; rfl
  have c4 : w1.cell? ⟨g, 4, none⟩ = some x4 := by rw [cell_at k1]; rfl
  have c5 : w1.cell? ⟨g + 1, 0, none⟩ = some y := by rw [cell_at k2]; rfl
  have c6 : w1.cell? ⟨g + 2, 0, none⟩ = some z := by rw [cell_at k3]; rfl
  have z0 := frz k1 0
  have z1 := frz k1 1
  have z2 := frz k1 2
  have z3 := frz k1 3
  have z4 := frz k1 4
  have z5 := frz k2 0
  have z6 := frz k3 0
  have HK1 := hide k1
  have HK2 := hide k2
  have HK3 := hide k3
  have HB1 := hide hb1
  clear hb1 hr1 k1 k2 k3 h1 h2 h3
  refine callsD_of_wpS Tryd.func15 rfl fun c₀ cs hu => ?_
  apply wpS_seq
  apply wpS_region
  simp [wpOpsS, go_sem, recoverD, hu, Tryd.ntmps15, Exit.thenS]
  apply wpS_seq
  apply wpS_region
  simp [wpOpsS, go_sem, Exit.thenS]
  refine wpS_cond (t := true) (by rfl) ?_
  simp only [if_true]
  have t1 := ta_39 (.agg #[I E, I A])
  refine wpS_of_wp ?_
  change Code.wp Tryd.prog _ _ { tmps := #[.pointer (some ⟨g, 0, none⟩), .pointer (some ⟨g + 1, 0, none⟩), .pointer (some ⟨g + 2, 0, none⟩), flt E A, undef, flt E A, flt E A, .bool true, undef, undef, undef, undef, undef, undef, undef], defers := [] } w
  go_wp2_with fail
  try simp only [hw1]
  clear hw1
  go_region
  go_wp2_with fail
  clear b0 b1 c0 c1 c2 c3 c4 c5 c6 z0 z1 z2 z3 z4 z5 z6 t1
  have fin : ∀ W : World, W.heap[g]? = some (.cells #[I 0, I 0, S [], .slice none 0 0, .slice none 0 0] 25 (0, 0)) → W.heap[g + 1]? = some (.cells #[I E] 28 (0, 0)) → W.heap[g + 2]? = some (.cells #[I A] 3 (0, 0)) → Below g w W → ∀ tm : Array Value,
      bodyPostS Tryd.prog Tryd.f15 c₀ cs (fun e u' w' => e = .returned (.tuple #[]) ∧ u' = .panicking ({ v := flt E A, recovered := true } :: older) ∧ w'.heap[g]? = some (.cells #[I 0, I 0, S [], .slice none 0 0, .slice none 0 0] 25 (0, 0)) ∧ w'.heap[g + 1]? = some (.cells #[I E] 28 (0, 0)) ∧ w'.heap[g + 2]? = some (.cells #[I A] 3 (0, 0)) ∧ Below g w w')
        Exit.normal { tmps := tm, defers := [] } ({ fn := c₀.fn, tmps := c₀.tmps, todo := c₀.todo, defers := c₀.defers, mode := .panicking ({ v := flt E A, recovered := true } :: older), kind := c₀.kind, roundOf := c₀.roundOf } :: cs) W := by
    intro W a1 a2 a3 a4 tm
    simp [bodyPostS, results, Tryd.results15, a1, a2, a3, a4]
  obtain ⟨W, hW, f1, f2, f3, f4⟩ := box7 (unhide HK1) (unhide HK2) (unhide HK3) (I 0) (I 0) (S []) (.slice none 0 0) (.slice none 0 0) (I E) (I A)
  have f5 := ((unhide HB1).mono (show g ≤ w.heap.size by omega)).trans f4
  rw [← hW]
  clear hW f4
  exact fin W.drew f1 f2 f3 f5.drew _
set_option maxHeartbeats 4000000 in
set_option maxRecDepth 20000 in
theorem idle15 (p1 p2 p3 : Addr) (w : World) :
    CallsD Tryd.prog 15 #[.pointer (some p1), .pointer (some p2), .pointer (some p3)] .returning w fun e u' w' => e = .returned (.tuple #[]) ∧ u' = .returning ∧ w' = w := by
  refine callsD_of_wpS Tryd.func15 rfl fun c₀ cs hu => ?_
  apply wpS_seq
  apply wpS_region
  simp [wpOpsS, go_sem, recoverD, hu, Tryd.ntmps15, Exit.thenS]
  apply wpS_seq
  apply wpS_region
  simp [wpOpsS, go_sem, Exit.thenS]
  refine wpS_cond (t := false) (by rfl) ?_
  simp only [Bool.false_eq_true, if_false]
  refine wpS_of_wp (wp_skip ?_)
  cases c₀
  simp_all [bodyPostS, results, Tryd.results15]
end Go.Proofs.YtfaahjbkdlkmjaaDoor
