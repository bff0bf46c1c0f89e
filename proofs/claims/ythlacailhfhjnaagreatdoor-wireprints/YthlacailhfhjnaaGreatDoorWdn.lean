import Derived.Test.YthlacailhfhjnaaGreatDoorWgb
import Derived.Deep.QuietTactic
import Derived.BigQuiet
namespace Go.Proofs.YthlacailhfhjnaaGreatDoor
open Go.RowKit Go.Lib
set_option maxHeartbeats 8000000 in
set_option maxRecDepth 8000 in
theorem fields_eq (a1 a2 : Option Addr) (n c1 c2 : Nat) (fs : List Fl) (w : World) (h1 : Fls w a1 n fs) (h2 : Fls w a2 n fs) (hn : n ≤ 1000000000000) :
    Calls Tryz.prog 54 #[.slice a1 n c1, .slice a2 n c2] w fun e w' => e = .returned (.bool true) ∧ Below w.heap.size w w' := by
  have H1 := hide h1
  have H2 := hide h2
  clear h1 h2
  go_enter Tryz.func54, Tryz.ntmps54
  go_wp2
  go_loopw [5] (fun i wr => ∃ k : Nat, k ≤ n ∧ i = .int .i64 k ∧ Below w.heap.size w wr) (fun i _ => n - (Go.RowKit.intOf i).toNat)
  case atStart => exact ⟨0, by omega, rfl, Below.refl _ _⟩
  case round =>
    obtain ⟨k, hk, rfl, hb⟩ := hrel
    by_cases hlt : k < n
    · obtain ⟨p, o, rfl, hpl, hc0, hc1⟩ := ((unhide H1).below hb).at hlt
      obtain ⟨p2, o2, rfl, hpl2, hd0, hd1⟩ := ((unhide H2).below hb).at hlt
      generalize fs.getD k fl0 = F at *
      obtain ⟨fn, fv⟩ := F
      simp only at hc0 hc1 hd0 hd1
      have hlt' : (k : Int) < (n : Int) := by omega
      have HB := hide hb
      clear hb
      go_wp2
      go_quiet (fail)
      have HB2 := hide (below_dN (unhide HB) nq)
      generalize wr.drewN nq = w2 at *
      go_wp2
      refine ⟨⟨k + 1, by omega, by go_num, unhide HB2⟩, ?_⟩
      simp [Go.RowKit.intOf]; omega
    · have hd : decide (k < n) = false := by simp; omega
      have HB := hide hb
      clear hb
      go_wp2
      go_ret
      exact ⟨rfl, unhide HB⟩
set_option maxHeartbeats 8000000 in
set_option maxRecDepth 8000 in
theorem sameAnswer_eq (a1 a2 : Option Addr) (n c1 c2 : Nat) (fs : List Fl) (st : Int) (b : Bs) (w : World) (h1 : Fls w a1 n fs) (h2 : Fls w a2 n fs) (hn : n ≤ 1000000000000) :
    Calls Tryz.prog 34 #[.agg #[.int .i64 st, .slice a1 n c1, S b], .agg #[.int .i64 st, .slice a2 n c2, S b]] w fun e w' => e = .returned (.bool true) ∧ Below w.heap.size w w' := by
  have b0 := (((Below.refl w.heap.size w).alloc (Nat.le_refl _) (.cells #[.int .i64 st, .slice a1 n c1, S b] 26)).alloc (by simp) (.cells #[.int .i64 st, .slice a2 n c2, S b] 26))
  have HF := hide (fields_eq a1 a2 n c1 c2 fs _ (h1.below b0) (h2.below b0) hn)
  have x0 : ((w.alloc (.cells #[.int .i64 st, .slice a1 n c1, S b] 26)).alloc (.cells #[.int .i64 st, .slice a2 n c2, S b] 26)).heap[w.heap.size]? = some (.cells #[.int .i64 st, .slice a1 n c1, S b] 26 (0, 0)) := by rw [heap_alloc_old _ _ (by simp)]; exact heap_alloc_new _ _
  have x1 : ((w.alloc (.cells #[.int .i64 st, .slice a1 n c1, S b] 26)).alloc (.cells #[.int .i64 st, .slice a2 n c2, S b] 26)).heap[w.heap.size + 1]? = some (.cells #[.int .i64 st, .slice a2 n c2, S b] 26 (0, 0)) := by
    have := heap_alloc_new (w.alloc (.cells #[.int .i64 st, .slice a1 n c1, S b] 26)) (.cells #[.int .i64 st, .slice a2 n c2, S b] 26)
    simpa using this
  have HX := hide (And.intro b0 (And.intro x0 x1))
  clear b0 x0 x1 h1 h2
  go_enter Tryz.func34, Tryz.ntmps34
  go_wp2_with fail
  generalize (w.alloc (.cells #[.int .i64 st, .slice a1 n c1, S b] 26)).alloc (.cells #[.int .i64 st, .slice a2 n c2, S b] 26) = W1 at *
  refine (unhide HF).mono ?_
  rintro e w2 ⟨rfl, b2⟩
  obtain ⟨b0, x0, x1⟩ := unhide HX
  have y0 := (b2.block _ (lt_of_row x0)).trans x0
  have y1 := (b2.block _ (lt_of_row x1)).trans x1
  have d0 : w2.cell? ⟨w.heap.size, 0, none⟩ = some (.int .i64 st) := cell_of_row w2 _ 0 _ 26 (0, 0) y0
  have d2 : w2.cell? ⟨w.heap.size, 2, none⟩ = some (S b) := cell_of_row w2 _ 2 _ 26 (0, 0) y0
  have e0 : w2.cell? ⟨w.heap.size + 1, 0, none⟩ = some (.int .i64 st) := cell_of_row w2 _ 0 _ 26 (0, 0) y1
  have e2 : w2.cell? ⟨w.heap.size + 1, 2, none⟩ = some (S b) := cell_of_row w2 _ 2 _ 26 (0, 0) y1
  have HB := hide (b0.trans (b2.mono b0.size))
  clear b0 x0 x1 y0 y1 b2 HX HF
  go_wp2
  go_ret
  exact ⟨by first | rfl | simp, unhide HB⟩
set_option maxHeartbeats 8000000 in
set_option maxRecDepth 8000 in
theorem sameMessage_eq (a1 a2 : Option Addr) (n c1 c2 : Nat) (fs : List Fl) (m p b : Bs) (w : World) (h1 : Fls w a1 n fs) (h2 : Fls w a2 n fs) (hn : n ≤ 1000000000000) :
    Calls Tryz.prog 51 #[.agg #[S m, S p, .slice a1 n c1, S b], .agg #[S m, S p, .slice a2 n c2, S b]] w fun e w' => e = .returned (.bool true) ∧ Below w.heap.size w w' := by
  have b0 := (((Below.refl w.heap.size w).alloc (Nat.le_refl _) (.cells #[S m, S p, .slice a1 n c1, S b] 24)).alloc (by simp) (.cells #[S m, S p, .slice a2 n c2, S b] 24))
  have HF := hide (fields_eq a1 a2 n c1 c2 fs _ (h1.below b0) (h2.below b0) hn)
  have x0 : ((w.alloc (.cells #[S m, S p, .slice a1 n c1, S b] 24)).alloc (.cells #[S m, S p, .slice a2 n c2, S b] 24)).heap[w.heap.size]? = some (.cells #[S m, S p, .slice a1 n c1, S b] 24 (0, 0)) := by rw [heap_alloc_old _ _ (by simp)]; exact heap_alloc_new _ _
  have x1 : ((w.alloc (.cells #[S m, S p, .slice a1 n c1, S b] 24)).alloc (.cells #[S m, S p, .slice a2 n c2, S b] 24)).heap[w.heap.size + 1]? = some (.cells #[S m, S p, .slice a2 n c2, S b] 24 (0, 0)) := by
    have := heap_alloc_new (w.alloc (.cells #[S m, S p, .slice a1 n c1, S b] 24)) (.cells #[S m, S p, .slice a2 n c2, S b] 24)
    simpa using this
  have HX := hide (And.intro b0 (And.intro x0 x1))
  clear b0 x0 x1 h1 h2
  go_enter Tryz.func51, Tryz.ntmps51
  go_wp2_with fail
  generalize (w.alloc (.cells #[S m, S p, .slice a1 n c1, S b] 24)).alloc (.cells #[S m, S p, .slice a2 n c2, S b] 24) = W1 at *
  refine (unhide HF).mono ?_
  rintro e w2 ⟨rfl, b2⟩
  obtain ⟨b0, x0, x1⟩ := unhide HX
  have y0 := (b2.block _ (lt_of_row x0)).trans x0
  have y1 := (b2.block _ (lt_of_row x1)).trans x1
  have d0 : w2.cell? ⟨w.heap.size, 0, none⟩ = some (S m) := cell_of_row w2 _ 0 _ 24 (0, 0) y0
  have d1 : w2.cell? ⟨w.heap.size, 1, none⟩ = some (S p) := cell_of_row w2 _ 1 _ 24 (0, 0) y0
  have d3 : w2.cell? ⟨w.heap.size, 3, none⟩ = some (S b) := cell_of_row w2 _ 3 _ 24 (0, 0) y0
  have e0 : w2.cell? ⟨w.heap.size + 1, 0, none⟩ = some (S m) := cell_of_row w2 _ 0 _ 24 (0, 0) y1
  have e1 : w2.cell? ⟨w.heap.size + 1, 1, none⟩ = some (S p) := cell_of_row w2 _ 1 _ 24 (0, 0) y1
  have e3 : w2.cell? ⟨w.heap.size + 1, 3, none⟩ = some (S b) := cell_of_row w2 _ 3 _ 24 (0, 0) y1
  have HB := hide (b0.trans (b2.mono b0.size))
  clear b0 x0 x1 y0 y1 b2 HX HF
  go_wp2
  go_ret
  exact ⟨by first | rfl | simp, unhide HB⟩
end Go.Proofs.YthlacailhfhjnaaGreatDoor
