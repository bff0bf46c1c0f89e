import Derived.Test.YteahenojgcffpaaProg
import Derived.WalkKit
import Derived.Laws.EntriesVeiled
namespace Go.Proofs.Yteahenojgcffpaa
open Go.RowKit
theorem hide {p : Prop} (h : p) : Hid p := h
theorem unhide {p : Prop} (h : Hid p) : p := h
theorem ret_int {k : IntKind} {a b : Int} (h : a = b) : Ending.returned (.int k a) = .returned (.int k b) := by rw [h]
theorem ret_bool {a b : Bool} (h : a = b) : Ending.returned (.bool a) = .returned (.bool b) := by rw [h]
abbrev I (n : Int) : Value := .int .i64 n
def In (n : Int) : Prop := -9223372036854775808 ≤ n ∧ n ≤ 9223372036854775807
/-- The nearest time. -/
def nr (n : Int) : Int := if n < 0 then 0 else if 1099511627776 < n then 1099511627776 else n
def st (n : Int) : Int := if n < -1099511627776 then -1099511627776 else if 1099511627776 < n then 1099511627776 else n
def addv (t d : Int) : Int := nr (nr t + st d)
def leftv (n e : Int) : Int := if nr e ≤ nr n then 0 else nr e - nr n
def inv (n f l : Int) : Bool := decide (0 ≤ nr n - nr f) && decide (nr n - nr f < l)
theorem nr_b (n : Int) : 0 ≤ nr n ∧ nr n ≤ 1099511627776 := by unfold nr; split; omega; split <;> omega
theorem st_b (n : Int) : -1099511627776 ≤ st n ∧ st n ≤ 1099511627776 := by unfold st; split; omega; split <;> omega
theorem nr_in (n : Int) : In (nr n) := by have := nr_b n; unfold In; omega
set_option maxHeartbeats 2000000
theorem nearest_any (n : Int) (w : World) : Calls Try.prog 25 #[I n] w fun e w' => e = .returned (I (nr n)) ∧ w' = w := by
  go_enter Try.func25, Try.ntmps25
  go_wp2
  all_goals go_ret
  all_goals refine ⟨ret_int ?_, rfl⟩
  all_goals (unfold nr; repeat' split)
  all_goals first | rfl | omega
theorem lawNearest_any (n : Int) (w : World) : Calls Try.prog 24 #[I n] w fun e w' => e = .returned (I (nr n)) ∧ w' = w := by
  go_enter Try.func24, Try.ntmps24
  go_wp2
  all_goals go_ret
  all_goals refine ⟨ret_int ?_, rfl⟩
  all_goals (unfold nr; repeat' split)
  all_goals first | rfl | omega
theorem refNearest_any (n : Int) (w : World) : Calls Try.prog 26 #[I n] w fun e w' => e = .returned (I (nr n)) ∧ w' = w := by
  go_enter Try.func26, Try.ntmps26
  go_wp2
  all_goals go_ret
  all_goals refine ⟨ret_int ?_, rfl⟩
  all_goals (unfold nr; repeat' split)
  all_goals first | rfl | omega
theorem step_any (n : Int) (w : World) : Calls Try.prog 28 #[I n] w fun e w' => e = .returned (I (st n)) ∧ w' = w := by
  go_enter Try.func28, Try.ntmps28
  go_wp2
  all_goals go_ret
  all_goals refine ⟨ret_int ?_, rfl⟩
  all_goals (unfold st; repeat' split)
  all_goals first | rfl | omega
end Go.Proofs.Yteahenojgcffpaa
