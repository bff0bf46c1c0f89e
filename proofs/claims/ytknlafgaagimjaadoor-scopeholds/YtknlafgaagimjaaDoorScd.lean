import Derived.Test.YtknlafgaagimjaaDoorScc
namespace Go.Proofs.YtknlafgaagimjaaDoor
open Go.RowKit Go.Lib
theorem wr_cases (l : List Bs) : wr l = 0 ∨ wr l = 60 ∨ wr l = 61 := by
  rw [wr_eq]
  unfold tm
  cases okl l <;> cases many l <;> simp
theorem Right_any (a : Option Addr) (n cap : Nat) (l : List Bs) (w : World) (hp : Sts w a n l) (hn : n ≤ 140737488355000) (hL : Lns l) :
    Calls Tryd.prog 19 #[.slice a n cap] w fun e w' => e = .returned (.bool (right l)) ∧ Below w.heap.size w w' := by
  have HW := hide (wrong_any a n cap l w hp hn hL)
  have HR : Hid (right l = (wr l == 0)) := hide rfl
  generalize right l = r at *
  generalize wr l = e at *
  clear hp hL
  go_enter Tryd.func19, Tryd.ntmps19
  go_wp2_with fail
  refine (unhide HW).mono ?_
  rintro e w2 ⟨rfl, b2⟩
  have HB := hide b2
  clear b2
  go_wp2
  go_ret
  refine ⟨ret_bool ?_, unhide HB⟩
  rw [unhide HR, Bool.eq_iff_iff]
  simp
theorem Print_any (a : Option Addr) (n cap : Nat) (l : List Bs) (w : World) (hp : Sts w a n l) (hn : n ≤ 140737488355000) (hL : Lns l) :
    Calls Tryd.prog 20 #[.slice a n cap] w fun e w' => e = .returned (.tuple #[S (print l).1, .int .i64 ((print l).2 : Int)]) ∧ Below w.heap.size w w' := by
  have HW := hide (wrong_any a n cap l w hp hn hL)
  by_cases h0 : wr l = 0
  · have hr : right l = true := by unfold right; simp [h0]
    have hs := (right_small hr).2
    have hP : print l = (tx l, 0) := print_right hr
    have HT := hide (fun W h => text_any a n cap l W h (by omega) hn)
    have HP := hide hp
    rw [hP]
    rw [h0] at HW
    generalize tx l = t at *
    clear hp hL hP hr h0
    go_enter Tryd.func20, Tryd.ntmps20
    go_wp2_with fail
    refine (unhide HW).mono ?_
    rintro e w2 ⟨rfl, b2⟩
    have HT2 := hide (unhide HT w2 ((unhide HP).below b2))
    have HB := hide b2
    clear b2 HT
    go_wp2_with fail
    refine (unhide HT2).mono ?_
    rintro e w3 ⟨rfl, b3⟩
    have HB3 := hide ((unhide HB).trans (b3.mono (unhide HB).size))
    clear b3 HB
    go_wp2
    go_ret2
    exact ⟨rfl, unhide HB3⟩
  · have hP : print l = ([], wr l) := by simp [print, h0]
    rw [hP]
    have hi : ((wr l : Int) == 0) = false := by rw [beq_eq_false_iff_ne]; omega
    generalize wr l = e at *
    clear hp hL hP
    go_enter Tryd.func20, Tryd.ntmps20
    go_wp2_with fail
    refine (unhide HW).mono ?_
    rintro e w2 ⟨rfl, b2⟩
    have HB := hide b2
    clear b2
    go_wp2
    go_ret2
    exact ⟨rfl, unhide HB⟩
theorem addsUp_any (n m : Nat) (hn : n ≤ 9223372036854775807) (hm : m ≤ 9223372036854775807) (w : World) : Calls Tryd.prog 8 #[.int .i64 (n : Int), .int .i64 (m : Int)] w fun e w' => e = .returned (.int .i64 ((if n ≤ 2147483647 ∧ m ≤ 2147483647 then n + m else 2147483648 : Nat) : Int)) ∧ w' = w := by
  by_cases h1 : n ≤ 2147483647
  · have i1 : decide (2147483647 < (n : Int)) = false := by simp; omega
    by_cases h2 : m ≤ 2147483647
    · have i2 : decide (2147483647 < (m : Int)) = false := by simp; omega
      rw [if_pos ⟨h1, h2⟩]
      go_enter Tryd.func8, Tryd.ntmps8
      go_wp2
      go_ret
      exact ⟨ret_int (by omega), rfl⟩
    · have i2 : decide (2147483647 < (m : Int)) = true := by simp; omega
      rw [if_neg (fun h => h2 h.2)]
      go_enter Tryd.func8, Tryd.ntmps8
      go_wp2
      go_ret
      exact ⟨rfl, rfl⟩
  · have i1 : decide (2147483647 < (n : Int)) = true := by simp; omega
    rw [if_neg (fun h => h1 h.1)]
    go_enter Tryd.func8, Tryd.ntmps8
    go_wp2
    go_ret
    exact ⟨rfl, rfl⟩
end Go.Proofs.YtknlafgaagimjaaDoor
