import Derived.Test.YtpidmpefodnffaaGreatDoorScc
namespace Go.Proofs.YtpidmpefodnffaaGreatDoor
open Go.RowKit Go.Lib
theorem Right_any (a : Option Addr) (n cap : Nat) (l : List Bs) (w : World) (hp : Sts w a n l) (hn : n ≤ 140737488355000) (hL : Lns l) :
    Calls Tryz.prog 130 #[.slice a n cap] w fun e w' => e = .returned (.bool (right l)) ∧ Below w.heap.size w w' := by
  have HW := hide (wrong_any a n cap l w hp hn hL)
  have HR : Hid (right l = (wr l == 0)) := hide rfl
  generalize right l = r at *
  generalize wr l = e at *
  clear hp hL
  go_enter Tryz.func130, Tryz.ntmps130
  go_wp2_with fail
  refine (unhide HW).mono ?_
  rintro e w2 ⟨rfl, b2⟩
  have HB := hide b2
  clear b2
  go_wp2
  go_ret
  refine ⟨ret_bool ?_, unhide HB⟩
  rw [unhide HR, Bool.eq_iff_iff]
  simp
theorem Print_any (a : Option Addr) (n cap : Nat) (l : List Bs) (w : World) (hp : Sts w a n l) (hn : n ≤ 140737488355000) (hL : Lns l) :
    Calls Tryz.prog 211 #[.slice a n cap] w fun e w' => e = .returned (.tuple #[S (print l).1, .int .i64 ((print l).2 : Int)]) ∧ Below w.heap.size w w' := by
  have HW := hide (wrong_any a n cap l w hp hn hL)
  by_cases h0 : wr l = 0
  · have hr : right l = true := by unfold right; simp [h0]
    have hs := (right_small hr).2
    have hP : print l = (tx l, 0) := print_right hr
    have HT := hide (fun W h => text_any a n cap l W h (by omega) hn)
    have HP := hide hp
    rw [hP]
    rw [h0] at HW
    generalize tx l = t at *
    clear hp hL hP hr h0
    go_enter Tryz.func211, Tryz.ntmps211
    go_wp2_with fail
    refine (unhide HW).mono ?_
    rintro e w2 ⟨rfl, b2⟩
    have HT2 := hide (unhide HT w2 ((unhide HP).below b2))
    have HB := hide b2
    clear b2 HT
    go_wp2_with fail
    refine (unhide HT2).mono ?_
    rintro e w3 ⟨rfl, b3⟩
    have HB3 := hide ((unhide HB).trans (b3.mono (unhide HB).size))
    clear b3 HB
    go_wp2
    go_ret2
    exact ⟨rfl, unhide HB3⟩
  · have hP : print l = ([], wr l) := by simp [print, h0]
    rw [hP]
    have hi : ((wr l : Int) == 0) = false := by rw [beq_eq_false_iff_ne]; omega
    generalize wr l = e at *
    clear hp hL hP
    go_enter Tryz.func211, Tryz.ntmps211
    go_wp2_with fail
    refine (unhide HW).mono ?_
    rintro e w2 ⟨rfl, b2⟩
    have HB := hide b2
    clear b2
    go_wp2
    go_ret2
    exact ⟨rfl, unhide HB⟩
end Go.Proofs.YtpidmpefodnffaaGreatDoor
