import Derived.Test.YtpidmpefodnffaaGreatDoorScc
namespace Go.Proofs.YtpidmpefodnffaaGreatDoor
open Go.RowKit Go.Lib
theorem Right_any (a : Option Addr) (n cap : Nat) (l : List Bs) (w : World) (hp : Sts w a n l) (hn : n ≤ 140737488355000) (hL : Lns l) :
    Calls Tryz.prog 130 #[.slice a n cap] w fun e w' => e = .returned (.bool (right l)) ∧ Below w.heap.size w w' := by
  have HW := hide (wrong_any a n cap l w hp hn hL)
  have HR : Hid (right l = (wr l == 0)) := hide rfl
  generalize right l = r at *
  generalize wr l = e at *
  clear hp hL
  go_enter Tryz.func130, Tryz.ntmps130
  go_wp2_with fail
  refine (unhide HW).mono ?_
  rintro e w2 ⟨rfl, b2⟩
  have HB := hide b2
  clear b2
  go_wp2
  go_ret
  refine ⟨ret_bool ?_, unhide HB⟩
  rw [unhide HR, Bool.eq_iff_iff]
  simp
end Go.Proofs.YtpidmpefodnffaaGreatDoor
