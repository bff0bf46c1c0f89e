import Derived.Test.YtpidmpefodnffaaGreatDoorZfde
namespace Go.Proofs.YtpidmpefodnffaaGreatDoor
open Go.RowKit
set_option maxHeartbeats 4000000
set_option maxRecDepth 8000
def tim (z : Int) : Bool := decide (0 ≤ z) && decide (z ≤ 1099511627776)
def spn (z : Int) : Bool := decide (1 ≤ z) && decide (z ≤ 1099511627776)
def idn (z : Int) : Bool := decide (1 ≤ z) && decide (z ≤ 4611686018427387904)
def gnr (z : Int) : Bool := decide (1 ≤ z) && decide (z ≤ 1073741824)
theorem isTime_any (z : Int) (w : World) : Calls Tryz.prog 116 #[I z] w fun e w' => e = .returned (.bool (tim z)) ∧ w' = w := by
  go_enter Tryz.func116, Tryz.ntmps116
  go_wp2
  all_goals go_ret
  all_goals refine ⟨ret_bool ?_, rfl⟩
  all_goals (rw [Bool.eq_iff_iff]; simp [tim]; try omega)
theorem isSpan_any (z : Int) (w : World) : Calls Tryz.prog 131 #[I z] w fun e w' => e = .returned (.bool (spn z)) ∧ w' = w := by
  go_enter Tryz.func131, Tryz.ntmps131
  go_wp2
  all_goals go_ret
  all_goals refine ⟨ret_bool ?_, rfl⟩
  all_goals (rw [Bool.eq_iff_iff]; simp [spn]; try omega)
theorem isID_any (z : Int) (w : World) : Calls Tryz.prog 142 #[I z] w fun e w' => e = .returned (.bool (idn z)) ∧ w' = w := by
  go_enter Tryz.func142, Tryz.ntmps142
  go_wp2
  all_goals go_ret
  all_goals refine ⟨ret_bool ?_, rfl⟩
  all_goals (rw [Bool.eq_iff_iff]; simp [idn]; try omega)
theorem isGen_any (z : Int) (w : World) : Calls Tryz.prog 143 #[I z] w fun e w' => e = .returned (.bool (gnr z)) ∧ w' = w := by
  go_enter Tryz.func143, Tryz.ntmps143
  go_wp2
  all_goals go_ret
  all_goals refine ⟨ret_bool ?_, rfl⟩
  all_goals (rw [Bool.eq_iff_iff]; simp [gnr]; try omega)
theorem isDigest_any (s : Bs) (w : World) : Calls Tryz.prog 147 #[S s] w fun e w' => e = .returned (.bool (s.length == 32)) ∧ w' = w := by
  go_enter Tryz.func147, Tryz.ntmps147
  go_wp2
  all_goals go_ret
  all_goals refine ⟨ret_bool ?_, rfl⟩
  all_goals (rw [Bool.eq_iff_iff]; simp; try omega)
theorem isSecret_any (s : Bs) (w : World) : Calls Tryz.prog 149 #[S s] w fun e w' => e = .returned (.bool (s.length == 24)) ∧ w' = w := by
  go_enter Tryz.func149, Tryz.ntmps149
  go_wp2
  all_goals go_ret
  all_goals refine ⟨ret_bool ?_, rfl⟩
  all_goals (rw [Bool.eq_iff_iff]; simp; try omega)
theorem isNm_any (s : Bs) (w : World) (hs : s.length ≤ 9223372036854775807) : Calls Tryz.prog 128 #[S s] w fun e w' => e = .returned (.bool (right [s])) ∧ Below w.heap.size w w' := by
  have hb : Below w.heap.size w (w.alloc (.cells #[S s] 9)) := (Below.refl _ w).alloc (Nat.le_refl _) _
  have HR := hide (Right_any (some ⟨w.heap.size, 0, none⟩) 1 1 [s] (w.alloc (.cells #[S s] 9)) (sts_new w [s]) (by omega) (lns_one s hs))
  have HB := hide hb
  clear hb hs
  generalize right [s] = r at *
  go_enter Tryz.func128, Tryz.ntmps128
  go_wp2_with fail
  refine (unhide HR).mono ?_
  rintro e w2 ⟨rfl, hw2⟩
  have HW := hide ((unhide HB).trans (hw2.mono (unhide HB).size))
  clear hw2 HR HB
  go_wp2
  go_ret
  exact ⟨rfl, unhide HW⟩
end Go.Proofs.YtpidmpefodnffaaGreatDoor
