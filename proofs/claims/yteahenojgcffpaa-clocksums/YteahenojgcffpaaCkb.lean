import Derived.Test.YteahenojgcffpaaCka
namespace Go.Proofs.Yteahenojgcffpaa
open Go.RowKit
set_option maxHeartbeats 2000000
theorem add_any (t d : Int) (w : World) : Calls Try.prog 18 #[I t, I d] w fun e w' => e = .returned (I (addv t d)) ∧ w' = w := by
  have b1 := nr_b t
  have b2 := st_b d
  have H1 := hide (fun W => nearest_any t W)
  have H2 := hide (fun W => step_any d W)
  have H3 := hide (fun W => nearest_any (nr t + st d) W)
  unfold addv
  generalize nr t = x at *
  generalize st d = y at *
  go_enter Try.func18, Try.ntmps18
  go_wp2_with fail
  refine (unhide H1 _).mono ?_
  rintro e w' ⟨rfl, rfl⟩
  go_wp2_with fail
  refine (unhide H2 _).mono ?_
  rintro e w' ⟨rfl, rfl⟩
  go_wp2_with fail
  refine (unhide H3 _).mono ?_
  rintro e w' ⟨rfl, rfl⟩
  go_wp2
  go_ret
  exact ⟨rfl, rfl⟩
theorem refAdd_any (t d : Int) (hd : In d) (w : World) : Calls Try.prog 19 #[I t, I d] w fun e w' => e = .returned (I (addv t d)) ∧ w' = w := by
  have b1 := nr_b t
  have H1 := hide (fun W => refNearest_any t W)
  have H3 := hide (fun W => refNearest_any (nr t + d) W)
  unfold In at hd
  unfold addv
  generalize nr t = x at *
  by_cases h1 : 1099511627776 < d
  · go_enter Try.func19, Try.ntmps19
    go_wp2
    go_ret
    refine ⟨ret_int ?_, rfl⟩
    have : st d = 1099511627776 := by unfold st; rw [if_neg (by omega), if_pos h1]
    rw [this]
    unfold nr
    rw [if_neg (by omega)]
    split <;> omega
  · by_cases h2 : d < -1099511627776
    · go_enter Try.func19, Try.ntmps19
      go_wp2
      go_ret
      refine ⟨ret_int ?_, rfl⟩
      have : st d = -1099511627776 := by unfold st; rw [if_pos h2]
      rw [this]
      unfold nr
      split <;> (try split) <;> omega
    · have hs : st d = d := by unfold st; rw [if_neg h2, if_neg h1]
      rw [hs]
      clear hs
      go_enter Try.func19, Try.ntmps19
      go_wp2_with fail
      refine (unhide H1 _).mono ?_
      rintro e w' ⟨rfl, rfl⟩
      go_wp2_with fail
      refine (unhide H3 _).mono ?_
      rintro e w' ⟨rfl, rfl⟩
      go_wp2
      go_ret
      exact ⟨rfl, rfl⟩
theorem left_any (n t : Int) (w : World) : Calls Try.prog 20 #[I n, I t] w fun e w' => e = .returned (I (leftv n t)) ∧ w' = w := by
  have b1 := nr_b n
  have b2 := nr_b t
  have H1 := hide (fun W => nearest_any n W)
  have H2 := hide (fun W => nearest_any t W)
  unfold leftv
  generalize nr t = x at *
  generalize nr n = y at *
  go_enter Try.func20, Try.ntmps20
  go_wp2_with (first | (refine (unhide H1 _).mono ?_; rintro e w' ⟨rfl, rfl⟩) | (refine (unhide H2 _).mono ?_; rintro e w' ⟨rfl, rfl⟩))
  all_goals go_ret
  all_goals refine ⟨ret_int ?_, rfl⟩
  all_goals (repeat' split)
  all_goals omega
theorem refLeft_any (n t : Int) (w : World) : Calls Try.prog 21 #[I n, I t] w fun e w' => e = .returned (I (leftv n t)) ∧ w' = w := by
  have b1 := nr_b n
  have b2 := nr_b t
  have H1 := hide (fun W => refNearest_any n W)
  have H2 := hide (fun W => refNearest_any t W)
  unfold leftv
  generalize nr t = x at *
  generalize nr n = y at *
  go_enter Try.func21, Try.ntmps21
  go_wp2_with (first | (refine (unhide H1 _).mono ?_; rintro e w' ⟨rfl, rfl⟩) | (refine (unhide H2 _).mono ?_; rintro e w' ⟨rfl, rfl⟩))
  all_goals go_ret
  all_goals refine ⟨ret_int ?_, rfl⟩
  all_goals (repeat' split)
  all_goals first | rfl | omega
theorem within_any (n f l : Int) (w : World) : Calls Try.prog 22 #[I n, I f, I l] w fun e w' => e = .returned (.bool (inv n f l)) ∧ w' = w := by
  have b1 := nr_b n
  have b2 := nr_b f
  have H1 := hide (fun W => nearest_any n W)
  have H2 := hide (fun W => nearest_any f W)
  unfold inv
  generalize nr f = x at *
  generalize nr n = y at *
  go_enter Try.func22, Try.ntmps22
  go_wp2_with (first | (refine (unhide H1 _).mono ?_; rintro e w' ⟨rfl, rfl⟩) | (refine (unhide H2 _).mono ?_; rintro e w' ⟨rfl, rfl⟩))
  all_goals go_ret
  all_goals refine ⟨ret_bool ?_, rfl⟩
  all_goals (rw [Bool.eq_iff_iff]; simp; try omega)
theorem refWithin_any (n f l : Int) (w : World) : Calls Try.prog 23 #[I n, I f, I l] w fun e w' => e = .returned (.bool (inv n f l)) ∧ w' = w := by
  have b1 := nr_b n
  have b2 := nr_b f
  have H1 := hide (fun W => refNearest_any n W)
  have H2 := hide (fun W => refNearest_any f W)
  unfold inv
  generalize nr f = x at *
  generalize nr n = y at *
  go_enter Try.func23, Try.ntmps23
  go_wp2_with (first | (refine (unhide H1 _).mono ?_; rintro e w' ⟨rfl, rfl⟩) | (refine (unhide H2 _).mono ?_; rintro e w' ⟨rfl, rfl⟩))
  all_goals go_ret
  all_goals refine ⟨ret_bool ?_, rfl⟩
  all_goals (rw [Bool.eq_iff_iff]; simp; try omega)
end Go.Proofs.Yteahenojgcffpaa
