import Derived.Test.YthlacailhfhjnaaGreatDoorWcb
namespace Go.Proofs.YthlacailhfhjnaaGreatDoor
open Go.RowKit Go.Lib
set_option maxHeartbeats 4000000 in
set_option maxRecDepth 8000 in
theorem judgeLength_any {op B P : Nat} {p : Ps} {nx hv : Value} {w : World} (h : PAt op P p nx hv w) (hE : Env B w) (l : Bs) (hl : l.length ≤ 1000000) :
    Calls Tryz.prog 136 #[ptr P, S l] w fun e w' => e = .returned (.int .i64 (jLen p l).2) ∧ PAt op P (jr (jLen p l) p) nx hv w' ∧ Only (fun k => k = P) w w' := by
  have c8 : w.cell? ⟨P, 8, none⟩ = some (.int .i64 p.len) := h.cell 8
  have hlt := h.lt
  have H := hide h
  have HN := hide (isNumber_any l w (by omega))
  clear h
  by_cases h1 : p.len = -1
  · have c8' : w.cell? ⟨P, 8, none⟩ = some (.int .i64 (-1)) := by rw [c8, h1]
    by_cases hn : num l = true
    · rw [hn] at HN
      by_cases hv : vl 0 l < 9223372036854775808
      · have HK := hide (atoi_ok l w (by omega) hn hv)
        by_cases h4 : 4000 < vl 0 l
        · have hj : jLen p l = (pov, 53) := by unfold jLen; rw [hn, decide_eq_true h1, if_neg (by simp), if_pos h4]
          rw [hj]
          have i4 : (4000 : Int) < (vl 0 l : Int) := by omega
          clear hj hE hv hn c8 h1
          generalize vl 0 l = V at *
          go_enter Tryz.func136, Tryz.ntmps136
          go_wp2_with (first | (go_at_call 95; refine (unhide HN).mono ?_; rintro e w' ⟨rfl, rfl⟩))
          refine (unhide HK).mono ?_
          rintro e w1 ⟨rfl, b1⟩
          have H1 := hide ((unhide H).below b1)
          have O1 := hide (Only.of_below (P := fun k => k = P) b1)
          clear b1
          go_wp2
          go_ret
          exact ⟨rfl, unhide H1, unhide O1⟩
        · have hj : jLen p l = ({ p with len := vl 0 l }, 0) := by unfold jLen; rw [hn, decide_eq_true h1, if_neg (by simp), if_neg h4]
          rw [hj]
          have i4 : ¬ (4000 : Int) < (vl 0 l : Int) := by omega
          clear hj hE hv hn c8 h1
          generalize vl 0 l = V at *
          go_enter Tryz.func136, Tryz.ntmps136
          go_wp2_with (first | (go_at_call 95; refine (unhide HN).mono ?_; rintro e w' ⟨rfl, rfl⟩))
          refine (unhide HK).mono ?_
          rintro e w1 ⟨rfl, b1⟩
          have H1 := hide ((unhide H).below b1)
          have O1 := hide (Only.of_below (P := fun k => k = P) b1)
          have d8 : w1.cell? ⟨P, 8, none⟩ = some (.int .i64 p.len) := (unhide H1).cell 8
          have dz : ∀ j, w1.frozen? ⟨P, j, none⟩ = false := (unhide H1).fz
          have hlt1 := (unhide H1).lt
          clear b1
          go_wp2
          go_ret
          refine ⟨rfl, ?_, (unhide O1).put _ _ (.inl rfl)⟩
          exact (unhide H1).set 8 (.int .i64 V) (op' := op) (nx' := nx) (p' := { p with len := V }) rfl rfl
      · have HK := hide (atoi_no l w hE (by omega) hn hv)
        have hj : jLen p l = (pov, 53) := by unfold jLen; rw [hn, decide_eq_true h1, if_neg (by simp), if_pos (by omega)]
        rw [hj]
        clear hj hE hv hn c8 h1
        go_enter Tryz.func136, Tryz.ntmps136
        go_wp2_with (first | (go_at_call 95; refine (unhide HN).mono ?_; rintro e w' ⟨rfl, rfl⟩))
        refine (unhide HK).mono ?_
        rintro e w1 ⟨x, ty, pv, rfl, b1⟩
        have H1 := hide ((unhide H).below b1)
        have O1 := hide (Only.of_below (P := fun k => k = P) b1)
        clear b1
        go_wp2
        go_ret
        exact ⟨rfl, unhide H1, unhide O1⟩
    · have hn' : num l = false := by simpa using hn
      rw [hn'] at HN
      have hj : jLen p l = (pov, 52) := by unfold jLen; rw [hn', if_pos (by simp)]
      rw [hj]
      clear hj hE hn hn' c8 h1
      go_enter Tryz.func136, Tryz.ntmps136
      go_wp2_with (first | (go_at_call 95; refine (unhide HN).mono ?_; rintro e w' ⟨rfl, rfl⟩))
      go_ret
      exact ⟨rfl, unhide H, Only.refl _ _⟩
  · have hj : jLen p l = (pov, 52) := by unfold jLen; rw [decide_eq_false h1, if_pos (by simp)]
    rw [hj]
    clear hj hE
    go_enter Tryz.func136, Tryz.ntmps136
    go_wp2
    go_ret
    exact ⟨rfl, unhide H, Only.refl _ _⟩
end Go.Proofs.YthlacailhfhjnaaGreatDoor
