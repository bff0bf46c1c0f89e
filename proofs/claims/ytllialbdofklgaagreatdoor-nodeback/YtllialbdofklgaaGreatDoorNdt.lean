import Derived.Test.YtllialbdofklgaaGreatDoorNds
namespace Go.Proofs.YtllialbdofklgaaGreatDoor
open Go.RowKit
set_option maxHeartbeats 8000000
set_option maxRecDepth 8000
def add3 (n m : Nat) : Nat := if 2147483647 < n ∨ 2147483647 < m then 2147483648 else n + m
theorem addsUp_any (n m : Nat) (w : World) (hn : n ≤ 9223372036854775807) (hm : m ≤ 9223372036854775807) :
    Calls Tryz.prog 10 #[I n, I m] w fun e w' => e = .returned (I (add3 n m)) ∧ w' = w := by
  unfold add3
  go_enter Tryz.func10, Tryz.ntmps10
  by_cases h1 : 2147483647 < n
  · have h1' : decide ((2147483647 : Int) < (n : Int)) = true := by rw [decide_eq_true_eq]; omega
    go_wp2
    go_ret
    exact ⟨rfl, rfl⟩
  · have h1' : decide ((2147483647 : Int) < (n : Int)) = false := by rw [decide_eq_false_iff_not]; omega
    by_cases h2 : 2147483647 < m
    · have h2' : decide ((2147483647 : Int) < (m : Int)) = true := by rw [decide_eq_true_eq]; omega
      go_wp2
      go_ret
      exact ⟨rfl, rfl⟩
    · have h2' : decide ((2147483647 : Int) < (m : Int)) = false := by rw [decide_eq_false_iff_not]; omega
      go_wp2
      go_ret
      exact ⟨rfl, rfl⟩
theorem nodeBetween_any (a b : Bs) (w : World) (ha : a.length ≤ 9223372036854775807) (hb : b.length ≤ 9223372036854775807) :
    Calls Tryz.prog 9 #[S a, S b] w fun e w' => e = .returned (.bool true) ∧ Below w.heap.size w w' := by
  have H0 := hide (addsUp_any a.length b.length w (by omega) (by omega))
  go_enter Tryz.func9, Tryz.ntmps9
  by_cases hbig : 2147483647 < add3 a.length b.length
  · generalize add3 a.length b.length = t at *
    have hb' : decide ((2147483647 : Int) < (t : Int)) = true := by rw [decide_eq_true_eq]; omega
    go_wp2_with fail
    refine (unhide H0).mono ?_
    rintro e w1 ⟨rfl, rfl⟩
    go_wp2
    go_ret
    exact ⟨rfl, Below.refl _ _⟩
  · have hsm : a.length + b.length ≤ 2147483647 := by
      unfold add3 at hbig
      by_cases q : 2147483647 < a.length ∨ 2147483647 < b.length
      · rw [if_pos q] at hbig; omega
      · rw [if_neg q] at hbig; omega
    generalize add3 a.length b.length = t at *
    have hb' : decide ((2147483647 : Int) < (t : Int)) = false := by rw [decide_eq_false_iff_not]; omega
    have H1 := hide (awake_any w)
    have H2 := hide (fun W => between_any a b W (by omega) (by omega))
    have hq := fun W => run_geq a b W
    by_cases hlt : a < b
    · rw [show decide (¬ a < b) = false by simp [hlt]] at hq
      have hl := alk_lt hlt
      have hk : btw a b = b.take (alk a b + 1) := by unfold btw; rw [if_pos hlt]
      have hkl := btw_len hlt
      have f1 := fun W => run_leq (btw a b) a W
      rw [show decide (¬ a < btw a b) = false by rw [hk]; exact decide_eq_false (fun q => q (btw_gt hlt))] at f1
      have f2 := fun W => run_gtr (btw a b) b W
      rw [show decide (b < btw a b) = false by rw [hk]; exact decide_eq_false (pre_le b _)] at f2
      have f3 : decide ((b.length : Int) < ((btw a b).length : Int)) = false := by rw [decide_eq_false_iff_not]; omega
      have f4 : b.take (btw a b).length = btw a b := by rw [hkl, hk]
      have f5 := fun W => run_leq (b.take ((btw a b).length - 1)) a W
      rw [show decide (¬ a < b.take ((btw a b).length - 1)) = true by rw [hkl, Nat.add_sub_cancel]; exact decide_eq_true (pre_lt a b _ (Nat.le_refl _))] at f5
      have f6 : (btw a b).length ≤ b.length := by omega
      have f7 : 1 ≤ (btw a b).length := by omega
      generalize btw a b = k at *
      have e4 : (⟨b.toArray⟩ : ByteArray).extract 0 k.length = ⟨k.toArray⟩ := by rw [ext0, f4]
      have e5 : ∀ W, (binOp .leq 9 (.string ((⟨b.toArray⟩ : ByteArray).extract 0 (k.length - 1))) (S a)).run Tryz.prog W = .ok (.bool true) W := fun W => by rw [ext0]; exact f5 W
      have e3 : decide (b.length < k.length) = false := by rw [decide_eq_false_iff_not]; omega
      have e6 : ¬ b.length < k.length := by omega
      clear hlt hl hk hkl f4 f5
      go_wp2_with fail
      refine (unhide H0).mono ?_
      rintro e w1 ⟨rfl, rfl⟩
      go_wp2_with fail
      refine (unhide H1).mono ?_
      rintro e w2 ⟨rfl, b2⟩
      have B2 := hide b2
      have h2 := hide (unhide H2 w2)
      clear b2 H2 H1 H0
      go_wp2_with fail
      refine (unhide h2).mono ?_
      rintro e w3 ⟨rfl, b3⟩
      have B3 := hide ((unhide B2).trans (b3.mono (unhide B2).size))
      clear b3 h2
      go_wp2
      go_ret
      exact ⟨by first | rfl | simp, unhide B3⟩
    · rw [show decide (¬ a < b) = true by simp [hlt]] at hq
      have hk : btw a b = b := by unfold btw; rw [if_neg hlt]
      rw [hk] at H2
      clear hlt hk
      go_wp2_with fail
      refine (unhide H0).mono ?_
      rintro e w1 ⟨rfl, rfl⟩
      go_wp2_with fail
      refine (unhide H1).mono ?_
      rintro e w2 ⟨rfl, b2⟩
      have B2 := hide b2
      have h2 := hide (unhide H2 w2)
      clear b2 H2 H1 H0
      go_wp2_with fail
      refine (unhide h2).mono ?_
      rintro e w3 ⟨rfl, b3⟩
      have B3 := hide ((unhide B2).trans (b3.mono (unhide B2).size))
      clear b3 h2
      go_wp2
      go_ret
      exact ⟨by first | rfl | simp, unhide B3⟩
end Go.Proofs.YtllialbdofklgaaGreatDoor
