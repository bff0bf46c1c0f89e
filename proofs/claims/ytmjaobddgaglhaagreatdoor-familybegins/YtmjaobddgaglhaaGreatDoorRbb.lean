import Derived.Test.YtmjaobddgaglhaaGreatDoorZdsa
import Derived.Laws.CopyRow
import Derived.Laws.MakeOwn
import Derived.Test.YtmjaobddgaglhaaGreatDoorZrgpr
import Derived.Test.YtmjaobddgaglhaaGreatDoorZscb
import Derived.Deep.Cut
import Derived.Deep.CutRange
namespace Go.Proofs.YtmjaobddgaglhaaGreatDoor
open Go.RowKit Go.Lib
theorem rTime_any (z : Int) (w : World) : Calls Tryz.prog 62 #[I z] w fun e w' => e = .returned (.bool (tim z)) ∧ w' = w := by
  go_enter Tryz.func62, Tryz.ntmps62
  go_wp2
  all_goals go_ret
  all_goals refine ⟨ret_bool ?_, rfl⟩
  all_goals (rw [Bool.eq_iff_iff]; simp [tim]; try omega)
theorem rId_any (z : Int) (w : World) : Calls Tryz.prog 61 #[I z] w fun e w' => e = .returned (.bool (idn z)) ∧ w' = w := by
  go_enter Tryz.func61, Tryz.ntmps61
  go_wp2
  all_goals go_ret
  all_goals refine ⟨ret_bool ?_, rfl⟩
  all_goals (rw [Bool.eq_iff_iff]; simp [idn]; try omega)
theorem sg_iff (c : UInt8) : sg c = true ↔ (97 ≤ c.toNat ∧ c.toNat ≤ 122) ∨ (48 ≤ c.toNat ∧ c.toNat ≤ 57) ∨ c.toNat = 45 ∨ c.toNat = 95 ∨ c.toNat = 46 := by
  unfold sg
  simp only [Bool.or_eq_true, Bool.and_eq_true, decide_eq_true_eq, beq_iff_eq, or_assoc]
set_option maxHeartbeats 8000000 in
set_option maxRecDepth 8000 in
theorem refName_any (s : Bs) (w : World) (hs : s.length ≤ 9223372036854775807) : Calls Tryz.prog 54 #[S s] w fun e w' => e = .returned (.bool (nm s)) ∧ w' = w := by
  go_enter Tryz.func54, Tryz.ntmps54
  go_wp2
  go_loop [3] (fun i => ∃ k : Nat, k ≤ s.length ∧ i = .int .i64 k ∧ (s.take k).all sg = true) (fun i => s.length - (Go.RowKit.intOf i).toNat)
  case atStart => exact ⟨0, by omega, rfl, by simp⟩
  case round =>
    obtain ⟨k, hk, rfl, ha⟩ := hrel
    by_cases hlt : k < s.length
    · have hsz : k < (ByteArray.mk s.toArray).size := by simpa [ByteArray.size] using hlt
      have hC : (ByteArray.mk s.toArray)[k]'hsz = s[k] := rfl
      have hA := hide ha
      have hT := hide (take_snoc s k hlt)
      have hE := hide (all_no sg s k hlt)
      have hklt : (k : Int) < (s.length : Int) := by omega
      clear ha
      generalize s[k] = c at *
      have hI := hide (sg_iff c)
      by_cases q0 : 97 ≤ c.toNat ∧ c.toNat ≤ 122
      ·
        have hp := (unhide hI).2 (by omega)
        have hR := hide (show (s.take (k + 1)).all sg = true by rw [unhide hT]; simp [unhide hA, hp])
        have f0 : decide (97 ≤ (c.toNat : Int)) = true := by rw [decide_eq_true_eq]; omega
        have f1 : decide ((c.toNat : Int) ≤ 122) = true := by rw [decide_eq_true_eq]; omega
        have f2 : decide (48 ≤ (c.toNat : Int)) = true := by rw [decide_eq_true_eq]; omega
        have f3 : decide ((c.toNat : Int) ≤ 57) = false := by rw [decide_eq_false_iff_not]; omega
        clear hp hE hT hA hI q0
        go_wp2
        refine ⟨⟨k + 1, by omega, by go_num, unhide hR⟩, ?_⟩
        simp [Go.RowKit.intOf]; omega
      by_cases q1 : 48 ≤ c.toNat ∧ c.toNat ≤ 57
      ·
        have hp := (unhide hI).2 (by omega)
        have hR := hide (show (s.take (k + 1)).all sg = true by rw [unhide hT]; simp [unhide hA, hp])
        have f0 : decide (97 ≤ (c.toNat : Int)) = false := by rw [decide_eq_false_iff_not]; omega
        have f1 : decide (48 ≤ (c.toNat : Int)) = true := by rw [decide_eq_true_eq]; omega
        have f2 : decide ((c.toNat : Int) ≤ 57) = true := by rw [decide_eq_true_eq]; omega
        clear hp hE hT hA hI q0 q1
        go_wp2
        refine ⟨⟨k + 1, by omega, by go_num, unhide hR⟩, ?_⟩
        simp [Go.RowKit.intOf]; omega
      by_cases q2 : c.toNat = 45
      ·
        have hp := (unhide hI).2 (by omega)
        have hR := hide (show (s.take (k + 1)).all sg = true by rw [unhide hT]; simp [unhide hA, hp])
        have f0 : decide (97 ≤ (c.toNat : Int)) = false := by rw [decide_eq_false_iff_not]; omega
        have f1 : decide (48 ≤ (c.toNat : Int)) = false := by rw [decide_eq_false_iff_not]; omega
        have f2 : ((c.toNat : Int) != 45) = false := by rw [bne_eq_false_iff_eq]; omega
        clear hp hE hT hA hI q0 q1 q2
        go_wp2
        refine ⟨⟨k + 1, by omega, by go_num, unhide hR⟩, ?_⟩
        simp [Go.RowKit.intOf]; omega
      by_cases q3 : c.toNat = 95
      ·
        have hp := (unhide hI).2 (by omega)
        have hR := hide (show (s.take (k + 1)).all sg = true by rw [unhide hT]; simp [unhide hA, hp])
        have f0 : decide (97 ≤ (c.toNat : Int)) = false := by rw [decide_eq_false_iff_not]; omega
        have f1 : decide (48 ≤ (c.toNat : Int)) = true := by rw [decide_eq_true_eq]; omega
        have f2 : decide ((c.toNat : Int) ≤ 57) = false := by rw [decide_eq_false_iff_not]; omega
        have f3 : ((c.toNat : Int) != 45) = true := by rw [bne_iff_ne]; omega
        have f4 : ((c.toNat : Int) != 95) = false := by rw [bne_eq_false_iff_eq]; omega
        clear hp hE hT hA hI q0 q1 q2 q3
        go_wp2
        refine ⟨⟨k + 1, by omega, by go_num, unhide hR⟩, ?_⟩
        simp [Go.RowKit.intOf]; omega
      by_cases q4 : c.toNat = 46
      ·
        have hp := (unhide hI).2 (by omega)
        have hR := hide (show (s.take (k + 1)).all sg = true by rw [unhide hT]; simp [unhide hA, hp])
        have f0 : decide (97 ≤ (c.toNat : Int)) = false := by rw [decide_eq_false_iff_not]; omega
        have f1 : decide (48 ≤ (c.toNat : Int)) = false := by rw [decide_eq_false_iff_not]; omega
        have f2 : ((c.toNat : Int) != 45) = true := by rw [bne_iff_ne]; omega
        have f3 : ((c.toNat : Int) != 95) = true := by rw [bne_iff_ne]; omega
        have f4 : ((c.toNat : Int) != 46) = false := by rw [bne_eq_false_iff_eq]; omega
        clear hp hE hT hA hI q0 q1 q2 q3 q4
        go_wp2
        refine ⟨⟨k + 1, by omega, by go_num, unhide hR⟩, ?_⟩
        simp [Go.RowKit.intOf]; omega
      by_cases q5 : 97 ≤ c.toNat
      ·
        have hp : sg c = false := by rw [Bool.eq_false_iff]; intro h; have := (unhide hI).1 h; omega
        have hF := hide (unhide hE hp)
        have f0 : decide (97 ≤ (c.toNat : Int)) = true := by rw [decide_eq_true_eq]; omega
        have f1 : decide ((c.toNat : Int) ≤ 122) = false := by rw [decide_eq_false_iff_not]; omega
        have f2 : decide (48 ≤ (c.toNat : Int)) = true := by rw [decide_eq_true_eq]; omega
        have f3 : decide ((c.toNat : Int) ≤ 57) = false := by rw [decide_eq_false_iff_not]; omega
        have f4 : ((c.toNat : Int) != 45) = true := by rw [bne_iff_ne]; omega
        have f5 : ((c.toNat : Int) != 95) = true := by rw [bne_iff_ne]; omega
        have f6 : ((c.toNat : Int) != 46) = true := by rw [bne_iff_ne]; omega
        clear hp hE hT hA hI q0 q1 q2 q3 q4 q5
        go_wp2
        go_ret
        exact ⟨ret_bool (by simp [nm, unhide hF]), rfl⟩
      by_cases q6 : 48 ≤ c.toNat
      ·
        have hp : sg c = false := by rw [Bool.eq_false_iff]; intro h; have := (unhide hI).1 h; omega
        have hF := hide (unhide hE hp)
        have f0 : decide (97 ≤ (c.toNat : Int)) = false := by rw [decide_eq_false_iff_not]; omega
        have f1 : decide (48 ≤ (c.toNat : Int)) = true := by rw [decide_eq_true_eq]; omega
        have f2 : decide ((c.toNat : Int) ≤ 57) = false := by rw [decide_eq_false_iff_not]; omega
        have f3 : ((c.toNat : Int) != 45) = true := by rw [bne_iff_ne]; omega
        have f4 : ((c.toNat : Int) != 95) = true := by rw [bne_iff_ne]; omega
        have f5 : ((c.toNat : Int) != 46) = true := by rw [bne_iff_ne]; omega
        clear hp hE hT hA hI q0 q1 q2 q3 q4 q5 q6
        go_wp2
        go_ret
        exact ⟨ret_bool (by simp [nm, unhide hF]), rfl⟩
      ·
        have hp : sg c = false := by rw [Bool.eq_false_iff]; intro h; have := (unhide hI).1 h; omega
        have hF := hide (unhide hE hp)
        have f0 : decide (97 ≤ (c.toNat : Int)) = false := by rw [decide_eq_false_iff_not]; omega
        have f1 : decide (48 ≤ (c.toNat : Int)) = false := by rw [decide_eq_false_iff_not]; omega
        have f2 : ((c.toNat : Int) != 45) = true := by rw [bne_iff_ne]; omega
        have f3 : ((c.toNat : Int) != 95) = true := by rw [bne_iff_ne]; omega
        have f4 : ((c.toNat : Int) != 46) = true := by rw [bne_iff_ne]; omega
        clear hp hE hT hA hI q0 q1 q2 q3 q4 q5 q6
        go_wp2
        go_ret
        exact ⟨ret_bool (by simp [nm, unhide hF]), rfl⟩
    · have e : s.take k = s := List.take_of_length_le (by omega)
      rw [e] at ha
      have hA := hide ha
      have hklt : ¬ (k : Int) < (s.length : Int) := by omega
      clear ha e
      by_cases hz : s.length = 0
      · have hz' : decide (1 ≤ (s.length : Int)) = false := by rw [decide_eq_false_iff_not]; omega
        go_wp2
        go_ret
        refine ⟨ret_bool ?_, rfl⟩
        simp [nm, hz]
      · have hz' : decide (1 ≤ (s.length : Int)) = true := by rw [decide_eq_true_eq]; omega
        go_wp2
        go_ret
        refine ⟨ret_bool ?_, rfl⟩
        rw [Bool.eq_iff_iff]
        simp [nm, unhide hA]
        omega
end Go.Proofs.YtmjaobddgaglhaaGreatDoor
