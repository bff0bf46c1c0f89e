import Derived.Test.YtmjaobddgaglhaaGreatDoorZdsa
import Derived.Laws.CopyRow
import Derived.Laws.MakeOwn
import Derived.Test.YtmjaobddgaglhaaGreatDoorZrgpr
import Derived.Test.YtmjaobddgaglhaaGreatDoorZscb
import Derived.Deep.Cut
import Derived.Deep.CutRange
import Derived.Test.YtmjaobddgaglhaaGreatDoorZfde
import Derived.Test.YtmjaobddgaglhaaGreatDoorZdetl
import Derived.Test.YtmjaobddgaglhaaGreatDoorZprd
namespace Go.Proofs.YtmjaobddgaglhaaGreatDoor
open Go.RowKit Go.Lib
theorem rTime_any (z : Int) (w : World) : Calls Tryz.prog 62 #[I z] w fun e w' => e = .returned (.bool (tim z)) ∧ w' = w := by
  go_enter Tryz.func62, Tryz.ntmps62
  go_wp2
  all_goals go_ret
  all_goals refine ⟨ret_bool ?_, rfl⟩
  all_goals (rw [Bool.eq_iff_iff]; simp [tim]; try omega)
theorem rId_any (z : Int) (w : World) : Calls Tryz.prog 61 #[I z] w fun e w' => e = .returned (.bool (idn z)) ∧ w' = w := by
  go_enter Tryz.func61, Tryz.ntmps61
  go_wp2
  all_goals go_ret
  all_goals refine ⟨ret_bool ?_, rfl⟩
  all_goals (rw [Bool.eq_iff_iff]; simp [idn]; try omega)
theorem sg_iff (c : UInt8) : sg c = true ↔ (97 ≤ c.toNat ∧ c.toNat ≤ 122) ∨ (48 ≤ c.toNat ∧ c.toNat ≤ 57) ∨ c.toNat = 45 ∨ c.toNat = 95 ∨ c.toNat = 46 := by
  unfold sg
  simp only [Bool.or_eq_true, Bool.and_eq_true, decide_eq_true_eq, beq_iff_eq, or_assoc]
set_option maxHeartbeats 8000000 in
set_option maxRecDepth 8000 in
theorem refName_any (s : Bs) (w : World) (hs : s.length ≤ 9223372036854775807) : Calls Tryz.prog 54 #[S s] w fun e w' => e = .returned (.bool (nm s)) ∧ w' = w := by
  go_enter Tryz.func54, Tryz.ntmps54
  go_wp2
  go_loop [3] (fun i => ∃ k : Nat, k ≤ s.length ∧ i = .int .i64 k ∧ (s.take k).all sg = true) (fun i => s.length - (Go.RowKit.intOf i).toNat)
  case atStart => exact ⟨0, by omega, rfl, by simp⟩
  case round =>
    obtain ⟨k, hk, rfl, ha⟩ := hrel
    by_cases hlt : k < s.length
    · have hsz : k < (ByteArray.mk s.toArray).size := by simpa [ByteArray.size] using hlt
      have hC : (ByteArray.mk s.toArray)[k]'hsz = s[k] := rfl
      have hA := hide ha
      have hT := hide (take_snoc s k hlt)
      have hE := hide (all_no sg s k hlt)
      have hklt : (k : Int) < (s.length : Int) := by omega
      clear ha
      generalize s[k] = c at *
      have hI := hide (sg_iff c)
      by_cases q0 : 97 ≤ c.toNat ∧ c.toNat ≤ 122
      ·
        have hp := (unhide hI).2 (by omega)
        have hR := hide (show (s.take (k + 1)).all sg = true by rw [unhide hT]; simp [unhide hA, hp])
        have f0 : decide (97 ≤ (c.toNat : Int)) = true := by rw [decide_eq_true_eq]; omega
        have f1 : decide ((c.toNat : Int) ≤ 122) = true := by rw [decide_eq_true_eq]; omega
        have f2 : decide (48 ≤ (c.toNat : Int)) = true := by rw [decide_eq_true_eq]; omega
        have f3 : decide ((c.toNat : Int) ≤ 57) = false := by rw [decide_eq_false_iff_not]; omega
        clear hp hE hT hA hI q0
        go_wp2
        refine ⟨⟨k + 1, by omega, by go_num, unhide hR⟩, ?_⟩
        simp [Go.RowKit.intOf]; omega
      by_cases q1 : 48 ≤ c.toNat ∧ c.toNat ≤ 57
      ·
        have hp := (unhide hI).2 (by omega)
        have hR := hide (show (s.take (k + 1)).all sg = true by rw [unhide hT]; simp [unhide hA, hp])
        have f0 : decide (97 ≤ (c.toNat : Int)) = false := by rw [decide_eq_false_iff_not]; omega
        have f1 : decide (48 ≤ (c.toNat : Int)) = true := by rw [decide_eq_true_eq]; omega
        have f2 : decide ((c.toNat : Int) ≤ 57) = true := by rw [decide_eq_true_eq]; omega
        clear hp hE hT hA hI q0 q1
        go_wp2
        refine ⟨⟨k + 1, by omega, by go_num, unhide hR⟩, ?_⟩
        simp [Go.RowKit.intOf]; omega
      by_cases q2 : c.toNat = 45
      ·
        have hp := (unhide hI).2 (by omega)
        have hR := hide (show (s.take (k + 1)).all sg = true by rw [unhide hT]; simp [unhide hA, hp])
        have f0 : decide (97 ≤ (c.toNat : Int)) = false := by rw [decide_eq_false_iff_not]; omega
        have f1 : decide (48 ≤ (c.toNat : Int)) = false := by rw [decide_eq_false_iff_not]; omega
        have f2 : ((c.toNat : Int) != 45) = false := by rw [bne_eq_false_iff_eq]; omega
        clear hp hE hT hA hI q0 q1 q2
        go_wp2
        refine ⟨⟨k + 1, by omega, by go_num, unhide hR⟩, ?_⟩
        simp [Go.RowKit.intOf]; omega
      by_cases q3 : c.toNat = 95
      ·
        have hp := (unhide hI).2 (by omega)
        have hR := hide (show (s.take (k + 1)).all sg = true by rw [unhide hT]; simp [unhide hA, hp])
        have f0 : decide (97 ≤ (c.toNat : Int)) = false := by rw [decide_eq_false_iff_not]; omega
        have f1 : decide (48 ≤ (c.toNat : Int)) = true := by rw [decide_eq_true_eq]; omega
        have f2 : decide ((c.toNat : Int) ≤ 57) = false := by rw [decide_eq_false_iff_not]; omega
        have f3 : ((c.toNat : Int) != 45) = true := by rw [bne_iff_ne]; omega
        have f4 : ((c.toNat : Int) != 95) = false := by rw [bne_eq_false_iff_eq]; omega
        clear hp hE hT hA hI q0 q1 q2 q3
        go_wp2
        refine ⟨⟨k + 1, by omega, by go_num, unhide hR⟩, ?_⟩
        simp [Go.RowKit.intOf]; omega
      by_cases q4 : c.toNat = 46
      ·
        have hp := (unhide hI).2 (by omega)
        have hR := hide (show (s.take (k + 1)).all sg = true by rw [unhide hT]; simp [unhide hA, hp])
        have f0 : decide (97 ≤ (c.toNat : Int)) = false := by rw [decide_eq_false_iff_not]; omega
        have f1 : decide (48 ≤ (c.toNat : Int)) = false := by rw [decide_eq_false_iff_not]; omega
        have f2 : ((c.toNat : Int) != 45) = true := by rw [bne_iff_ne]; omega
        have f3 : ((c.toNat : Int) != 95) = true := by rw [bne_iff_ne]; omega
        have f4 : ((c.toNat : Int) != 46) = false := by rw [bne_eq_false_iff_eq]; omega
        clear hp hE hT hA hI q0 q1 q2 q3 q4
        go_wp2
        refine ⟨⟨k + 1, by omega, by go_num, unhide hR⟩, ?_⟩
        simp [Go.RowKit.intOf]; omega
      by_cases q5 : 97 ≤ c.toNat
      ·
        have hp : sg c = false := by rw [Bool.eq_false_iff]; intro h; have := (unhide hI).1 h; omega
        have hF := hide (unhide hE hp)
        have f0 : decide (97 ≤ (c.toNat : Int)) = true := by rw [decide_eq_true_eq]; omega
        have f1 : decide ((c.toNat : Int) ≤ 122) = false := by rw [decide_eq_false_iff_not]; omega
        have f2 : decide (48 ≤ (c.toNat : Int)) = true := by rw [decide_eq_true_eq]; omega
        have f3 : decide ((c.toNat : Int) ≤ 57) = false := by rw [decide_eq_false_iff_not]; omega
        have f4 : ((c.toNat : Int) != 45) = true := by rw [bne_iff_ne]; omega
        have f5 : ((c.toNat : Int) != 95) = true := by rw [bne_iff_ne]; omega
        have f6 : ((c.toNat : Int) != 46) = true := by rw [bne_iff_ne]; omega
        clear hp hE hT hA hI q0 q1 q2 q3 q4 q5
        go_wp2
        go_ret
        exact ⟨ret_bool (by simp [nm, unhide hF]), rfl⟩
      by_cases q6 : 48 ≤ c.toNat
      ·
        have hp : sg c = false := by rw [Bool.eq_false_iff]; intro h; have := (unhide hI).1 h; omega
        have hF := hide (unhide hE hp)
        have f0 : decide (97 ≤ (c.toNat : Int)) = false := by rw [decide_eq_false_iff_not]; omega
        have f1 : decide (48 ≤ (c.toNat : Int)) = true := by rw [decide_eq_true_eq]; omega
        have f2 : decide ((c.toNat : Int) ≤ 57) = false := by rw [decide_eq_false_iff_not]; omega
        have f3 : ((c.toNat : Int) != 45) = true := by rw [bne_iff_ne]; omega
        have f4 : ((c.toNat : Int) != 95) = true := by rw [bne_iff_ne]; omega
        have f5 : ((c.toNat : Int) != 46) = true := by rw [bne_iff_ne]; omega
        clear hp hE hT hA hI q0 q1 q2 q3 q4 q5 q6
        go_wp2
        go_ret
        exact ⟨ret_bool (by simp [nm, unhide hF]), rfl⟩
      ·
        have hp : sg c = false := by rw [Bool.eq_false_iff]; intro h; have := (unhide hI).1 h; omega
        have hF := hide (unhide hE hp)
        have f0 : decide (97 ≤ (c.toNat : Int)) = false := by rw [decide_eq_false_iff_not]; omega
        have f1 : decide (48 ≤ (c.toNat : Int)) = false := by rw [decide_eq_false_iff_not]; omega
        have f2 : ((c.toNat : Int) != 45) = true := by rw [bne_iff_ne]; omega
        have f3 : ((c.toNat : Int) != 95) = true := by rw [bne_iff_ne]; omega
        have f4 : ((c.toNat : Int) != 46) = true := by rw [bne_iff_ne]; omega
        clear hp hE hT hA hI q0 q1 q2 q3 q4 q5 q6
        go_wp2
        go_ret
        exact ⟨ret_bool (by simp [nm, unhide hF]), rfl⟩
    · have e : s.take k = s := List.take_of_length_le (by omega)
      rw [e] at ha
      have hA := hide ha
      have hklt : ¬ (k : Int) < (s.length : Int) := by omega
      clear ha e
      by_cases hz : s.length = 0
      · have hz' : decide (1 ≤ (s.length : Int)) = false := by rw [decide_eq_false_iff_not]; omega
        go_wp2
        go_ret
        refine ⟨ret_bool ?_, rfl⟩
        simp [nm, hz]
      · have hz' : decide (1 ≤ (s.length : Int)) = true := by rw [decide_eq_true_eq]; omega
        go_wp2
        go_ret
        refine ⟨ret_bool ?_, rfl⟩
        rw [Bool.eq_iff_iff]
        simp [nm, unhide hA]
        omega
end Go.Proofs.YtmjaobddgaglhaaGreatDoor
namespace Go.Proofs.YtmjaobddgaglhaaGreatDoor
open Go.RowKit Go.Lib
set_option maxHeartbeats 4000000
set_option maxRecDepth 8000
theorem right_nm (s : Bs) : right [s] = nm s := by
  have e : tx [s] = s := by simp [tx, tl]
  unfold right wr many
  rw [e]
  cases h : nm s
  · simp [h, up]
  · have : s.length ≤ 16 := by simp [nm] at h; exact h.1.2
    simp [h, up]
    omega
end Go.Proofs.YtmjaobddgaglhaaGreatDoor
namespace Go.Proofs.YtmjaobddgaglhaaGreatDoor
open Go.RowKit Go.Lib
set_option maxHeartbeats 4000000
set_option maxRecDepth 8000
theorem tokN (id9 fa ge : Int) (ha : Bs) (mi : Int) (sp : Bool) (at9 ne : Int) (se : Bs) : tokOK id9 fa ge ha mi sp at9 ne se = (idn id9 && (idn fa && (tim mi && ((gnr ge && (ha.length == 32)) && spOK mi sp at9 ne se)))) := by
  unfold tokOK
  cases idn id9 <;> cases idn fa <;> cases gnr ge <;> cases (ha.length == 32) <;> cases tim mi <;> simp
theorem gnrN (ge : Int) (ha : Bs) : (!(gnr ge && (ha.length == 32))) = (decide (ge < 1) || decide (1073741824 < ge) || ((ha.length : Int) != 32)) := by
  rw [Bool.eq_iff_iff]
  simp only [gnr, Bool.not_eq_true', Bool.and_eq_false_imp, Bool.or_eq_true, decide_eq_true_eq, bne_iff_ne, Bool.and_eq_true]
  simp <;> omega
theorem rMay97 (id9 fa ge : Int) (ha : Bs) (mi : Int) (sp : Bool) (at9 ne : Int) (se : Bs) (w : World) : Calls Tryz.prog 36 #[.agg #[I id9, I fa, I ge, S ha, I mi, .bool sp, I at9, I ne, S se]] w fun e w' => e = .returned (.bool (tokOK id9 fa ge ha mi sp at9 ne se)) ∧ Below w.heap.size w w' := by
  have hB0 : Below w.heap.size w (w.alloc (.cells #[I id9, I fa, I ge, S ha, I mi, .bool sp, I at9, I ne, S se] 26)) := (Below.refl _ w).alloc (Nat.le_refl _) _
  have c0 : (w.alloc (.cells #[I id9, I fa, I ge, S ha, I mi, .bool sp, I at9, I ne, S se] 26)).cell? ⟨w.heap.size, 0, none⟩ = some (I id9) := cell_new _ _ _ _ _ rfl
  have c1 : (w.alloc (.cells #[I id9, I fa, I ge, S ha, I mi, .bool sp, I at9, I ne, S se] 26)).cell? ⟨w.heap.size, 1, none⟩ = some (I fa) := cell_new _ _ _ _ _ rfl
  have c2 : (w.alloc (.cells #[I id9, I fa, I ge, S ha, I mi, .bool sp, I at9, I ne, S se] 26)).cell? ⟨w.heap.size, 2, none⟩ = some (I ge) := cell_new _ _ _ _ _ rfl
  have c3 : (w.alloc (.cells #[I id9, I fa, I ge, S ha, I mi, .bool sp, I at9, I ne, S se] 26)).cell? ⟨w.heap.size, 3, none⟩ = some (S ha) := cell_new _ _ _ _ _ rfl
  have c4 : (w.alloc (.cells #[I id9, I fa, I ge, S ha, I mi, .bool sp, I at9, I ne, S se] 26)).cell? ⟨w.heap.size, 4, none⟩ = some (I mi) := cell_new _ _ _ _ _ rfl
  have c5 : (w.alloc (.cells #[I id9, I fa, I ge, S ha, I mi, .bool sp, I at9, I ne, S se] 26)).cell? ⟨w.heap.size, 5, none⟩ = some (.bool sp) := cell_new _ _ _ _ _ rfl
  have c6 : (w.alloc (.cells #[I id9, I fa, I ge, S ha, I mi, .bool sp, I at9, I ne, S se] 26)).cell? ⟨w.heap.size, 6, none⟩ = some (I at9) := cell_new _ _ _ _ _ rfl
  have c7 : (w.alloc (.cells #[I id9, I fa, I ge, S ha, I mi, .bool sp, I at9, I ne, S se] 26)).cell? ⟨w.heap.size, 7, none⟩ = some (I ne) := cell_new _ _ _ _ _ rfl
  have c8 : (w.alloc (.cells #[I id9, I fa, I ge, S ha, I mi, .bool sp, I at9, I ne, S se] 26)).cell? ⟨w.heap.size, 8, none⟩ = some (S se) := cell_new _ _ _ _ _ rfl
  generalize hW1 : (w.alloc (.cells #[I id9, I fa, I ge, S ha, I mi, .bool sp, I at9, I ne, S se] 26)) = W1 at *
  have HB := hide hB0
  clear hB0
  have HKE := hide (tokN id9 fa ge ha mi sp at9 ne se)
  have HGN := hide (gnrN ge ha)
  have XC0 := hide (fun W => rId_any id9 W)
  have XC1 := hide (fun W => rId_any fa W)
  have XC2 := hide (fun W => rTime_any mi W)
  generalize tokOK id9 fa ge ha mi sp at9 ne se = R at *
  generalize (gnr ge && (ha.length == 32)) = g9 at *
  generalize idn id9 = b0 at *
  generalize idn fa = b1 at *
  generalize tim mi = b2 at *
  go_enter Tryz.func36, Tryz.ntmps36
  go_wp2_with fail
  refine (unhide XC0 W1).mono ?_
  rintro e w9 ⟨rfl, hw9⟩
  rw [hw9]
  clear hw9 w9 XC0
  go_wp2_with fail
  refine (unhide XC1 W1).mono ?_
  rintro e w9 ⟨rfl, hw9⟩
  rw [hw9]
  clear hw9 w9 XC1
  go_wp2_with fail
  refine (unhide XC2 W1).mono ?_
  rintro e w9 ⟨rfl, hw9⟩
  rw [hw9]
  clear hw9 w9 XC2
  go_upto_region 4 with fail
  clear hW1
  go_cut [42] from 17 to 42 (fun v wc => v = .bool (!(b0 && (b1 && (b2 && g9)))) ∧ wc = W1)
  case first =>
    clear HKE HB
    cases b0
    · clear HGN
      go_wp2
      go_meet
      exact ⟨rfl, rfl⟩
    cases b1
    · clear HGN
      go_wp2
      go_meet
      exact ⟨rfl, rfl⟩
    cases b2
    · clear HGN
      go_wp2
      go_meet
      exact ⟨rfl, rfl⟩
    by_cases h1 : ge < 1
    · have HV := hide (show true = !g9 by rw [unhide HGN]; simp [h1])
      clear HGN
      go_wp2
      go_meet
      exact ⟨congrArg Value.bool (unhide HV), rfl⟩
    by_cases h2 : 1073741824 < ge
    · have HV := hide (show true = !g9 by rw [unhide HGN]; simp [h2])
      clear HGN
      go_wp2
      go_meet
      exact ⟨congrArg Value.bool (unhide HV), rfl⟩
    by_cases h3 : ha.length = 32
    · have gha : ((ha.length : Int) != 32) = false := by rw [bne_eq_false_iff_eq]; omega
      have HV := hide (show false = !g9 by rw [unhide HGN]; simp [h1, h2, gha])
      clear HGN
      go_wp2
      go_meet
      exact ⟨congrArg Value.bool (unhide HV), rfl⟩
    · have gha : ((ha.length : Int) != 32) = true := by rw [bne_iff_ne]; omega
      have HV := hide (show true = !g9 by rw [unhide HGN]; simp [gha])
      clear HGN
      go_wp2
      go_meet
      exact ⟨congrArg Value.bool (unhide HV), rfl⟩
  case rest =>
  obtain ⟨rfl, hwc⟩ := hcut
  rw [hwc]
  clear hwc HGN
  cases hc : (b0 && (b1 && (b2 && g9)))
  · have HR : Hid (R = false) := hide (by rw [unhide HKE, ← Bool.and_assoc b2, ← Bool.and_assoc b1, ← Bool.and_assoc b0, hc]; rfl)
    clear HKE hc
    go_wp2
    go_ret
    exact ⟨ret_bool (unhide HR).symm, unhide HB⟩
  · have HR : Hid (R = spOK mi sp at9 ne se) := hide (by rw [unhide HKE, ← Bool.and_assoc b2, ← Bool.and_assoc b1, ← Bool.and_assoc b0, hc]; rfl)
    clear HKE hc
    cases sp
    · have HS := hide (show spOK mi false at9 ne se = (at9 == 0 && (ne == 0 && (se == []))) from rfl)
      generalize spOK mi false at9 ne se = s9 at *
      by_cases h1 : at9 = 0
      · subst h1
        by_cases h2 : ne = 0
        · subst h2
          by_cases h3 : se = []
          · subst h3
            have HV := hide (show R = true by rw [unhide HR, unhide HS]; rfl)
            clear HR HS
            go_wp2
            go_ret
            exact ⟨ret_bool (unhide HV).symm, unhide HB⟩
          · have hse : (se == []) = false := by simpa using h3
            have HV := hide (show R = false by rw [unhide HR, unhide HS, hse]; rfl)
            clear HR HS
            go_wp2
            go_ret
            exact ⟨ret_bool (unhide HV).symm, unhide HB⟩
        · have hne : (ne == 0) = false := by simpa using h2
          have HV := hide (show R = false by rw [unhide HR, unhide HS, hne]; rfl)
          clear HR HS
          go_wp2
          go_ret
          exact ⟨ret_bool (unhide HV).symm, unhide HB⟩
      · have hat : (at9 == 0) = false := by simpa using h1
        have HV := hide (show R = false by rw [unhide HR, unhide HS, hat]; rfl)
        clear HR HS
        go_wp2
        go_ret
        exact ⟨ret_bool (unhide HV).symm, unhide HB⟩
    · have HS := hide (show spOK mi true at9 ne se = (tim at9 && (decide (mi ≤ at9) && (idn ne && (se.length == 24)))) from rfl)
      have XC3 := hide (fun W => rTime_any at9 W)
      have XC4 := hide (fun W => rId_any ne W)
      generalize spOK mi true at9 ne se = s9 at *
      generalize tim at9 = b3 at *
      generalize idn ne = b4 at *
      go_wp2_with fail
      refine (unhide XC3 W1).mono ?_
      rintro e w9 ⟨rfl, hw9⟩
      rw [hw9]
      clear hw9 w9 XC3
      go_wp2_with fail
      refine (unhide XC4 W1).mono ?_
      rintro e w9 ⟨rfl, hw9⟩
      rw [hw9]
      clear hw9 w9 XC4
      cases b3
      · have HV := hide (show R = false by rw [unhide HR, unhide HS]; rfl)
        clear HR HS
        go_wp2
        go_ret
        exact ⟨ret_bool (unhide HV).symm, unhide HB⟩
      cases b4
      · have HV := hide (show R = false by rw [unhide HR, unhide HS]; simp)
        clear HR HS
        go_wp2
        go_ret
        exact ⟨ret_bool (unhide HV).symm, unhide HB⟩
      by_cases h1 : mi ≤ at9
      · by_cases h2 : se.length = 24
        · have hse : ((se.length : Int) == 24) = true := by rw [beq_iff_eq]; omega
          have HV := hide (show R = true by rw [unhide HR, unhide HS]; simp [h1, h2])
          clear HR HS
          go_wp2
          go_ret
          exact ⟨ret_bool (unhide HV).symm, unhide HB⟩
        · have hse : ((se.length : Int) == 24) = false := by rw [beq_eq_false_iff_ne]; omega
          have HV := hide (show R = false by rw [unhide HR, unhide HS]; simp [h2])
          clear HR HS
          go_wp2
          go_ret
          exact ⟨ret_bool (unhide HV).symm, unhide HB⟩
      · have HV := hide (show R = false by rw [unhide HR, unhide HS]; simp [h1])
        clear HR HS
        go_wp2
        go_ret
        exact ⟨ret_bool (unhide HV).symm, unhide HB⟩
end Go.Proofs.YtmjaobddgaglhaaGreatDoor
