import Derived.Test.YtmjaobddgaglhaaGreatDoorRbb
import Derived.Test.YtmjaobddgaglhaaGreatDoorZrgpr
import Derived.Test.YtmjaobddgaglhaaGreatDoorZfde
import Derived.Test.YtmjaobddgaglhaaGreatDoorZdetl
import Derived.Deep.Cut
import Derived.Deep.CutRange
import Derived.Test.YtmjaobddgaglhaaGreatDoorZscb
import Derived.Test.YtmjaobddgaglhaaGreatDoorZprd
namespace Go.Proofs.YtmjaobddgaglhaaGreatDoor
open Go.RowKit Go.Lib
set_option maxHeartbeats 4000000
set_option maxRecDepth 8000
theorem tokN (id9 fa ge : Int) (ha : Bs) (mi : Int) (sp : Bool) (at9 ne : Int) (se : Bs) : tokOK id9 fa ge ha mi sp at9 ne se = (idn id9 && (idn fa && (tim mi && ((gnr ge && (ha.length == 32)) && spOK mi sp at9 ne se)))) := by
  unfold tokOK
  cases idn id9 <;> cases idn fa <;> cases gnr ge <;> cases (ha.length == 32) <;> cases tim mi <;> simp
theorem gnrN (ge : Int) (ha : Bs) : (!(gnr ge && (ha.length == 32))) = (decide (ge < 1) || decide (1073741824 < ge) || ((ha.length : Int) != 32)) := by
  rw [Bool.eq_iff_iff]
  simp only [gnr, Bool.not_eq_true', Bool.and_eq_false_imp, Bool.or_eq_true, decide_eq_true_eq, bne_iff_ne, Bool.and_eq_true]
  simp <;> omega
theorem rMay97 (id9 fa ge : Int) (ha : Bs) (mi : Int) (sp : Bool) (at9 ne : Int) (se : Bs) (w : World) : Calls Tryz.prog 36 #[.agg #[I id9, I fa, I ge, S ha, I mi, .bool sp, I at9, I ne, S se]] w fun e w' => e = .returned (.bool (tokOK id9 fa ge ha mi sp at9 ne se)) ∧ Below w.heap.size w w' := by
  have hB0 : Below w.heap.size w (w.alloc (.cells #[I id9, I fa, I ge, S ha, I mi, .bool sp, I at9, I ne, S se] 26)) := (Below.refl _ w).alloc (Nat.le_refl _) _
  have c0 : (w.alloc (.cells #[I id9, I fa, I ge, S ha, I mi, .bool sp, I at9, I ne, S se] 26)).cell? ⟨w.heap.size, 0, none⟩ = some (I id9) := cell_new _ _ _ _ _ rfl
  have c1 : (w.alloc (.cells #[I id9, I fa, I ge, S ha, I mi, .bool sp, I at9, I ne, S se] 26)).cell? ⟨w.heap.size, 1, none⟩ = some (I fa) := cell_new _ _ _ _ _ rfl
  have c2 : (w.alloc (.cells #[I id9, I fa, I ge, S ha, I mi, .bool sp, I at9, I ne, S se] 26)).cell? ⟨w.heap.size, 2, none⟩ = some (I ge) := cell_new _ _ _ _ _ rfl
  have c3 : (w.alloc (.cells #[I id9, I fa, I ge, S ha, I mi, .bool sp, I at9, I ne, S se] 26)).cell? ⟨w.heap.size, 3, none⟩ = some (S ha) := cell_new _ _ _ _ _ rfl
  have c4 : (w.alloc (.cells #[I id9, I fa, I ge, S ha, I mi, .bool sp, I at9, I ne, S se] 26)).cell? ⟨w.heap.size, 4, none⟩ = some (I mi) := cell_new _ _ _ _ _ rfl
  have c5 : (w.alloc (.cells #[I id9, I fa, I ge, S ha, I mi, .bool sp, I at9, I ne, S se] 26)).cell? ⟨w.heap.size, 5, none⟩ = some (.bool sp) := cell_new _ _ _ _ _ rfl
  have c6 : (w.alloc (.cells #[I id9, I fa, I ge, S ha, I mi, .bool sp, I at9, I ne, S se] 26)).cell? ⟨w.heap.size, 6, none⟩ = some (I at9) := cell_new _ _ _ _ _ rfl
  have c7 : (w.alloc (.cells #[I id9, I fa, I ge, S ha, I mi, .bool sp, I at9, I ne, S se] 26)).cell? ⟨w.heap.size, 7, none⟩ = some (I ne) := cell_new _ _ _ _ _ rfl
  have c8 : (w.alloc (.cells #[I id9, I fa, I ge, S ha, I mi, .bool sp, I at9, I ne, S se] 26)).cell? ⟨w.heap.size, 8, none⟩ = some (S se) := cell_new _ _ _ _ _ rfl
  generalize hW1 : (w.alloc (.cells #[I id9, I fa, I ge, S ha, I mi, .bool sp, I at9, I ne, S se] 26)) = W1 at *
  have HB := hide hB0
  clear hB0
  have HKE := hide (tokN id9 fa ge ha mi sp at9 ne se)
  have HGN := hide (gnrN ge ha)
  have XC0 := hide (fun W => rId_any id9 W)
  have XC1 := hide (fun W => rId_any fa W)
  have XC2 := hide (fun W => rTime_any mi W)
  generalize tokOK id9 fa ge ha mi sp at9 ne se = R at *
  generalize (gnr ge && (ha.length == 32)) = g9 at *
  generalize idn id9 = b0 at *
  generalize idn fa = b1 at *
  generalize tim mi = b2 at *
  go_enter Tryz.func36, Tryz.ntmps36
  go_wp2_with fail
  refine (unhide XC0 W1).mono ?_
  rintro e w9 ⟨rfl, hw9⟩
  rw [hw9]
  clear hw9 w9 XC0
  go_wp2_with fail
  refine (unhide XC1 W1).mono ?_
  rintro e w9 ⟨rfl, hw9⟩
  rw [hw9]
  clear hw9 w9 XC1
  go_wp2_with fail
  refine (unhide XC2 W1).mono ?_
  rintro e w9 ⟨rfl, hw9⟩
  rw [hw9]
  clear hw9 w9 XC2
  go_upto_region 4 with fail
  clear hW1
  go_cut [42] from 17 to 42 (fun v wc => v = .bool (!(b0 && (b1 && (b2 && g9)))) ∧ wc = W1)
  case first =>
    clear HKE HB
    cases b0
    · clear HGN
      go_wp2
      go_meet
      exact ⟨rfl, rfl⟩
    cases b1
    · clear HGN
      go_wp2
      go_meet
      exact ⟨rfl, rfl⟩
    cases b2
    · clear HGN
      go_wp2
      go_meet
      exact ⟨rfl, rfl⟩
    by_cases h1 : ge < 1
    · have HV := hide (show true = !g9 by rw [unhide HGN]; simp [h1])
      clear HGN
      go_wp2
      go_meet
      exact ⟨congrArg Value.bool (unhide HV), rfl⟩
    by_cases h2 : 1073741824 < ge
    · have HV := hide (show true = !g9 by rw [unhide HGN]; simp [h2])
      clear HGN
      go_wp2
      go_meet
      exact ⟨congrArg Value.bool (unhide HV), rfl⟩
    by_cases h3 : ha.length = 32
    · have gha : ((ha.length : Int) != 32) = false := by rw [bne_eq_false_iff_eq]; omega
      have HV := hide (show false = !g9 by rw [unhide HGN]; simp [h1, h2, gha])
      clear HGN
      go_wp2
      go_meet
      exact ⟨congrArg Value.bool (unhide HV), rfl⟩
    · have gha : ((ha.length : Int) != 32) = true := by rw [bne_iff_ne]; omega
      have HV := hide (show true = !g9 by rw [unhide HGN]; simp [gha])
      clear HGN
      go_wp2
      go_meet
      exact ⟨congrArg Value.bool (unhide HV), rfl⟩
  case rest =>
  obtain ⟨rfl, hwc⟩ := hcut
  rw [hwc]
  clear hwc HGN
  cases hc : (b0 && (b1 && (b2 && g9)))
  · have HR : Hid (R = false) := hide (by rw [unhide HKE, ← Bool.and_assoc b2, ← Bool.and_assoc b1, ← Bool.and_assoc b0, hc]; rfl)
    clear HKE hc
    go_wp2
    go_ret
    exact ⟨ret_bool (unhide HR).symm, unhide HB⟩
  · have HR : Hid (R = spOK mi sp at9 ne se) := hide (by rw [unhide HKE, ← Bool.and_assoc b2, ← Bool.and_assoc b1, ← Bool.and_assoc b0, hc]; rfl)
    clear HKE hc
    cases sp
    · have HS := hide (show spOK mi false at9 ne se = (at9 == 0 && (ne == 0 && (se == []))) from rfl)
      generalize spOK mi false at9 ne se = s9 at *
      by_cases h1 : at9 = 0
      · subst h1
        by_cases h2 : ne = 0
        · subst h2
          by_cases h3 : se = []
          · subst h3
            have HV := hide (show R = true by rw [unhide HR, unhide HS]; rfl)
            clear HR HS
            go_wp2
            go_ret
            exact ⟨ret_bool (unhide HV).symm, unhide HB⟩
          · have hse : (se == []) = false := by simpa using h3
            have HV := hide (show R = false by rw [unhide HR, unhide HS, hse]; rfl)
            clear HR HS
            go_wp2
            go_ret
            exact ⟨ret_bool (unhide HV).symm, unhide HB⟩
        · have hne : (ne == 0) = false := by simpa using h2
          have HV := hide (show R = false by rw [unhide HR, unhide HS, hne]; rfl)
          clear HR HS
          go_wp2
          go_ret
          exact ⟨ret_bool (unhide HV).symm, unhide HB⟩
      · have hat : (at9 == 0) = false := by simpa using h1
        have HV := hide (show R = false by rw [unhide HR, unhide HS, hat]; rfl)
        clear HR HS
        go_wp2
        go_ret
        exact ⟨ret_bool (unhide HV).symm, unhide HB⟩
    · have HS := hide (show spOK mi true at9 ne se = (tim at9 && (decide (mi ≤ at9) && (idn ne && (se.length == 24)))) from rfl)
      have XC3 := hide (fun W => rTime_any at9 W)
      have XC4 := hide (fun W => rId_any ne W)
      generalize spOK mi true at9 ne se = s9 at *
      generalize tim at9 = b3 at *
      generalize idn ne = b4 at *
      go_wp2_with fail
      refine (unhide XC3 W1).mono ?_
      rintro e w9 ⟨rfl, hw9⟩
      rw [hw9]
      clear hw9 w9 XC3
      go_wp2_with fail
      refine (unhide XC4 W1).mono ?_
      rintro e w9 ⟨rfl, hw9⟩
      rw [hw9]
      clear hw9 w9 XC4
      cases b3
      · have HV := hide (show R = false by rw [unhide HR, unhide HS]; rfl)
        clear HR HS
        go_wp2
        go_ret
        exact ⟨ret_bool (unhide HV).symm, unhide HB⟩
      cases b4
      · have HV := hide (show R = false by rw [unhide HR, unhide HS]; simp)
        clear HR HS
        go_wp2
        go_ret
        exact ⟨ret_bool (unhide HV).symm, unhide HB⟩
      by_cases h1 : mi ≤ at9
      · by_cases h2 : se.length = 24
        · have hse : ((se.length : Int) == 24) = true := by rw [beq_iff_eq]; omega
          have HV := hide (show R = true by rw [unhide HR, unhide HS]; simp [h1, h2])
          clear HR HS
          go_wp2
          go_ret
          exact ⟨ret_bool (unhide HV).symm, unhide HB⟩
        · have hse : ((se.length : Int) == 24) = false := by rw [beq_eq_false_iff_ne]; omega
          have HV := hide (show R = false by rw [unhide HR, unhide HS]; simp [h2])
          clear HR HS
          go_wp2
          go_ret
          exact ⟨ret_bool (unhide HV).symm, unhide HB⟩
      · have HV := hide (show R = false by rw [unhide HR, unhide HS]; simp [h1])
        clear HR HS
        go_wp2
        go_ret
        exact ⟨ret_bool (unhide HV).symm, unhide HB⟩
end Go.Proofs.YtmjaobddgaglhaaGreatDoor
