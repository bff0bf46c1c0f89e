import Derived.Test.YtpidmpefodnffaaGreatDoorRia
namespace Go.Proofs.YtpidmpefodnffaaGreatDoor
open Go.RowKit
set_option maxHeartbeats 4000000
set_option maxRecDepth 8000
def keyOK (nu : Int) (se : Bs) (fr un : Int) : Bool := decide (1 ≤ nu) && (decide (nu ≤ 1073741824) && (se.length == 24 && (tim fr && (tim un && (decide (fr ≤ un))))))
theorem rightKey_any (nu : Int) (se : Bs) (fr un : Int)  (w : World) : Calls Tryz.prog 102 #[.agg #[I nu, S se, I fr, I un]] w fun e w' => e = .returned (.bool (keyOK nu se fr un)) ∧ Below w.heap.size w w' := by
  have hB0 : Below w.heap.size w (w.alloc (.cells #[I nu, S se, I fr, I un] 60)) := (Below.refl _ w).alloc (Nat.le_refl _) _
  have HB1 := hide hB0
  have c0 : (w.alloc (.cells #[I nu, S se, I fr, I un] 60)).cell? ⟨w.heap.size, 0, none⟩ = some (I nu) := cell_new _ _ _ _ _ rfl
  have c1 : (w.alloc (.cells #[I nu, S se, I fr, I un] 60)).cell? ⟨w.heap.size, 1, none⟩ = some (S se) := cell_new _ _ _ _ _ rfl
  have c2 : (w.alloc (.cells #[I nu, S se, I fr, I un] 60)).cell? ⟨w.heap.size, 2, none⟩ = some (I fr) := cell_new _ _ _ _ _ rfl
  have c3 : (w.alloc (.cells #[I nu, S se, I fr, I un] 60)).cell? ⟨w.heap.size, 3, none⟩ = some (I un) := cell_new _ _ _ _ _ rfl
  have hlt1 : w.heap.size < (w.alloc (.cells #[I nu, S se, I fr, I un] 60)).heap.size := by simp
  generalize hW1 : w.alloc (.cells #[I nu, S se, I fr, I un] 60) = W1 at *
  have hX1 := hB0.size
  clear hB0
  cases h1 : decide (1 ≤ nu)
  ·
    go_enter Tryz.func102, Tryz.ntmps102
    go_wp2_with (first | (go_at_call 149; refine (isSecret_any _ _).mono ?_; rintro e w9 ⟨rfl, rfl⟩) | (go_at_call 147; refine (isDigest_any _ _).mono ?_; rintro e w9 ⟨rfl, rfl⟩) | (go_at_call 116; refine (isTime_any _ _).mono ?_; rintro e w9 ⟨rfl, rfl⟩) | (go_at_call 131; refine (isSpan_any _ _).mono ?_; rintro e w9 ⟨rfl, rfl⟩) | (go_at_call 142; refine (isID_any _ _).mono ?_; rintro e w9 ⟨rfl, rfl⟩) | (go_at_call 143; refine (isGen_any _ _).mono ?_; rintro e w9 ⟨rfl, rfl⟩))
    all_goals go_ret
    all_goals exact ⟨ret_bool (by simp [keyOK, *]), unhide HB1⟩
  ·
    cases h2 : decide (nu ≤ 1073741824)
    ·
      go_enter Tryz.func102, Tryz.ntmps102
      go_wp2_with (first | (go_at_call 149; refine (isSecret_any _ _).mono ?_; rintro e w9 ⟨rfl, rfl⟩) | (go_at_call 147; refine (isDigest_any _ _).mono ?_; rintro e w9 ⟨rfl, rfl⟩) | (go_at_call 116; refine (isTime_any _ _).mono ?_; rintro e w9 ⟨rfl, rfl⟩) | (go_at_call 131; refine (isSpan_any _ _).mono ?_; rintro e w9 ⟨rfl, rfl⟩) | (go_at_call 142; refine (isID_any _ _).mono ?_; rintro e w9 ⟨rfl, rfl⟩) | (go_at_call 143; refine (isGen_any _ _).mono ?_; rintro e w9 ⟨rfl, rfl⟩))
      all_goals go_ret
      all_goals exact ⟨ret_bool (by simp [keyOK, *]), unhide HB1⟩
    ·
      cases h3 : se.length == 24
      ·
        go_enter Tryz.func102, Tryz.ntmps102
        go_wp2_with (first | (go_at_call 149; refine (isSecret_any _ _).mono ?_; rintro e w9 ⟨rfl, rfl⟩) | (go_at_call 147; refine (isDigest_any _ _).mono ?_; rintro e w9 ⟨rfl, rfl⟩) | (go_at_call 116; refine (isTime_any _ _).mono ?_; rintro e w9 ⟨rfl, rfl⟩) | (go_at_call 131; refine (isSpan_any _ _).mono ?_; rintro e w9 ⟨rfl, rfl⟩) | (go_at_call 142; refine (isID_any _ _).mono ?_; rintro e w9 ⟨rfl, rfl⟩) | (go_at_call 143; refine (isGen_any _ _).mono ?_; rintro e w9 ⟨rfl, rfl⟩))
        all_goals go_ret
        all_goals exact ⟨ret_bool (by simp [keyOK, *]), unhide HB1⟩
      ·
        cases h4 : tim fr
        ·
          go_enter Tryz.func102, Tryz.ntmps102
          go_wp2_with (first | (go_at_call 149; refine (isSecret_any _ _).mono ?_; rintro e w9 ⟨rfl, rfl⟩) | (go_at_call 147; refine (isDigest_any _ _).mono ?_; rintro e w9 ⟨rfl, rfl⟩) | (go_at_call 116; refine (isTime_any _ _).mono ?_; rintro e w9 ⟨rfl, rfl⟩) | (go_at_call 131; refine (isSpan_any _ _).mono ?_; rintro e w9 ⟨rfl, rfl⟩) | (go_at_call 142; refine (isID_any _ _).mono ?_; rintro e w9 ⟨rfl, rfl⟩) | (go_at_call 143; refine (isGen_any _ _).mono ?_; rintro e w9 ⟨rfl, rfl⟩))
          all_goals go_ret
          all_goals exact ⟨ret_bool (by simp [keyOK, *]), unhide HB1⟩
        ·
          cases h5 : tim un
          ·
            go_enter Tryz.func102, Tryz.ntmps102
            go_wp2_with (first | (go_at_call 149; refine (isSecret_any _ _).mono ?_; rintro e w9 ⟨rfl, rfl⟩) | (go_at_call 147; refine (isDigest_any _ _).mono ?_; rintro e w9 ⟨rfl, rfl⟩) | (go_at_call 116; refine (isTime_any _ _).mono ?_; rintro e w9 ⟨rfl, rfl⟩) | (go_at_call 131; refine (isSpan_any _ _).mono ?_; rintro e w9 ⟨rfl, rfl⟩) | (go_at_call 142; refine (isID_any _ _).mono ?_; rintro e w9 ⟨rfl, rfl⟩) | (go_at_call 143; refine (isGen_any _ _).mono ?_; rintro e w9 ⟨rfl, rfl⟩))
            all_goals go_ret
            all_goals exact ⟨ret_bool (by simp [keyOK, *]), unhide HB1⟩
          ·
            cases h6 : decide (fr ≤ un)
            ·
              go_enter Tryz.func102, Tryz.ntmps102
              go_wp2_with (first | (go_at_call 149; refine (isSecret_any _ _).mono ?_; rintro e w9 ⟨rfl, rfl⟩) | (go_at_call 147; refine (isDigest_any _ _).mono ?_; rintro e w9 ⟨rfl, rfl⟩) | (go_at_call 116; refine (isTime_any _ _).mono ?_; rintro e w9 ⟨rfl, rfl⟩) | (go_at_call 131; refine (isSpan_any _ _).mono ?_; rintro e w9 ⟨rfl, rfl⟩) | (go_at_call 142; refine (isID_any _ _).mono ?_; rintro e w9 ⟨rfl, rfl⟩) | (go_at_call 143; refine (isGen_any _ _).mono ?_; rintro e w9 ⟨rfl, rfl⟩))
              all_goals go_ret
              all_goals exact ⟨ret_bool (by simp [keyOK, *]), unhide HB1⟩
            ·
              go_enter Tryz.func102, Tryz.ntmps102
              go_wp2_with (first | (go_at_call 149; refine (isSecret_any _ _).mono ?_; rintro e w9 ⟨rfl, rfl⟩) | (go_at_call 147; refine (isDigest_any _ _).mono ?_; rintro e w9 ⟨rfl, rfl⟩) | (go_at_call 116; refine (isTime_any _ _).mono ?_; rintro e w9 ⟨rfl, rfl⟩) | (go_at_call 131; refine (isSpan_any _ _).mono ?_; rintro e w9 ⟨rfl, rfl⟩) | (go_at_call 142; refine (isID_any _ _).mono ?_; rintro e w9 ⟨rfl, rfl⟩) | (go_at_call 143; refine (isGen_any _ _).mono ?_; rintro e w9 ⟨rfl, rfl⟩))
              all_goals go_ret
              all_goals exact ⟨ret_bool (by simp [keyOK, *]), unhide HB1⟩
def memOK (fa ge id : Int) : Bool := idn fa && (gnr ge && (idn id))
theorem rightMember_any (fa ge id : Int)  (w : World) : Calls Tryz.prog 121 #[.agg #[I fa, I ge, I id]] w fun e w' => e = .returned (.bool (memOK fa ge id)) ∧ Below w.heap.size w w' := by
  have hB0 : Below w.heap.size w (w.alloc (.cells #[I fa, I ge, I id] 139)) := (Below.refl _ w).alloc (Nat.le_refl _) _
  have HB1 := hide hB0
  have c0 : (w.alloc (.cells #[I fa, I ge, I id] 139)).cell? ⟨w.heap.size, 0, none⟩ = some (I fa) := cell_new _ _ _ _ _ rfl
  have c1 : (w.alloc (.cells #[I fa, I ge, I id] 139)).cell? ⟨w.heap.size, 1, none⟩ = some (I ge) := cell_new _ _ _ _ _ rfl
  have c2 : (w.alloc (.cells #[I fa, I ge, I id] 139)).cell? ⟨w.heap.size, 2, none⟩ = some (I id) := cell_new _ _ _ _ _ rfl
  have hlt1 : w.heap.size < (w.alloc (.cells #[I fa, I ge, I id] 139)).heap.size := by simp
  generalize hW1 : w.alloc (.cells #[I fa, I ge, I id] 139) = W1 at *
  have hX1 := hB0.size
  clear hB0
  cases h1 : idn fa
  ·
    go_enter Tryz.func121, Tryz.ntmps121
    go_wp2_with (first | (go_at_call 149; refine (isSecret_any _ _).mono ?_; rintro e w9 ⟨rfl, rfl⟩) | (go_at_call 147; refine (isDigest_any _ _).mono ?_; rintro e w9 ⟨rfl, rfl⟩) | (go_at_call 116; refine (isTime_any _ _).mono ?_; rintro e w9 ⟨rfl, rfl⟩) | (go_at_call 131; refine (isSpan_any _ _).mono ?_; rintro e w9 ⟨rfl, rfl⟩) | (go_at_call 142; refine (isID_any _ _).mono ?_; rintro e w9 ⟨rfl, rfl⟩) | (go_at_call 143; refine (isGen_any _ _).mono ?_; rintro e w9 ⟨rfl, rfl⟩))
    all_goals go_ret
    all_goals exact ⟨ret_bool (by simp [memOK, *]), unhide HB1⟩
  ·
    cases h2 : gnr ge
    ·
      go_enter Tryz.func121, Tryz.ntmps121
      go_wp2_with (first | (go_at_call 149; refine (isSecret_any _ _).mono ?_; rintro e w9 ⟨rfl, rfl⟩) | (go_at_call 147; refine (isDigest_any _ _).mono ?_; rintro e w9 ⟨rfl, rfl⟩) | (go_at_call 116; refine (isTime_any _ _).mono ?_; rintro e w9 ⟨rfl, rfl⟩) | (go_at_call 131; refine (isSpan_any _ _).mono ?_; rintro e w9 ⟨rfl, rfl⟩) | (go_at_call 142; refine (isID_any _ _).mono ?_; rintro e w9 ⟨rfl, rfl⟩) | (go_at_call 143; refine (isGen_any _ _).mono ?_; rintro e w9 ⟨rfl, rfl⟩))
      all_goals go_ret
      all_goals exact ⟨ret_bool (by simp [memOK, *]), unhide HB1⟩
    ·
      cases h3 : idn id
      ·
        go_enter Tryz.func121, Tryz.ntmps121
        go_wp2_with (first | (go_at_call 149; refine (isSecret_any _ _).mono ?_; rintro e w9 ⟨rfl, rfl⟩) | (go_at_call 147; refine (isDigest_any _ _).mono ?_; rintro e w9 ⟨rfl, rfl⟩) | (go_at_call 116; refine (isTime_any _ _).mono ?_; rintro e w9 ⟨rfl, rfl⟩) | (go_at_call 131; refine (isSpan_any _ _).mono ?_; rintro e w9 ⟨rfl, rfl⟩) | (go_at_call 142; refine (isID_any _ _).mono ?_; rintro e w9 ⟨rfl, rfl⟩) | (go_at_call 143; refine (isGen_any _ _).mono ?_; rintro e w9 ⟨rfl, rfl⟩))
        all_goals go_ret
        all_goals exact ⟨ret_bool (by simp [memOK, *]), unhide HB1⟩
      ·
        go_enter Tryz.func121, Tryz.ntmps121
        go_wp2_with (first | (go_at_call 149; refine (isSecret_any _ _).mono ?_; rintro e w9 ⟨rfl, rfl⟩) | (go_at_call 147; refine (isDigest_any _ _).mono ?_; rintro e w9 ⟨rfl, rfl⟩) | (go_at_call 116; refine (isTime_any _ _).mono ?_; rintro e w9 ⟨rfl, rfl⟩) | (go_at_call 131; refine (isSpan_any _ _).mono ?_; rintro e w9 ⟨rfl, rfl⟩) | (go_at_call 142; refine (isID_any _ _).mono ?_; rintro e w9 ⟨rfl, rfl⟩) | (go_at_call 143; refine (isGen_any _ _).mono ?_; rintro e w9 ⟨rfl, rfl⟩))
        all_goals go_ret
        all_goals exact ⟨ret_bool (by simp [memOK, *]), unhide HB1⟩
def endOK (en id : Int) : Bool := tim en && (idn id)
theorem rightEnding_any (en id : Int)  (w : World) : Calls Tryz.prog 124 #[.agg #[I en, I id]] w fun e w' => e = .returned (.bool (endOK en id)) ∧ Below w.heap.size w w' := by
  have hB0 : Below w.heap.size w (w.alloc (.cells #[I en, I id] 115)) := (Below.refl _ w).alloc (Nat.le_refl _) _
  have HB1 := hide hB0
  have c0 : (w.alloc (.cells #[I en, I id] 115)).cell? ⟨w.heap.size, 0, none⟩ = some (I en) := cell_new _ _ _ _ _ rfl
  have c1 : (w.alloc (.cells #[I en, I id] 115)).cell? ⟨w.heap.size, 1, none⟩ = some (I id) := cell_new _ _ _ _ _ rfl
  have hlt1 : w.heap.size < (w.alloc (.cells #[I en, I id] 115)).heap.size := by simp
  generalize hW1 : w.alloc (.cells #[I en, I id] 115) = W1 at *
  have hX1 := hB0.size
  clear hB0
  cases h1 : tim en
  ·
    go_enter Tryz.func124, Tryz.ntmps124
    go_wp2_with (first | (go_at_call 149; refine (isSecret_any _ _).mono ?_; rintro e w9 ⟨rfl, rfl⟩) | (go_at_call 147; refine (isDigest_any _ _).mono ?_; rintro e w9 ⟨rfl, rfl⟩) | (go_at_call 116; refine (isTime_any _ _).mono ?_; rintro e w9 ⟨rfl, rfl⟩) | (go_at_call 131; refine (isSpan_any _ _).mono ?_; rintro e w9 ⟨rfl, rfl⟩) | (go_at_call 142; refine (isID_any _ _).mono ?_; rintro e w9 ⟨rfl, rfl⟩) | (go_at_call 143; refine (isGen_any _ _).mono ?_; rintro e w9 ⟨rfl, rfl⟩))
    all_goals go_ret
    all_goals exact ⟨ret_bool (by simp [endOK, *]), unhide HB1⟩
  ·
    cases h2 : idn id
    ·
      go_enter Tryz.func124, Tryz.ntmps124
      go_wp2_with (first | (go_at_call 149; refine (isSecret_any _ _).mono ?_; rintro e w9 ⟨rfl, rfl⟩) | (go_at_call 147; refine (isDigest_any _ _).mono ?_; rintro e w9 ⟨rfl, rfl⟩) | (go_at_call 116; refine (isTime_any _ _).mono ?_; rintro e w9 ⟨rfl, rfl⟩) | (go_at_call 131; refine (isSpan_any _ _).mono ?_; rintro e w9 ⟨rfl, rfl⟩) | (go_at_call 142; refine (isID_any _ _).mono ?_; rintro e w9 ⟨rfl, rfl⟩) | (go_at_call 143; refine (isGen_any _ _).mono ?_; rintro e w9 ⟨rfl, rfl⟩))
      all_goals go_ret
      all_goals exact ⟨ret_bool (by simp [endOK, *]), unhide HB1⟩
    ·
      go_enter Tryz.func124, Tryz.ntmps124
      go_wp2_with (first | (go_at_call 149; refine (isSecret_any _ _).mono ?_; rintro e w9 ⟨rfl, rfl⟩) | (go_at_call 147; refine (isDigest_any _ _).mono ?_; rintro e w9 ⟨rfl, rfl⟩) | (go_at_call 116; refine (isTime_any _ _).mono ?_; rintro e w9 ⟨rfl, rfl⟩) | (go_at_call 131; refine (isSpan_any _ _).mono ?_; rintro e w9 ⟨rfl, rfl⟩) | (go_at_call 142; refine (isID_any _ _).mono ?_; rintro e w9 ⟨rfl, rfl⟩) | (go_at_call 143; refine (isGen_any _ _).mono ?_; rintro e w9 ⟨rfl, rfl⟩))
      all_goals go_ret
      all_goals exact ⟨ret_bool (by simp [endOK, *]), unhide HB1⟩
def subOK (su : Bs) (id : Int) : Bool := right [su] && (idn id)
theorem rightSubjected_any (su : Bs) (id : Int) (hsu : su.length ≤ 9223372036854775807) (w : World) : Calls Tryz.prog 126 #[.agg #[S su, I id]] w fun e w' => e = .returned (.bool (subOK su id)) ∧ Below w.heap.size w w' := by
  have hB0 : Below w.heap.size w (w.alloc (.cells #[S su, I id] 120)) := (Below.refl _ w).alloc (Nat.le_refl _) _
  have HB1 := hide hB0
  have c0 : (w.alloc (.cells #[S su, I id] 120)).cell? ⟨w.heap.size, 0, none⟩ = some (S su) := cell_new _ _ _ _ _ rfl
  have c1 : (w.alloc (.cells #[S su, I id] 120)).cell? ⟨w.heap.size, 1, none⟩ = some (I id) := cell_new _ _ _ _ _ rfl
  have hlt1 : w.heap.size < (w.alloc (.cells #[S su, I id] 120)).heap.size := by simp
  generalize hW1 : w.alloc (.cells #[S su, I id] 120) = W1 at *
  have hX1 := hB0.size
  clear hB0
  cases h1 : right [su]
  ·
    go_enter Tryz.func126, Tryz.ntmps126
    go_wp2_with (first | (go_at_call 149; refine (isSecret_any _ _).mono ?_; rintro e w9 ⟨rfl, rfl⟩) | (go_at_call 147; refine (isDigest_any _ _).mono ?_; rintro e w9 ⟨rfl, rfl⟩) | (go_at_call 116; refine (isTime_any _ _).mono ?_; rintro e w9 ⟨rfl, rfl⟩) | (go_at_call 131; refine (isSpan_any _ _).mono ?_; rintro e w9 ⟨rfl, rfl⟩) | (go_at_call 142; refine (isID_any _ _).mono ?_; rintro e w9 ⟨rfl, rfl⟩) | (go_at_call 143; refine (isGen_any _ _).mono ?_; rintro e w9 ⟨rfl, rfl⟩))
    refine (isNm_any su _ (by assumption)).mono ?_
    rintro e v0 ⟨rfl, hv0⟩
    replace c0 := cell_below c0 hv0 hlt1
    replace c1 := cell_below c1 hv0 hlt1
    have hlt2 : w.heap.size < v0.heap.size := Nat.lt_of_lt_of_le hlt1 hv0.size
    have HB2 := hide ((unhide HB1).trans (hv0.mono (unhide HB1).size))
    clear hv0
    go_wp2_with (first | (go_at_call 149; refine (isSecret_any _ _).mono ?_; rintro e w9 ⟨rfl, rfl⟩) | (go_at_call 147; refine (isDigest_any _ _).mono ?_; rintro e w9 ⟨rfl, rfl⟩) | (go_at_call 116; refine (isTime_any _ _).mono ?_; rintro e w9 ⟨rfl, rfl⟩) | (go_at_call 131; refine (isSpan_any _ _).mono ?_; rintro e w9 ⟨rfl, rfl⟩) | (go_at_call 142; refine (isID_any _ _).mono ?_; rintro e w9 ⟨rfl, rfl⟩) | (go_at_call 143; refine (isGen_any _ _).mono ?_; rintro e w9 ⟨rfl, rfl⟩))
    all_goals go_ret
    all_goals exact ⟨ret_bool (by simp [subOK, *]), unhide HB2⟩
  ·
    cases h2 : idn id
    ·
      go_enter Tryz.func126, Tryz.ntmps126
      go_wp2_with (first | (go_at_call 149; refine (isSecret_any _ _).mono ?_; rintro e w9 ⟨rfl, rfl⟩) | (go_at_call 147; refine (isDigest_any _ _).mono ?_; rintro e w9 ⟨rfl, rfl⟩) | (go_at_call 116; refine (isTime_any _ _).mono ?_; rintro e w9 ⟨rfl, rfl⟩) | (go_at_call 131; refine (isSpan_any _ _).mono ?_; rintro e w9 ⟨rfl, rfl⟩) | (go_at_call 142; refine (isID_any _ _).mono ?_; rintro e w9 ⟨rfl, rfl⟩) | (go_at_call 143; refine (isGen_any _ _).mono ?_; rintro e w9 ⟨rfl, rfl⟩))
      refine (isNm_any su _ (by assumption)).mono ?_
      rintro e v0 ⟨rfl, hv0⟩
      replace c0 := cell_below c0 hv0 hlt1
      replace c1 := cell_below c1 hv0 hlt1
      have hlt2 : w.heap.size < v0.heap.size := Nat.lt_of_lt_of_le hlt1 hv0.size
      have HB2 := hide ((unhide HB1).trans (hv0.mono (unhide HB1).size))
      clear hv0
      go_wp2_with (first | (go_at_call 149; refine (isSecret_any _ _).mono ?_; rintro e w9 ⟨rfl, rfl⟩) | (go_at_call 147; refine (isDigest_any _ _).mono ?_; rintro e w9 ⟨rfl, rfl⟩) | (go_at_call 116; refine (isTime_any _ _).mono ?_; rintro e w9 ⟨rfl, rfl⟩) | (go_at_call 131; refine (isSpan_any _ _).mono ?_; rintro e w9 ⟨rfl, rfl⟩) | (go_at_call 142; refine (isID_any _ _).mono ?_; rintro e w9 ⟨rfl, rfl⟩) | (go_at_call 143; refine (isGen_any _ _).mono ?_; rintro e w9 ⟨rfl, rfl⟩))
      all_goals go_ret
      all_goals exact ⟨ret_bool (by simp [subOK, *]), unhide HB2⟩
    ·
      go_enter Tryz.func126, Tryz.ntmps126
      go_wp2_with (first | (go_at_call 149; refine (isSecret_any _ _).mono ?_; rintro e w9 ⟨rfl, rfl⟩) | (go_at_call 147; refine (isDigest_any _ _).mono ?_; rintro e w9 ⟨rfl, rfl⟩) | (go_at_call 116; refine (isTime_any _ _).mono ?_; rintro e w9 ⟨rfl, rfl⟩) | (go_at_call 131; refine (isSpan_any _ _).mono ?_; rintro e w9 ⟨rfl, rfl⟩) | (go_at_call 142; refine (isID_any _ _).mono ?_; rintro e w9 ⟨rfl, rfl⟩) | (go_at_call 143; refine (isGen_any _ _).mono ?_; rintro e w9 ⟨rfl, rfl⟩))
      refine (isNm_any su _ (by assumption)).mono ?_
      rintro e v0 ⟨rfl, hv0⟩
      replace c0 := cell_below c0 hv0 hlt1
      replace c1 := cell_below c1 hv0 hlt1
      have hlt2 : w.heap.size < v0.heap.size := Nat.lt_of_lt_of_le hlt1 hv0.size
      have HB2 := hide ((unhide HB1).trans (hv0.mono (unhide HB1).size))
      clear hv0
      go_wp2_with (first | (go_at_call 149; refine (isSecret_any _ _).mono ?_; rintro e w9 ⟨rfl, rfl⟩) | (go_at_call 147; refine (isDigest_any _ _).mono ?_; rintro e w9 ⟨rfl, rfl⟩) | (go_at_call 116; refine (isTime_any _ _).mono ?_; rintro e w9 ⟨rfl, rfl⟩) | (go_at_call 131; refine (isSpan_any _ _).mono ?_; rintro e w9 ⟨rfl, rfl⟩) | (go_at_call 142; refine (isID_any _ _).mono ?_; rintro e w9 ⟨rfl, rfl⟩) | (go_at_call 143; refine (isGen_any _ _).mono ?_; rintro e w9 ⟨rfl, rfl⟩))
      all_goals go_ret
      all_goals exact ⟨ret_bool (by simp [subOK, *]), unhide HB2⟩
end Go.Proofs.YtpidmpefodnffaaGreatDoor
