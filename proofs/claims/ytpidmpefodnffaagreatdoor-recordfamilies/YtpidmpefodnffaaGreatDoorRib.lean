import Derived.Test.YtpidmpefodnffaaGreatDoorZfde
namespace Go.Proofs.YtpidmpefodnffaaGreatDoor
open Go.RowKit
set_option maxHeartbeats 4000000
set_option maxRecDepth 8000
def keyOK (nu : Int) (se : Bs) (fr un : Int) : Bool := decide (1 ≤ nu) && (decide (nu ≤ 1073741824) && (se.length == 24 && (tim fr && (tim un && (decide (fr ≤ un))))))
theorem rightKey_any (nu : Int) (se : Bs) (fr un : Int)  (w : World) : Calls Tryz.prog 102 #[.agg #[I nu, S se, I fr, I un]] w fun e w' => e = .returned (.bool (keyOK nu se fr un)) ∧ Below w.heap.size w w' := by
  have hB0 : Below w.heap.size w (w.alloc (.cells #[I nu, S se, I fr, I un] 60)) := (Below.refl _ w).alloc (Nat.le_refl _) _
  have HB1 := hide hB0
  have c0 : (w.alloc (.cells #[I nu, S se, I fr, I un] 60)).cell? ⟨w.heap.size, 0, none⟩ = some (I nu) := cell_new _ _ _ _ _ rfl
  have c1 : (w.alloc (.cells #[I nu, S se, I fr, I un] 60)).cell? ⟨w.heap.size, 1, none⟩ = some (S se) := cell_new _ _ _ _ _ rfl
  have c2 : (w.alloc (.cells #[I nu, S se, I fr, I un] 60)).cell? ⟨w.heap.size, 2, none⟩ = some (I fr) := cell_new _ _ _ _ _ rfl
  have c3 : (w.alloc (.cells #[I nu, S se, I fr, I un] 60)).cell? ⟨w.heap.size, 3, none⟩ = some (I un) := cell_new _ _ _ _ _ rfl
  have hlt1 : w.heap.size < (w.alloc (.cells #[I nu, S se, I fr, I un] 60)).heap.size := by simp
  generalize hW1 : w.alloc (.cells #[I nu, S se, I fr, I un] 60) = W1 at *
  have hX1 := hB0.size
  clear hB0
  cases h1 : decide (1 ≤ nu)
  ·
    go_enter Tryz.func102, Tryz.ntmps102
    go_wp2_with (first | (go_at_call 149; refine (isSecret_any _ _).mono ?_; rintro e w9 ⟨rfl, rfl⟩) | (go_at_call 147; refine (isDigest_any _ _).mono ?_; rintro e w9 ⟨rfl, rfl⟩) | (go_at_call 116; refine (isTime_any _ _).mono ?_; rintro e w9 ⟨rfl, rfl⟩) | (go_at_call 131; refine (isSpan_any _ _).mono ?_; rintro e w9 ⟨rfl, rfl⟩) | (go_at_call 142; refine (isID_any _ _).mono ?_; rintro e w9 ⟨rfl, rfl⟩) | (go_at_call 143; refine (isGen_any _ _).mono ?_; rintro e w9 ⟨rfl, rfl⟩))
    all_goals go_ret
    all_goals exact ⟨ret_bool (by simp [keyOK, *]), unhide HB1⟩
  ·
    cases h2 : decide (nu ≤ 1073741824)
    ·
      go_enter Tryz.func102, Tryz.ntmps102
      go_wp2_with (first | (go_at_call 149; refine (isSecret_any _ _).mono ?_; rintro e w9 ⟨rfl, rfl⟩) | (go_at_call 147; refine (isDigest_any _ _).mono ?_; rintro e w9 ⟨rfl, rfl⟩) | (go_at_call 116; refine (isTime_any _ _).mono ?_; rintro e w9 ⟨rfl, rfl⟩) | (go_at_call 131; refine (isSpan_any _ _).mono ?_; rintro e w9 ⟨rfl, rfl⟩) | (go_at_call 142; refine (isID_any _ _).mono ?_; rintro e w9 ⟨rfl, rfl⟩) | (go_at_call 143; refine (isGen_any _ _).mono ?_; rintro e w9 ⟨rfl, rfl⟩))
      all_goals go_ret
      all_goals exact ⟨ret_bool (by simp [keyOK, *]), unhide HB1⟩
    ·
      cases h3 : se.length == 24
      ·
        go_enter Tryz.func102, Tryz.ntmps102
        go_wp2_with (first | (go_at_call 149; refine (isSecret_any _ _).mono ?_; rintro e w9 ⟨rfl, rfl⟩) | (go_at_call 147; refine (isDigest_any _ _).mono ?_; rintro e w9 ⟨rfl, rfl⟩) | (go_at_call 116; refine (isTime_any _ _).mono ?_; rintro e w9 ⟨rfl, rfl⟩) | (go_at_call 131; refine (isSpan_any _ _).mono ?_; rintro e w9 ⟨rfl, rfl⟩) | (go_at_call 142; refine (isID_any _ _).mono ?_; rintro e w9 ⟨rfl, rfl⟩) | (go_at_call 143; refine (isGen_any _ _).mono ?_; rintro e w9 ⟨rfl, rfl⟩))
        all_goals go_ret
        all_goals exact ⟨ret_bool (by simp [keyOK, *]), unhide HB1⟩
      ·
        cases h4 : tim fr
        ·
          go_enter Tryz.func102, Tryz.ntmps102
          go_wp2_with (first | (go_at_call 149; refine (isSecret_any _ _).mono ?_; rintro e w9 ⟨rfl, rfl⟩) | (go_at_call 147; refine (isDigest_any _ _).mono ?_; rintro e w9 ⟨rfl, rfl⟩) | (go_at_call 116; refine (isTime_any _ _).mono ?_; rintro e w9 ⟨rfl, rfl⟩) | (go_at_call 131; refine (isSpan_any _ _).mono ?_; rintro e w9 ⟨rfl, rfl⟩) | (go_at_call 142; refine (isID_any _ _).mono ?_; rintro e w9 ⟨rfl, rfl⟩) | (go_at_call 143; refine (isGen_any _ _).mono ?_; rintro e w9 ⟨rfl, rfl⟩))
          all_goals go_ret
          all_goals exact ⟨ret_bool (by simp [keyOK, *]), unhide HB1⟩
        ·
          cases h5 : tim un
          ·
            go_enter Tryz.func102, Tryz.ntmps102
            go_wp2_with (first | (go_at_call 149; refine (isSecret_any _ _).mono ?_; rintro e w9 ⟨rfl, rfl⟩) | (go_at_call 147; refine (isDigest_any _ _).mono ?_; rintro e w9 ⟨rfl, rfl⟩) | (go_at_call 116; refine (isTime_any _ _).mono ?_; rintro e w9 ⟨rfl, rfl⟩) | (go_at_call 131; refine (isSpan_any _ _).mono ?_; rintro e w9 ⟨rfl, rfl⟩) | (go_at_call 142; refine (isID_any _ _).mono ?_; rintro e w9 ⟨rfl, rfl⟩) | (go_at_call 143; refine (isGen_any _ _).mono ?_; rintro e w9 ⟨rfl, rfl⟩))
            all_goals go_ret
            all_goals exact ⟨ret_bool (by simp [keyOK, *]), unhide HB1⟩
          ·
            cases h6 : decide (fr ≤ un)
            ·
              go_enter Tryz.func102, Tryz.ntmps102
              go_wp2_with (first | (go_at_call 149; refine (isSecret_any _ _).mono ?_; rintro e w9 ⟨rfl, rfl⟩) | (go_at_call 147; refine (isDigest_any _ _).mono ?_; rintro e w9 ⟨rfl, rfl⟩) | (go_at_call 116; refine (isTime_any _ _).mono ?_; rintro e w9 ⟨rfl, rfl⟩) | (go_at_call 131; refine (isSpan_any _ _).mono ?_; rintro e w9 ⟨rfl, rfl⟩) | (go_at_call 142; refine (isID_any _ _).mono ?_; rintro e w9 ⟨rfl, rfl⟩) | (go_at_call 143; refine (isGen_any _ _).mono ?_; rintro e w9 ⟨rfl, rfl⟩))
              all_goals go_ret
              all_goals exact ⟨ret_bool (by simp [keyOK, *]), unhide HB1⟩
            ·
              go_enter Tryz.func102, Tryz.ntmps102
              go_wp2_with (first | (go_at_call 149; refine (isSecret_any _ _).mono ?_; rintro e w9 ⟨rfl, rfl⟩) | (go_at_call 147; refine (isDigest_any _ _).mono ?_; rintro e w9 ⟨rfl, rfl⟩) | (go_at_call 116; refine (isTime_any _ _).mono ?_; rintro e w9 ⟨rfl, rfl⟩) | (go_at_call 131; refine (isSpan_any _ _).mono ?_; rintro e w9 ⟨rfl, rfl⟩) | (go_at_call 142; refine (isID_any _ _).mono ?_; rintro e w9 ⟨rfl, rfl⟩) | (go_at_call 143; refine (isGen_any _ _).mono ?_; rintro e w9 ⟨rfl, rfl⟩))
              all_goals go_ret
              all_goals exact ⟨ret_bool (by simp [keyOK, *]), unhide HB1⟩
def endOK (en id : Int) : Bool := tim en && (idn id)
def subOK (su : Bs) (id : Int) : Bool := right [su] && (idn id)
end Go.Proofs.YtpidmpefodnffaaGreatDoor
