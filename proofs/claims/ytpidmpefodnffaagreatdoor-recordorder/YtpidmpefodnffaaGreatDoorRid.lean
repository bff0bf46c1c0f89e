import Derived.Test.YtpidmpefodnffaaGreatDoorRia
namespace Go.Proofs.YtpidmpefodnffaaGreatDoor
open Go.RowKit
set_option maxHeartbeats 4000000
set_option maxRecDepth 8000
def spOK (mi : Int) (sp : Bool) (at9 ne : Int) (se : Bs) : Bool := if sp then tim at9 && (decide (mi ≤ at9) && (idn ne && se.length == 24)) else (at9 == 0) && ((ne == 0) && (se == []))
theorem rightSpent_any (id fa ge : Int) (ha : Bs) (mi : Int) (sp : Bool) (at9 ne : Int) (se : Bs)  (w : World) : Calls Tryz.prog 148 #[.agg #[I id, I fa, I ge, S ha, I mi, .bool sp, I at9, I ne, S se]] w fun e w' => e = .returned (.bool (spOK mi sp at9 ne se)) ∧ Below w.heap.size w w' := by
  have hB0 : Below w.heap.size w (w.alloc (.cells #[I id, I fa, I ge, S ha, I mi, .bool sp, I at9, I ne, S se] 58)) := (Below.refl _ w).alloc (Nat.le_refl _) _
  have HB1 := hide hB0
  have c0 : (w.alloc (.cells #[I id, I fa, I ge, S ha, I mi, .bool sp, I at9, I ne, S se] 58)).cell? ⟨w.heap.size, 0, none⟩ = some (I id) := cell_new _ _ _ _ _ rfl
  have c1 : (w.alloc (.cells #[I id, I fa, I ge, S ha, I mi, .bool sp, I at9, I ne, S se] 58)).cell? ⟨w.heap.size, 1, none⟩ = some (I fa) := cell_new _ _ _ _ _ rfl
  have c2 : (w.alloc (.cells #[I id, I fa, I ge, S ha, I mi, .bool sp, I at9, I ne, S se] 58)).cell? ⟨w.heap.size, 2, none⟩ = some (I ge) := cell_new _ _ _ _ _ rfl
  have c3 : (w.alloc (.cells #[I id, I fa, I ge, S ha, I mi, .bool sp, I at9, I ne, S se] 58)).cell? ⟨w.heap.size, 3, none⟩ = some (S ha) := cell_new _ _ _ _ _ rfl
  have c4 : (w.alloc (.cells #[I id, I fa, I ge, S ha, I mi, .bool sp, I at9, I ne, S se] 58)).cell? ⟨w.heap.size, 4, none⟩ = some (I mi) := cell_new _ _ _ _ _ rfl
  have c5 : (w.alloc (.cells #[I id, I fa, I ge, S ha, I mi, .bool sp, I at9, I ne, S se] 58)).cell? ⟨w.heap.size, 5, none⟩ = some (.bool sp) := cell_new _ _ _ _ _ rfl
  have c6 : (w.alloc (.cells #[I id, I fa, I ge, S ha, I mi, .bool sp, I at9, I ne, S se] 58)).cell? ⟨w.heap.size, 6, none⟩ = some (I at9) := cell_new _ _ _ _ _ rfl
  have c7 : (w.alloc (.cells #[I id, I fa, I ge, S ha, I mi, .bool sp, I at9, I ne, S se] 58)).cell? ⟨w.heap.size, 7, none⟩ = some (I ne) := cell_new _ _ _ _ _ rfl
  have c8 : (w.alloc (.cells #[I id, I fa, I ge, S ha, I mi, .bool sp, I at9, I ne, S se] 58)).cell? ⟨w.heap.size, 8, none⟩ = some (S se) := cell_new _ _ _ _ _ rfl
  have hlt1 : w.heap.size < (w.alloc (.cells #[I id, I fa, I ge, S ha, I mi, .bool sp, I at9, I ne, S se] 58)).heap.size := by simp
  generalize hW1 : w.alloc (.cells #[I id, I fa, I ge, S ha, I mi, .bool sp, I at9, I ne, S se] 58) = W1 at *
  have hX1 := hB0.size
  clear hB0
  cases sp
  ·
    cases h2 : at9 == 0
    ·
      go_enter Tryz.func148, Tryz.ntmps148
      go_wp2_with (first | (go_at_call 149; refine (isSecret_any _ _).mono ?_; rintro e w9 ⟨rfl, rfl⟩) | (go_at_call 147; refine (isDigest_any _ _).mono ?_; rintro e w9 ⟨rfl, rfl⟩) | (go_at_call 116; refine (isTime_any _ _).mono ?_; rintro e w9 ⟨rfl, rfl⟩) | (go_at_call 131; refine (isSpan_any _ _).mono ?_; rintro e w9 ⟨rfl, rfl⟩) | (go_at_call 142; refine (isID_any _ _).mono ?_; rintro e w9 ⟨rfl, rfl⟩) | (go_at_call 143; refine (isGen_any _ _).mono ?_; rintro e w9 ⟨rfl, rfl⟩))
      all_goals go_ret
      all_goals exact ⟨ret_bool (by simp [spOK, *]), unhide HB1⟩
    ·
      cases h3 : ne == 0
      ·
        go_enter Tryz.func148, Tryz.ntmps148
        go_wp2_with (first | (go_at_call 149; refine (isSecret_any _ _).mono ?_; rintro e w9 ⟨rfl, rfl⟩) | (go_at_call 147; refine (isDigest_any _ _).mono ?_; rintro e w9 ⟨rfl, rfl⟩) | (go_at_call 116; refine (isTime_any _ _).mono ?_; rintro e w9 ⟨rfl, rfl⟩) | (go_at_call 131; refine (isSpan_any _ _).mono ?_; rintro e w9 ⟨rfl, rfl⟩) | (go_at_call 142; refine (isID_any _ _).mono ?_; rintro e w9 ⟨rfl, rfl⟩) | (go_at_call 143; refine (isGen_any _ _).mono ?_; rintro e w9 ⟨rfl, rfl⟩))
        all_goals go_ret
        all_goals exact ⟨ret_bool (by simp [spOK, *]), unhide HB1⟩
      ·
        by_cases h4 : se = []
        · subst h4
          go_enter Tryz.func148, Tryz.ntmps148
          go_wp2_with (first | (go_at_call 149; refine (isSecret_any _ _).mono ?_; rintro e w9 ⟨rfl, rfl⟩) | (go_at_call 147; refine (isDigest_any _ _).mono ?_; rintro e w9 ⟨rfl, rfl⟩) | (go_at_call 116; refine (isTime_any _ _).mono ?_; rintro e w9 ⟨rfl, rfl⟩) | (go_at_call 131; refine (isSpan_any _ _).mono ?_; rintro e w9 ⟨rfl, rfl⟩) | (go_at_call 142; refine (isID_any _ _).mono ?_; rintro e w9 ⟨rfl, rfl⟩) | (go_at_call 143; refine (isGen_any _ _).mono ?_; rintro e w9 ⟨rfl, rfl⟩))
          all_goals go_ret
          all_goals exact ⟨ret_bool (by simp [spOK, *]), unhide HB1⟩
        · have h4b : (se == []) = false := by simpa using h4
          go_enter Tryz.func148, Tryz.ntmps148
          go_wp2_with (first | (go_at_call 149; refine (isSecret_any _ _).mono ?_; rintro e w9 ⟨rfl, rfl⟩) | (go_at_call 147; refine (isDigest_any _ _).mono ?_; rintro e w9 ⟨rfl, rfl⟩) | (go_at_call 116; refine (isTime_any _ _).mono ?_; rintro e w9 ⟨rfl, rfl⟩) | (go_at_call 131; refine (isSpan_any _ _).mono ?_; rintro e w9 ⟨rfl, rfl⟩) | (go_at_call 142; refine (isID_any _ _).mono ?_; rintro e w9 ⟨rfl, rfl⟩) | (go_at_call 143; refine (isGen_any _ _).mono ?_; rintro e w9 ⟨rfl, rfl⟩))
          all_goals go_ret
          all_goals exact ⟨ret_bool (by simp [spOK, *]), unhide HB1⟩
  ·
    cases h5 : tim at9
    ·
      go_enter Tryz.func148, Tryz.ntmps148
      go_wp2_with (first | (go_at_call 149; refine (isSecret_any _ _).mono ?_; rintro e w9 ⟨rfl, rfl⟩) | (go_at_call 147; refine (isDigest_any _ _).mono ?_; rintro e w9 ⟨rfl, rfl⟩) | (go_at_call 116; refine (isTime_any _ _).mono ?_; rintro e w9 ⟨rfl, rfl⟩) | (go_at_call 131; refine (isSpan_any _ _).mono ?_; rintro e w9 ⟨rfl, rfl⟩) | (go_at_call 142; refine (isID_any _ _).mono ?_; rintro e w9 ⟨rfl, rfl⟩) | (go_at_call 143; refine (isGen_any _ _).mono ?_; rintro e w9 ⟨rfl, rfl⟩))
      all_goals go_ret
      all_goals exact ⟨ret_bool (by simp [spOK, *]), unhide HB1⟩
    ·
      cases h6 : decide (mi ≤ at9)
      ·
        go_enter Tryz.func148, Tryz.ntmps148
        go_wp2_with (first | (go_at_call 149; refine (isSecret_any _ _).mono ?_; rintro e w9 ⟨rfl, rfl⟩) | (go_at_call 147; refine (isDigest_any _ _).mono ?_; rintro e w9 ⟨rfl, rfl⟩) | (go_at_call 116; refine (isTime_any _ _).mono ?_; rintro e w9 ⟨rfl, rfl⟩) | (go_at_call 131; refine (isSpan_any _ _).mono ?_; rintro e w9 ⟨rfl, rfl⟩) | (go_at_call 142; refine (isID_any _ _).mono ?_; rintro e w9 ⟨rfl, rfl⟩) | (go_at_call 143; refine (isGen_any _ _).mono ?_; rintro e w9 ⟨rfl, rfl⟩))
        all_goals go_ret
        all_goals exact ⟨ret_bool (by simp [spOK, *]), unhide HB1⟩
      ·
        cases h7 : idn ne
        ·
          go_enter Tryz.func148, Tryz.ntmps148
          go_wp2_with (first | (go_at_call 149; refine (isSecret_any _ _).mono ?_; rintro e w9 ⟨rfl, rfl⟩) | (go_at_call 147; refine (isDigest_any _ _).mono ?_; rintro e w9 ⟨rfl, rfl⟩) | (go_at_call 116; refine (isTime_any _ _).mono ?_; rintro e w9 ⟨rfl, rfl⟩) | (go_at_call 131; refine (isSpan_any _ _).mono ?_; rintro e w9 ⟨rfl, rfl⟩) | (go_at_call 142; refine (isID_any _ _).mono ?_; rintro e w9 ⟨rfl, rfl⟩) | (go_at_call 143; refine (isGen_any _ _).mono ?_; rintro e w9 ⟨rfl, rfl⟩))
          all_goals go_ret
          all_goals exact ⟨ret_bool (by simp [spOK, *]), unhide HB1⟩
        ·
          cases h8 : se.length == 24
          ·
            go_enter Tryz.func148, Tryz.ntmps148
            go_wp2_with (first | (go_at_call 149; refine (isSecret_any _ _).mono ?_; rintro e w9 ⟨rfl, rfl⟩) | (go_at_call 147; refine (isDigest_any _ _).mono ?_; rintro e w9 ⟨rfl, rfl⟩) | (go_at_call 116; refine (isTime_any _ _).mono ?_; rintro e w9 ⟨rfl, rfl⟩) | (go_at_call 131; refine (isSpan_any _ _).mono ?_; rintro e w9 ⟨rfl, rfl⟩) | (go_at_call 142; refine (isID_any _ _).mono ?_; rintro e w9 ⟨rfl, rfl⟩) | (go_at_call 143; refine (isGen_any _ _).mono ?_; rintro e w9 ⟨rfl, rfl⟩))
            all_goals go_ret
            all_goals exact ⟨ret_bool (by simp [spOK, *]), unhide HB1⟩
          ·
            go_enter Tryz.func148, Tryz.ntmps148
            go_wp2_with (first | (go_at_call 149; refine (isSecret_any _ _).mono ?_; rintro e w9 ⟨rfl, rfl⟩) | (go_at_call 147; refine (isDigest_any _ _).mono ?_; rintro e w9 ⟨rfl, rfl⟩) | (go_at_call 116; refine (isTime_any _ _).mono ?_; rintro e w9 ⟨rfl, rfl⟩) | (go_at_call 131; refine (isSpan_any _ _).mono ?_; rintro e w9 ⟨rfl, rfl⟩) | (go_at_call 142; refine (isID_any _ _).mono ?_; rintro e w9 ⟨rfl, rfl⟩) | (go_at_call 143; refine (isGen_any _ _).mono ?_; rintro e w9 ⟨rfl, rfl⟩))
            all_goals go_ret
            all_goals exact ⟨ret_bool (by simp [spOK, *]), unhide HB1⟩
def tokOK (id fa ge : Int) (ha : Bs) (mi : Int) (sp : Bool) (at9 ne : Int) (se : Bs) : Bool := idn id && (idn fa && (gnr ge && (ha.length == 32 && (tim mi && (spOK mi sp at9 ne se)))))
theorem rightToken_any (id fa ge : Int) (ha : Bs) (mi : Int) (sp : Bool) (at9 ne : Int) (se : Bs)  (w : World) : Calls Tryz.prog 95 #[.agg #[I id, I fa, I ge, S ha, I mi, .bool sp, I at9, I ne, S se]] w fun e w' => e = .returned (.bool (tokOK id fa ge ha mi sp at9 ne se)) ∧ Below w.heap.size w w' := by
  have hB0 : Below w.heap.size w (w.alloc (.cells #[I id, I fa, I ge, S ha, I mi, .bool sp, I at9, I ne, S se] 58)) := (Below.refl _ w).alloc (Nat.le_refl _) _
  have HB1 := hide hB0
  have c0 : (w.alloc (.cells #[I id, I fa, I ge, S ha, I mi, .bool sp, I at9, I ne, S se] 58)).cell? ⟨w.heap.size, 0, none⟩ = some (I id) := cell_new _ _ _ _ _ rfl
  have c1 : (w.alloc (.cells #[I id, I fa, I ge, S ha, I mi, .bool sp, I at9, I ne, S se] 58)).cell? ⟨w.heap.size, 1, none⟩ = some (I fa) := cell_new _ _ _ _ _ rfl
  have c2 : (w.alloc (.cells #[I id, I fa, I ge, S ha, I mi, .bool sp, I at9, I ne, S se] 58)).cell? ⟨w.heap.size, 2, none⟩ = some (I ge) := cell_new _ _ _ _ _ rfl
  have c3 : (w.alloc (.cells #[I id, I fa, I ge, S ha, I mi, .bool sp, I at9, I ne, S se] 58)).cell? ⟨w.heap.size, 3, none⟩ = some (S ha) := cell_new _ _ _ _ _ rfl
  have c4 : (w.alloc (.cells #[I id, I fa, I ge, S ha, I mi, .bool sp, I at9, I ne, S se] 58)).cell? ⟨w.heap.size, 4, none⟩ = some (I mi) := cell_new _ _ _ _ _ rfl
  have c5 : (w.alloc (.cells #[I id, I fa, I ge, S ha, I mi, .bool sp, I at9, I ne, S se] 58)).cell? ⟨w.heap.size, 5, none⟩ = some (.bool sp) := cell_new _ _ _ _ _ rfl
  have c6 : (w.alloc (.cells #[I id, I fa, I ge, S ha, I mi, .bool sp, I at9, I ne, S se] 58)).cell? ⟨w.heap.size, 6, none⟩ = some (I at9) := cell_new _ _ _ _ _ rfl
  have c7 : (w.alloc (.cells #[I id, I fa, I ge, S ha, I mi, .bool sp, I at9, I ne, S se] 58)).cell? ⟨w.heap.size, 7, none⟩ = some (I ne) := cell_new _ _ _ _ _ rfl
  have c8 : (w.alloc (.cells #[I id, I fa, I ge, S ha, I mi, .bool sp, I at9, I ne, S se] 58)).cell? ⟨w.heap.size, 8, none⟩ = some (S se) := cell_new _ _ _ _ _ rfl
  have hlt1 : w.heap.size < (w.alloc (.cells #[I id, I fa, I ge, S ha, I mi, .bool sp, I at9, I ne, S se] 58)).heap.size := by simp
  generalize hW1 : w.alloc (.cells #[I id, I fa, I ge, S ha, I mi, .bool sp, I at9, I ne, S se] 58) = W1 at *
  have hX1 := hB0.size
  clear hB0
  cases h1 : idn id
  ·
    go_enter Tryz.func95, Tryz.ntmps95
    go_wp2_with (first | (go_at_call 149; refine (isSecret_any _ _).mono ?_; rintro e w9 ⟨rfl, rfl⟩) | (go_at_call 147; refine (isDigest_any _ _).mono ?_; rintro e w9 ⟨rfl, rfl⟩) | (go_at_call 116; refine (isTime_any _ _).mono ?_; rintro e w9 ⟨rfl, rfl⟩) | (go_at_call 131; refine (isSpan_any _ _).mono ?_; rintro e w9 ⟨rfl, rfl⟩) | (go_at_call 142; refine (isID_any _ _).mono ?_; rintro e w9 ⟨rfl, rfl⟩) | (go_at_call 143; refine (isGen_any _ _).mono ?_; rintro e w9 ⟨rfl, rfl⟩))
    all_goals go_ret
    all_goals exact ⟨ret_bool (by simp [tokOK, *]), unhide HB1⟩
  ·
    cases h2 : idn fa
    ·
      go_enter Tryz.func95, Tryz.ntmps95
      go_wp2_with (first | (go_at_call 149; refine (isSecret_any _ _).mono ?_; rintro e w9 ⟨rfl, rfl⟩) | (go_at_call 147; refine (isDigest_any _ _).mono ?_; rintro e w9 ⟨rfl, rfl⟩) | (go_at_call 116; refine (isTime_any _ _).mono ?_; rintro e w9 ⟨rfl, rfl⟩) | (go_at_call 131; refine (isSpan_any _ _).mono ?_; rintro e w9 ⟨rfl, rfl⟩) | (go_at_call 142; refine (isID_any _ _).mono ?_; rintro e w9 ⟨rfl, rfl⟩) | (go_at_call 143; refine (isGen_any _ _).mono ?_; rintro e w9 ⟨rfl, rfl⟩))
      all_goals go_ret
      all_goals exact ⟨ret_bool (by simp [tokOK, *]), unhide HB1⟩
    ·
      cases h3 : gnr ge
      ·
        go_enter Tryz.func95, Tryz.ntmps95
        go_wp2_with (first | (go_at_call 149; refine (isSecret_any _ _).mono ?_; rintro e w9 ⟨rfl, rfl⟩) | (go_at_call 147; refine (isDigest_any _ _).mono ?_; rintro e w9 ⟨rfl, rfl⟩) | (go_at_call 116; refine (isTime_any _ _).mono ?_; rintro e w9 ⟨rfl, rfl⟩) | (go_at_call 131; refine (isSpan_any _ _).mono ?_; rintro e w9 ⟨rfl, rfl⟩) | (go_at_call 142; refine (isID_any _ _).mono ?_; rintro e w9 ⟨rfl, rfl⟩) | (go_at_call 143; refine (isGen_any _ _).mono ?_; rintro e w9 ⟨rfl, rfl⟩))
        all_goals go_ret
        all_goals exact ⟨ret_bool (by simp [tokOK, *]), unhide HB1⟩
      ·
        cases h4 : ha.length == 32
        ·
          go_enter Tryz.func95, Tryz.ntmps95
          go_wp2_with (first | (go_at_call 149; refine (isSecret_any _ _).mono ?_; rintro e w9 ⟨rfl, rfl⟩) | (go_at_call 147; refine (isDigest_any _ _).mono ?_; rintro e w9 ⟨rfl, rfl⟩) | (go_at_call 116; refine (isTime_any _ _).mono ?_; rintro e w9 ⟨rfl, rfl⟩) | (go_at_call 131; refine (isSpan_any _ _).mono ?_; rintro e w9 ⟨rfl, rfl⟩) | (go_at_call 142; refine (isID_any _ _).mono ?_; rintro e w9 ⟨rfl, rfl⟩) | (go_at_call 143; refine (isGen_any _ _).mono ?_; rintro e w9 ⟨rfl, rfl⟩))
          all_goals go_ret
          all_goals exact ⟨ret_bool (by simp [tokOK, *]), unhide HB1⟩
        ·
          cases h5 : tim mi
          ·
            go_enter Tryz.func95, Tryz.ntmps95
            go_wp2_with (first | (go_at_call 149; refine (isSecret_any _ _).mono ?_; rintro e w9 ⟨rfl, rfl⟩) | (go_at_call 147; refine (isDigest_any _ _).mono ?_; rintro e w9 ⟨rfl, rfl⟩) | (go_at_call 116; refine (isTime_any _ _).mono ?_; rintro e w9 ⟨rfl, rfl⟩) | (go_at_call 131; refine (isSpan_any _ _).mono ?_; rintro e w9 ⟨rfl, rfl⟩) | (go_at_call 142; refine (isID_any _ _).mono ?_; rintro e w9 ⟨rfl, rfl⟩) | (go_at_call 143; refine (isGen_any _ _).mono ?_; rintro e w9 ⟨rfl, rfl⟩))
            all_goals go_ret
            all_goals exact ⟨ret_bool (by simp [tokOK, *]), unhide HB1⟩
          ·
            cases h6 : spOK mi sp at9 ne se
            ·
              go_enter Tryz.func95, Tryz.ntmps95
              go_wp2_with (first | (go_at_call 149; refine (isSecret_any _ _).mono ?_; rintro e w9 ⟨rfl, rfl⟩) | (go_at_call 147; refine (isDigest_any _ _).mono ?_; rintro e w9 ⟨rfl, rfl⟩) | (go_at_call 116; refine (isTime_any _ _).mono ?_; rintro e w9 ⟨rfl, rfl⟩) | (go_at_call 131; refine (isSpan_any _ _).mono ?_; rintro e w9 ⟨rfl, rfl⟩) | (go_at_call 142; refine (isID_any _ _).mono ?_; rintro e w9 ⟨rfl, rfl⟩) | (go_at_call 143; refine (isGen_any _ _).mono ?_; rintro e w9 ⟨rfl, rfl⟩))
              refine (rightSpent_any id fa ge ha mi sp at9 ne se _).mono ?_
              rintro e v0 ⟨rfl, hv0⟩
              replace c0 := cell_below c0 hv0 hlt1
              replace c1 := cell_below c1 hv0 hlt1
              replace c2 := cell_below c2 hv0 hlt1
              replace c3 := cell_below c3 hv0 hlt1
              replace c4 := cell_below c4 hv0 hlt1
              replace c5 := cell_below c5 hv0 hlt1
              replace c6 := cell_below c6 hv0 hlt1
              replace c7 := cell_below c7 hv0 hlt1
              replace c8 := cell_below c8 hv0 hlt1
              have hlt2 : w.heap.size < v0.heap.size := Nat.lt_of_lt_of_le hlt1 hv0.size
              have HB2 := hide ((unhide HB1).trans (hv0.mono (unhide HB1).size))
              clear hv0
              go_wp2_with (first | (go_at_call 149; refine (isSecret_any _ _).mono ?_; rintro e w9 ⟨rfl, rfl⟩) | (go_at_call 147; refine (isDigest_any _ _).mono ?_; rintro e w9 ⟨rfl, rfl⟩) | (go_at_call 116; refine (isTime_any _ _).mono ?_; rintro e w9 ⟨rfl, rfl⟩) | (go_at_call 131; refine (isSpan_any _ _).mono ?_; rintro e w9 ⟨rfl, rfl⟩) | (go_at_call 142; refine (isID_any _ _).mono ?_; rintro e w9 ⟨rfl, rfl⟩) | (go_at_call 143; refine (isGen_any _ _).mono ?_; rintro e w9 ⟨rfl, rfl⟩))
              all_goals go_ret
              all_goals exact ⟨ret_bool (by simp [tokOK, *]), unhide HB2⟩
            ·
              go_enter Tryz.func95, Tryz.ntmps95
              go_wp2_with (first | (go_at_call 149; refine (isSecret_any _ _).mono ?_; rintro e w9 ⟨rfl, rfl⟩) | (go_at_call 147; refine (isDigest_any _ _).mono ?_; rintro e w9 ⟨rfl, rfl⟩) | (go_at_call 116; refine (isTime_any _ _).mono ?_; rintro e w9 ⟨rfl, rfl⟩) | (go_at_call 131; refine (isSpan_any _ _).mono ?_; rintro e w9 ⟨rfl, rfl⟩) | (go_at_call 142; refine (isID_any _ _).mono ?_; rintro e w9 ⟨rfl, rfl⟩) | (go_at_call 143; refine (isGen_any _ _).mono ?_; rintro e w9 ⟨rfl, rfl⟩))
              refine (rightSpent_any id fa ge ha mi sp at9 ne se _).mono ?_
              rintro e v0 ⟨rfl, hv0⟩
              replace c0 := cell_below c0 hv0 hlt1
              replace c1 := cell_below c1 hv0 hlt1
              replace c2 := cell_below c2 hv0 hlt1
              replace c3 := cell_below c3 hv0 hlt1
              replace c4 := cell_below c4 hv0 hlt1
              replace c5 := cell_below c5 hv0 hlt1
              replace c6 := cell_below c6 hv0 hlt1
              replace c7 := cell_below c7 hv0 hlt1
              replace c8 := cell_below c8 hv0 hlt1
              have hlt2 : w.heap.size < v0.heap.size := Nat.lt_of_lt_of_le hlt1 hv0.size
              have HB2 := hide ((unhide HB1).trans (hv0.mono (unhide HB1).size))
              clear hv0
              go_wp2_with (first | (go_at_call 149; refine (isSecret_any _ _).mono ?_; rintro e w9 ⟨rfl, rfl⟩) | (go_at_call 147; refine (isDigest_any _ _).mono ?_; rintro e w9 ⟨rfl, rfl⟩) | (go_at_call 116; refine (isTime_any _ _).mono ?_; rintro e w9 ⟨rfl, rfl⟩) | (go_at_call 131; refine (isSpan_any _ _).mono ?_; rintro e w9 ⟨rfl, rfl⟩) | (go_at_call 142; refine (isID_any _ _).mono ?_; rintro e w9 ⟨rfl, rfl⟩) | (go_at_call 143; refine (isGen_any _ _).mono ?_; rintro e w9 ⟨rfl, rfl⟩))
              all_goals go_ret
              all_goals exact ⟨ret_bool (by simp [tokOK, *]), unhide HB2⟩
end Go.Proofs.YtpidmpefodnffaaGreatDoor
