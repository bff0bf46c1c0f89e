import Derived.Test.YtpidmpefodnffaaGreatDoorZfde
namespace Go.Proofs.YtpidmpefodnffaaGreatDoor
open Go.RowKit
set_option maxHeartbeats 4000000
set_option maxRecDepth 8000
def secOK (pu : Bool) (ha ol : Bs) (un : Int) : Bool := if pu then ha == [] && (ol == [] && un == 0) else ha.length == 32 && ((ol == [] && un == 0) || (ol.length == 32 && tim un))
theorem rightSecrets_any (na : Bs) (pu of9 : Bool) (ha ol : Bs) (un : Int) (va : Option Addr) (vc : Nat) (sc : List Bs) (idl ab gr li : Int)  (w : World) : Calls Tryz.prog 129 #[.agg #[S na, .bool pu, .bool of9, S ha, S ol, I un, .slice va sc.length vc, I idl, I ab, I gr, I li]] w fun e w' => e = .returned (.bool (secOK pu ha ol un)) ∧ Below w.heap.size w w' := by
  have hB0 : Below w.heap.size w (w.alloc (.cells #[S na, .bool pu, .bool of9, S ha, S ol, I un, .slice va sc.length vc, I idl, I ab, I gr, I li] 24)) := (Below.refl _ w).alloc (Nat.le_refl _) _
  have HB1 := hide hB0
  have c0 : (w.alloc (.cells #[S na, .bool pu, .bool of9, S ha, S ol, I un, .slice va sc.length vc, I idl, I ab, I gr, I li] 24)).cell? ⟨w.heap.size, 0, none⟩ = some (S na) := cell_new _ _ _ _ _ rfl
  have c1 : (w.alloc (.cells #[S na, .bool pu, .bool of9, S ha, S ol, I un, .slice va sc.length vc, I idl, I ab, I gr, I li] 24)).cell? ⟨w.heap.size, 1, none⟩ = some (.bool pu) := cell_new _ _ _ _ _ rfl
  have c2 : (w.alloc (.cells #[S na, .bool pu, .bool of9, S ha, S ol, I un, .slice va sc.length vc, I idl, I ab, I gr, I li] 24)).cell? ⟨w.heap.size, 2, none⟩ = some (.bool of9) := cell_new _ _ _ _ _ rfl
  have c3 : (w.alloc (.cells #[S na, .bool pu, .bool of9, S ha, S ol, I un, .slice va sc.length vc, I idl, I ab, I gr, I li] 24)).cell? ⟨w.heap.size, 3, none⟩ = some (S ha) := cell_new _ _ _ _ _ rfl
  have c4 : (w.alloc (.cells #[S na, .bool pu, .bool of9, S ha, S ol, I un, .slice va sc.length vc, I idl, I ab, I gr, I li] 24)).cell? ⟨w.heap.size, 4, none⟩ = some (S ol) := cell_new _ _ _ _ _ rfl
  have c5 : (w.alloc (.cells #[S na, .bool pu, .bool of9, S ha, S ol, I un, .slice va sc.length vc, I idl, I ab, I gr, I li] 24)).cell? ⟨w.heap.size, 5, none⟩ = some (I un) := cell_new _ _ _ _ _ rfl
  have c6 : (w.alloc (.cells #[S na, .bool pu, .bool of9, S ha, S ol, I un, .slice va sc.length vc, I idl, I ab, I gr, I li] 24)).cell? ⟨w.heap.size, 6, none⟩ = some (.slice va sc.length vc) := cell_new _ _ _ _ _ rfl
  have c7 : (w.alloc (.cells #[S na, .bool pu, .bool of9, S ha, S ol, I un, .slice va sc.length vc, I idl, I ab, I gr, I li] 24)).cell? ⟨w.heap.size, 7, none⟩ = some (I idl) := cell_new _ _ _ _ _ rfl
  have c8 : (w.alloc (.cells #[S na, .bool pu, .bool of9, S ha, S ol, I un, .slice va sc.length vc, I idl, I ab, I gr, I li] 24)).cell? ⟨w.heap.size, 8, none⟩ = some (I ab) := cell_new _ _ _ _ _ rfl
  have c9 : (w.alloc (.cells #[S na, .bool pu, .bool of9, S ha, S ol, I un, .slice va sc.length vc, I idl, I ab, I gr, I li] 24)).cell? ⟨w.heap.size, 9, none⟩ = some (I gr) := cell_new _ _ _ _ _ rfl
  have c10 : (w.alloc (.cells #[S na, .bool pu, .bool of9, S ha, S ol, I un, .slice va sc.length vc, I idl, I ab, I gr, I li] 24)).cell? ⟨w.heap.size, 10, none⟩ = some (I li) := cell_new _ _ _ _ _ rfl
  have hlt1 : w.heap.size < (w.alloc (.cells #[S na, .bool pu, .bool of9, S ha, S ol, I un, .slice va sc.length vc, I idl, I ab, I gr, I li] 24)).heap.size := by simp
  generalize hW1 : w.alloc (.cells #[S na, .bool pu, .bool of9, S ha, S ol, I un, .slice va sc.length vc, I idl, I ab, I gr, I li] 24) = W1 at *
  have hX1 := hB0.size
  clear hB0
  cases pu
  ·
    by_cases h2 : ol = []
    · subst h2
      cases h3 : un == 0
      ·
        cases h4 : ha.length == 32
        ·
          go_enter Tryz.func129, Tryz.ntmps129
          go_wp2_with (first | (go_at_call 149; refine (isSecret_any _ _).mono ?_; rintro e w9 ⟨rfl, rfl⟩) | (go_at_call 147; refine (isDigest_any _ _).mono ?_; rintro e w9 ⟨rfl, rfl⟩) | (go_at_call 116; refine (isTime_any _ _).mono ?_; rintro e w9 ⟨rfl, rfl⟩) | (go_at_call 131; refine (isSpan_any _ _).mono ?_; rintro e w9 ⟨rfl, rfl⟩) | (go_at_call 142; refine (isID_any _ _).mono ?_; rintro e w9 ⟨rfl, rfl⟩) | (go_at_call 143; refine (isGen_any _ _).mono ?_; rintro e w9 ⟨rfl, rfl⟩))
          all_goals go_ret
          all_goals exact ⟨ret_bool (by simp [secOK, *]), unhide HB1⟩
        ·
          go_enter Tryz.func129, Tryz.ntmps129
          go_wp2_with (first | (go_at_call 149; refine (isSecret_any _ _).mono ?_; rintro e w9 ⟨rfl, rfl⟩) | (go_at_call 147; refine (isDigest_any _ _).mono ?_; rintro e w9 ⟨rfl, rfl⟩) | (go_at_call 116; refine (isTime_any _ _).mono ?_; rintro e w9 ⟨rfl, rfl⟩) | (go_at_call 131; refine (isSpan_any _ _).mono ?_; rintro e w9 ⟨rfl, rfl⟩) | (go_at_call 142; refine (isID_any _ _).mono ?_; rintro e w9 ⟨rfl, rfl⟩) | (go_at_call 143; refine (isGen_any _ _).mono ?_; rintro e w9 ⟨rfl, rfl⟩))
          all_goals go_ret
          all_goals exact ⟨ret_bool (by simp [secOK, *]), unhide HB1⟩
      ·
        cases h5 : ha.length == 32
        ·
          go_enter Tryz.func129, Tryz.ntmps129
          go_wp2_with (first | (go_at_call 149; refine (isSecret_any _ _).mono ?_; rintro e w9 ⟨rfl, rfl⟩) | (go_at_call 147; refine (isDigest_any _ _).mono ?_; rintro e w9 ⟨rfl, rfl⟩) | (go_at_call 116; refine (isTime_any _ _).mono ?_; rintro e w9 ⟨rfl, rfl⟩) | (go_at_call 131; refine (isSpan_any _ _).mono ?_; rintro e w9 ⟨rfl, rfl⟩) | (go_at_call 142; refine (isID_any _ _).mono ?_; rintro e w9 ⟨rfl, rfl⟩) | (go_at_call 143; refine (isGen_any _ _).mono ?_; rintro e w9 ⟨rfl, rfl⟩))
          all_goals go_ret
          all_goals exact ⟨ret_bool (by simp [secOK, *]), unhide HB1⟩
        ·
          go_enter Tryz.func129, Tryz.ntmps129
          go_wp2_with (first | (go_at_call 149; refine (isSecret_any _ _).mono ?_; rintro e w9 ⟨rfl, rfl⟩) | (go_at_call 147; refine (isDigest_any _ _).mono ?_; rintro e w9 ⟨rfl, rfl⟩) | (go_at_call 116; refine (isTime_any _ _).mono ?_; rintro e w9 ⟨rfl, rfl⟩) | (go_at_call 131; refine (isSpan_any _ _).mono ?_; rintro e w9 ⟨rfl, rfl⟩) | (go_at_call 142; refine (isID_any _ _).mono ?_; rintro e w9 ⟨rfl, rfl⟩) | (go_at_call 143; refine (isGen_any _ _).mono ?_; rintro e w9 ⟨rfl, rfl⟩))
          all_goals go_ret
          all_goals exact ⟨ret_bool (by simp [secOK, *]), unhide HB1⟩
    · have h2b : (ol == []) = false := by simpa using h2
      cases h6 : ha.length == 32
      ·
        go_enter Tryz.func129, Tryz.ntmps129
        go_wp2_with (first | (go_at_call 149; refine (isSecret_any _ _).mono ?_; rintro e w9 ⟨rfl, rfl⟩) | (go_at_call 147; refine (isDigest_any _ _).mono ?_; rintro e w9 ⟨rfl, rfl⟩) | (go_at_call 116; refine (isTime_any _ _).mono ?_; rintro e w9 ⟨rfl, rfl⟩) | (go_at_call 131; refine (isSpan_any _ _).mono ?_; rintro e w9 ⟨rfl, rfl⟩) | (go_at_call 142; refine (isID_any _ _).mono ?_; rintro e w9 ⟨rfl, rfl⟩) | (go_at_call 143; refine (isGen_any _ _).mono ?_; rintro e w9 ⟨rfl, rfl⟩))
        all_goals go_ret
        all_goals exact ⟨ret_bool (by simp [secOK, *]), unhide HB1⟩
      ·
        cases h7 : ol.length == 32
        ·
          go_enter Tryz.func129, Tryz.ntmps129
          go_wp2_with (first | (go_at_call 149; refine (isSecret_any _ _).mono ?_; rintro e w9 ⟨rfl, rfl⟩) | (go_at_call 147; refine (isDigest_any _ _).mono ?_; rintro e w9 ⟨rfl, rfl⟩) | (go_at_call 116; refine (isTime_any _ _).mono ?_; rintro e w9 ⟨rfl, rfl⟩) | (go_at_call 131; refine (isSpan_any _ _).mono ?_; rintro e w9 ⟨rfl, rfl⟩) | (go_at_call 142; refine (isID_any _ _).mono ?_; rintro e w9 ⟨rfl, rfl⟩) | (go_at_call 143; refine (isGen_any _ _).mono ?_; rintro e w9 ⟨rfl, rfl⟩))
          all_goals go_ret
          all_goals exact ⟨ret_bool (by simp [secOK, *]), unhide HB1⟩
        ·
          cases h8 : tim un
          ·
            go_enter Tryz.func129, Tryz.ntmps129
            go_wp2_with (first | (go_at_call 149; refine (isSecret_any _ _).mono ?_; rintro e w9 ⟨rfl, rfl⟩) | (go_at_call 147; refine (isDigest_any _ _).mono ?_; rintro e w9 ⟨rfl, rfl⟩) | (go_at_call 116; refine (isTime_any _ _).mono ?_; rintro e w9 ⟨rfl, rfl⟩) | (go_at_call 131; refine (isSpan_any _ _).mono ?_; rintro e w9 ⟨rfl, rfl⟩) | (go_at_call 142; refine (isID_any _ _).mono ?_; rintro e w9 ⟨rfl, rfl⟩) | (go_at_call 143; refine (isGen_any _ _).mono ?_; rintro e w9 ⟨rfl, rfl⟩))
            all_goals go_ret
            all_goals exact ⟨ret_bool (by simp [secOK, *]), unhide HB1⟩
          ·
            go_enter Tryz.func129, Tryz.ntmps129
            go_wp2_with (first | (go_at_call 149; refine (isSecret_any _ _).mono ?_; rintro e w9 ⟨rfl, rfl⟩) | (go_at_call 147; refine (isDigest_any _ _).mono ?_; rintro e w9 ⟨rfl, rfl⟩) | (go_at_call 116; refine (isTime_any _ _).mono ?_; rintro e w9 ⟨rfl, rfl⟩) | (go_at_call 131; refine (isSpan_any _ _).mono ?_; rintro e w9 ⟨rfl, rfl⟩) | (go_at_call 142; refine (isID_any _ _).mono ?_; rintro e w9 ⟨rfl, rfl⟩) | (go_at_call 143; refine (isGen_any _ _).mono ?_; rintro e w9 ⟨rfl, rfl⟩))
            all_goals go_ret
            all_goals exact ⟨ret_bool (by simp [secOK, *]), unhide HB1⟩
  ·
    by_cases h9 : ol = []
    · subst h9
      cases h10 : un == 0
      ·
        by_cases h11 : ha = []
        · subst h11
          go_enter Tryz.func129, Tryz.ntmps129
          go_wp2_with (first | (go_at_call 149; refine (isSecret_any _ _).mono ?_; rintro e w9 ⟨rfl, rfl⟩) | (go_at_call 147; refine (isDigest_any _ _).mono ?_; rintro e w9 ⟨rfl, rfl⟩) | (go_at_call 116; refine (isTime_any _ _).mono ?_; rintro e w9 ⟨rfl, rfl⟩) | (go_at_call 131; refine (isSpan_any _ _).mono ?_; rintro e w9 ⟨rfl, rfl⟩) | (go_at_call 142; refine (isID_any _ _).mono ?_; rintro e w9 ⟨rfl, rfl⟩) | (go_at_call 143; refine (isGen_any _ _).mono ?_; rintro e w9 ⟨rfl, rfl⟩))
          all_goals go_ret
          all_goals exact ⟨ret_bool (by simp [secOK, *]), unhide HB1⟩
        · have h11b : (ha == []) = false := by simpa using h11
          go_enter Tryz.func129, Tryz.ntmps129
          go_wp2_with (first | (go_at_call 149; refine (isSecret_any _ _).mono ?_; rintro e w9 ⟨rfl, rfl⟩) | (go_at_call 147; refine (isDigest_any _ _).mono ?_; rintro e w9 ⟨rfl, rfl⟩) | (go_at_call 116; refine (isTime_any _ _).mono ?_; rintro e w9 ⟨rfl, rfl⟩) | (go_at_call 131; refine (isSpan_any _ _).mono ?_; rintro e w9 ⟨rfl, rfl⟩) | (go_at_call 142; refine (isID_any _ _).mono ?_; rintro e w9 ⟨rfl, rfl⟩) | (go_at_call 143; refine (isGen_any _ _).mono ?_; rintro e w9 ⟨rfl, rfl⟩))
          all_goals go_ret
          all_goals exact ⟨ret_bool (by simp [secOK, *]), unhide HB1⟩
      ·
        by_cases h12 : ha = []
        · subst h12
          go_enter Tryz.func129, Tryz.ntmps129
          go_wp2_with (first | (go_at_call 149; refine (isSecret_any _ _).mono ?_; rintro e w9 ⟨rfl, rfl⟩) | (go_at_call 147; refine (isDigest_any _ _).mono ?_; rintro e w9 ⟨rfl, rfl⟩) | (go_at_call 116; refine (isTime_any _ _).mono ?_; rintro e w9 ⟨rfl, rfl⟩) | (go_at_call 131; refine (isSpan_any _ _).mono ?_; rintro e w9 ⟨rfl, rfl⟩) | (go_at_call 142; refine (isID_any _ _).mono ?_; rintro e w9 ⟨rfl, rfl⟩) | (go_at_call 143; refine (isGen_any _ _).mono ?_; rintro e w9 ⟨rfl, rfl⟩))
          all_goals go_ret
          all_goals exact ⟨ret_bool (by simp [secOK, *]), unhide HB1⟩
        · have h12b : (ha == []) = false := by simpa using h12
          go_enter Tryz.func129, Tryz.ntmps129
          go_wp2_with (first | (go_at_call 149; refine (isSecret_any _ _).mono ?_; rintro e w9 ⟨rfl, rfl⟩) | (go_at_call 147; refine (isDigest_any _ _).mono ?_; rintro e w9 ⟨rfl, rfl⟩) | (go_at_call 116; refine (isTime_any _ _).mono ?_; rintro e w9 ⟨rfl, rfl⟩) | (go_at_call 131; refine (isSpan_any _ _).mono ?_; rintro e w9 ⟨rfl, rfl⟩) | (go_at_call 142; refine (isID_any _ _).mono ?_; rintro e w9 ⟨rfl, rfl⟩) | (go_at_call 143; refine (isGen_any _ _).mono ?_; rintro e w9 ⟨rfl, rfl⟩))
          all_goals go_ret
          all_goals exact ⟨ret_bool (by simp [secOK, *]), unhide HB1⟩
    · have h9b : (ol == []) = false := by simpa using h9
      by_cases h13 : ha = []
      · subst h13
        go_enter Tryz.func129, Tryz.ntmps129
        go_wp2_with (first | (go_at_call 149; refine (isSecret_any _ _).mono ?_; rintro e w9 ⟨rfl, rfl⟩) | (go_at_call 147; refine (isDigest_any _ _).mono ?_; rintro e w9 ⟨rfl, rfl⟩) | (go_at_call 116; refine (isTime_any _ _).mono ?_; rintro e w9 ⟨rfl, rfl⟩) | (go_at_call 131; refine (isSpan_any _ _).mono ?_; rintro e w9 ⟨rfl, rfl⟩) | (go_at_call 142; refine (isID_any _ _).mono ?_; rintro e w9 ⟨rfl, rfl⟩) | (go_at_call 143; refine (isGen_any _ _).mono ?_; rintro e w9 ⟨rfl, rfl⟩))
        all_goals go_ret
        all_goals exact ⟨ret_bool (by simp [secOK, *]), unhide HB1⟩
      · have h13b : (ha == []) = false := by simpa using h13
        go_enter Tryz.func129, Tryz.ntmps129
        go_wp2_with (first | (go_at_call 149; refine (isSecret_any _ _).mono ?_; rintro e w9 ⟨rfl, rfl⟩) | (go_at_call 147; refine (isDigest_any _ _).mono ?_; rintro e w9 ⟨rfl, rfl⟩) | (go_at_call 116; refine (isTime_any _ _).mono ?_; rintro e w9 ⟨rfl, rfl⟩) | (go_at_call 131; refine (isSpan_any _ _).mono ?_; rintro e w9 ⟨rfl, rfl⟩) | (go_at_call 142; refine (isID_any _ _).mono ?_; rintro e w9 ⟨rfl, rfl⟩) | (go_at_call 143; refine (isGen_any _ _).mono ?_; rintro e w9 ⟨rfl, rfl⟩))
        all_goals go_ret
        all_goals exact ⟨ret_bool (by simp [secOK, *]), unhide HB1⟩
def cliOK (na : Bs) (pu : Bool) (ha ol : Bs) (un : Int) (sc : List Bs) (idl ab gr li : Int) : Bool := right [na] && (secOK pu ha ol un && (right sc && (spn idl && (spn ab && (tim gr && (spn li))))))
theorem rightClient_any (na : Bs) (pu of9 : Bool) (ha ol : Bs) (un : Int) (va : Option Addr) (vc : Nat) (sc : List Bs) (idl ab gr li : Int) (w : World) (hna : na.length ≤ 9223372036854775807) (hsc : Sts w va sc.length sc) (hsl : sc.length ≤ 140737488355000) (hln : Lns sc) : Calls Tryz.prog 59 #[.agg #[S na, .bool pu, .bool of9, S ha, S ol, I un, .slice va sc.length vc, I idl, I ab, I gr, I li]] w fun e w' => e = .returned (.bool (cliOK na pu ha ol un sc idl ab gr li)) ∧ Below w.heap.size w w' := by
  have hB0 : Below w.heap.size w (w.alloc (.cells #[S na, .bool pu, .bool of9, S ha, S ol, I un, .slice va sc.length vc, I idl, I ab, I gr, I li] 24)) := (Below.refl _ w).alloc (Nat.le_refl _) _
  have HB := hide hB0
  have c0 : (w.alloc (.cells #[S na, .bool pu, .bool of9, S ha, S ol, I un, .slice va sc.length vc, I idl, I ab, I gr, I li] 24)).cell? ⟨w.heap.size, 0, none⟩ = some (S na) := cell_new _ _ _ _ _ rfl
  have c1 : (w.alloc (.cells #[S na, .bool pu, .bool of9, S ha, S ol, I un, .slice va sc.length vc, I idl, I ab, I gr, I li] 24)).cell? ⟨w.heap.size, 1, none⟩ = some (.bool pu) := cell_new _ _ _ _ _ rfl
  have c2 : (w.alloc (.cells #[S na, .bool pu, .bool of9, S ha, S ol, I un, .slice va sc.length vc, I idl, I ab, I gr, I li] 24)).cell? ⟨w.heap.size, 2, none⟩ = some (.bool of9) := cell_new _ _ _ _ _ rfl
  have c3 : (w.alloc (.cells #[S na, .bool pu, .bool of9, S ha, S ol, I un, .slice va sc.length vc, I idl, I ab, I gr, I li] 24)).cell? ⟨w.heap.size, 3, none⟩ = some (S ha) := cell_new _ _ _ _ _ rfl
  have c4 : (w.alloc (.cells #[S na, .bool pu, .bool of9, S ha, S ol, I un, .slice va sc.length vc, I idl, I ab, I gr, I li] 24)).cell? ⟨w.heap.size, 4, none⟩ = some (S ol) := cell_new _ _ _ _ _ rfl
  have c5 : (w.alloc (.cells #[S na, .bool pu, .bool of9, S ha, S ol, I un, .slice va sc.length vc, I idl, I ab, I gr, I li] 24)).cell? ⟨w.heap.size, 5, none⟩ = some (I un) := cell_new _ _ _ _ _ rfl
  have c6 : (w.alloc (.cells #[S na, .bool pu, .bool of9, S ha, S ol, I un, .slice va sc.length vc, I idl, I ab, I gr, I li] 24)).cell? ⟨w.heap.size, 6, none⟩ = some (.slice va sc.length vc) := cell_new _ _ _ _ _ rfl
  have c7 : (w.alloc (.cells #[S na, .bool pu, .bool of9, S ha, S ol, I un, .slice va sc.length vc, I idl, I ab, I gr, I li] 24)).cell? ⟨w.heap.size, 7, none⟩ = some (I idl) := cell_new _ _ _ _ _ rfl
  have c8 : (w.alloc (.cells #[S na, .bool pu, .bool of9, S ha, S ol, I un, .slice va sc.length vc, I idl, I ab, I gr, I li] 24)).cell? ⟨w.heap.size, 8, none⟩ = some (I ab) := cell_new _ _ _ _ _ rfl
  have c9 : (w.alloc (.cells #[S na, .bool pu, .bool of9, S ha, S ol, I un, .slice va sc.length vc, I idl, I ab, I gr, I li] 24)).cell? ⟨w.heap.size, 9, none⟩ = some (I gr) := cell_new _ _ _ _ _ rfl
  have c10 : (w.alloc (.cells #[S na, .bool pu, .bool of9, S ha, S ol, I un, .slice va sc.length vc, I idl, I ab, I gr, I li] 24)).cell? ⟨w.heap.size, 10, none⟩ = some (I li) := cell_new _ _ _ _ _ rfl
  have hlt : w.heap.size < (w.alloc (.cells #[S na, .bool pu, .bool of9, S ha, S ol, I un, .slice va sc.length vc, I idl, I ab, I gr, I li] 24)).heap.size := by simp
  generalize hW1 : w.alloc (.cells #[S na, .bool pu, .bool of9, S ha, S ol, I un, .slice va sc.length vc, I idl, I ab, I gr, I li] 24) = W1 at *
  clear hB0
  obtain ⟨R, hR⟩ : ∃ R, R = cliOK na pu ha ol un sc idl ab gr li := ⟨_, rfl⟩
  have HR := hide hR
  rw [← hR]
  clear hR
  go_enter Tryz.func59, Tryz.ntmps59
  go_wp2_with fail
  refine (isNm_any na _ (by assumption)).mono ?_
  rintro e v1 ⟨rfl, hv⟩
  replace c0 := cell_below c0 hv hlt
  replace c1 := cell_below c1 hv hlt
  replace c2 := cell_below c2 hv hlt
  replace c3 := cell_below c3 hv hlt
  replace c4 := cell_below c4 hv hlt
  replace c5 := cell_below c5 hv hlt
  replace c6 := cell_below c6 hv hlt
  replace c7 := cell_below c7 hv hlt
  replace c8 := cell_below c8 hv hlt
  replace c9 := cell_below c9 hv hlt
  replace c10 := cell_below c10 hv hlt
  replace hlt : w.heap.size < v1.heap.size := Nat.lt_of_lt_of_le hlt hv.size
  replace HB := hide ((unhide HB).trans (hv.mono (unhide HB).size))
  clear hv
  cases h1 : right [na]
  ·
    go_wp2
    all_goals go_ret
    all_goals exact ⟨ret_bool (by rw [unhide HR]; simp [cliOK, *]), unhide HB⟩
  ·
    go_wp2_with fail
    refine (rightSecrets_any na pu of9 ha ol un va vc sc idl ab gr li _).mono ?_
    rintro e v2 ⟨rfl, hv⟩
    replace c0 := cell_below c0 hv hlt
    replace c1 := cell_below c1 hv hlt
    replace c2 := cell_below c2 hv hlt
    replace c3 := cell_below c3 hv hlt
    replace c4 := cell_below c4 hv hlt
    replace c5 := cell_below c5 hv hlt
    replace c6 := cell_below c6 hv hlt
    replace c7 := cell_below c7 hv hlt
    replace c8 := cell_below c8 hv hlt
    replace c9 := cell_below c9 hv hlt
    replace c10 := cell_below c10 hv hlt
    replace hlt : w.heap.size < v2.heap.size := Nat.lt_of_lt_of_le hlt hv.size
    replace HB := hide ((unhide HB).trans (hv.mono (unhide HB).size))
    clear hv
    cases h2 : secOK pu ha ol un
    ·
      go_wp2
      all_goals go_ret
      all_goals exact ⟨ret_bool (by rw [unhide HR]; simp [cliOK, *]), unhide HB⟩
    ·
      go_wp2_with fail
      refine (Right_any va sc.length vc sc _ (Sts.bel hsc (unhide HB)) hsl hln).mono ?_
      rintro e v3 ⟨rfl, hv⟩
      replace c0 := cell_below c0 hv hlt
      replace c1 := cell_below c1 hv hlt
      replace c2 := cell_below c2 hv hlt
      replace c3 := cell_below c3 hv hlt
      replace c4 := cell_below c4 hv hlt
      replace c5 := cell_below c5 hv hlt
      replace c6 := cell_below c6 hv hlt
      replace c7 := cell_below c7 hv hlt
      replace c8 := cell_below c8 hv hlt
      replace c9 := cell_below c9 hv hlt
      replace c10 := cell_below c10 hv hlt
      replace hlt : w.heap.size < v3.heap.size := Nat.lt_of_lt_of_le hlt hv.size
      replace HB := hide ((unhide HB).trans (hv.mono (unhide HB).size))
      clear hv
      cases h3 : right sc
      ·
        go_wp2
        all_goals go_ret
        all_goals exact ⟨ret_bool (by rw [unhide HR]; simp [cliOK, *]), unhide HB⟩
      ·
        go_wp2_with fail
        refine (isSpan_any _ _).mono ?_
        rintro e w9 ⟨rfl, hw9⟩
        rw [hw9]
        clear hw9
        cases h4 : spn idl
        ·
          go_wp2
          all_goals go_ret
          all_goals exact ⟨ret_bool (by rw [unhide HR]; simp [cliOK, *]), unhide HB⟩
        ·
          go_wp2_with fail
          refine (isSpan_any _ _).mono ?_
          rintro e w9 ⟨rfl, hw9⟩
          rw [hw9]
          clear hw9
          cases h5 : spn ab
          ·
            go_wp2
            all_goals go_ret
            all_goals exact ⟨ret_bool (by rw [unhide HR]; simp [cliOK, *]), unhide HB⟩
          ·
            go_wp2_with fail
            refine (isTime_any _ _).mono ?_
            rintro e w9 ⟨rfl, hw9⟩
            rw [hw9]
            clear hw9
            cases h6 : tim gr
            ·
              go_wp2
              all_goals go_ret
              all_goals exact ⟨ret_bool (by rw [unhide HR]; simp [cliOK, *]), unhide HB⟩
            ·
              go_wp2_with fail
              refine (isSpan_any _ _).mono ?_
              rintro e w9 ⟨rfl, hw9⟩
              rw [hw9]
              clear hw9
              cases h7 : spn li
              ·
                go_wp2
                all_goals go_ret
                all_goals exact ⟨ret_bool (by rw [unhide HR]; simp [cliOK, *]), unhide HB⟩
              ·
                go_wp2
                all_goals go_ret
                all_goals exact ⟨ret_bool (by rw [unhide HR]; simp [cliOK, *]), unhide HB⟩
end Go.Proofs.YtpidmpefodnffaaGreatDoor
