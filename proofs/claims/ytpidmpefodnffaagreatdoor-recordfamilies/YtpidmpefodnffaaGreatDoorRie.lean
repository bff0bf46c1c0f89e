import Derived.Test.YtpidmpefodnffaaGreatDoorZfde
namespace Go.Proofs.YtpidmpefodnffaaGreatDoor
open Go.RowKit
set_option maxHeartbeats 4000000
set_option maxRecDepth 8000
def staOK (us st en : Int) : Bool := if st == 1 then en == 0 else if st == 2 || (st == 3 || st == 4) then tim en && decide (us ≤ en) else false
theorem rightState_any (id : Int) (cl su : Bs) (va : Option Addr) (vc : Nat) (sc : List Bs) (cr us idl ab gr ge to st en co : Int)  (w : World) : Calls Tryz.prog 144 #[.agg #[I id, S cl, S su, .slice va sc.length vc, I cr, I us, I idl, I ab, I gr, I ge, I to, I st, I en, I co]] w fun e w' => e = .returned (.bool (staOK us st en)) ∧ Below w.heap.size w w' := by
  have hB0 : Below w.heap.size w (w.alloc (.cells #[I id, S cl, S su, .slice va sc.length vc, I cr, I us, I idl, I ab, I gr, I ge, I to, I st, I en, I co] 40)) := (Below.refl _ w).alloc (Nat.le_refl _) _
  have HB1 := hide hB0
  have c0 : (w.alloc (.cells #[I id, S cl, S su, .slice va sc.length vc, I cr, I us, I idl, I ab, I gr, I ge, I to, I st, I en, I co] 40)).cell? ⟨w.heap.size, 0, none⟩ = some (I id) := cell_new _ _ _ _ _ rfl
  have c1 : (w.alloc (.cells #[I id, S cl, S su, .slice va sc.length vc, I cr, I us, I idl, I ab, I gr, I ge, I to, I st, I en, I co] 40)).cell? ⟨w.heap.size, 1, none⟩ = some (S cl) := cell_new _ _ _ _ _ rfl
  have c2 : (w.alloc (.cells #[I id, S cl, S su, .slice va sc.length vc, I cr, I us, I idl, I ab, I gr, I ge, I to, I st, I en, I co] 40)).cell? ⟨w.heap.size, 2, none⟩ = some (S su) := cell_new _ _ _ _ _ rfl
  have c3 : (w.alloc (.cells #[I id, S cl, S su, .slice va sc.length vc, I cr, I us, I idl, I ab, I gr, I ge, I to, I st, I en, I co] 40)).cell? ⟨w.heap.size, 3, none⟩ = some (.slice va sc.length vc) := cell_new _ _ _ _ _ rfl
  have c4 : (w.alloc (.cells #[I id, S cl, S su, .slice va sc.length vc, I cr, I us, I idl, I ab, I gr, I ge, I to, I st, I en, I co] 40)).cell? ⟨w.heap.size, 4, none⟩ = some (I cr) := cell_new _ _ _ _ _ rfl
  have c5 : (w.alloc (.cells #[I id, S cl, S su, .slice va sc.length vc, I cr, I us, I idl, I ab, I gr, I ge, I to, I st, I en, I co] 40)).cell? ⟨w.heap.size, 5, none⟩ = some (I us) := cell_new _ _ _ _ _ rfl
  have c6 : (w.alloc (.cells #[I id, S cl, S su, .slice va sc.length vc, I cr, I us, I idl, I ab, I gr, I ge, I to, I st, I en, I co] 40)).cell? ⟨w.heap.size, 6, none⟩ = some (I idl) := cell_new _ _ _ _ _ rfl
  have c7 : (w.alloc (.cells #[I id, S cl, S su, .slice va sc.length vc, I cr, I us, I idl, I ab, I gr, I ge, I to, I st, I en, I co] 40)).cell? ⟨w.heap.size, 7, none⟩ = some (I ab) := cell_new _ _ _ _ _ rfl
  have c8 : (w.alloc (.cells #[I id, S cl, S su, .slice va sc.length vc, I cr, I us, I idl, I ab, I gr, I ge, I to, I st, I en, I co] 40)).cell? ⟨w.heap.size, 8, none⟩ = some (I gr) := cell_new _ _ _ _ _ rfl
  have c9 : (w.alloc (.cells #[I id, S cl, S su, .slice va sc.length vc, I cr, I us, I idl, I ab, I gr, I ge, I to, I st, I en, I co] 40)).cell? ⟨w.heap.size, 9, none⟩ = some (I ge) := cell_new _ _ _ _ _ rfl
  have c10 : (w.alloc (.cells #[I id, S cl, S su, .slice va sc.length vc, I cr, I us, I idl, I ab, I gr, I ge, I to, I st, I en, I co] 40)).cell? ⟨w.heap.size, 10, none⟩ = some (I to) := cell_new _ _ _ _ _ rfl
  have c11 : (w.alloc (.cells #[I id, S cl, S su, .slice va sc.length vc, I cr, I us, I idl, I ab, I gr, I ge, I to, I st, I en, I co] 40)).cell? ⟨w.heap.size, 11, none⟩ = some (I st) := cell_new _ _ _ _ _ rfl
  have c12 : (w.alloc (.cells #[I id, S cl, S su, .slice va sc.length vc, I cr, I us, I idl, I ab, I gr, I ge, I to, I st, I en, I co] 40)).cell? ⟨w.heap.size, 12, none⟩ = some (I en) := cell_new _ _ _ _ _ rfl
  have c13 : (w.alloc (.cells #[I id, S cl, S su, .slice va sc.length vc, I cr, I us, I idl, I ab, I gr, I ge, I to, I st, I en, I co] 40)).cell? ⟨w.heap.size, 13, none⟩ = some (I co) := cell_new _ _ _ _ _ rfl
  have hlt1 : w.heap.size < (w.alloc (.cells #[I id, S cl, S su, .slice va sc.length vc, I cr, I us, I idl, I ab, I gr, I ge, I to, I st, I en, I co] 40)).heap.size := by simp
  generalize hW1 : w.alloc (.cells #[I id, S cl, S su, .slice va sc.length vc, I cr, I us, I idl, I ab, I gr, I ge, I to, I st, I en, I co] 40) = W1 at *
  have hX1 := hB0.size
  clear hB0
  cases h1 : st == 1
  ·
    cases h2 : st == 2
    ·
      cases h3 : st == 3
      ·
        cases h4 : st == 4
        ·
          go_enter Tryz.func144, Tryz.ntmps144
          go_wp2_with (first | (go_at_call 149; refine (isSecret_any _ _).mono ?_; rintro e w9 ⟨rfl, rfl⟩) | (go_at_call 147; refine (isDigest_any _ _).mono ?_; rintro e w9 ⟨rfl, rfl⟩) | (go_at_call 116; refine (isTime_any _ _).mono ?_; rintro e w9 ⟨rfl, rfl⟩) | (go_at_call 131; refine (isSpan_any _ _).mono ?_; rintro e w9 ⟨rfl, rfl⟩) | (go_at_call 142; refine (isID_any _ _).mono ?_; rintro e w9 ⟨rfl, rfl⟩) | (go_at_call 143; refine (isGen_any _ _).mono ?_; rintro e w9 ⟨rfl, rfl⟩))
          all_goals go_ret
          all_goals exact ⟨ret_bool (by simp [staOK, *]), unhide HB1⟩
        ·
          cases h5 : tim en
          ·
            go_enter Tryz.func144, Tryz.ntmps144
            go_wp2_with (first | (go_at_call 149; refine (isSecret_any _ _).mono ?_; rintro e w9 ⟨rfl, rfl⟩) | (go_at_call 147; refine (isDigest_any _ _).mono ?_; rintro e w9 ⟨rfl, rfl⟩) | (go_at_call 116; refine (isTime_any _ _).mono ?_; rintro e w9 ⟨rfl, rfl⟩) | (go_at_call 131; refine (isSpan_any _ _).mono ?_; rintro e w9 ⟨rfl, rfl⟩) | (go_at_call 142; refine (isID_any _ _).mono ?_; rintro e w9 ⟨rfl, rfl⟩) | (go_at_call 143; refine (isGen_any _ _).mono ?_; rintro e w9 ⟨rfl, rfl⟩))
            all_goals go_ret
            all_goals exact ⟨ret_bool (by simp [staOK, *]), unhide HB1⟩
          ·
            cases h6 : decide (us ≤ en)
            ·
              go_enter Tryz.func144, Tryz.ntmps144
              go_wp2_with (first | (go_at_call 149; refine (isSecret_any _ _).mono ?_; rintro e w9 ⟨rfl, rfl⟩) | (go_at_call 147; refine (isDigest_any _ _).mono ?_; rintro e w9 ⟨rfl, rfl⟩) | (go_at_call 116; refine (isTime_any _ _).mono ?_; rintro e w9 ⟨rfl, rfl⟩) | (go_at_call 131; refine (isSpan_any _ _).mono ?_; rintro e w9 ⟨rfl, rfl⟩) | (go_at_call 142; refine (isID_any _ _).mono ?_; rintro e w9 ⟨rfl, rfl⟩) | (go_at_call 143; refine (isGen_any _ _).mono ?_; rintro e w9 ⟨rfl, rfl⟩))
              all_goals go_ret
              all_goals exact ⟨ret_bool (by simp [staOK, *]), unhide HB1⟩
            ·
              go_enter Tryz.func144, Tryz.ntmps144
              go_wp2_with (first | (go_at_call 149; refine (isSecret_any _ _).mono ?_; rintro e w9 ⟨rfl, rfl⟩) | (go_at_call 147; refine (isDigest_any _ _).mono ?_; rintro e w9 ⟨rfl, rfl⟩) | (go_at_call 116; refine (isTime_any _ _).mono ?_; rintro e w9 ⟨rfl, rfl⟩) | (go_at_call 131; refine (isSpan_any _ _).mono ?_; rintro e w9 ⟨rfl, rfl⟩) | (go_at_call 142; refine (isID_any _ _).mono ?_; rintro e w9 ⟨rfl, rfl⟩) | (go_at_call 143; refine (isGen_any _ _).mono ?_; rintro e w9 ⟨rfl, rfl⟩))
              all_goals go_ret
              all_goals exact ⟨ret_bool (by simp [staOK, *]), unhide HB1⟩
      ·
        cases h7 : tim en
        ·
          go_enter Tryz.func144, Tryz.ntmps144
          go_wp2_with (first | (go_at_call 149; refine (isSecret_any _ _).mono ?_; rintro e w9 ⟨rfl, rfl⟩) | (go_at_call 147; refine (isDigest_any _ _).mono ?_; rintro e w9 ⟨rfl, rfl⟩) | (go_at_call 116; refine (isTime_any _ _).mono ?_; rintro e w9 ⟨rfl, rfl⟩) | (go_at_call 131; refine (isSpan_any _ _).mono ?_; rintro e w9 ⟨rfl, rfl⟩) | (go_at_call 142; refine (isID_any _ _).mono ?_; rintro e w9 ⟨rfl, rfl⟩) | (go_at_call 143; refine (isGen_any _ _).mono ?_; rintro e w9 ⟨rfl, rfl⟩))
          all_goals go_ret
          all_goals exact ⟨ret_bool (by simp [staOK, *]), unhide HB1⟩
        ·
          cases h8 : decide (us ≤ en)
          ·
            go_enter Tryz.func144, Tryz.ntmps144
            go_wp2_with (first | (go_at_call 149; refine (isSecret_any _ _).mono ?_; rintro e w9 ⟨rfl, rfl⟩) | (go_at_call 147; refine (isDigest_any _ _).mono ?_; rintro e w9 ⟨rfl, rfl⟩) | (go_at_call 116; refine (isTime_any _ _).mono ?_; rintro e w9 ⟨rfl, rfl⟩) | (go_at_call 131; refine (isSpan_any _ _).mono ?_; rintro e w9 ⟨rfl, rfl⟩) | (go_at_call 142; refine (isID_any _ _).mono ?_; rintro e w9 ⟨rfl, rfl⟩) | (go_at_call 143; refine (isGen_any _ _).mono ?_; rintro e w9 ⟨rfl, rfl⟩))
            all_goals go_ret
            all_goals exact ⟨ret_bool (by simp [staOK, *]), unhide HB1⟩
          ·
            go_enter Tryz.func144, Tryz.ntmps144
            go_wp2_with (first | (go_at_call 149; refine (isSecret_any _ _).mono ?_; rintro e w9 ⟨rfl, rfl⟩) | (go_at_call 147; refine (isDigest_any _ _).mono ?_; rintro e w9 ⟨rfl, rfl⟩) | (go_at_call 116; refine (isTime_any _ _).mono ?_; rintro e w9 ⟨rfl, rfl⟩) | (go_at_call 131; refine (isSpan_any _ _).mono ?_; rintro e w9 ⟨rfl, rfl⟩) | (go_at_call 142; refine (isID_any _ _).mono ?_; rintro e w9 ⟨rfl, rfl⟩) | (go_at_call 143; refine (isGen_any _ _).mono ?_; rintro e w9 ⟨rfl, rfl⟩))
            all_goals go_ret
            all_goals exact ⟨ret_bool (by simp [staOK, *]), unhide HB1⟩
    ·
      cases h9 : tim en
      ·
        go_enter Tryz.func144, Tryz.ntmps144
        go_wp2_with (first | (go_at_call 149; refine (isSecret_any _ _).mono ?_; rintro e w9 ⟨rfl, rfl⟩) | (go_at_call 147; refine (isDigest_any _ _).mono ?_; rintro e w9 ⟨rfl, rfl⟩) | (go_at_call 116; refine (isTime_any _ _).mono ?_; rintro e w9 ⟨rfl, rfl⟩) | (go_at_call 131; refine (isSpan_any _ _).mono ?_; rintro e w9 ⟨rfl, rfl⟩) | (go_at_call 142; refine (isID_any _ _).mono ?_; rintro e w9 ⟨rfl, rfl⟩) | (go_at_call 143; refine (isGen_any _ _).mono ?_; rintro e w9 ⟨rfl, rfl⟩))
        all_goals go_ret
        all_goals exact ⟨ret_bool (by simp [staOK, *]), unhide HB1⟩
      ·
        cases h10 : decide (us ≤ en)
        ·
          go_enter Tryz.func144, Tryz.ntmps144
          go_wp2_with (first | (go_at_call 149; refine (isSecret_any _ _).mono ?_; rintro e w9 ⟨rfl, rfl⟩) | (go_at_call 147; refine (isDigest_any _ _).mono ?_; rintro e w9 ⟨rfl, rfl⟩) | (go_at_call 116; refine (isTime_any _ _).mono ?_; rintro e w9 ⟨rfl, rfl⟩) | (go_at_call 131; refine (isSpan_any _ _).mono ?_; rintro e w9 ⟨rfl, rfl⟩) | (go_at_call 142; refine (isID_any _ _).mono ?_; rintro e w9 ⟨rfl, rfl⟩) | (go_at_call 143; refine (isGen_any _ _).mono ?_; rintro e w9 ⟨rfl, rfl⟩))
          all_goals go_ret
          all_goals exact ⟨ret_bool (by simp [staOK, *]), unhide HB1⟩
        ·
          go_enter Tryz.func144, Tryz.ntmps144
          go_wp2_with (first | (go_at_call 149; refine (isSecret_any _ _).mono ?_; rintro e w9 ⟨rfl, rfl⟩) | (go_at_call 147; refine (isDigest_any _ _).mono ?_; rintro e w9 ⟨rfl, rfl⟩) | (go_at_call 116; refine (isTime_any _ _).mono ?_; rintro e w9 ⟨rfl, rfl⟩) | (go_at_call 131; refine (isSpan_any _ _).mono ?_; rintro e w9 ⟨rfl, rfl⟩) | (go_at_call 142; refine (isID_any _ _).mono ?_; rintro e w9 ⟨rfl, rfl⟩) | (go_at_call 143; refine (isGen_any _ _).mono ?_; rintro e w9 ⟨rfl, rfl⟩))
          all_goals go_ret
          all_goals exact ⟨ret_bool (by simp [staOK, *]), unhide HB1⟩
  ·
    cases h11 : en == 0
    ·
      go_enter Tryz.func144, Tryz.ntmps144
      go_wp2_with (first | (go_at_call 149; refine (isSecret_any _ _).mono ?_; rintro e w9 ⟨rfl, rfl⟩) | (go_at_call 147; refine (isDigest_any _ _).mono ?_; rintro e w9 ⟨rfl, rfl⟩) | (go_at_call 116; refine (isTime_any _ _).mono ?_; rintro e w9 ⟨rfl, rfl⟩) | (go_at_call 131; refine (isSpan_any _ _).mono ?_; rintro e w9 ⟨rfl, rfl⟩) | (go_at_call 142; refine (isID_any _ _).mono ?_; rintro e w9 ⟨rfl, rfl⟩) | (go_at_call 143; refine (isGen_any _ _).mono ?_; rintro e w9 ⟨rfl, rfl⟩))
      all_goals go_ret
      all_goals exact ⟨ret_bool (by simp [staOK, *]), unhide HB1⟩
    ·
      go_enter Tryz.func144, Tryz.ntmps144
      go_wp2_with (first | (go_at_call 149; refine (isSecret_any _ _).mono ?_; rintro e w9 ⟨rfl, rfl⟩) | (go_at_call 147; refine (isDigest_any _ _).mono ?_; rintro e w9 ⟨rfl, rfl⟩) | (go_at_call 116; refine (isTime_any _ _).mono ?_; rintro e w9 ⟨rfl, rfl⟩) | (go_at_call 131; refine (isSpan_any _ _).mono ?_; rintro e w9 ⟨rfl, rfl⟩) | (go_at_call 142; refine (isID_any _ _).mono ?_; rintro e w9 ⟨rfl, rfl⟩) | (go_at_call 143; refine (isGen_any _ _).mono ?_; rintro e w9 ⟨rfl, rfl⟩))
      all_goals go_ret
      all_goals exact ⟨ret_bool (by simp [staOK, *]), unhide HB1⟩
def famOK (id : Int) (cl su : Bs) (sc : List Bs) (cr us idl ab gr ge to st en co : Int) : Bool := idn id && (idn to && ((co == 0 || idn co) && (right [cl] && (right [su] && (right sc && (tim cr && (tim us && (decide (cr ≤ us) && (spn idl && (spn ab && (tim gr && (gnr ge && (staOK us st en)))))))))))))
theorem rightFamily_any (id : Int) (cl su : Bs) (va : Option Addr) (vc : Nat) (sc : List Bs) (cr us idl ab gr ge to st en co : Int) (w : World) (hcl : cl.length ≤ 9223372036854775807) (hsu : su.length ≤ 9223372036854775807) (hsc : Sts w va sc.length sc) (hsl : sc.length ≤ 140737488355000) (hln : Lns sc) : Calls Tryz.prog 73 #[.agg #[I id, S cl, S su, .slice va sc.length vc, I cr, I us, I idl, I ab, I gr, I ge, I to, I st, I en, I co]] w fun e w' => e = .returned (.bool (famOK id cl su sc cr us idl ab gr ge to st en co)) ∧ Below w.heap.size w w' := by
  have hB0 : Below w.heap.size w (w.alloc (.cells #[I id, S cl, S su, .slice va sc.length vc, I cr, I us, I idl, I ab, I gr, I ge, I to, I st, I en, I co] 40)) := (Below.refl _ w).alloc (Nat.le_refl _) _
  have HB := hide hB0
  have c0 : (w.alloc (.cells #[I id, S cl, S su, .slice va sc.length vc, I cr, I us, I idl, I ab, I gr, I ge, I to, I st, I en, I co] 40)).cell? ⟨w.heap.size, 0, none⟩ = some (I id) := cell_new _ _ _ _ _ rfl
  have c1 : (w.alloc (.cells #[I id, S cl, S su, .slice va sc.length vc, I cr, I us, I idl, I ab, I gr, I ge, I to, I st, I en, I co] 40)).cell? ⟨w.heap.size, 1, none⟩ = some (S cl) := cell_new _ _ _ _ _ rfl
  have c2 : (w.alloc (.cells #[I id, S cl, S su, .slice va sc.length vc, I cr, I us, I idl, I ab, I gr, I ge, I to, I st, I en, I co] 40)).cell? ⟨w.heap.size, 2, none⟩ = some (S su) := cell_new _ _ _ _ _ rfl
  have c3 : (w.alloc (.cells #[I id, S cl, S su, .slice va sc.length vc, I cr, I us, I idl, I ab, I gr, I ge, I to, I st, I en, I co] 40)).cell? ⟨w.heap.size, 3, none⟩ = some (.slice va sc.length vc) := cell_new _ _ _ _ _ rfl
  have c4 : (w.alloc (.cells #[I id, S cl, S su, .slice va sc.length vc, I cr, I us, I idl, I ab, I gr, I ge, I to, I st, I en, I co] 40)).cell? ⟨w.heap.size, 4, none⟩ = some (I cr) := cell_new _ _ _ _ _ rfl
  have c5 : (w.alloc (.cells #[I id, S cl, S su, .slice va sc.length vc, I cr, I us, I idl, I ab, I gr, I ge, I to, I st, I en, I co] 40)).cell? ⟨w.heap.size, 5, none⟩ = some (I us) := cell_new _ _ _ _ _ rfl
  have c6 : (w.alloc (.cells #[I id, S cl, S su, .slice va sc.length vc, I cr, I us, I idl, I ab, I gr, I ge, I to, I st, I en, I co] 40)).cell? ⟨w.heap.size, 6, none⟩ = some (I idl) := cell_new _ _ _ _ _ rfl
  have c7 : (w.alloc (.cells #[I id, S cl, S su, .slice va sc.length vc, I cr, I us, I idl, I ab, I gr, I ge, I to, I st, I en, I co] 40)).cell? ⟨w.heap.size, 7, none⟩ = some (I ab) := cell_new _ _ _ _ _ rfl
  have c8 : (w.alloc (.cells #[I id, S cl, S su, .slice va sc.length vc, I cr, I us, I idl, I ab, I gr, I ge, I to, I st, I en, I co] 40)).cell? ⟨w.heap.size, 8, none⟩ = some (I gr) := cell_new _ _ _ _ _ rfl
  have c9 : (w.alloc (.cells #[I id, S cl, S su, .slice va sc.length vc, I cr, I us, I idl, I ab, I gr, I ge, I to, I st, I en, I co] 40)).cell? ⟨w.heap.size, 9, none⟩ = some (I ge) := cell_new _ _ _ _ _ rfl
  have c10 : (w.alloc (.cells #[I id, S cl, S su, .slice va sc.length vc, I cr, I us, I idl, I ab, I gr, I ge, I to, I st, I en, I co] 40)).cell? ⟨w.heap.size, 10, none⟩ = some (I to) := cell_new _ _ _ _ _ rfl
  have c11 : (w.alloc (.cells #[I id, S cl, S su, .slice va sc.length vc, I cr, I us, I idl, I ab, I gr, I ge, I to, I st, I en, I co] 40)).cell? ⟨w.heap.size, 11, none⟩ = some (I st) := cell_new _ _ _ _ _ rfl
  have c12 : (w.alloc (.cells #[I id, S cl, S su, .slice va sc.length vc, I cr, I us, I idl, I ab, I gr, I ge, I to, I st, I en, I co] 40)).cell? ⟨w.heap.size, 12, none⟩ = some (I en) := cell_new _ _ _ _ _ rfl
  have c13 : (w.alloc (.cells #[I id, S cl, S su, .slice va sc.length vc, I cr, I us, I idl, I ab, I gr, I ge, I to, I st, I en, I co] 40)).cell? ⟨w.heap.size, 13, none⟩ = some (I co) := cell_new _ _ _ _ _ rfl
  have hlt : w.heap.size < (w.alloc (.cells #[I id, S cl, S su, .slice va sc.length vc, I cr, I us, I idl, I ab, I gr, I ge, I to, I st, I en, I co] 40)).heap.size := by simp
  generalize hW1 : w.alloc (.cells #[I id, S cl, S su, .slice va sc.length vc, I cr, I us, I idl, I ab, I gr, I ge, I to, I st, I en, I co] 40) = W1 at *
  clear hB0
  obtain ⟨R, hR⟩ : ∃ R, R = famOK id cl su sc cr us idl ab gr ge to st en co := ⟨_, rfl⟩
  have HR := hide hR
  rw [← hR]
  clear hR
  go_enter Tryz.func73, Tryz.ntmps73
  simp only [List.append_eq, List.cons_append, List.nil_append]
  go_wp2_with fail
  refine (isID_any _ _).mono ?_
  rintro e w9 ⟨rfl, hw9⟩
  rw [hw9]
  clear hw9
  cases h1 : idn id
  ·
    go_wp2
    all_goals go_ret
    all_goals exact ⟨ret_bool (by rw [unhide HR]; simp [famOK, *]), unhide HB⟩
  ·
    go_wp2_with fail
    refine (isID_any _ _).mono ?_
    rintro e w9 ⟨rfl, hw9⟩
    rw [hw9]
    clear hw9
    cases h2 : idn to
    ·
      go_wp2
      all_goals go_ret
      all_goals exact ⟨ret_bool (by rw [unhide HR]; simp [famOK, *]), unhide HB⟩
    ·
      cases h3 : co == 0
      ·
        go_wp2_with fail
        refine (isID_any _ _).mono ?_
        rintro e w9 ⟨rfl, hw9⟩
        rw [hw9]
        clear hw9
        cases h4 : idn co
        ·
          go_wp2
          all_goals go_ret
          all_goals exact ⟨ret_bool (by rw [unhide HR]; simp [famOK, *]), unhide HB⟩
        ·
          go_wp2_with fail
          refine (isNm_any cl _ (by assumption)).mono ?_
          rintro e v5 ⟨rfl, hv⟩
          replace c0 := cell_below c0 hv hlt
          replace c1 := cell_below c1 hv hlt
          replace c2 := cell_below c2 hv hlt
          replace c3 := cell_below c3 hv hlt
          replace c4 := cell_below c4 hv hlt
          replace c5 := cell_below c5 hv hlt
          replace c6 := cell_below c6 hv hlt
          replace c7 := cell_below c7 hv hlt
          replace c8 := cell_below c8 hv hlt
          replace c9 := cell_below c9 hv hlt
          replace c10 := cell_below c10 hv hlt
          replace c11 := cell_below c11 hv hlt
          replace c12 := cell_below c12 hv hlt
          replace c13 := cell_below c13 hv hlt
          replace hlt : w.heap.size < v5.heap.size := Nat.lt_of_lt_of_le hlt hv.size
          replace HB := hide ((unhide HB).trans (hv.mono (unhide HB).size))
          clear hv
          cases h5 : right [cl]
          ·
            go_wp2
            all_goals go_ret
            all_goals exact ⟨ret_bool (by rw [unhide HR]; simp [famOK, *]), unhide HB⟩
          ·
            go_wp2_with fail
            refine (isNm_any su _ (by assumption)).mono ?_
            rintro e v6 ⟨rfl, hv⟩
            replace c0 := cell_below c0 hv hlt
            replace c1 := cell_below c1 hv hlt
            replace c2 := cell_below c2 hv hlt
            replace c3 := cell_below c3 hv hlt
            replace c4 := cell_below c4 hv hlt
            replace c5 := cell_below c5 hv hlt
            replace c6 := cell_below c6 hv hlt
            replace c7 := cell_below c7 hv hlt
            replace c8 := cell_below c8 hv hlt
            replace c9 := cell_below c9 hv hlt
            replace c10 := cell_below c10 hv hlt
            replace c11 := cell_below c11 hv hlt
            replace c12 := cell_below c12 hv hlt
            replace c13 := cell_below c13 hv hlt
            replace hlt : w.heap.size < v6.heap.size := Nat.lt_of_lt_of_le hlt hv.size
            replace HB := hide ((unhide HB).trans (hv.mono (unhide HB).size))
            clear hv
            cases h6 : right [su]
            ·
              go_wp2
              all_goals go_ret
              all_goals exact ⟨ret_bool (by rw [unhide HR]; simp [famOK, *]), unhide HB⟩
            ·
              go_wp2_with fail
              refine (Right_any va sc.length vc sc _ (Sts.bel hsc (unhide HB)) hsl hln).mono ?_
              rintro e v7 ⟨rfl, hv⟩
              replace c0 := cell_below c0 hv hlt
              replace c1 := cell_below c1 hv hlt
              replace c2 := cell_below c2 hv hlt
              replace c3 := cell_below c3 hv hlt
              replace c4 := cell_below c4 hv hlt
              replace c5 := cell_below c5 hv hlt
              replace c6 := cell_below c6 hv hlt
              replace c7 := cell_below c7 hv hlt
              replace c8 := cell_below c8 hv hlt
              replace c9 := cell_below c9 hv hlt
              replace c10 := cell_below c10 hv hlt
              replace c11 := cell_below c11 hv hlt
              replace c12 := cell_below c12 hv hlt
              replace c13 := cell_below c13 hv hlt
              replace hlt : w.heap.size < v7.heap.size := Nat.lt_of_lt_of_le hlt hv.size
              replace HB := hide ((unhide HB).trans (hv.mono (unhide HB).size))
              clear hv
              cases h7 : right sc
              ·
                go_wp2
                all_goals go_ret
                all_goals exact ⟨ret_bool (by rw [unhide HR]; simp [famOK, *]), unhide HB⟩
              ·
                go_wp2_with fail
                refine (isTime_any _ _).mono ?_
                rintro e w9 ⟨rfl, hw9⟩
                rw [hw9]
                clear hw9
                cases h8 : tim cr
                ·
                  go_wp2
                  all_goals go_ret
                  all_goals exact ⟨ret_bool (by rw [unhide HR]; simp [famOK, *]), unhide HB⟩
                ·
                  go_wp2_with fail
                  refine (isTime_any _ _).mono ?_
                  rintro e w9 ⟨rfl, hw9⟩
                  rw [hw9]
                  clear hw9
                  cases h9 : tim us
                  ·
                    go_wp2
                    all_goals go_ret
                    all_goals exact ⟨ret_bool (by rw [unhide HR]; simp [famOK, *]), unhide HB⟩
                  ·
                    cases h10 : decide (cr ≤ us)
                    ·
                      go_wp2
                      all_goals go_ret
                      all_goals exact ⟨ret_bool (by rw [unhide HR]; simp [famOK, *]), unhide HB⟩
                    ·
                      go_wp2_with fail
                      refine (isSpan_any _ _).mono ?_
                      rintro e w9 ⟨rfl, hw9⟩
                      rw [hw9]
                      clear hw9
                      cases h11 : spn idl
                      ·
                        go_wp2
                        all_goals go_ret
                        all_goals exact ⟨ret_bool (by rw [unhide HR]; simp [famOK, *]), unhide HB⟩
                      ·
                        go_wp2_with fail
                        refine (isSpan_any _ _).mono ?_
                        rintro e w9 ⟨rfl, hw9⟩
                        rw [hw9]
                        clear hw9
                        cases h12 : spn ab
                        ·
                          go_wp2
                          all_goals go_ret
                          all_goals exact ⟨ret_bool (by rw [unhide HR]; simp [famOK, *]), unhide HB⟩
                        ·
                          go_wp2_with fail
                          refine (isTime_any _ _).mono ?_
                          rintro e w9 ⟨rfl, hw9⟩
                          rw [hw9]
                          clear hw9
                          cases h13 : tim gr
                          ·
                            go_wp2
                            all_goals go_ret
                            all_goals exact ⟨ret_bool (by rw [unhide HR]; simp [famOK, *]), unhide HB⟩
                          ·
                            go_wp2_with fail
                            refine (isGen_any _ _).mono ?_
                            rintro e w9 ⟨rfl, hw9⟩
                            rw [hw9]
                            clear hw9
                            cases h14 : gnr ge
                            ·
                              go_wp2
                              all_goals go_ret
                              all_goals exact ⟨ret_bool (by rw [unhide HR]; simp [famOK, *]), unhide HB⟩
                            ·
                              go_wp2_with fail
                              refine (rightState_any id cl su va vc sc cr us idl ab gr ge to st en co _).mono ?_
                              rintro e v15 ⟨rfl, hv⟩
                              replace c0 := cell_below c0 hv hlt
                              replace c1 := cell_below c1 hv hlt
                              replace c2 := cell_below c2 hv hlt
                              replace c3 := cell_below c3 hv hlt
                              replace c4 := cell_below c4 hv hlt
                              replace c5 := cell_below c5 hv hlt
                              replace c6 := cell_below c6 hv hlt
                              replace c7 := cell_below c7 hv hlt
                              replace c8 := cell_below c8 hv hlt
                              replace c9 := cell_below c9 hv hlt
                              replace c10 := cell_below c10 hv hlt
                              replace c11 := cell_below c11 hv hlt
                              replace c12 := cell_below c12 hv hlt
                              replace c13 := cell_below c13 hv hlt
                              replace hlt : w.heap.size < v15.heap.size := Nat.lt_of_lt_of_le hlt hv.size
                              replace HB := hide ((unhide HB).trans (hv.mono (unhide HB).size))
                              clear hv
                              cases h15 : staOK us st en
                              ·
                                go_wp2
                                all_goals go_ret
                                all_goals exact ⟨ret_bool (by rw [unhide HR]; simp [famOK, *]), unhide HB⟩
                              ·
                                go_wp2
                                all_goals go_ret
                                all_goals exact ⟨ret_bool (by rw [unhide HR]; simp [famOK, *]), unhide HB⟩
      ·
        go_wp2_with fail
        refine (isNm_any cl _ (by assumption)).mono ?_
        rintro e v16 ⟨rfl, hv⟩
        replace c0 := cell_below c0 hv hlt
        replace c1 := cell_below c1 hv hlt
        replace c2 := cell_below c2 hv hlt
        replace c3 := cell_below c3 hv hlt
        replace c4 := cell_below c4 hv hlt
        replace c5 := cell_below c5 hv hlt
        replace c6 := cell_below c6 hv hlt
        replace c7 := cell_below c7 hv hlt
        replace c8 := cell_below c8 hv hlt
        replace c9 := cell_below c9 hv hlt
        replace c10 := cell_below c10 hv hlt
        replace c11 := cell_below c11 hv hlt
        replace c12 := cell_below c12 hv hlt
        replace c13 := cell_below c13 hv hlt
        replace hlt : w.heap.size < v16.heap.size := Nat.lt_of_lt_of_le hlt hv.size
        replace HB := hide ((unhide HB).trans (hv.mono (unhide HB).size))
        clear hv
        cases h16 : right [cl]
        ·
          go_wp2
          all_goals go_ret
          all_goals exact ⟨ret_bool (by rw [unhide HR]; simp [famOK, *]), unhide HB⟩
        ·
          go_wp2_with fail
          refine (isNm_any su _ (by assumption)).mono ?_
          rintro e v17 ⟨rfl, hv⟩
          replace c0 := cell_below c0 hv hlt
          replace c1 := cell_below c1 hv hlt
          replace c2 := cell_below c2 hv hlt
          replace c3 := cell_below c3 hv hlt
          replace c4 := cell_below c4 hv hlt
          replace c5 := cell_below c5 hv hlt
          replace c6 := cell_below c6 hv hlt
          replace c7 := cell_below c7 hv hlt
          replace c8 := cell_below c8 hv hlt
          replace c9 := cell_below c9 hv hlt
          replace c10 := cell_below c10 hv hlt
          replace c11 := cell_below c11 hv hlt
          replace c12 := cell_below c12 hv hlt
          replace c13 := cell_below c13 hv hlt
          replace hlt : w.heap.size < v17.heap.size := Nat.lt_of_lt_of_le hlt hv.size
          replace HB := hide ((unhide HB).trans (hv.mono (unhide HB).size))
          clear hv
          cases h17 : right [su]
          ·
            go_wp2
            all_goals go_ret
            all_goals exact ⟨ret_bool (by rw [unhide HR]; simp [famOK, *]), unhide HB⟩
          ·
            go_wp2_with fail
            refine (Right_any va sc.length vc sc _ (Sts.bel hsc (unhide HB)) hsl hln).mono ?_
            rintro e v18 ⟨rfl, hv⟩
            replace c0 := cell_below c0 hv hlt
            replace c1 := cell_below c1 hv hlt
            replace c2 := cell_below c2 hv hlt
            replace c3 := cell_below c3 hv hlt
            replace c4 := cell_below c4 hv hlt
            replace c5 := cell_below c5 hv hlt
            replace c6 := cell_below c6 hv hlt
            replace c7 := cell_below c7 hv hlt
            replace c8 := cell_below c8 hv hlt
            replace c9 := cell_below c9 hv hlt
            replace c10 := cell_below c10 hv hlt
            replace c11 := cell_below c11 hv hlt
            replace c12 := cell_below c12 hv hlt
            replace c13 := cell_below c13 hv hlt
            replace hlt : w.heap.size < v18.heap.size := Nat.lt_of_lt_of_le hlt hv.size
            replace HB := hide ((unhide HB).trans (hv.mono (unhide HB).size))
            clear hv
            cases h18 : right sc
            ·
              go_wp2
              all_goals go_ret
              all_goals exact ⟨ret_bool (by rw [unhide HR]; simp [famOK, *]), unhide HB⟩
            ·
              go_wp2_with fail
              refine (isTime_any _ _).mono ?_
              rintro e w9 ⟨rfl, hw9⟩
              rw [hw9]
              clear hw9
              cases h19 : tim cr
              ·
                go_wp2
                all_goals go_ret
                all_goals exact ⟨ret_bool (by rw [unhide HR]; simp [famOK, *]), unhide HB⟩
              ·
                go_wp2_with fail
                refine (isTime_any _ _).mono ?_
                rintro e w9 ⟨rfl, hw9⟩
                rw [hw9]
                clear hw9
                cases h20 : tim us
                ·
                  go_wp2
                  all_goals go_ret
                  all_goals exact ⟨ret_bool (by rw [unhide HR]; simp [famOK, *]), unhide HB⟩
                ·
                  cases h21 : decide (cr ≤ us)
                  ·
                    go_wp2
                    all_goals go_ret
                    all_goals exact ⟨ret_bool (by rw [unhide HR]; simp [famOK, *]), unhide HB⟩
                  ·
                    go_wp2_with fail
                    refine (isSpan_any _ _).mono ?_
                    rintro e w9 ⟨rfl, hw9⟩
                    rw [hw9]
                    clear hw9
                    cases h22 : spn idl
                    ·
                      go_wp2
                      all_goals go_ret
                      all_goals exact ⟨ret_bool (by rw [unhide HR]; simp [famOK, *]), unhide HB⟩
                    ·
                      go_wp2_with fail
                      refine (isSpan_any _ _).mono ?_
                      rintro e w9 ⟨rfl, hw9⟩
                      rw [hw9]
                      clear hw9
                      cases h23 : spn ab
                      ·
                        go_wp2
                        all_goals go_ret
                        all_goals exact ⟨ret_bool (by rw [unhide HR]; simp [famOK, *]), unhide HB⟩
                      ·
                        go_wp2_with fail
                        refine (isTime_any _ _).mono ?_
                        rintro e w9 ⟨rfl, hw9⟩
                        rw [hw9]
                        clear hw9
                        cases h24 : tim gr
                        ·
                          go_wp2
                          all_goals go_ret
                          all_goals exact ⟨ret_bool (by rw [unhide HR]; simp [famOK, *]), unhide HB⟩
                        ·
                          go_wp2_with fail
                          refine (isGen_any _ _).mono ?_
                          rintro e w9 ⟨rfl, hw9⟩
                          rw [hw9]
                          clear hw9
                          cases h25 : gnr ge
                          ·
                            go_wp2
                            all_goals go_ret
                            all_goals exact ⟨ret_bool (by rw [unhide HR]; simp [famOK, *]), unhide HB⟩
                          ·
                            go_wp2_with fail
                            refine (rightState_any id cl su va vc sc cr us idl ab gr ge to st en co _).mono ?_
                            rintro e v26 ⟨rfl, hv⟩
                            replace c0 := cell_below c0 hv hlt
                            replace c1 := cell_below c1 hv hlt
                            replace c2 := cell_below c2 hv hlt
                            replace c3 := cell_below c3 hv hlt
                            replace c4 := cell_below c4 hv hlt
                            replace c5 := cell_below c5 hv hlt
                            replace c6 := cell_below c6 hv hlt
                            replace c7 := cell_below c7 hv hlt
                            replace c8 := cell_below c8 hv hlt
                            replace c9 := cell_below c9 hv hlt
                            replace c10 := cell_below c10 hv hlt
                            replace c11 := cell_below c11 hv hlt
                            replace c12 := cell_below c12 hv hlt
                            replace c13 := cell_below c13 hv hlt
                            replace hlt : w.heap.size < v26.heap.size := Nat.lt_of_lt_of_le hlt hv.size
                            replace HB := hide ((unhide HB).trans (hv.mono (unhide HB).size))
                            clear hv
                            cases h26 : staOK us st en
                            ·
                              go_wp2
                              all_goals go_ret
                              all_goals exact ⟨ret_bool (by rw [unhide HR]; simp [famOK, *]), unhide HB⟩
                            ·
                              go_wp2
                              all_goals go_ret
                              all_goals exact ⟨ret_bool (by rw [unhide HR]; simp [famOK, *]), unhide HB⟩
end Go.Proofs.YtpidmpefodnffaaGreatDoor
