import Derived.Test.YtmjaobddgaglhaaGreatDoorZprd
import Derived.Test.YtmjaobddgaglhaaGreatDoorZprf
import Derived.Test.YtmjaobddgaglhaaGreatDoorZprg
/- May a record be? -/
namespace Go.Proofs.YtmjaobddgaglhaaGreatDoor
open Go.RowKit
set_option maxHeartbeats 4000000
set_option maxRecDepth 8000
theorem tokMay_any (id fa ge : Int) (ha : Bs) (mi : Int) (sp : Bool) (at9 ne : Int) (se : Bs) (w : World)  : Calls Tryz.prog 33 #[.agg #[I id, I fa, I ge, S ha, I mi, .bool sp, I at9, I ne, S se]] w fun e w' => e = .returned (.bool (tokOK id fa ge ha mi sp at9 ne se)) ∧ Below w.heap.size w w' := by
  have hb : Below w.heap.size w (w.alloc (.cells #[I id, I fa, I ge, S ha, I mi, .bool sp, I at9, I ne, S se] 26)) := (Below.refl _ w).alloc (Nat.le_refl _) _
  have c0 : (w.alloc (.cells #[I id, I fa, I ge, S ha, I mi, .bool sp, I at9, I ne, S se] 26)).cell? ⟨w.heap.size, 0, none⟩ = some (I id) := cell_new _ _ _ _ _ rfl
  have c1 : (w.alloc (.cells #[I id, I fa, I ge, S ha, I mi, .bool sp, I at9, I ne, S se] 26)).cell? ⟨w.heap.size, 1, none⟩ = some (I fa) := cell_new _ _ _ _ _ rfl
  have c2 : (w.alloc (.cells #[I id, I fa, I ge, S ha, I mi, .bool sp, I at9, I ne, S se] 26)).cell? ⟨w.heap.size, 2, none⟩ = some (I ge) := cell_new _ _ _ _ _ rfl
  have c3 : (w.alloc (.cells #[I id, I fa, I ge, S ha, I mi, .bool sp, I at9, I ne, S se] 26)).cell? ⟨w.heap.size, 3, none⟩ = some (S ha) := cell_new _ _ _ _ _ rfl
  have c4 : (w.alloc (.cells #[I id, I fa, I ge, S ha, I mi, .bool sp, I at9, I ne, S se] 26)).cell? ⟨w.heap.size, 4, none⟩ = some (I mi) := cell_new _ _ _ _ _ rfl
  have c5 : (w.alloc (.cells #[I id, I fa, I ge, S ha, I mi, .bool sp, I at9, I ne, S se] 26)).cell? ⟨w.heap.size, 5, none⟩ = some (.bool sp) := cell_new _ _ _ _ _ rfl
  have c6 : (w.alloc (.cells #[I id, I fa, I ge, S ha, I mi, .bool sp, I at9, I ne, S se] 26)).cell? ⟨w.heap.size, 6, none⟩ = some (I at9) := cell_new _ _ _ _ _ rfl
  have c7 : (w.alloc (.cells #[I id, I fa, I ge, S ha, I mi, .bool sp, I at9, I ne, S se] 26)).cell? ⟨w.heap.size, 7, none⟩ = some (I ne) := cell_new _ _ _ _ _ rfl
  have c8 : (w.alloc (.cells #[I id, I fa, I ge, S ha, I mi, .bool sp, I at9, I ne, S se] 26)).cell? ⟨w.heap.size, 8, none⟩ = some (S se) := cell_new _ _ _ _ _ rfl
  have HX := hide (Print33 id fa ge ha mi sp at9 ne se (w.alloc (.cells #[I id, I fa, I ge, S ha, I mi, .bool sp, I at9, I ne, S se] 26)) )
  have HP : Hid ((tokP id fa ge ha mi sp at9 ne se).2 = if tokOK id fa ge ha mi sp at9 ne se then 0 else 140) := hide (by unfold tokP; split <;> rfl)
  have HB := hide hb
  generalize hW1 : (w.alloc (.cells #[I id, I fa, I ge, S ha, I mi, .bool sp, I at9, I ne, S se] 26)) = W1 at *
  clear hb
  generalize tokP id fa ge ha mi sp at9 ne se = Q at *
  obtain ⟨⟨q1, q2⟩, q3⟩ := Q
  generalize tokOK id fa ge ha mi sp at9 ne se = R at *
  go_enter Tryz.func33, Tryz.ntmps33
  go_wp2_with fail
  refine (unhide HX).mono ?_
  rintro e w2 ⟨rfl, hb2⟩
  have HB2 := hide (((unhide HB).trans (hb2.mono (unhide HB).size)).alloc ((unhide HB).trans (hb2.mono (unhide HB).size)).size (.cells #[S [], S []] 87))
  have HS2 := hide ((unhide HB).trans (hb2.mono (unhide HB).size)).size
  clear HX HB hb2 hW1 c0 c1 c2 c3 c4 c5 c6 c7 c8
  have hq : q3 = if R then 0 else 140 := unhide HP
  cases R
  · have hz : q3 = 140 := hq
    subst hz
    clear hq HP
    go_wp2_with (refine wp_st30 rfl (.tmp 3) (.tmp 8) rfl w2.heap.size (by rfl) q1 q2 (by rfl) #[S [], S []] rfl (heap_alloc_new _ _) ?_)
    go_ret
    exact ⟨rfl, (setRow_Only _ w2.heap.size #[S q1, S q2]).below (unhide HB2) (unhide HB2).size (fun k e => by have := unhide HS2; omega)⟩
  · have hz : q3 = 0 := hq
    subst hz
    clear hq HP
    go_wp2_with (refine wp_st30 rfl (.tmp 3) (.tmp 8) rfl w2.heap.size (by rfl) q1 q2 (by rfl) #[S [], S []] rfl (heap_alloc_new _ _) ?_)
    go_ret
    exact ⟨rfl, (setRow_Only _ w2.heap.size #[S q1, S q2]).below (unhide HB2) (unhide HB2).size (fun k e => by have := unhide HS2; omega)⟩
theorem cliMay_any (na : Bs) (pu of9 : Bool) (ha ol : Bs) (un : Int) (va : Option Addr) (vc : Nat) (sc : List Bs) (idl ab gr li : Int) (w : World) (h_na : na.length ≤ 9223372036854775807) (hsc : Sts w va sc.length sc) (hsl : sc.length ≤ 140737488355000) (hln : Lns sc) : Calls Tryz.prog 52 #[.agg #[S na, .bool pu, .bool of9, S ha, S ol, I un, .slice va sc.length vc, I idl, I ab, I gr, I li]] w fun e w' => e = .returned (.bool (cliOK na pu ha ol un sc idl ab gr li)) ∧ Below w.heap.size w w' := by
  have hb : Below w.heap.size w (w.alloc (.cells #[S na, .bool pu, .bool of9, S ha, S ol, I un, .slice va sc.length vc, I idl, I ab, I gr, I li] 48)) := (Below.refl _ w).alloc (Nat.le_refl _) _
  have c0 : (w.alloc (.cells #[S na, .bool pu, .bool of9, S ha, S ol, I un, .slice va sc.length vc, I idl, I ab, I gr, I li] 48)).cell? ⟨w.heap.size, 0, none⟩ = some (S na) := cell_new _ _ _ _ _ rfl
  have c1 : (w.alloc (.cells #[S na, .bool pu, .bool of9, S ha, S ol, I un, .slice va sc.length vc, I idl, I ab, I gr, I li] 48)).cell? ⟨w.heap.size, 1, none⟩ = some (.bool pu) := cell_new _ _ _ _ _ rfl
  have c2 : (w.alloc (.cells #[S na, .bool pu, .bool of9, S ha, S ol, I un, .slice va sc.length vc, I idl, I ab, I gr, I li] 48)).cell? ⟨w.heap.size, 2, none⟩ = some (.bool of9) := cell_new _ _ _ _ _ rfl
  have c3 : (w.alloc (.cells #[S na, .bool pu, .bool of9, S ha, S ol, I un, .slice va sc.length vc, I idl, I ab, I gr, I li] 48)).cell? ⟨w.heap.size, 3, none⟩ = some (S ha) := cell_new _ _ _ _ _ rfl
  have c4 : (w.alloc (.cells #[S na, .bool pu, .bool of9, S ha, S ol, I un, .slice va sc.length vc, I idl, I ab, I gr, I li] 48)).cell? ⟨w.heap.size, 4, none⟩ = some (S ol) := cell_new _ _ _ _ _ rfl
  have c5 : (w.alloc (.cells #[S na, .bool pu, .bool of9, S ha, S ol, I un, .slice va sc.length vc, I idl, I ab, I gr, I li] 48)).cell? ⟨w.heap.size, 5, none⟩ = some (I un) := cell_new _ _ _ _ _ rfl
  have c6 : (w.alloc (.cells #[S na, .bool pu, .bool of9, S ha, S ol, I un, .slice va sc.length vc, I idl, I ab, I gr, I li] 48)).cell? ⟨w.heap.size, 6, none⟩ = some (.slice va sc.length vc) := cell_new _ _ _ _ _ rfl
  have c7 : (w.alloc (.cells #[S na, .bool pu, .bool of9, S ha, S ol, I un, .slice va sc.length vc, I idl, I ab, I gr, I li] 48)).cell? ⟨w.heap.size, 7, none⟩ = some (I idl) := cell_new _ _ _ _ _ rfl
  have c8 : (w.alloc (.cells #[S na, .bool pu, .bool of9, S ha, S ol, I un, .slice va sc.length vc, I idl, I ab, I gr, I li] 48)).cell? ⟨w.heap.size, 8, none⟩ = some (I ab) := cell_new _ _ _ _ _ rfl
  have c9 : (w.alloc (.cells #[S na, .bool pu, .bool of9, S ha, S ol, I un, .slice va sc.length vc, I idl, I ab, I gr, I li] 48)).cell? ⟨w.heap.size, 9, none⟩ = some (I gr) := cell_new _ _ _ _ _ rfl
  have c10 : (w.alloc (.cells #[S na, .bool pu, .bool of9, S ha, S ol, I un, .slice va sc.length vc, I idl, I ab, I gr, I li] 48)).cell? ⟨w.heap.size, 10, none⟩ = some (I li) := cell_new _ _ _ _ _ rfl
  have HX := hide (Print12 na pu of9 ha ol un va vc sc idl ab gr li (w.alloc (.cells #[S na, .bool pu, .bool of9, S ha, S ol, I un, .slice va sc.length vc, I idl, I ab, I gr, I li] 48)) h_na (hsc.below hb) hsl hln)
  have HP : Hid ((cliP na pu of9 ha ol un sc idl ab gr li).2 = if cliOK na pu ha ol un sc idl ab gr li then 0 else 140) := hide (by unfold cliP; split <;> rfl)
  have HB := hide hb
  generalize hW1 : (w.alloc (.cells #[S na, .bool pu, .bool of9, S ha, S ol, I un, .slice va sc.length vc, I idl, I ab, I gr, I li] 48)) = W1 at *
  clear hb
  generalize cliP na pu of9 ha ol un sc idl ab gr li = Q at *
  obtain ⟨⟨q1, q2⟩, q3⟩ := Q
  generalize cliOK na pu ha ol un sc idl ab gr li = R at *
  go_enter Tryz.func52, Tryz.ntmps52
  go_wp2_with fail
  refine (unhide HX).mono ?_
  rintro e w2 ⟨rfl, hb2⟩
  have HB2 := hide (((unhide HB).trans (hb2.mono (unhide HB).size)).alloc ((unhide HB).trans (hb2.mono (unhide HB).size)).size (.cells #[S [], S []] 87))
  have HS2 := hide ((unhide HB).trans (hb2.mono (unhide HB).size)).size
  clear HX HB hb2 hW1 c0 c1 c2 c3 c4 c5 c6 c7 c8 c9 c10
  have hq : q3 = if R then 0 else 140 := unhide HP
  cases R
  · have hz : q3 = 140 := hq
    subst hz
    clear hq HP
    go_wp2_with (refine wp_st30 rfl (.tmp 3) (.tmp 8) rfl w2.heap.size (by rfl) q1 q2 (by rfl) #[S [], S []] rfl (heap_alloc_new _ _) ?_)
    go_ret
    exact ⟨rfl, (setRow_Only _ w2.heap.size #[S q1, S q2]).below (unhide HB2) (unhide HB2).size (fun k e => by have := unhide HS2; omega)⟩
  · have hz : q3 = 0 := hq
    subst hz
    clear hq HP
    go_wp2_with (refine wp_st30 rfl (.tmp 3) (.tmp 8) rfl w2.heap.size (by rfl) q1 q2 (by rfl) #[S [], S []] rfl (heap_alloc_new _ _) ?_)
    go_ret
    exact ⟨rfl, (setRow_Only _ w2.heap.size #[S q1, S q2]).below (unhide HB2) (unhide HB2).size (fun k e => by have := unhide HS2; omega)⟩
theorem famMay_any (id : Int) (cl su : Bs) (va : Option Addr) (vc : Nat) (sc : List Bs) (cr us idl ab gr ge tk st en co : Int) (w : World) (h_cl : cl.length ≤ 9223372036854775807) (h_su : su.length ≤ 9223372036854775807) (hsc : Sts w va sc.length sc) (hsl : sc.length ≤ 140737488355000) (hln : Lns sc) : Calls Tryz.prog 32 #[.agg #[I id, S cl, S su, .slice va sc.length vc, I cr, I us, I idl, I ab, I gr, I ge, I tk, I st, I en, I co]] w fun e w' => e = .returned (.bool (famOK id cl su sc cr us idl ab gr ge tk st en co)) ∧ Below w.heap.size w w' := by
  have hb : Below w.heap.size w (w.alloc (.cells #[I id, S cl, S su, .slice va sc.length vc, I cr, I us, I idl, I ab, I gr, I ge, I tk, I st, I en, I co] 24)) := (Below.refl _ w).alloc (Nat.le_refl _) _
  have c0 : (w.alloc (.cells #[I id, S cl, S su, .slice va sc.length vc, I cr, I us, I idl, I ab, I gr, I ge, I tk, I st, I en, I co] 24)).cell? ⟨w.heap.size, 0, none⟩ = some (I id) := cell_new _ _ _ _ _ rfl
  have c1 : (w.alloc (.cells #[I id, S cl, S su, .slice va sc.length vc, I cr, I us, I idl, I ab, I gr, I ge, I tk, I st, I en, I co] 24)).cell? ⟨w.heap.size, 1, none⟩ = some (S cl) := cell_new _ _ _ _ _ rfl
  have c2 : (w.alloc (.cells #[I id, S cl, S su, .slice va sc.length vc, I cr, I us, I idl, I ab, I gr, I ge, I tk, I st, I en, I co] 24)).cell? ⟨w.heap.size, 2, none⟩ = some (S su) := cell_new _ _ _ _ _ rfl
  have c3 : (w.alloc (.cells #[I id, S cl, S su, .slice va sc.length vc, I cr, I us, I idl, I ab, I gr, I ge, I tk, I st, I en, I co] 24)).cell? ⟨w.heap.size, 3, none⟩ = some (.slice va sc.length vc) := cell_new _ _ _ _ _ rfl
  have c4 : (w.alloc (.cells #[I id, S cl, S su, .slice va sc.length vc, I cr, I us, I idl, I ab, I gr, I ge, I tk, I st, I en, I co] 24)).cell? ⟨w.heap.size, 4, none⟩ = some (I cr) := cell_new _ _ _ _ _ rfl
  have c5 : (w.alloc (.cells #[I id, S cl, S su, .slice va sc.length vc, I cr, I us, I idl, I ab, I gr, I ge, I tk, I st, I en, I co] 24)).cell? ⟨w.heap.size, 5, none⟩ = some (I us) := cell_new _ _ _ _ _ rfl
  have c6 : (w.alloc (.cells #[I id, S cl, S su, .slice va sc.length vc, I cr, I us, I idl, I ab, I gr, I ge, I tk, I st, I en, I co] 24)).cell? ⟨w.heap.size, 6, none⟩ = some (I idl) := cell_new _ _ _ _ _ rfl
  have c7 : (w.alloc (.cells #[I id, S cl, S su, .slice va sc.length vc, I cr, I us, I idl, I ab, I gr, I ge, I tk, I st, I en, I co] 24)).cell? ⟨w.heap.size, 7, none⟩ = some (I ab) := cell_new _ _ _ _ _ rfl
  have c8 : (w.alloc (.cells #[I id, S cl, S su, .slice va sc.length vc, I cr, I us, I idl, I ab, I gr, I ge, I tk, I st, I en, I co] 24)).cell? ⟨w.heap.size, 8, none⟩ = some (I gr) := cell_new _ _ _ _ _ rfl
  have c9 : (w.alloc (.cells #[I id, S cl, S su, .slice va sc.length vc, I cr, I us, I idl, I ab, I gr, I ge, I tk, I st, I en, I co] 24)).cell? ⟨w.heap.size, 9, none⟩ = some (I ge) := cell_new _ _ _ _ _ rfl
  have c10 : (w.alloc (.cells #[I id, S cl, S su, .slice va sc.length vc, I cr, I us, I idl, I ab, I gr, I ge, I tk, I st, I en, I co] 24)).cell? ⟨w.heap.size, 10, none⟩ = some (I tk) := cell_new _ _ _ _ _ rfl
  have c11 : (w.alloc (.cells #[I id, S cl, S su, .slice va sc.length vc, I cr, I us, I idl, I ab, I gr, I ge, I tk, I st, I en, I co] 24)).cell? ⟨w.heap.size, 11, none⟩ = some (I st) := cell_new _ _ _ _ _ rfl
  have c12 : (w.alloc (.cells #[I id, S cl, S su, .slice va sc.length vc, I cr, I us, I idl, I ab, I gr, I ge, I tk, I st, I en, I co] 24)).cell? ⟨w.heap.size, 12, none⟩ = some (I en) := cell_new _ _ _ _ _ rfl
  have c13 : (w.alloc (.cells #[I id, S cl, S su, .slice va sc.length vc, I cr, I us, I idl, I ab, I gr, I ge, I tk, I st, I en, I co] 24)).cell? ⟨w.heap.size, 13, none⟩ = some (I co) := cell_new _ _ _ _ _ rfl
  have HX := hide (Print19 id cl su va vc sc cr us idl ab gr ge tk st en co (w.alloc (.cells #[I id, S cl, S su, .slice va sc.length vc, I cr, I us, I idl, I ab, I gr, I ge, I tk, I st, I en, I co] 24)) h_cl h_su (hsc.below hb) hsl hln)
  have HP : Hid ((famP id cl su sc cr us idl ab gr ge tk st en co).2 = if famOK id cl su sc cr us idl ab gr ge tk st en co then 0 else 140) := hide (by unfold famP; split <;> rfl)
  have HB := hide hb
  generalize hW1 : (w.alloc (.cells #[I id, S cl, S su, .slice va sc.length vc, I cr, I us, I idl, I ab, I gr, I ge, I tk, I st, I en, I co] 24)) = W1 at *
  clear hb
  generalize famP id cl su sc cr us idl ab gr ge tk st en co = Q at *
  obtain ⟨⟨q1, q2⟩, q3⟩ := Q
  generalize famOK id cl su sc cr us idl ab gr ge tk st en co = R at *
  go_enter Tryz.func32, Tryz.ntmps32
  go_wp2_with fail
  refine (unhide HX).mono ?_
  rintro e w2 ⟨rfl, hb2⟩
  have HB2 := hide (((unhide HB).trans (hb2.mono (unhide HB).size)).alloc ((unhide HB).trans (hb2.mono (unhide HB).size)).size (.cells #[S [], S []] 87))
  have HS2 := hide ((unhide HB).trans (hb2.mono (unhide HB).size)).size
  clear HX HB hb2 hW1 c0 c1 c2 c3 c4 c5 c6 c7 c8 c9 c10 c11 c12 c13
  have hq : q3 = if R then 0 else 140 := unhide HP
  cases R
  · have hz : q3 = 140 := hq
    subst hz
    clear hq HP
    go_wp2_with (refine wp_st30 rfl (.tmp 3) (.tmp 8) rfl w2.heap.size (by rfl) q1 q2 (by rfl) #[S [], S []] rfl (heap_alloc_new _ _) ?_)
    go_ret
    exact ⟨rfl, (setRow_Only _ w2.heap.size #[S q1, S q2]).below (unhide HB2) (unhide HB2).size (fun k e => by have := unhide HS2; omega)⟩
  · have hz : q3 = 0 := hq
    subst hz
    clear hq HP
    go_wp2_with (refine wp_st30 rfl (.tmp 3) (.tmp 8) rfl w2.heap.size (by rfl) q1 q2 (by rfl) #[S [], S []] rfl (heap_alloc_new _ _) ?_)
    go_ret
    exact ⟨rfl, (setRow_Only _ w2.heap.size #[S q1, S q2]).below (unhide HB2) (unhide HB2).size (fun k e => by have := unhide HS2; omega)⟩
end Go.Proofs.YtmjaobddgaglhaaGreatDoor
