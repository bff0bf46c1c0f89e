import Derived.Test.YtmjaobddgaglhaaGreatDoorZdetl
import Derived.Test.YtmjaobddgaglhaaGreatDoorZfmd
import Derived.Test.YtmjaobddgaglhaaGreatDoorZfmi
/- The document's Alive; Over. -/
namespace Go.Proofs.YtmjaobddgaglhaaGreatDoor
open Go.RowKit
set_option maxHeartbeats 4000000
set_option maxRecDepth 8000
theorem firstv_b (a b : Int) : 0 ≤ firstv [a, b] ∧ firstv [a, b] ≤ 1099511627776 := by
  have h1 := nr_b a
  have h2 := nr_b b
  simp only [firstv, List.foldl, mn]
  split <;> split <;> omega
theorem endV_b (cr us idl ab st en : Int) : 0 ≤ endV cr us idl ab st en ∧ endV cr us idl ab st en ≤ 1099511627776 := by
  unfold endV
  split
  · exact firstv_b _ _
  · exact nr_b _
/-- Did a family end so long ago? -/
def ovF (cr us idl ab st en re now : Int) : Bool := !(alv cr us idl ab st en now) && decide (nr re ≤ nr now - endV cr us idl ab st en)
def ov12T : List (Op × Option Tmp × Option (Nat × Bool)) := [
  (.load 24 (.tmp 3), some 7, none),
  (.move (.tmp 2), some 8, none),
  (.call { callee := .value (.func 10), args := #[(.tmp 7), (.tmp 8)], argTypes := #[24, 3] }, some 9, none),
  (.unOp .not 4 (.tmp 9), some 10, none),
  (.move (.tmp 10), some 11, none),
  (.move (.tmp 2), some 12, some (4, true)),
  (.call { callee := .value (.func 39), args := #[(.tmp 12)], argTypes := #[3] }, some 13, some (4, true)),
  (.load 24 (.tmp 3), some 14, some (4, true)),
  (.call { callee := .value (.func 38), args := #[(.tmp 14)], argTypes := #[24] }, some 15, some (4, true)),
  (.binOp .sub 3 (.tmp 13) (.tmp 15) 3, some 16, some (4, true)),
  (.move (.tmp 1), some 17, some (4, true)),
  (.call { callee := .value (.func 39), args := #[(.tmp 17)], argTypes := #[3] }, some 18, some (4, true)),
  (.binOp .geq 3 (.tmp 16) (.tmp 18) 3, some 19, some (4, true)),
  (.pick (.tmp 11) (.tmp 19) (.const (.bool false)), some 20, none),
  (.assign (.tmp 20), some 6, none)]
def ov12V (F : Array Value) (now re T E R : Int) (_ : Unit) : Nat → Value
  | 0 => .agg F
  | 1 => I now
  | 2 => .bool false
  | 3 => .bool true
  | 4 => .bool true
  | 5 => I now
  | 6 => I T
  | 7 => .agg F
  | 8 => I E
  | 9 => I (T - E)
  | 10 => I re
  | 11 => I R
  | 12 => .bool (decide (R ≤ T - E))
  | 13 => .bool (decide (R ≤ T - E))
  | 14 => .bool (decide (R ≤ T - E))
  | _ => undef
def ov12U (F : Array Value) (now : Int) (_ : Unit) : Nat → Value
  | 0 => .agg F
  | 1 => I now
  | 2 => .bool true
  | 3 => .bool false
  | 4 => .bool false
  | 5 => undef
  | 6 => undef
  | 7 => undef
  | 8 => undef
  | 9 => undef
  | 10 => undef
  | 11 => undef
  | 12 => undef
  | 13 => .bool false
  | 14 => .bool false
  | _ => undef
theorem fover_any (id : Int) (cl su : Bs) (va : Option Addr) (vc : Nat) (sc : List Bs) (cr us idl ab gr ge tk st en co : Int) (re now : Int) (w : World) : Calls Tryz.prog 12 #[.agg #[I id, S cl, S su, .slice va sc.length vc, I cr, I us, I idl, I ab, I gr, I ge, I tk, I st, I en, I co], I re, I now] w fun e w' => e = .returned (.bool (ovF cr us idl ab st en re now)) ∧ Below w.heap.size w w' := by
  have hb : Below w.heap.size w (w.alloc (.cells #[I id, S cl, S su, .slice va sc.length vc, I cr, I us, I idl, I ab, I gr, I ge, I tk, I st, I en, I co] 24)) := ((Below.refl _ w).alloc (by simp <;> omega) _)
  have rf : (w.alloc (.cells #[I id, S cl, S su, .slice va sc.length vc, I cr, I us, I idl, I ab, I gr, I ge, I tk, I st, I en, I co] 24)).heap[w.heap.size]? = some (.cells #[I id, S cl, S su, .slice va sc.length vc, I cr, I us, I idl, I ab, I gr, I ge, I tk, I st, I en, I co] 24 (0, 0)) := al_new w (.cells #[I id, S cl, S su, .slice va sc.length vc, I cr, I us, I idl, I ab, I gr, I ge, I tk, I st, I en, I co] 24) (w.heap.size) (by simp)
  generalize hW1 : (w.alloc (.cells #[I id, S cl, S su, .slice va sc.length vc, I cr, I us, I idl, I ab, I gr, I ge, I tk, I st, I en, I co] 24)) = W1 at *
  have HB := hide hb
  have HRf := hide rf
  clear hb rf
  have HA : Hid (ovF cr us idl ab st en re now = (!(alv cr us idl ab st en now) && decide (nr re ≤ nr now - endV cr us idl ab st en))) := hide rfl
  have XA := hide (fun W => alive_any id cl su va vc sc cr us idl ab gr ge tk st en co now W)
  have XE := hide (fun W => End_any id cl su va vc sc cr us idl ab gr ge tk st en co W)
  have XN := hide (fun W => fnear_any now W)
  have XR := hide (fun W => fnear_any re W)
  obtain ⟨e1, e2⟩ := endV_b cr us idl ab st en
  obtain ⟨t1, t2⟩ := nr_b now
  obtain ⟨r1, r2⟩ := nr_b re
  generalize ovF cr us idl ab st en re now = O at *
  generalize alv cr us idl ab st en now = A at *
  generalize endV cr us idl ab st en = E at *
  generalize nr now = T at *
  generalize nr re = R at *
  generalize hv0 : (Value.slice va sc.length vc) = v0 at *
  cases A
  · have HA2 := hide (show O = decide (R ≤ T - E) by rw [unhide HA]; rfl)
    clear HA
    go_enter Tryz.func12, Tryz.ntmps12
    go_upto_region 1 with fail
    refine region_tabG ov12T [(3, ptr w.heap.size), (1, I re), (2, I now)] 21 [1, 3, 4, 5, 10, 12, 13, 14] [] (ov12V #[I id, S cl, S su, v0, I cr, I us, I idl, I ab, I gr, I ge, I tk, I st, I en, I co] now re T E R) rfl (by rfl) (by rfl) rfl (fun c => by kernel_rfl) (fun c => by kernel_rfl) (fun c w => by kernel_rfl) _ W1 (Nat.le_of_ble_eq_true rfl) rfl (fun _ _ W => Below w.heap.size w W ∧ W.heap[w.heap.size]? = some (.cells #[I id, S cl, S su, v0, I cr, I us, I idl, I ab, I gr, I ge, I tk, I st, I en, I co] 24 (0, 0))) ⟨(), (unhide HB).drew, unhide HRf⟩ (fun i hi c L W hW => hW) ?spc ?_
    case spc =>
      intro i hi hp hs c L W hW hL hd
      rcases (by simp [ov12T] at hi hp hs; omega : i = 0 ∨ i = 2 ∨ i = 6 ∨ i = 7 ∨ i = 8 ∨ i = 9 ∨ i = 11) with rfl | rfl | rfl | rfl | rfl | rfl | rfl
      · skip
        have f1 : (Instr.loadAt 24 (ptr (w.heap.size))).run Tryz.prog W = .ok (.agg #[I id, S cl, S su, v0, I cr, I us, I idl, I ab, I gr, I ge, I tk, I st, I en, I co]) W := s_ldr (T := 24) (n := 14) (fun _ => by kernel_rfl) (fun _ => by kernel_rfl) hW.2 (#[I id, S cl, S su, v0, I cr, I us, I idl, I ab, I gr, I ge, I tk, I st, I en, I co]).toList rfl rfl
        exact ⟨f1, hW⟩
      · skip
        exact ⟨⟨_, _, Tryz.func10, by kernel_rfl, rfl⟩, (unhide XA W).mono fun e w' q => ⟨c, fun _ _ => rfl, q.1, hW.1.trans (q.2.mono hW.1.size), (q.2.block _ (lt_of_row hW.2)).trans hW.2⟩⟩
      · skip
        exact ⟨⟨_, _, Tryz.func39, by kernel_rfl, rfl⟩, (unhide XN W).mono fun e w' q => ⟨c, fun _ _ => rfl, q.1, hW.1.trans (q.2.mono hW.1.size), (q.2.block _ (lt_of_row hW.2)).trans hW.2⟩⟩
      · skip
        have f1 : (Instr.loadAt 24 (ptr (w.heap.size))).run Tryz.prog W = .ok (.agg #[I id, S cl, S su, v0, I cr, I us, I idl, I ab, I gr, I ge, I tk, I st, I en, I co]) W := s_ldr (T := 24) (n := 14) (fun _ => by kernel_rfl) (fun _ => by kernel_rfl) hW.2 (#[I id, S cl, S su, v0, I cr, I us, I idl, I ab, I gr, I ge, I tk, I st, I en, I co]).toList rfl rfl
        exact ⟨f1, hW⟩
      · skip
        exact ⟨⟨_, _, Tryz.func38, by kernel_rfl, rfl⟩, (unhide XE W).mono fun e w' q => ⟨c, fun _ _ => rfl, q.1, hW.1.trans (q.2.mono hW.1.size), (q.2.block _ (lt_of_row hW.2)).trans hW.2⟩⟩
      · skip
        have f0 : (do eqGuard .sub 3 (.tmp 13) (.tmp 15) (I T) (I E); binOp .sub 3 (I T) (I E) : Sem Value).run Tryz.prog W = .ok (I (T - E)) W := by
          have q : (do eqGuard .sub 3 (.tmp 13) (.tmp 15) (I T) (I E); binOp .sub 3 (I T) (I E) : Sem Value).run Tryz.prog W = .ok (I (IntKind.i64.wrap (T - E))) W := by kernel_rfl
          rw [q, show IntKind.i64.wrap (T - E) = T - E by rw [IntKind.wrap_i64]; omega]
        exact ⟨⟨_, rfl, f0⟩, hW⟩
      · skip
        exact ⟨⟨_, _, Tryz.func39, by kernel_rfl, rfl⟩, (unhide XR W).mono fun e w' q => ⟨c, fun _ _ => rfl, q.1, hW.1.trans (q.2.mono hW.1.size), (q.2.block _ (lt_of_row hW.2)).trans hW.2⟩⟩
    intro c L W2 hall hW
    simp only [frmL, ov12T, ov12V, Act.put, List.setIfInBounds_toArray, List.set_cons_succ, List.set_cons_zero]
    have HB2 := hide hW.1
    clear hW hall HB HRf hW1 XA XE XN XR
    go_wp2
    go_ret
    rw [unhide HA2]
    exact ⟨rfl, unhide HB2⟩
  · have HA2 := hide (show O = false by rw [unhide HA]; rfl)
    clear HA XE XN XR
    go_enter Tryz.func12, Tryz.ntmps12
    go_upto_region 1 with fail
    refine region_tabG ov12T [(3, ptr w.heap.size), (1, I re), (2, I now)] 21 [1, 3, 4, 13, 14] [5, 6, 7, 8, 9, 10, 11, 12] (ov12U #[I id, S cl, S su, v0, I cr, I us, I idl, I ab, I gr, I ge, I tk, I st, I en, I co] now) rfl (by rfl) (by rfl) rfl (fun c => by kernel_rfl) (fun c => by kernel_rfl) (fun c w => by kernel_rfl) _ W1 (Nat.le_of_ble_eq_true rfl) rfl (fun _ _ W => Below w.heap.size w W ∧ W.heap[w.heap.size]? = some (.cells #[I id, S cl, S su, v0, I cr, I us, I idl, I ab, I gr, I ge, I tk, I st, I en, I co] 24 (0, 0))) ⟨(), (unhide HB).drew, unhide HRf⟩ (fun i hi c L W hW => hW) ?spc ?_
    case spc =>
      intro i hi hp hs c L W hW hL hd
      rcases (by simp [ov12T] at hi hp hs; omega : i = 0 ∨ i = 2) with rfl | rfl
      · skip
        have f1 : (Instr.loadAt 24 (ptr (w.heap.size))).run Tryz.prog W = .ok (.agg #[I id, S cl, S su, v0, I cr, I us, I idl, I ab, I gr, I ge, I tk, I st, I en, I co]) W := s_ldr (T := 24) (n := 14) (fun _ => by kernel_rfl) (fun _ => by kernel_rfl) hW.2 (#[I id, S cl, S su, v0, I cr, I us, I idl, I ab, I gr, I ge, I tk, I st, I en, I co]).toList rfl rfl
        exact ⟨f1, hW⟩
      · skip
        exact ⟨⟨_, _, Tryz.func10, by kernel_rfl, rfl⟩, (unhide XA W).mono fun e w' q => ⟨c, fun _ _ => rfl, q.1, hW.1.trans (q.2.mono hW.1.size), (q.2.block _ (lt_of_row hW.2)).trans hW.2⟩⟩
    intro c L W2 hall hW
    simp only [frmL, ov12T, ov12U, Act.put, List.setIfInBounds_toArray, List.set_cons_succ, List.set_cons_zero]
    have HB2 := hide hW.1
    clear hW hall HB HRf hW1 XA
    go_wp2
    go_ret
    rw [unhide HA2]
    exact ⟨rfl, unhide HB2⟩
end Go.Proofs.YtmjaobddgaglhaaGreatDoor
/- Finish, Tell. -/
namespace Go.Proofs.YtmjaobddgaglhaaGreatDoor
open Go.RowKit
set_option maxHeartbeats 4000000
set_option maxRecDepth 8000
/-- What Finish answers. -/
def finE (ok : Bool) (st stt us tm : Int) : Int := if ok = true ∧ st = 1 ∧ isE stt = true ∧ us ≤ tm then 0 else 1
def OutN (w : World) (E : Int) (sc : List Bs) (F : Value → Array Value) (e : Ending) (w' : World) : Prop :=
  if E = 0 then ∃ a cap, e = .returned (.tuple #[.agg (F (.slice a sc.length cap)), I 0]) ∧ OwnS w.heap.size w' (.slice a sc.length cap) sc ∧ Below w.heap.size w w' else e = .returned (.tuple #[.agg #[I 0, S [], S [], .slice none 0 0, I 0, I 0, I 0, I 0, I 0, I 0, I 0, I 0, I 0, I 0], I E]) ∧ Below w.heap.size w w'
theorem fam_lens (id : Int) (cl su : Bs) (sc : List Bs) (cr us idl ab gr ge tk st en co : Int) (h0 : famOK id cl su sc cr us idl ab gr ge tk st en co = true) : cl.length ≤ 1000 ∧ su.length ≤ 1000 ∧ Shn sc := by
  simp only [famOK, Bool.and_eq_true] at h0
  exact ⟨by have := right_one h0.2.2.2.1; omega, by have := right_one h0.2.2.2.2.1; omega, shn_right h0.2.2.2.2.2.1⟩
theorem finish_any (id : Int) (cl su : Bs) (va : Option Addr) (vc : Nat) (sc : List Bs) (cr us idl ab gr ge tk st en co : Int) (stt now : Int) (w : World) (h_cl : cl.length ≤ 9223372036854775807) (h_su : su.length ≤ 9223372036854775807) (hsc : Sts w va sc.length sc) (hsl : sc.length ≤ 140737488355000) (hln : Lns sc) : Calls Tryz.prog 16 #[.agg #[I id, S cl, S su, .slice va sc.length vc, I cr, I us, I idl, I ab, I gr, I ge, I tk, I st, I en, I co], I stt, I now] w (OutN w (finE (famOK id cl su sc cr us idl ab gr ge tk st en co) st stt us (nr now)) sc (fun v => #[I id, S cl, S su, v, I cr, I us, I idl, I ab, I gr, I ge, I tk, I stt, I (nr now), I co])) := by
  have hb : Below w.heap.size w ((w.alloc (.cells #[I id, S cl, S su, .slice va sc.length vc, I cr, I us, I idl, I ab, I gr, I ge, I tk, I st, I en, I co] 24)).alloc (.cells #[I 0, S [], S [], .slice none 0 0, I 0, I 0, I 0, I 0, I 0, I 0, I 0, I 0, I 0, I 0] 24)) := (((Below.refl _ w).alloc (by simp <;> omega) _).alloc (by simp <;> omega) _)
  have rf : ((w.alloc (.cells #[I id, S cl, S su, .slice va sc.length vc, I cr, I us, I idl, I ab, I gr, I ge, I tk, I st, I en, I co] 24)).alloc (.cells #[I 0, S [], S [], .slice none 0 0, I 0, I 0, I 0, I 0, I 0, I 0, I 0, I 0, I 0, I 0] 24)).heap[w.heap.size]? = some (.cells #[I id, S cl, S su, .slice va sc.length vc, I cr, I us, I idl, I ab, I gr, I ge, I tk, I st, I en, I co] 24 (0, 0)) := al_old _ _ _ (by simp <;> omega) (al_new w (.cells #[I id, S cl, S su, .slice va sc.length vc, I cr, I us, I idl, I ab, I gr, I ge, I tk, I st, I en, I co] 24) (w.heap.size) (by simp))
  have rr : ((w.alloc (.cells #[I id, S cl, S su, .slice va sc.length vc, I cr, I us, I idl, I ab, I gr, I ge, I tk, I st, I en, I co] 24)).alloc (.cells #[I 0, S [], S [], .slice none 0 0, I 0, I 0, I 0, I 0, I 0, I 0, I 0, I 0, I 0, I 0] 24)).heap[w.heap.size + 1]? = some (.cells #[I 0, S [], S [], .slice none 0 0, I 0, I 0, I 0, I 0, I 0, I 0, I 0, I 0, I 0, I 0] 24 (0, 0)) := al_new (w.alloc (.cells #[I id, S cl, S su, .slice va sc.length vc, I cr, I us, I idl, I ab, I gr, I ge, I tk, I st, I en, I co] 24)) (.cells #[I 0, S [], S [], .slice none 0 0, I 0, I 0, I 0, I 0, I 0, I 0, I 0, I 0, I 0, I 0] 24) (w.heap.size + 1) (by simp)
  generalize hW1 : ((w.alloc (.cells #[I id, S cl, S su, .slice va sc.length vc, I cr, I us, I idl, I ab, I gr, I ge, I tk, I st, I en, I co] 24)).alloc (.cells #[I 0, S [], S [], .slice none 0 0, I 0, I 0, I 0, I 0, I 0, I 0, I 0, I 0, I 0, I 0] 24)) = W1 at *
  have HB := hide hb
  have HRf := hide rf
  have HRr := hide rr
  clear hb rf rr
  have XN := hide (fun W => fnear_any now W)
  have XM := hide (fun W (h : Below w.heap.size w W) => famMay_any id cl su va vc sc cr us idl ab gr ge tk st en co W h_cl h_su (hsc.below h) hsl hln)
  have HJ1 : Hid (famOK id cl su sc cr us idl ab gr ge tk st en co = true → cl.length ≤ 1000 ∧ su.length ≤ 1000 ∧ Shn sc) := hide (fam_lens id cl su sc cr us idl ab gr ge tk st en co)
  have HE : Hid (finE (famOK id cl su sc cr us idl ab gr ge tk st en co) st stt us (nr now) = if famOK id cl su sc cr us idl ab gr ge tk st en co = true ∧ st = 1 ∧ isE stt = true ∧ us ≤ nr now then 0 else 1) := hide rfl
  obtain ⟨ht0, ht1⟩ := nr_b now
  have XI := hide (fun W => isEnd_any stt W)
  have XO := hide (fun W (h : Below w.heap.size w W) (h1 : cl.length ≤ 1000) (h2 : su.length ≤ 1000) (h3 : Shn sc) => ownFamily_any id cl su va vc sc cr us idl ab gr ge tk stt (nr now) co W h1 h2 (hsc.below h) h3)
  generalize finE (famOK id cl su sc cr us idl ab gr ge tk st en co) st stt us (nr now) = E at *
  generalize famOK id cl su sc cr us idl ab gr ge tk st en co = b0 at *
  generalize nr now = tm at *
  generalize isE stt = b2 at *
  clear hsc hln h_cl h_su hsl
  generalize hv0 : (Value.slice va sc.length vc) = v0 at *
  go_enter Tryz.func16, Tryz.ntmps16
  go_wp2_with fail
  refine (unhide XN W1).mono ?_
  rintro e w2 ⟨rfl, h2⟩
  have hbB := (unhide HB).trans (h2.mono (unhide HB).size)
  have rf := (h2.block _ (lt_of_row (unhide HRf))).trans (unhide HRf)
  have rr := (h2.block _ (lt_of_row (unhide HRr))).trans (unhide HRr)
  clear h2 HB HRf HRr  hW1
  have cf_0 : w2.cell? ⟨w.heap.size, 0, none⟩ = some (I id) := cellr rf rfl
  have cf_1 : w2.cell? ⟨w.heap.size, 1, none⟩ = some (S cl) := cellr rf rfl
  have cf_2 : w2.cell? ⟨w.heap.size, 2, none⟩ = some (S su) := cellr rf rfl
  have cf_3 : w2.cell? ⟨w.heap.size, 3, none⟩ = some (v0) := cellr rf rfl
  have cf_4 : w2.cell? ⟨w.heap.size, 4, none⟩ = some (I cr) := cellr rf rfl
  have cf_5 : w2.cell? ⟨w.heap.size, 5, none⟩ = some (I us) := cellr rf rfl
  have cf_6 : w2.cell? ⟨w.heap.size, 6, none⟩ = some (I idl) := cellr rf rfl
  have cf_7 : w2.cell? ⟨w.heap.size, 7, none⟩ = some (I ab) := cellr rf rfl
  have cf_8 : w2.cell? ⟨w.heap.size, 8, none⟩ = some (I gr) := cellr rf rfl
  have cf_9 : w2.cell? ⟨w.heap.size, 9, none⟩ = some (I ge) := cellr rf rfl
  have cf_10 : w2.cell? ⟨w.heap.size, 10, none⟩ = some (I tk) := cellr rf rfl
  have cf_11 : w2.cell? ⟨w.heap.size, 11, none⟩ = some (I st) := cellr rf rfl
  have cf_12 : w2.cell? ⟨w.heap.size, 12, none⟩ = some (I en) := cellr rf rfl
  have cf_13 : w2.cell? ⟨w.heap.size, 13, none⟩ = some (I co) := cellr rf rfl
  have HB := hide hbB
  have HRf := hide rf
  have HRr := hide rr
  clear hbB rf rr
  clear XN
  go_wp2_with fail
  refine (unhide XM w2 (unhide HB)).mono ?_
  rintro e w3 ⟨rfl, h3⟩
  have hbB := (unhide HB).trans (h3.mono (unhide HB).size)
  have rf := (h3.block _ (lt_of_row (unhide HRf))).trans (unhide HRf)
  have rr := (h3.block _ (lt_of_row (unhide HRr))).trans (unhide HRr)
  clear h3 HB HRf HRr cf_0 cf_1 cf_2 cf_3 cf_4 cf_5 cf_6 cf_7 cf_8 cf_9 cf_10 cf_11 cf_12 cf_13 
  have cf_5 : w3.cell? ⟨w.heap.size, 5, none⟩ = some (I us) := cellr rf rfl
  have cf_11 : w3.cell? ⟨w.heap.size, 11, none⟩ = some (I st) := cellr rf rfl
  have HB := hide hbB
  have HRf := hide rf
  have HRr := hide rr
  clear hbB rf rr
  clear XM
  cases b0
  · have hE : Hid (E = 1) := hide (by rw [unhide HE]; simp)
    clear HE
    go_wp2_with (refine wp_stA inf24 rfl (.tmp 6) (.tmp 29) rfl (w.heap.size + 1) (by rfl) #[I 0, S [], S [], .slice none 0 0, I 0, I 0, I 0, I 0, I 0, I 0, I 0, I 0, I 0, I 0] (by rfl) #[I 0, S [], S [], .slice none 0 0, I 0, I 0, I 0, I 0, I 0, I 0, I 0, I 0, I 0, I 0] rfl rfl (unhide HRr) (by simp [Value.oneCell']) ?_)
    refine out2c (T := 24) (n := 14) (p := 6) (q := 7) (cs := #[I 0, S [], S [], .slice none 0 0, I 0, I 0, I 0, I 0, I 0, I 0, I 0, I 0, I 0, I 0]) (fun _ => by kernel_rfl) (fun _ => by kernel_rfl) (Z := w.heap.size + 1) (by rfl) (by rfl) (by rfl) (by rfl) (setRow_row (unhide HRr)) (by rfl) ?_
    rw [unhide hE]
    exact ⟨rfl, bel_set (unhide HB) _ _ (by omega) (unhide HB).size⟩
  · skip
    obtain ⟨hs1, hs2, hs3⟩ := unhide HJ1 rfl
    clear HJ1
    have HS1 := hide hs1
    have HS2 := hide hs2
    have HS3 := hide hs3
    clear hs1 hs2 hs3
    cases h1 : (st == 1)
    · have hE : Hid (E = 1) := hide (by rw [unhide HE, if_neg (by rintro ⟨_, h, _⟩; rw [h] at h1; cases h1)])
      have d1 : (st != 1) = true := by simp [bne, h1]
      clear h1
      clear HE
      go_wp2_with (refine wp_stA inf24 rfl (.tmp 6) (.tmp 29) rfl (w.heap.size + 1) (by rfl) #[I 0, S [], S [], .slice none 0 0, I 0, I 0, I 0, I 0, I 0, I 0, I 0, I 0, I 0, I 0] (by rfl) #[I 0, S [], S [], .slice none 0 0, I 0, I 0, I 0, I 0, I 0, I 0, I 0, I 0, I 0, I 0] rfl rfl (unhide HRr) (by simp [Value.oneCell']) ?_)
      refine out2c (T := 24) (n := 14) (p := 6) (q := 7) (cs := #[I 0, S [], S [], .slice none 0 0, I 0, I 0, I 0, I 0, I 0, I 0, I 0, I 0, I 0, I 0]) (fun _ => by kernel_rfl) (fun _ => by kernel_rfl) (Z := w.heap.size + 1) (by rfl) (by rfl) (by rfl) (by rfl) (setRow_row (unhide HRr)) (by rfl) ?_
      rw [unhide hE]
      exact ⟨rfl, bel_set (unhide HB) _ _ (by omega) (unhide HB).size⟩
    · skip
      have d1 : (st != 1) = false := by simp [bne, h1]
      have HST : Hid (st = 1) := hide (by simpa using h1)
      clear h1
      go_wp2_with fail
      refine (unhide XI w3).mono ?_
      rintro e w9 ⟨rfl, hw9⟩
      rw [hw9]
      clear hw9 w9
      cases b2
      · have hE : Hid (E = 1) := hide (by rw [unhide HE]; simp)
        clear HE
        go_wp2_with (refine wp_stA inf24 rfl (.tmp 6) (.tmp 29) rfl (w.heap.size + 1) (by rfl) #[I 0, S [], S [], .slice none 0 0, I 0, I 0, I 0, I 0, I 0, I 0, I 0, I 0, I 0, I 0] (by rfl) #[I 0, S [], S [], .slice none 0 0, I 0, I 0, I 0, I 0, I 0, I 0, I 0, I 0, I 0, I 0] rfl rfl (unhide HRr) (by simp [Value.oneCell']) ?_)
        refine out2c (T := 24) (n := 14) (p := 6) (q := 7) (cs := #[I 0, S [], S [], .slice none 0 0, I 0, I 0, I 0, I 0, I 0, I 0, I 0, I 0, I 0, I 0]) (fun _ => by kernel_rfl) (fun _ => by kernel_rfl) (Z := w.heap.size + 1) (by rfl) (by rfl) (by rfl) (by rfl) (setRow_row (unhide HRr)) (by rfl) ?_
        rw [unhide hE]
        exact ⟨rfl, bel_set (unhide HB) _ _ (by omega) (unhide HB).size⟩
      · skip
        by_cases hu : tm < us
        · have hE : Hid (E = 1) := hide (by rw [unhide HE, if_neg (by omega)])
          have du : decide (tm < us) = true := by simpa using hu
          clear HE
          go_wp2_with (refine wp_stA inf24 rfl (.tmp 6) (.tmp 29) rfl (w.heap.size + 1) (by rfl) #[I 0, S [], S [], .slice none 0 0, I 0, I 0, I 0, I 0, I 0, I 0, I 0, I 0, I 0, I 0] (by rfl) #[I 0, S [], S [], .slice none 0 0, I 0, I 0, I 0, I 0, I 0, I 0, I 0, I 0, I 0, I 0] rfl rfl (unhide HRr) (by simp [Value.oneCell']) ?_)
          refine out2c (T := 24) (n := 14) (p := 6) (q := 7) (cs := #[I 0, S [], S [], .slice none 0 0, I 0, I 0, I 0, I 0, I 0, I 0, I 0, I 0, I 0, I 0]) (fun _ => by kernel_rfl) (fun _ => by kernel_rfl) (Z := w.heap.size + 1) (by rfl) (by rfl) (by rfl) (by rfl) (setRow_row (unhide HRr)) (by rfl) ?_
          rw [unhide hE]
          exact ⟨rfl, bel_set (unhide HB) _ _ (by omega) (unhide HB).size⟩
        · have du : decide (tm < us) = false := by simpa using hu
          have hE : Hid (E = 0) := hide (by rw [unhide HE, if_pos ⟨by simp, unhide HST, by simp, by omega⟩])
          clear HE hu HST
          go_upto_region 5 with (first | (refine wp_stC (T := 3) (fun _ => by kernel_rfl) rfl (.tmp 32) (.tmp 30) rfl (w.heap.size) 11 (by rfl) (I stt) (by rfl) rfl rfl #[I id, S cl, S su, v0, I cr, I us, I idl, I ab, I gr, I ge, I tk, I st, I en, I co] 24 (unhide HRf) (by simp) #[I id, S cl, S su, v0, I cr, I us, I idl, I ab, I gr, I ge, I tk, I stt, I en, I co] rfl ?_; generalize hY : w3.setRow (w.heap.size) #[I id, S cl, S su, v0, I cr, I us, I idl, I ab, I gr, I ge, I tk, I stt, I en, I co] = Y1; have HY1 := hide hY; clear hY) | (refine wp_stC (T := 3) (fun _ => by kernel_rfl) rfl (.tmp 33) (.tmp 31) rfl (w.heap.size) 12 (by rfl) (I tm) (by rfl) rfl rfl #[I id, S cl, S su, v0, I cr, I us, I idl, I ab, I gr, I ge, I tk, I stt, I en, I co] 24 (by rw [← unhide HY1]; exact setRow_row (unhide HRf)) (by simp) #[I id, S cl, S su, v0, I cr, I us, I idl, I ab, I gr, I ge, I tk, I stt, I tm, I co] rfl ?_; generalize hY : Y1.setRow (w.heap.size) #[I id, S cl, S su, v0, I cr, I us, I idl, I ab, I gr, I ge, I tk, I stt, I tm, I co] = Y2; have HY2 := hide hY; clear hY))
          have rf : Y2.heap[w.heap.size]? = some (.cells #[I id, S cl, S su, v0, I cr, I us, I idl, I ab, I gr, I ge, I tk, I stt, I tm, I co] 24 (0, 0)) := by rw [← unhide HY2, ← unhide HY1]; exact setRow_row (setRow_row (unhide HRf))
          have rr : Y2.heap[w.heap.size + 1]? = some (.cells #[I 0, S [], S [], .slice none 0 0, I 0, I 0, I 0, I 0, I 0, I 0, I 0, I 0, I 0, I 0] 24 (0, 0)) := by rw [← unhide HY2, ← unhide HY1]; exact row_set (row_set (unhide HRr) (by omega)) (by omega)
          have hb : Below w.heap.size w Y2 := by rw [← unhide HY2, ← unhide HY1]; exact bel_set (bel_set (unhide HB) _ _ (by omega) (by simpa using (unhide HB).size)) _ _ (by omega) (by simpa using (unhide HB).size)
          clear HB HRf HRr HY1 HY2 cf_5 cf_11
          clear Y1
          generalize Y2 = W4 at *
          have cf_0 : W4.cell? ⟨w.heap.size, 0, none⟩ = some (I id) := cellr rf rfl
          have cf_1 : W4.cell? ⟨w.heap.size, 1, none⟩ = some (S cl) := cellr rf rfl
          have cf_2 : W4.cell? ⟨w.heap.size, 2, none⟩ = some (S su) := cellr rf rfl
          have cf_3 : W4.cell? ⟨w.heap.size, 3, none⟩ = some (v0) := cellr rf rfl
          have cf_4 : W4.cell? ⟨w.heap.size, 4, none⟩ = some (I cr) := cellr rf rfl
          have cf_5 : W4.cell? ⟨w.heap.size, 5, none⟩ = some (I us) := cellr rf rfl
          have cf_6 : W4.cell? ⟨w.heap.size, 6, none⟩ = some (I idl) := cellr rf rfl
          have cf_7 : W4.cell? ⟨w.heap.size, 7, none⟩ = some (I ab) := cellr rf rfl
          have cf_8 : W4.cell? ⟨w.heap.size, 8, none⟩ = some (I gr) := cellr rf rfl
          have cf_9 : W4.cell? ⟨w.heap.size, 9, none⟩ = some (I ge) := cellr rf rfl
          have cf_10 : W4.cell? ⟨w.heap.size, 10, none⟩ = some (I tk) := cellr rf rfl
          have cf_11 : W4.cell? ⟨w.heap.size, 11, none⟩ = some (I stt) := cellr rf rfl
          have cf_12 : W4.cell? ⟨w.heap.size, 12, none⟩ = some (I tm) := cellr rf rfl
          have cf_13 : W4.cell? ⟨w.heap.size, 13, none⟩ = some (I co) := cellr rf rfl
          have HB := hide hb
          have HRf := hide rf
          have HRr := hide rr
          clear hb rf rr
          have HX := hide (unhide XO W4 (unhide HB) (unhide HS1) (unhide HS2) (unhide HS3))
          clear XO HS1 HS2 HS3
          have hl2 := lt_of_row (unhide HRr)
          go_wp2_with fail
          refine (unhide HX).mono ?_
          rintro e w5 ⟨a, cap, rfl, ho, h5⟩
          have HO := hide ho
          clear HX ho
          have hbB := (unhide HB).trans (h5.mono (unhide HB).size)
          have rf := (h5.block _ (lt_of_row (unhide HRf))).trans (unhide HRf)
          have rr := (h5.block _ (lt_of_row (unhide HRr))).trans (unhide HRr)
          clear h5 HB HRf HRr cf_0 cf_1 cf_2 cf_3 cf_4 cf_5 cf_6 cf_7 cf_8 cf_9 cf_10 cf_11 cf_12 cf_13 
          have HB := hide hbB
          have HRf := hide rf
          have HRr := hide rr
          clear hbB rf rr
          go_wp2_with (refine wp_stA inf24 rfl (.tmp 6) (.tmp 35) rfl (w.heap.size + 1) (by rfl) #[I id, S cl, S su, .slice a sc.length cap, I cr, I us, I idl, I ab, I gr, I ge, I tk, I stt, I tm, I co] (by rfl) #[I 0, S [], S [], .slice none 0 0, I 0, I 0, I 0, I 0, I 0, I 0, I 0, I 0, I 0, I 0] rfl rfl (unhide HRr) (by simp [Value.oneCell']) ?_)
          refine out2c (T := 24) (n := 14) (p := 6) (q := 7) (cs := #[I id, S cl, S su, .slice a sc.length cap, I cr, I us, I idl, I ab, I gr, I ge, I tk, I stt, I tm, I co]) (fun _ => by kernel_rfl) (fun _ => by kernel_rfl) (Z := w.heap.size + 1) (by rfl) (by rfl) (by rfl) (by rfl) (setRow_row (unhide HRr)) (by rfl) ?_
          rw [unhide hE, OutN, if_pos rfl]
          exact ⟨a, cap, rfl, (own_set (unhide HO) _ _ hl2).below (Below.refl _ _) (by omega), bel_set (unhide HB) _ _ (by omega) (unhide HB).size⟩
def OutT (w : World) (J : Int) (sc : List Bs) (F : Value → Array Value) (e : Ending) (w' : World) : Prop :=
  if J = 1 then ∃ a cap, e = .returned (.agg (F (.slice a sc.length cap))) ∧ OwnS w.heap.size w' (.slice a sc.length cap) sc ∧ Below w.heap.size w w' else e = .returned (.agg #[.bool false, S [], S [], .slice none 0 0, I 0, I 0, I 0, I 0]) ∧ Below w.heap.size w w'
structure WTL (w : World) (X M : Nat) (Kf Kt Zr : Array Value) (Vr : Value → Array Value) (u : List Bs) (c : Value) (L : Nat → Bool) (W : World) : Prop where
  be : Below X w W
  kf : W.heap[X]? = some (.cells Kf 24 (0, 0))
  kt : W.heap[X + 1]? = some (.cells Kt 26 (0, 0))
  or : W.heap[X + 2]? = some (.cells (if L 18 then Vr c else Zr) 40 (0, 0))
  own : L 8 = true → OwnS M W c u
  sz : M ≤ W.heap.size
  xm : X + 3 ≤ M
  dr : L 18 = true → L 8 = true
  e17 : L 17 = true → L 8 = true
theorem WTL.pure {w : World} {X M : Nat} {Kf Kt Zr : Array Value} {Vr : Value → Array Value} {u : List Bs} {c : Value} {L : Nat → Bool} {W : World} (h : WTL w X M Kf Kt Zr Vr u c L W) (i : Nat) (h18 : i ≠ 18) (h8 : i ≠ 8) (h17 : i ≠ 17) : WTL w X M Kf Kt Zr Vr u c (upd L i) W :=
  ⟨h.be, h.kf, h.kt, by rw [upd_ne (fun q => h18 q.symm)]; exact h.or, fun e => h.own (by rw [upd_ne (fun q => h8 q.symm)] at e; exact e), h.sz, h.xm, fun e => by rw [upd_ne (fun q => h18 q.symm)] at e; exact upd_of (h.dr e), fun e => by rw [upd_ne (fun q => h17 q.symm)] at e; exact upd_of (h.e17 e)⟩
theorem WTL.call {w : World} {X M : Nat} {Kf Kt Zr : Array Value} {Vr : Value → Array Value} {u : List Bs} {c : Value} {L : Nat → Bool} {W : World} {W2 : World} (h : WTL w X M Kf Kt Zr Vr u c L W) (hb : Below W.heap.size W W2) : WTL w X M Kf Kt Zr Vr u c L W2 :=
  ⟨h.be.trans (hb.mono (by have := h.xm; have := h.sz; omega)), (hb.block _ (lt_of_row h.kf)).trans h.kf, (hb.block _ (lt_of_row h.kt)).trans h.kt, (hb.block _ (lt_of_row h.or)).trans h.or, fun e => (h.own e).below hb (Nat.le_refl _), Nat.le_trans h.sz hb.size, h.xm, h.dr, h.e17⟩
theorem WTL.got {w : World} {X M : Nat} {Kf Kt Zr : Array Value} {Vr : Value → Array Value} {u : List Bs} {c : Value} {L : Nat → Bool} {W : World} {B : Nat} {c' : Value} (h : WTL w X M Kf Kt Zr Vr u c L W) (h18 : L 18 = false) (ho : OwnS B W c' u) (hB : M ≤ B) : WTL w X M Kf Kt Zr Vr u c' (upd L 8) W :=
  ⟨h.be, h.kf, h.kt, by have q := h.or; rw [h18] at q; rw [upd_ne (by decide), h18]; exact q, fun _ => ho.below (Below.refl _ _) hB, h.sz, h.xm, fun _ => upd_eq, fun _ => upd_eq⟩
theorem WTL.dep17 {w : World} {X M : Nat} {Kf Kt Zr : Array Value} {Vr : Value → Array Value} {u : List Bs} {c : Value} {L : Nat → Bool} {W : World} (h : WTL w X M Kf Kt Zr Vr u c L W) (hc : L 8 = true) : WTL w X M Kf Kt Zr Vr u c (upd L 17) W :=
  ⟨h.be, h.kf, h.kt, by rw [upd_ne (by decide)]; exact h.or, fun _ => h.own hc, h.sz, h.xm, fun e => by rw [upd_ne (by decide)] at e; exact upd_of (h.dr e), fun _ => upd_of hc⟩
theorem WTL.putr {w : World} {X M : Nat} {Kf Kt Zr : Array Value} {Vr : Value → Array Value} {u : List Bs} {c : Value} {L : Nat → Bool} {W : World} (h : WTL w X M Kf Kt Zr Vr u c L W) (hc : L 8 = true) : WTL w X M Kf Kt Zr Vr u c (upd L 18) (W.setRow (X + 2) (Vr c)) :=
  ⟨bel_set h.be _ _ (by have := h.xm; omega) (by have := h.xm; have := h.sz; omega), row_set h.kf (by have := h.xm; omega), row_set h.kt (by have := h.xm; omega), by rw [upd_eq]; exact setRow_row h.or, fun e => own_set (h.own (by rw [upd_ne (by decide)] at e; exact e)) _ _ (by have := h.xm; omega), by simpa using h.sz, h.xm, fun e => upd_of hc, fun e => upd_of hc⟩
def tl18T : List (Op × Option Tmp × Option (Nat × Bool)) := [
  (.fieldAddr 24 (.tmp 3) 1, some 13, none),
  (.load 9 (.tmp 13), some 14, none),
  (.call { callee := .value (.func 49), args := #[(.tmp 14)], argTypes := #[9] }, some 15, none),
  (.fieldAddr 24 (.tmp 3) 2, some 16, none),
  (.load 9 (.tmp 16), some 17, none),
  (.call { callee := .value (.func 49), args := #[(.tmp 17)], argTypes := #[9] }, some 18, none),
  (.fieldAddr 24 (.tmp 3) 3, some 19, none),
  (.load 22 (.tmp 19), some 20, none),
  (.call { callee := .value (.func 50), args := #[(.tmp 20)], argTypes := #[22] }, some 21, none),
  (.fieldAddr 24 (.tmp 3) 0, some 22, none),
  (.load 3 (.tmp 22), some 23, none),
  (.fieldAddr 26 (.tmp 4) 4, some 24, none),
  (.load 3 (.tmp 24), some 25, none),
  (.load 24 (.tmp 3), some 26, none),
  (.call { callee := .value (.func 38), args := #[(.tmp 26)], argTypes := #[24] }, some 27, none),
  (.fieldAddr 24 (.tmp 3) 9, some 28, none),
  (.load 3 (.tmp 28), some 29, none),
  (.build 40 #[(0, (.const (.bool true))), (1, (.tmp 15)), (2, (.tmp 18)), (3, (.tmp 21)), (4, (.tmp 23)), (5, (.tmp 25)), (6, (.tmp 27)), (7, (.tmp 29))], some 30, none),
  (.store 40 (.tmp 6) (.tmp 30), none, none)]
def tl18V (X : Nat) (F : Array Value) (cl su : Bs) (v0 : Value) (n : Nat) (id mi E9 ge : Int) (c : Option Addr × Nat) : Nat → Value
  | 0 => .pointer (some ⟨X, 1, none⟩)
  | 1 => S cl
  | 2 => S cl
  | 3 => .pointer (some ⟨X, 2, none⟩)
  | 4 => S su
  | 5 => S su
  | 6 => .pointer (some ⟨X, 3, none⟩)
  | 7 => v0
  | 8 => .slice c.1 n c.2
  | 9 => .pointer (some ⟨X, 0, none⟩)
  | 10 => I id
  | 11 => .pointer (some ⟨X + 1, 4, none⟩)
  | 12 => I mi
  | 13 => .agg F
  | 14 => I E9
  | 15 => .pointer (some ⟨X, 9, none⟩)
  | 16 => I ge
  | 17 => .agg #[.bool true, S cl, S su, .slice c.1 n c.2, I id, I mi, I E9, I ge]
  | 18 => undef
  | _ => undef
theorem tl18V_ne {X : Nat} {F : Array Value} {cl su : Bs} {v0 : Value} {n : Nat} {id mi E9 ge : Int} {c c' : Option Addr × Nat} {j : Nat} (h8 : j ≠ 8) (h17 : j ≠ 17) : tl18V X F cl su v0 n id mi E9 ge c' j = tl18V X F cl su v0 n id mi E9 ge c j := by
  match j, h8, h17 with
  | 0, _, _ => rfl
  | 1, _, _ => rfl
  | 2, _, _ => rfl
  | 3, _, _ => rfl
  | 4, _, _ => rfl
  | 5, _, _ => rfl
  | 6, _, _ => rfl
  | 7, _, _ => rfl
  | 8, h, _ => exact absurd rfl h
  | 9, _, _ => rfl
  | 10, _, _ => rfl
  | 11, _, _ => rfl
  | 12, _, _ => rfl
  | 13, _, _ => rfl
  | 14, _, _ => rfl
  | 15, _, _ => rfl
  | 16, _, _ => rfl
  | 17, _, h => exact absurd rfl h
  | 18, _, _ => rfl
  | (q + 19), _, _ => rfl
theorem tell_any (id : Int) (cl su : Bs) (va : Option Addr) (vc : Nat) (sc : List Bs) (cr us idl ab gr ge tk st en co : Int) (ti fa tg : Int) (ha : Bs) (mi : Int) (sp : Bool) (at9 ne : Int) (se : Bs) (now : Int) (w : World) (h_cl : cl.length ≤ 9223372036854775807) (h_su : su.length ≤ 9223372036854775807) (hsc : Sts w va sc.length sc) (hsl : sc.length ≤ 140737488355000) (hln : Lns sc) : Calls Tryz.prog 18 #[.agg #[I id, S cl, S su, .slice va sc.length vc, I cr, I us, I idl, I ab, I gr, I ge, I tk, I st, I en, I co], .agg #[I ti, I fa, I tg, S ha, I mi, .bool sp, I at9, I ne, S se], I now] w (OutT w (jdg id cl su sc cr us idl ab gr ge tk st en co ti fa tg ha mi sp at9 ne se now) sc (fun v => #[.bool true, S cl, S su, v, I id, I mi, I (endV cr us idl ab st en), I ge])) := by
  have hb : Below w.heap.size w (((w.alloc (.cells #[I id, S cl, S su, .slice va sc.length vc, I cr, I us, I idl, I ab, I gr, I ge, I tk, I st, I en, I co] 24)).alloc (.cells #[I ti, I fa, I tg, S ha, I mi, .bool sp, I at9, I ne, S se] 26)).alloc (.cells #[.bool false, S [], S [], .slice none 0 0, I 0, I 0, I 0, I 0] 40)) := ((((Below.refl _ w).alloc (by simp <;> omega) _).alloc (by simp <;> omega) _).alloc (by simp <;> omega) _)
  have rf : (((w.alloc (.cells #[I id, S cl, S su, .slice va sc.length vc, I cr, I us, I idl, I ab, I gr, I ge, I tk, I st, I en, I co] 24)).alloc (.cells #[I ti, I fa, I tg, S ha, I mi, .bool sp, I at9, I ne, S se] 26)).alloc (.cells #[.bool false, S [], S [], .slice none 0 0, I 0, I 0, I 0, I 0] 40)).heap[w.heap.size]? = some (.cells #[I id, S cl, S su, .slice va sc.length vc, I cr, I us, I idl, I ab, I gr, I ge, I tk, I st, I en, I co] 24 (0, 0)) := al_old _ _ _ (by simp <;> omega) (al_old _ _ _ (by simp <;> omega) (al_new w (.cells #[I id, S cl, S su, .slice va sc.length vc, I cr, I us, I idl, I ab, I gr, I ge, I tk, I st, I en, I co] 24) (w.heap.size) (by simp)))
  have rt : (((w.alloc (.cells #[I id, S cl, S su, .slice va sc.length vc, I cr, I us, I idl, I ab, I gr, I ge, I tk, I st, I en, I co] 24)).alloc (.cells #[I ti, I fa, I tg, S ha, I mi, .bool sp, I at9, I ne, S se] 26)).alloc (.cells #[.bool false, S [], S [], .slice none 0 0, I 0, I 0, I 0, I 0] 40)).heap[w.heap.size + 1]? = some (.cells #[I ti, I fa, I tg, S ha, I mi, .bool sp, I at9, I ne, S se] 26 (0, 0)) := al_old _ _ _ (by simp <;> omega) (al_new (w.alloc (.cells #[I id, S cl, S su, .slice va sc.length vc, I cr, I us, I idl, I ab, I gr, I ge, I tk, I st, I en, I co] 24)) (.cells #[I ti, I fa, I tg, S ha, I mi, .bool sp, I at9, I ne, S se] 26) (w.heap.size + 1) (by simp))
  have rr : (((w.alloc (.cells #[I id, S cl, S su, .slice va sc.length vc, I cr, I us, I idl, I ab, I gr, I ge, I tk, I st, I en, I co] 24)).alloc (.cells #[I ti, I fa, I tg, S ha, I mi, .bool sp, I at9, I ne, S se] 26)).alloc (.cells #[.bool false, S [], S [], .slice none 0 0, I 0, I 0, I 0, I 0] 40)).heap[w.heap.size + 2]? = some (.cells #[.bool false, S [], S [], .slice none 0 0, I 0, I 0, I 0, I 0] 40 (0, 0)) := al_new ((w.alloc (.cells #[I id, S cl, S su, .slice va sc.length vc, I cr, I us, I idl, I ab, I gr, I ge, I tk, I st, I en, I co] 24)).alloc (.cells #[I ti, I fa, I tg, S ha, I mi, .bool sp, I at9, I ne, S se] 26)) (.cells #[.bool false, S [], S [], .slice none 0 0, I 0, I 0, I 0, I 0] 40) (w.heap.size + 2) (by simp)
  generalize hW1 : (((w.alloc (.cells #[I id, S cl, S su, .slice va sc.length vc, I cr, I us, I idl, I ab, I gr, I ge, I tk, I st, I en, I co] 24)).alloc (.cells #[I ti, I fa, I tg, S ha, I mi, .bool sp, I at9, I ne, S se] 26)).alloc (.cells #[.bool false, S [], S [], .slice none 0 0, I 0, I 0, I 0, I 0] 40)) = W1 at *
  have cf_0 : W1.cell? ⟨w.heap.size, 0, none⟩ = some (I id) := cellr rf rfl
  have cf_1 : W1.cell? ⟨w.heap.size, 1, none⟩ = some (S cl) := cellr rf rfl
  have cf_2 : W1.cell? ⟨w.heap.size, 2, none⟩ = some (S su) := cellr rf rfl
  have cf_3 : W1.cell? ⟨w.heap.size, 3, none⟩ = some (.slice va sc.length vc) := cellr rf rfl
  have cf_4 : W1.cell? ⟨w.heap.size, 4, none⟩ = some (I cr) := cellr rf rfl
  have cf_5 : W1.cell? ⟨w.heap.size, 5, none⟩ = some (I us) := cellr rf rfl
  have cf_6 : W1.cell? ⟨w.heap.size, 6, none⟩ = some (I idl) := cellr rf rfl
  have cf_7 : W1.cell? ⟨w.heap.size, 7, none⟩ = some (I ab) := cellr rf rfl
  have cf_8 : W1.cell? ⟨w.heap.size, 8, none⟩ = some (I gr) := cellr rf rfl
  have cf_9 : W1.cell? ⟨w.heap.size, 9, none⟩ = some (I ge) := cellr rf rfl
  have cf_10 : W1.cell? ⟨w.heap.size, 10, none⟩ = some (I tk) := cellr rf rfl
  have cf_11 : W1.cell? ⟨w.heap.size, 11, none⟩ = some (I st) := cellr rf rfl
  have cf_12 : W1.cell? ⟨w.heap.size, 12, none⟩ = some (I en) := cellr rf rfl
  have cf_13 : W1.cell? ⟨w.heap.size, 13, none⟩ = some (I co) := cellr rf rfl
  have ct_0 : W1.cell? ⟨w.heap.size + 1, 0, none⟩ = some (I ti) := cellr rt rfl
  have ct_1 : W1.cell? ⟨w.heap.size + 1, 1, none⟩ = some (I fa) := cellr rt rfl
  have ct_2 : W1.cell? ⟨w.heap.size + 1, 2, none⟩ = some (I tg) := cellr rt rfl
  have ct_3 : W1.cell? ⟨w.heap.size + 1, 3, none⟩ = some (S ha) := cellr rt rfl
  have ct_4 : W1.cell? ⟨w.heap.size + 1, 4, none⟩ = some (I mi) := cellr rt rfl
  have ct_5 : W1.cell? ⟨w.heap.size + 1, 5, none⟩ = some (.bool sp) := cellr rt rfl
  have ct_6 : W1.cell? ⟨w.heap.size + 1, 6, none⟩ = some (I at9) := cellr rt rfl
  have ct_7 : W1.cell? ⟨w.heap.size + 1, 7, none⟩ = some (I ne) := cellr rt rfl
  have ct_8 : W1.cell? ⟨w.heap.size + 1, 8, none⟩ = some (S se) := cellr rt rfl
  have cr_0 : W1.cell? ⟨w.heap.size + 2, 0, none⟩ = some (.bool false) := cellr rr rfl
  have cr_1 : W1.cell? ⟨w.heap.size + 2, 1, none⟩ = some (S []) := cellr rr rfl
  have cr_2 : W1.cell? ⟨w.heap.size + 2, 2, none⟩ = some (S []) := cellr rr rfl
  have cr_3 : W1.cell? ⟨w.heap.size + 2, 3, none⟩ = some (.slice none 0 0) := cellr rr rfl
  have cr_4 : W1.cell? ⟨w.heap.size + 2, 4, none⟩ = some (I 0) := cellr rr rfl
  have cr_5 : W1.cell? ⟨w.heap.size + 2, 5, none⟩ = some (I 0) := cellr rr rfl
  have cr_6 : W1.cell? ⟨w.heap.size + 2, 6, none⟩ = some (I 0) := cellr rr rfl
  have cr_7 : W1.cell? ⟨w.heap.size + 2, 7, none⟩ = some (I 0) := cellr rr rfl
  have HB := hide hb
  have HRf := hide rf
  have HRt := hide rt
  have HRr := hide rr
  clear hb rf rt rr
  have XJ := hide (fun W (h : Below w.heap.size w W) => judge_any id cl su va vc sc cr us idl ab gr ge tk st en co ti fa tg ha mi sp at9 ne se now W h_cl h_su (hsc.below h) hsl hln)
  have HJ1 : Hid (jdg id cl su sc cr us idl ab gr ge tk st en co ti fa tg ha mi sp at9 ne se now = 1 → cl.length ≤ 1000 ∧ su.length ≤ 1000 ∧ Shn sc) := hide (fun h => fam_lens id cl su sc cr us idl ab gr ge tk st en co (jd_one h).1)
  have XE := hide (fun W => End_any id cl su va vc sc cr us idl ab gr ge tk st en co W)
  have XO := hide (fun W (h : Below w.heap.size w W) (h3 : Shn sc) => ownNames_any va sc.length vc sc W (hsc.below h) h3)
  have XC := hide (fun W (l : Bs) (h : l.length ≤ 1000) => clone_any l W (by omega))
  generalize jdg id cl su sc cr us idl ab gr ge tk st en co ti fa tg ha mi sp at9 ne se now = J at *
  generalize endV cr us idl ab st en = E9 at *
  clear hsc hln h_cl h_su hsl
  generalize hv0 : (Value.slice va sc.length vc) = v0 at *
  go_enter Tryz.func18, Tryz.ntmps18
  go_wp2_with fail
  refine (unhide XJ W1 (unhide HB)).mono ?_
  rintro e w2 ⟨rfl, h2⟩
  have hbB := (unhide HB).trans (h2.mono (unhide HB).size)
  have rf := (h2.block _ (lt_of_row (unhide HRf))).trans (unhide HRf)
  have rt := (h2.block _ (lt_of_row (unhide HRt))).trans (unhide HRt)
  have rr := (h2.block _ (lt_of_row (unhide HRr))).trans (unhide HRr)
  clear h2 HB HRf HRt HRr cf_0 cf_1 cf_2 cf_3 cf_4 cf_5 cf_6 cf_7 cf_8 cf_9 cf_10 cf_11 cf_12 cf_13 ct_0 ct_1 ct_2 ct_3 ct_4 ct_5 ct_6 ct_7 ct_8 cr_0 cr_1 cr_2 cr_3 cr_4 cr_5 cr_6 cr_7 hW1
  have HB := hide hbB
  have HRf := hide rf
  have HRt := hide rt
  have HRr := hide rr
  clear hbB rf rt rr
  clear XJ
  cases hj : (J == 1)
  · have dj : (J != 1) = true := by simp [bne, hj]
    have hJ : Hid (¬ J = 1) := hide (by intro h; rw [h] at hj; cases hj)
    clear hj XE XO HJ1
    go_wp2_with (refine wp_stA inf40 rfl (.tmp 6) (.tmp 12) rfl (w.heap.size + 2) (by rfl) #[.bool false, S [], S [], .slice none 0 0, I 0, I 0, I 0, I 0] (by rfl) #[.bool false, S [], S [], .slice none 0 0, I 0, I 0, I 0, I 0] rfl rfl (unhide HRr) (by simp [Value.oneCell']) ?_)
    refine out1c (T := 40) (n := 8) (p := 6) (cs := #[.bool false, S [], S [], .slice none 0 0, I 0, I 0, I 0, I 0]) (fun _ => by kernel_rfl) (fun _ => by kernel_rfl) (Z := w.heap.size + 2) (by rfl) (by rfl) (by rfl) (setRow_row (unhide HRr)) (by rfl) ?_
    rw [OutT, if_neg (unhide hJ)]
    exact ⟨rfl, bel_set (unhide HB) _ _ (by omega) (unhide HB).size⟩
  · have dj : (J != 1) = false := by simp [bne, hj]
    obtain rfl : J = 1 := by simpa using hj
    clear hj
    obtain ⟨hs1, hs2, hs3⟩ := unhide HJ1 rfl
    clear HJ1 dj
    have dj : ((1 : Int) != 1) = false := by decide
    have HS1 := hide hs1
    have HS2 := hide hs2
    have HS3 := hide hs3
    clear hs1 hs2 hs3
    go_upto_region 3 with fail
    have hz2 := lt_of_row (unhide HRr)
    refine region_tabG tl18T [(3, ptr w.heap.size), (4, ptr (w.heap.size + 1)), (6, ptr (w.heap.size + 2))] 31 [0, 3, 6, 9, 11, 15] [] (tl18V w.heap.size #[I id, S cl, S su, v0, I cr, I us, I idl, I ab, I gr, I ge, I tk, I st, I en, I co] cl su v0 sc.length id mi E9 ge) rfl (by rfl) (by rfl) rfl (fun c => by kernel_rfl) (fun c => by kernel_rfl) (fun c w => by kernel_rfl) _ w2 (Nat.le_of_ble_eq_true rfl) rfl (fun (c : Option Addr × Nat) => WTL w w.heap.size w2.heap.size #[I id, S cl, S su, v0, I cr, I us, I idl, I ab, I gr, I ge, I tk, I st, I en, I co] #[I ti, I fa, I tg, S ha, I mi, .bool sp, I at9, I ne, S se] #[.bool false, S [], S [], .slice none 0 0, I 0, I 0, I 0, I 0] (fun v => #[.bool true, S cl, S su, v, I id, I mi, I E9, I ge]) sc (.slice c.1 sc.length c.2)) ⟨(none, 0), ⟨(unhide HB).drew, unhide HRf, unhide HRt, unhide HRr, (fun e => by cases e), by simp, by omega, (fun e => by cases e), (fun e => by cases e)⟩⟩ (fun i hi c L W hW => hW.pure i (by intro e; subst e; simp at hi) (by intro e; subst e; simp at hi) (by intro e; subst e; simp at hi)) ?spc ?_
    case spc =>
      intro i hi hp hs c L W hW hL hd
      rcases (by simp [tl18T] at hi hp hs; omega : i = 1 ∨ i = 2 ∨ i = 4 ∨ i = 5 ∨ i = 7 ∨ i = 8 ∨ i = 10 ∨ i = 12 ∨ i = 13 ∨ i = 14 ∨ i = 16 ∨ i = 17 ∨ i = 18) with rfl | rfl | rfl | rfl | rfl | rfl | rfl | rfl | rfl | rfl | rfl | rfl | rfl
      · skip
        have f1 : (Instr.loadAt 9 (.pointer (some ⟨w.heap.size, 1, none⟩))).run Tryz.prog W = .ok (S cl) W := s_ld (T := 9) (fun _ => by kernel_rfl) (cellr hW.kf rfl)
        exact ⟨f1, hW.pure 1 (by decide) (by decide) (by decide)⟩
      · skip
        exact ⟨⟨_, _, Tryz.func49, by kernel_rfl, rfl⟩, (unhide XC W cl (unhide HS1)).mono fun e w' q => ⟨c, fun _ _ => rfl, q.1, (hW.call q.2).pure 2 (by decide) (by decide) (by decide)⟩⟩
      · skip
        have f1 : (Instr.loadAt 9 (.pointer (some ⟨w.heap.size, 2, none⟩))).run Tryz.prog W = .ok (S su) W := s_ld (T := 9) (fun _ => by kernel_rfl) (cellr hW.kf rfl)
        exact ⟨f1, hW.pure 4 (by decide) (by decide) (by decide)⟩
      · skip
        exact ⟨⟨_, _, Tryz.func49, by kernel_rfl, rfl⟩, (unhide XC W su (unhide HS2)).mono fun e w' q => ⟨c, fun _ _ => rfl, q.1, (hW.call q.2).pure 5 (by decide) (by decide) (by decide)⟩⟩
      · skip
        have f1 : (Instr.loadAt 22 (.pointer (some ⟨w.heap.size, 3, none⟩))).run Tryz.prog W = .ok (v0) W := s_ld (T := 22) (fun _ => by kernel_rfl) (cellr hW.kf rfl)
        exact ⟨f1, hW.pure 7 (by decide) (by decide) (by decide)⟩
      · skip
        have hr : L 18 = false := by cases q : L 18 with | false => rfl | true => rw [hW.dr q] at hL; cases hL
        refine ⟨⟨_, _, Tryz.func50, by kernel_rfl, rfl⟩, (unhide XO W hW.be (unhide HS3)).mono fun e w' q => ?_⟩
        obtain ⟨a, cap, e1, e2, e3⟩ := q
        exact ⟨(a, cap), fun j hj => tl18V_ne (by intro e; subst e; rw [hL] at hj; cases hj) (by intro e; subst e; rw [hW.e17 hj] at hL; cases hL), e1, (hW.call e3).got hr e2 hW.sz⟩
      · skip
        have f1 : (Instr.loadAt 3 (.pointer (some ⟨w.heap.size, 0, none⟩))).run Tryz.prog W = .ok (I id) W := s_ld (T := 3) (fun _ => by kernel_rfl) (cellr hW.kf rfl)
        exact ⟨f1, hW.pure 10 (by decide) (by decide) (by decide)⟩
      · skip
        have f1 : (Instr.loadAt 3 (.pointer (some ⟨w.heap.size + 1, 4, none⟩))).run Tryz.prog W = .ok (I mi) W := s_ld (T := 3) (fun _ => by kernel_rfl) (cellr hW.kt rfl)
        exact ⟨f1, hW.pure 12 (by decide) (by decide) (by decide)⟩
      · skip
        have f1 : (Instr.loadAt 24 (ptr w.heap.size)).run Tryz.prog W = .ok (.agg #[I id, S cl, S su, v0, I cr, I us, I idl, I ab, I gr, I ge, I tk, I st, I en, I co]) W := s_ldr (T := 24) (n := 14) (fun _ => by kernel_rfl) (fun _ => by kernel_rfl) hW.kf (#[I id, S cl, S su, v0, I cr, I us, I idl, I ab, I gr, I ge, I tk, I st, I en, I co]).toList rfl rfl
        exact ⟨f1, hW.pure 13 (by decide) (by decide) (by decide)⟩
      · skip
        exact ⟨⟨_, _, Tryz.func38, by kernel_rfl, rfl⟩, (unhide XE W).mono fun e w' q => ⟨c, fun _ _ => rfl, q.1, (hW.call q.2).pure 14 (by decide) (by decide) (by decide)⟩⟩
      · skip
        have f1 : (Instr.loadAt 3 (.pointer (some ⟨w.heap.size, 9, none⟩))).run Tryz.prog W = .ok (I ge) W := s_ld (T := 3) (fun _ => by kernel_rfl) (cellr hW.kf rfl)
        exact ⟨f1, hW.pure 16 (by decide) (by decide) (by decide)⟩
      · skip
        exact ⟨⟨_, rfl, by kernel_rfl⟩, hW.dep17 (hd 8 (by rfl))⟩
      · skip
        have hc8 : L 8 = true := hW.e17 (hd 17 (by rfl))
        have hr := hW.or
        rw [hL] at hr
        have f1 : (Instr.storeAt 40 (ptr (w.heap.size + 2)) (.agg #[.bool true, S cl, S su, .slice c.1 sc.length c.2, I id, I mi, I E9, I ge])).run Tryz.prog W = .ok () (W.setRow (w.heap.size + 2) #[.bool true, S cl, S su, .slice c.1 sc.length c.2, I id, I mi, I E9, I ge]) := st_all (T := 40) (n := 8) (fun _ => by kernel_rfl) (cs := #[.bool false, S [], S [], .slice none 0 0, I 0, I 0, I 0, I 0]) hr rfl #[.bool true, S cl, S su, .slice c.1 sc.length c.2, I id, I mi, I E9, I ge] rfl (by simp [Value.oneCell'])
        exact ⟨rfl, _, f1, hW.putr hc8⟩
    intro c L W7 hall hW
    simp only [frmL, tl18T, tl18V, Act.put, List.setIfInBounds_toArray, List.set_cons_succ, List.set_cons_zero]
    obtain ⟨a, cap⟩ := c
    have orr := hW.or
    rw [hall 18 (by decide)] at orr
    have hbe := hide hW.be
    have hown := hide (hW.own (hall 8 (by decide)))
    have HA := hide orr
    clear hall hW orr HB HRf HRt HRr XO XE XC HS1 HS2 HS3
    go_wp2
    refine out1c (T := 40) (n := 8) (p := 6) (cs := #[.bool true, S cl, S su, .slice a sc.length cap, I id, I mi, I E9, I ge]) (fun _ => by kernel_rfl) (fun _ => by kernel_rfl) (Z := w.heap.size + 2) (by rfl) (by rfl) (by rfl) (unhide HA) (by rfl) ?_
    rw [OutT, if_pos rfl]
    exact ⟨a, cap, rfl, (unhide hown).below (Below.refl _ _) (by omega), unhide hbe⟩
end Go.Proofs.YtmjaobddgaglhaaGreatDoor
