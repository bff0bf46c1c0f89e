import Derived.Test.YtmjaobddgaglhaaGreatDoorZdetl
import Derived.Test.YtmjaobddgaglhaaGreatDoorZfmd
import Derived.Test.YtmjaobddgaglhaaGreatDoorZfmi
/- The document's Alive; Over. -/
namespace Go.Proofs.YtmjaobddgaglhaaGreatDoor
open Go.RowKit
set_option maxHeartbeats 4000000
set_option maxRecDepth 8000
theorem firstv_b (a b : Int) : 0 ≤ firstv [a, b] ∧ firstv [a, b] ≤ 1099511627776 := by
  have h1 := nr_b a
  have h2 := nr_b b
  simp only [firstv, List.foldl, mn]
  split <;> split <;> omega
theorem endV_b (cr us idl ab st en : Int) : 0 ≤ endV cr us idl ab st en ∧ endV cr us idl ab st en ≤ 1099511627776 := by
  unfold endV
  split
  · exact firstv_b _ _
  · exact nr_b _
def al11T : List (Op × Option Tmp × Option (Nat × Bool)) := [
  (.fieldAddr 24 (.tmp 2) 11, some 5, none),
  (.load 3 (.tmp 5), some 6, none),
  (.binOp .eql 3 (.tmp 6) (.const (I 1)) 3, some 7, none),
  (.move (.tmp 7), some 8, none),
  (.move (.tmp 1), some 9, some (3, true)),
  (.call { callee := .value (.func 40), args := #[(.tmp 9)], argTypes := #[3] }, some 10, some (3, true)),
  (.load 24 (.tmp 2), some 11, some (3, true)),
  (.call { callee := .value (.func 41), args := #[(.tmp 11)], argTypes := #[24] }, some 12, some (3, true)),
  (.binOp .lss 3 (.tmp 10) (.tmp 12) 3, some 13, some (3, true)),
  (.pick (.tmp 8) (.tmp 13) (.const (.bool false)), some 14, none),
  (.assign (.tmp 14), some 4, none)]
def al11V (X : Nat) (F : Array Value) (now T E : Int) (_ : Unit) : Nat → Value
  | 0 => .pointer (some ⟨X, 11, none⟩)
  | 1 => I 1
  | 2 => .bool true
  | 3 => .bool true
  | 4 => I now
  | 5 => I T
  | 6 => .agg F
  | 7 => I E
  | 8 => .bool (decide (T < E))
  | 9 => .bool (decide (T < E))
  | 10 => .bool (decide (T < E))
  | _ => undef
def al11U (X : Nat) (st : Int) (_ : Unit) : Nat → Value
  | 0 => .pointer (some ⟨X, 11, none⟩)
  | 1 => I st
  | 2 => .bool false
  | 3 => .bool false
  | 4 => undef
  | 5 => undef
  | 6 => undef
  | 7 => undef
  | 8 => undef
  | 9 => .bool false
  | 10 => .bool false
  | _ => undef
theorem ralive_any (id : Int) (cl su : Bs) (va : Option Addr) (vc : Nat) (sc : List Bs) (cr us idl ab gr ge tk st en co : Int) (now : Int) (w : World) : Calls Tryz.prog 11 #[.agg #[I id, S cl, S su, .slice va sc.length vc, I cr, I us, I idl, I ab, I gr, I ge, I tk, I st, I en, I co], I now] w fun e w' => e = .returned (.bool (alv cr us idl ab st en now)) ∧ Below w.heap.size w w' := by
  have hb : Below w.heap.size w (w.alloc (.cells #[I id, S cl, S su, .slice va sc.length vc, I cr, I us, I idl, I ab, I gr, I ge, I tk, I st, I en, I co] 24)) := ((Below.refl _ w).alloc (by simp <;> omega) _)
  have rf : (w.alloc (.cells #[I id, S cl, S su, .slice va sc.length vc, I cr, I us, I idl, I ab, I gr, I ge, I tk, I st, I en, I co] 24)).heap[w.heap.size]? = some (.cells #[I id, S cl, S su, .slice va sc.length vc, I cr, I us, I idl, I ab, I gr, I ge, I tk, I st, I en, I co] 24 (0, 0)) := al_new w (.cells #[I id, S cl, S su, .slice va sc.length vc, I cr, I us, I idl, I ab, I gr, I ge, I tk, I st, I en, I co] 24) (w.heap.size) (by simp)
  generalize hW1 : (w.alloc (.cells #[I id, S cl, S su, .slice va sc.length vc, I cr, I us, I idl, I ab, I gr, I ge, I tk, I st, I en, I co] 24)) = W1 at *
  have HB := hide hb
  have HRf := hide rf
  clear hb rf
  have HA : Hid (alv cr us idl ab st en now = (decide (st = 1) && decide (nr now < endV cr us idl ab st en))) := hide rfl
  have XE := hide (fun W => rEnd24 id cl su va vc sc cr us idl ab gr ge tk st en co W)
  have XN := hide (fun W => rNear84 now W)
  generalize alv cr us idl ab st en now = A at *
  generalize endV cr us idl ab st en = E at *
  generalize nr now = T at *
  generalize hv0 : (Value.slice va sc.length vc) = v0 at *
  by_cases h1 : st = 1
  · subst h1
    have HA2 := hide (show A = decide (T < E) by rw [unhide HA]; simp)
    clear HA
    go_enter Tryz.func11, Tryz.ntmps11
    go_upto_region 1 with fail
    refine region_tabG al11T [(2, ptr w.heap.size), (1, I now)] 15 [0, 2, 3, 4, 8, 9, 10] [] (al11V w.heap.size #[I id, S cl, S su, v0, I cr, I us, I idl, I ab, I gr, I ge, I tk, I 1, I en, I co] now T E) rfl (by rfl) (by rfl) rfl (fun c => by kernel_rfl) (fun c => by kernel_rfl) (fun c w => by kernel_rfl) _ W1 (Nat.le_of_ble_eq_true rfl) rfl (fun _ _ W => Below w.heap.size w W ∧ W.heap[w.heap.size]? = some (.cells #[I id, S cl, S su, v0, I cr, I us, I idl, I ab, I gr, I ge, I tk, I 1, I en, I co] 24 (0, 0))) ⟨(), (unhide HB).drew, unhide HRf⟩ (fun i hi c L W hW => hW) ?spc ?_
    case spc =>
      intro i hi hp hs c L W hW hL hd
      rcases (by simp [al11T] at hi hp hs; omega : i = 1 ∨ i = 5 ∨ i = 6 ∨ i = 7) with rfl | rfl | rfl | rfl
      · skip
        have f1 : (Instr.loadAt 3 (.pointer (some ⟨w.heap.size, 11, none⟩))).run Tryz.prog W = .ok (I 1) W := s_ld (T := 3) (fun _ => by kernel_rfl) (cellr hW.2 rfl)
        exact ⟨f1, hW⟩
      · skip
        exact ⟨⟨_, _, Tryz.func40, by kernel_rfl, rfl⟩, (unhide XN W).mono fun e w' q => ⟨c, fun _ _ => rfl, q.1, by rw [q.2]; exact hW⟩⟩
      · skip
        have f1 : (Instr.loadAt 24 (ptr (w.heap.size))).run Tryz.prog W = .ok (.agg #[I id, S cl, S su, v0, I cr, I us, I idl, I ab, I gr, I ge, I tk, I 1, I en, I co]) W := s_ldr (T := 24) (n := 14) (fun _ => by kernel_rfl) (fun _ => by kernel_rfl) hW.2 (#[I id, S cl, S su, v0, I cr, I us, I idl, I ab, I gr, I ge, I tk, I 1, I en, I co]).toList rfl rfl
        exact ⟨f1, hW⟩
      · skip
        exact ⟨⟨_, _, Tryz.func41, by kernel_rfl, rfl⟩, (unhide XE W).mono fun e w' q => ⟨c, fun _ _ => rfl, q.1, hW.1.trans (q.2.mono hW.1.size), (q.2.block _ (lt_of_row hW.2)).trans hW.2⟩⟩
    intro c L W2 hall hW
    simp only [frmL, al11T, al11V, Act.put, List.setIfInBounds_toArray, List.set_cons_succ, List.set_cons_zero]
    have HB2 := hide hW.1
    clear hW hall HB HRf XE XN hW1
    go_wp2
    go_ret
    rw [unhide HA2]
    exact ⟨rfl, unhide HB2⟩
  · have hb1 : (st == 1) = false := by simpa using h1
    have HA2 := hide (show A = false by rw [unhide HA]; simp [h1])
    clear HA h1 XE XN
    go_enter Tryz.func11, Tryz.ntmps11
    go_upto_region 1 with fail
    refine region_tabG al11T [(2, ptr w.heap.size), (1, I now)] 15 [0, 3, 9, 10] [4, 5, 6, 7, 8] (al11U w.heap.size st) rfl (by rfl) (by rfl) rfl (fun c => by kernel_rfl) (fun c => by kernel_rfl) (fun c w => by kernel_rfl) _ W1 (Nat.le_of_ble_eq_true rfl) rfl (fun _ _ W => Below w.heap.size w W ∧ W.heap[w.heap.size]? = some (.cells #[I id, S cl, S su, v0, I cr, I us, I idl, I ab, I gr, I ge, I tk, I st, I en, I co] 24 (0, 0))) ⟨(), (unhide HB).drew, unhide HRf⟩ (fun i hi c L W hW => hW) ?spc ?_
    case spc =>
      intro i hi hp hs c L W hW hL hd
      rcases (by simp [al11T] at hi hp hs; omega : i = 1 ∨ i = 2) with rfl | rfl
      · skip
        have f1 : (Instr.loadAt 3 (.pointer (some ⟨w.heap.size, 11, none⟩))).run Tryz.prog W = .ok (I st) W := s_ld (T := 3) (fun _ => by kernel_rfl) (cellr hW.2 rfl)
        exact ⟨f1, hW⟩
      · skip
        have f0 : (do eqGuard .eql 3 (.tmp 6) (.const (I 1)) (I st) (I 1); binOp .eql 3 (I st) (I 1) : Sem Value).run Tryz.prog W = .ok (.bool (st == 1)) W := by kernel_rfl
        rw [hb1] at f0
        exact ⟨⟨_, rfl, f0⟩, hW⟩
    intro c L W2 hall hW
    simp only [frmL, al11T, al11U, Act.put, List.setIfInBounds_toArray, List.set_cons_succ, List.set_cons_zero]
    have HB2 := hide hW.1
    clear hW hall HB HRf hW1
    go_wp2
    go_ret
    rw [unhide HA2]
    exact ⟨rfl, unhide HB2⟩
/-- Did a family end so long ago? -/
def ovF (cr us idl ab st en re now : Int) : Bool := !(alv cr us idl ab st en now) && decide (nr re ≤ nr now - endV cr us idl ab st en)
def ov12T : List (Op × Option Tmp × Option (Nat × Bool)) := [
  (.load 24 (.tmp 3), some 7, none),
  (.move (.tmp 2), some 8, none),
  (.call { callee := .value (.func 10), args := #[(.tmp 7), (.tmp 8)], argTypes := #[24, 3] }, some 9, none),
  (.unOp .not 4 (.tmp 9), some 10, none),
  (.move (.tmp 10), some 11, none),
  (.move (.tmp 2), some 12, some (4, true)),
  (.call { callee := .value (.func 39), args := #[(.tmp 12)], argTypes := #[3] }, some 13, some (4, true)),
  (.load 24 (.tmp 3), some 14, some (4, true)),
  (.call { callee := .value (.func 38), args := #[(.tmp 14)], argTypes := #[24] }, some 15, some (4, true)),
  (.binOp .sub 3 (.tmp 13) (.tmp 15) 3, some 16, some (4, true)),
  (.move (.tmp 1), some 17, some (4, true)),
  (.call { callee := .value (.func 39), args := #[(.tmp 17)], argTypes := #[3] }, some 18, some (4, true)),
  (.binOp .geq 3 (.tmp 16) (.tmp 18) 3, some 19, some (4, true)),
  (.pick (.tmp 11) (.tmp 19) (.const (.bool false)), some 20, none),
  (.assign (.tmp 20), some 6, none)]
def ov12V (F : Array Value) (now re T E R : Int) (_ : Unit) : Nat → Value
  | 0 => .agg F
  | 1 => I now
  | 2 => .bool false
  | 3 => .bool true
  | 4 => .bool true
  | 5 => I now
  | 6 => I T
  | 7 => .agg F
  | 8 => I E
  | 9 => I (T - E)
  | 10 => I re
  | 11 => I R
  | 12 => .bool (decide (R ≤ T - E))
  | 13 => .bool (decide (R ≤ T - E))
  | 14 => .bool (decide (R ≤ T - E))
  | _ => undef
def ov12U (F : Array Value) (now : Int) (_ : Unit) : Nat → Value
  | 0 => .agg F
  | 1 => I now
  | 2 => .bool true
  | 3 => .bool false
  | 4 => .bool false
  | 5 => undef
  | 6 => undef
  | 7 => undef
  | 8 => undef
  | 9 => undef
  | 10 => undef
  | 11 => undef
  | 12 => undef
  | 13 => .bool false
  | 14 => .bool false
  | _ => undef
theorem fover_any (id : Int) (cl su : Bs) (va : Option Addr) (vc : Nat) (sc : List Bs) (cr us idl ab gr ge tk st en co : Int) (re now : Int) (w : World) : Calls Tryz.prog 12 #[.agg #[I id, S cl, S su, .slice va sc.length vc, I cr, I us, I idl, I ab, I gr, I ge, I tk, I st, I en, I co], I re, I now] w fun e w' => e = .returned (.bool (ovF cr us idl ab st en re now)) ∧ Below w.heap.size w w' := by
  have hb : Below w.heap.size w (w.alloc (.cells #[I id, S cl, S su, .slice va sc.length vc, I cr, I us, I idl, I ab, I gr, I ge, I tk, I st, I en, I co] 24)) := ((Below.refl _ w).alloc (by simp <;> omega) _)
  have rf : (w.alloc (.cells #[I id, S cl, S su, .slice va sc.length vc, I cr, I us, I idl, I ab, I gr, I ge, I tk, I st, I en, I co] 24)).heap[w.heap.size]? = some (.cells #[I id, S cl, S su, .slice va sc.length vc, I cr, I us, I idl, I ab, I gr, I ge, I tk, I st, I en, I co] 24 (0, 0)) := al_new w (.cells #[I id, S cl, S su, .slice va sc.length vc, I cr, I us, I idl, I ab, I gr, I ge, I tk, I st, I en, I co] 24) (w.heap.size) (by simp)
  generalize hW1 : (w.alloc (.cells #[I id, S cl, S su, .slice va sc.length vc, I cr, I us, I idl, I ab, I gr, I ge, I tk, I st, I en, I co] 24)) = W1 at *
  have HB := hide hb
  have HRf := hide rf
  clear hb rf
  have HA : Hid (ovF cr us idl ab st en re now = (!(alv cr us idl ab st en now) && decide (nr re ≤ nr now - endV cr us idl ab st en))) := hide rfl
  have XA := hide (fun W => alive_any id cl su va vc sc cr us idl ab gr ge tk st en co now W)
  have XE := hide (fun W => End_any id cl su va vc sc cr us idl ab gr ge tk st en co W)
  have XN := hide (fun W => fnear_any now W)
  have XR := hide (fun W => fnear_any re W)
  obtain ⟨e1, e2⟩ := endV_b cr us idl ab st en
  obtain ⟨t1, t2⟩ := nr_b now
  obtain ⟨r1, r2⟩ := nr_b re
  generalize ovF cr us idl ab st en re now = O at *
  generalize alv cr us idl ab st en now = A at *
  generalize endV cr us idl ab st en = E at *
  generalize nr now = T at *
  generalize nr re = R at *
  generalize hv0 : (Value.slice va sc.length vc) = v0 at *
  cases A
  · have HA2 := hide (show O = decide (R ≤ T - E) by rw [unhide HA]; rfl)
    clear HA
    go_enter Tryz.func12, Tryz.ntmps12
    go_upto_region 1 with fail
    refine region_tabG ov12T [(3, ptr w.heap.size), (1, I re), (2, I now)] 21 [1, 3, 4, 5, 10, 12, 13, 14] [] (ov12V #[I id, S cl, S su, v0, I cr, I us, I idl, I ab, I gr, I ge, I tk, I st, I en, I co] now re T E R) rfl (by rfl) (by rfl) rfl (fun c => by kernel_rfl) (fun c => by kernel_rfl) (fun c w => by kernel_rfl) _ W1 (Nat.le_of_ble_eq_true rfl) rfl (fun _ _ W => Below w.heap.size w W ∧ W.heap[w.heap.size]? = some (.cells #[I id, S cl, S su, v0, I cr, I us, I idl, I ab, I gr, I ge, I tk, I st, I en, I co] 24 (0, 0))) ⟨(), (unhide HB).drew, unhide HRf⟩ (fun i hi c L W hW => hW) ?spc ?_
    case spc =>
      intro i hi hp hs c L W hW hL hd
      rcases (by simp [ov12T] at hi hp hs; omega : i = 0 ∨ i = 2 ∨ i = 6 ∨ i = 7 ∨ i = 8 ∨ i = 9 ∨ i = 11) with rfl | rfl | rfl | rfl | rfl | rfl | rfl
      · skip
        have f1 : (Instr.loadAt 24 (ptr (w.heap.size))).run Tryz.prog W = .ok (.agg #[I id, S cl, S su, v0, I cr, I us, I idl, I ab, I gr, I ge, I tk, I st, I en, I co]) W := s_ldr (T := 24) (n := 14) (fun _ => by kernel_rfl) (fun _ => by kernel_rfl) hW.2 (#[I id, S cl, S su, v0, I cr, I us, I idl, I ab, I gr, I ge, I tk, I st, I en, I co]).toList rfl rfl
        exact ⟨f1, hW⟩
      · skip
        exact ⟨⟨_, _, Tryz.func10, by kernel_rfl, rfl⟩, (unhide XA W).mono fun e w' q => ⟨c, fun _ _ => rfl, q.1, hW.1.trans (q.2.mono hW.1.size), (q.2.block _ (lt_of_row hW.2)).trans hW.2⟩⟩
      · skip
        exact ⟨⟨_, _, Tryz.func39, by kernel_rfl, rfl⟩, (unhide XN W).mono fun e w' q => ⟨c, fun _ _ => rfl, q.1, hW.1.trans (q.2.mono hW.1.size), (q.2.block _ (lt_of_row hW.2)).trans hW.2⟩⟩
      · skip
        have f1 : (Instr.loadAt 24 (ptr (w.heap.size))).run Tryz.prog W = .ok (.agg #[I id, S cl, S su, v0, I cr, I us, I idl, I ab, I gr, I ge, I tk, I st, I en, I co]) W := s_ldr (T := 24) (n := 14) (fun _ => by kernel_rfl) (fun _ => by kernel_rfl) hW.2 (#[I id, S cl, S su, v0, I cr, I us, I idl, I ab, I gr, I ge, I tk, I st, I en, I co]).toList rfl rfl
        exact ⟨f1, hW⟩
      · skip
        exact ⟨⟨_, _, Tryz.func38, by kernel_rfl, rfl⟩, (unhide XE W).mono fun e w' q => ⟨c, fun _ _ => rfl, q.1, hW.1.trans (q.2.mono hW.1.size), (q.2.block _ (lt_of_row hW.2)).trans hW.2⟩⟩
      · skip
        have f0 : (do eqGuard .sub 3 (.tmp 13) (.tmp 15) (I T) (I E); binOp .sub 3 (I T) (I E) : Sem Value).run Tryz.prog W = .ok (I (T - E)) W := by
          have q : (do eqGuard .sub 3 (.tmp 13) (.tmp 15) (I T) (I E); binOp .sub 3 (I T) (I E) : Sem Value).run Tryz.prog W = .ok (I (IntKind.i64.wrap (T - E))) W := by kernel_rfl
          rw [q, show IntKind.i64.wrap (T - E) = T - E by rw [IntKind.wrap_i64]; omega]
        exact ⟨⟨_, rfl, f0⟩, hW⟩
      · skip
        exact ⟨⟨_, _, Tryz.func39, by kernel_rfl, rfl⟩, (unhide XR W).mono fun e w' q => ⟨c, fun _ _ => rfl, q.1, hW.1.trans (q.2.mono hW.1.size), (q.2.block _ (lt_of_row hW.2)).trans hW.2⟩⟩
    intro c L W2 hall hW
    simp only [frmL, ov12T, ov12V, Act.put, List.setIfInBounds_toArray, List.set_cons_succ, List.set_cons_zero]
    have HB2 := hide hW.1
    clear hW hall HB HRf hW1 XA XE XN XR
    go_wp2
    go_ret
    rw [unhide HA2]
    exact ⟨rfl, unhide HB2⟩
  · have HA2 := hide (show O = false by rw [unhide HA]; rfl)
    clear HA XE XN XR
    go_enter Tryz.func12, Tryz.ntmps12
    go_upto_region 1 with fail
    refine region_tabG ov12T [(3, ptr w.heap.size), (1, I re), (2, I now)] 21 [1, 3, 4, 13, 14] [5, 6, 7, 8, 9, 10, 11, 12] (ov12U #[I id, S cl, S su, v0, I cr, I us, I idl, I ab, I gr, I ge, I tk, I st, I en, I co] now) rfl (by rfl) (by rfl) rfl (fun c => by kernel_rfl) (fun c => by kernel_rfl) (fun c w => by kernel_rfl) _ W1 (Nat.le_of_ble_eq_true rfl) rfl (fun _ _ W => Below w.heap.size w W ∧ W.heap[w.heap.size]? = some (.cells #[I id, S cl, S su, v0, I cr, I us, I idl, I ab, I gr, I ge, I tk, I st, I en, I co] 24 (0, 0))) ⟨(), (unhide HB).drew, unhide HRf⟩ (fun i hi c L W hW => hW) ?spc ?_
    case spc =>
      intro i hi hp hs c L W hW hL hd
      rcases (by simp [ov12T] at hi hp hs; omega : i = 0 ∨ i = 2) with rfl | rfl
      · skip
        have f1 : (Instr.loadAt 24 (ptr (w.heap.size))).run Tryz.prog W = .ok (.agg #[I id, S cl, S su, v0, I cr, I us, I idl, I ab, I gr, I ge, I tk, I st, I en, I co]) W := s_ldr (T := 24) (n := 14) (fun _ => by kernel_rfl) (fun _ => by kernel_rfl) hW.2 (#[I id, S cl, S su, v0, I cr, I us, I idl, I ab, I gr, I ge, I tk, I st, I en, I co]).toList rfl rfl
        exact ⟨f1, hW⟩
      · skip
        exact ⟨⟨_, _, Tryz.func10, by kernel_rfl, rfl⟩, (unhide XA W).mono fun e w' q => ⟨c, fun _ _ => rfl, q.1, hW.1.trans (q.2.mono hW.1.size), (q.2.block _ (lt_of_row hW.2)).trans hW.2⟩⟩
    intro c L W2 hall hW
    simp only [frmL, ov12T, ov12U, Act.put, List.setIfInBounds_toArray, List.set_cons_succ, List.set_cons_zero]
    have HB2 := hide hW.1
    clear hW hall HB HRf hW1 XA
    go_wp2
    go_ret
    rw [unhide HA2]
    exact ⟨rfl, unhide HB2⟩
def ov13T : List (Op × Option Tmp × Option (Nat × Bool)) := [
  (.move (.tmp 2), some 12, none),
  (.call { callee := .value (.func 40), args := #[(.tmp 12)], argTypes := #[3] }, some 13, none),
  (.load 24 (.tmp 3), some 14, none),
  (.call { callee := .value (.func 41), args := #[(.tmp 14)], argTypes := #[24] }, some 15, none),
  (.binOp .sub 3 (.tmp 13) (.tmp 15) 3, some 16, none),
  (.move (.tmp 1), some 17, none),
  (.call { callee := .value (.func 40), args := #[(.tmp 17)], argTypes := #[3] }, some 18, none),
  (.binOp .geq 3 (.tmp 16) (.tmp 18) 3, some 19, none),
  (.assign (.tmp 19), some 6, none)]
def ov13V (F : Array Value) (now re T E R : Int) (_ : Unit) : Nat → Value
  | 0 => I now
  | 1 => I T
  | 2 => .agg F
  | 3 => I E
  | 4 => I (T - E)
  | 5 => I re
  | 6 => I R
  | 7 => .bool (decide (R ≤ T - E))
  | 8 => .bool (decide (R ≤ T - E))
  | _ => undef
theorem rover_any (id : Int) (cl su : Bs) (va : Option Addr) (vc : Nat) (sc : List Bs) (cr us idl ab gr ge tk st en co : Int) (re now : Int) (w : World) : Calls Tryz.prog 13 #[.agg #[I id, S cl, S su, .slice va sc.length vc, I cr, I us, I idl, I ab, I gr, I ge, I tk, I st, I en, I co], I re, I now] w fun e w' => e = .returned (.bool (ovF cr us idl ab st en re now)) ∧ Below w.heap.size w w' := by
  have hb : Below w.heap.size w (w.alloc (.cells #[I id, S cl, S su, .slice va sc.length vc, I cr, I us, I idl, I ab, I gr, I ge, I tk, I st, I en, I co] 24)) := ((Below.refl _ w).alloc (by simp <;> omega) _)
  have rf : (w.alloc (.cells #[I id, S cl, S su, .slice va sc.length vc, I cr, I us, I idl, I ab, I gr, I ge, I tk, I st, I en, I co] 24)).heap[w.heap.size]? = some (.cells #[I id, S cl, S su, .slice va sc.length vc, I cr, I us, I idl, I ab, I gr, I ge, I tk, I st, I en, I co] 24 (0, 0)) := al_new w (.cells #[I id, S cl, S su, .slice va sc.length vc, I cr, I us, I idl, I ab, I gr, I ge, I tk, I st, I en, I co] 24) (w.heap.size) (by simp)
  generalize hW1 : (w.alloc (.cells #[I id, S cl, S su, .slice va sc.length vc, I cr, I us, I idl, I ab, I gr, I ge, I tk, I st, I en, I co] 24)) = W1 at *
  have cf_0 : W1.cell? ⟨w.heap.size, 0, none⟩ = some (I id) := cellr rf rfl
  have cf_1 : W1.cell? ⟨w.heap.size, 1, none⟩ = some (S cl) := cellr rf rfl
  have cf_2 : W1.cell? ⟨w.heap.size, 2, none⟩ = some (S su) := cellr rf rfl
  have cf_3 : W1.cell? ⟨w.heap.size, 3, none⟩ = some (.slice va sc.length vc) := cellr rf rfl
  have cf_4 : W1.cell? ⟨w.heap.size, 4, none⟩ = some (I cr) := cellr rf rfl
  have cf_5 : W1.cell? ⟨w.heap.size, 5, none⟩ = some (I us) := cellr rf rfl
  have cf_6 : W1.cell? ⟨w.heap.size, 6, none⟩ = some (I idl) := cellr rf rfl
  have cf_7 : W1.cell? ⟨w.heap.size, 7, none⟩ = some (I ab) := cellr rf rfl
  have cf_8 : W1.cell? ⟨w.heap.size, 8, none⟩ = some (I gr) := cellr rf rfl
  have cf_9 : W1.cell? ⟨w.heap.size, 9, none⟩ = some (I ge) := cellr rf rfl
  have cf_10 : W1.cell? ⟨w.heap.size, 10, none⟩ = some (I tk) := cellr rf rfl
  have cf_11 : W1.cell? ⟨w.heap.size, 11, none⟩ = some (I st) := cellr rf rfl
  have cf_12 : W1.cell? ⟨w.heap.size, 12, none⟩ = some (I en) := cellr rf rfl
  have cf_13 : W1.cell? ⟨w.heap.size, 13, none⟩ = some (I co) := cellr rf rfl
  have HB := hide hb
  have HRf := hide rf
  clear hb rf
  have HA : Hid (ovF cr us idl ab st en re now = (!(alv cr us idl ab st en now) && decide (nr re ≤ nr now - endV cr us idl ab st en))) := hide rfl
  have XA := hide (fun W => ralive_any id cl su va vc sc cr us idl ab gr ge tk st en co now W)
  have XE := hide (fun W => rEnd24 id cl su va vc sc cr us idl ab gr ge tk st en co W)
  have XN := hide (fun W => rNear84 now W)
  have XR := hide (fun W => rNear84 re W)
  obtain ⟨e1, e2⟩ := endV_b cr us idl ab st en
  obtain ⟨t1, t2⟩ := nr_b now
  obtain ⟨r1, r2⟩ := nr_b re
  generalize ovF cr us idl ab st en re now = O at *
  generalize alv cr us idl ab st en now = A at *
  generalize endV cr us idl ab st en = E at *
  generalize nr now = T at *
  generalize nr re = R at *
  generalize hv0 : (Value.slice va sc.length vc) = v0 at *
  go_enter Tryz.func13, Tryz.ntmps13
  go_wp2_with fail
  refine (unhide XA W1).mono ?_
  rintro e w2 ⟨rfl, h2⟩
  have hbB := (unhide HB).trans (h2.mono (unhide HB).size)
  have rf := (h2.block _ (lt_of_row (unhide HRf))).trans (unhide HRf)
  clear h2 HB HRf cf_0 cf_1 cf_2 cf_3 cf_4 cf_5 cf_6 cf_7 cf_8 cf_9 cf_10 cf_11 cf_12 cf_13 hW1
  have HB := hide hbB
  have HRf := hide rf
  clear hbB rf
  clear XA
  cases A
  · have HA2 := hide (show O = decide (R ≤ T - E) by rw [unhide HA]; rfl)
    clear HA
    go_upto_region 4 with fail
    refine region_tabG ov13T [(3, ptr w.heap.size), (1, I re), (2, I now)] 20 [0, 5, 7, 8] [] (ov13V #[I id, S cl, S su, v0, I cr, I us, I idl, I ab, I gr, I ge, I tk, I st, I en, I co] now re T E R) rfl (by rfl) (by rfl) rfl (fun c => by kernel_rfl) (fun c => by kernel_rfl) (fun c w => by kernel_rfl) _ w2 (Nat.le_of_ble_eq_true rfl) rfl (fun _ _ W => Below w.heap.size w W ∧ W.heap[w.heap.size]? = some (.cells #[I id, S cl, S su, v0, I cr, I us, I idl, I ab, I gr, I ge, I tk, I st, I en, I co] 24 (0, 0))) ⟨(), (unhide HB).drew, unhide HRf⟩ (fun i hi c L W hW => hW) ?spc ?_
    case spc =>
      intro i hi hp hs c L W hW hL hd
      rcases (by simp [ov13T] at hi hp hs; omega : i = 1 ∨ i = 2 ∨ i = 3 ∨ i = 4 ∨ i = 6) with rfl | rfl | rfl | rfl | rfl
      · skip
        exact ⟨⟨_, _, Tryz.func40, by kernel_rfl, rfl⟩, (unhide XN W).mono fun e w' q => ⟨c, fun _ _ => rfl, q.1, by rw [q.2]; exact hW⟩⟩
      · skip
        have f1 : (Instr.loadAt 24 (ptr (w.heap.size))).run Tryz.prog W = .ok (.agg #[I id, S cl, S su, v0, I cr, I us, I idl, I ab, I gr, I ge, I tk, I st, I en, I co]) W := s_ldr (T := 24) (n := 14) (fun _ => by kernel_rfl) (fun _ => by kernel_rfl) hW.2 (#[I id, S cl, S su, v0, I cr, I us, I idl, I ab, I gr, I ge, I tk, I st, I en, I co]).toList rfl rfl
        exact ⟨f1, hW⟩
      · skip
        exact ⟨⟨_, _, Tryz.func41, by kernel_rfl, rfl⟩, (unhide XE W).mono fun e w' q => ⟨c, fun _ _ => rfl, q.1, hW.1.trans (q.2.mono hW.1.size), (q.2.block _ (lt_of_row hW.2)).trans hW.2⟩⟩
      · skip
        have f0 : (do eqGuard .sub 3 (.tmp 13) (.tmp 15) (I T) (I E); binOp .sub 3 (I T) (I E) : Sem Value).run Tryz.prog W = .ok (I (T - E)) W := by
          have q : (do eqGuard .sub 3 (.tmp 13) (.tmp 15) (I T) (I E); binOp .sub 3 (I T) (I E) : Sem Value).run Tryz.prog W = .ok (I (IntKind.i64.wrap (T - E))) W := by kernel_rfl
          rw [q, show IntKind.i64.wrap (T - E) = T - E by rw [IntKind.wrap_i64]; omega]
        exact ⟨⟨_, rfl, f0⟩, hW⟩
      · skip
        exact ⟨⟨_, _, Tryz.func40, by kernel_rfl, rfl⟩, (unhide XR W).mono fun e w' q => ⟨c, fun _ _ => rfl, q.1, by rw [q.2]; exact hW⟩⟩
    intro c L W2 hall hW
    simp only [frmL, ov13T, ov13V, Act.put, List.setIfInBounds_toArray, List.set_cons_succ, List.set_cons_zero]
    have HB2 := hide hW.1
    clear hW hall HB HRf XE XN XR
    go_wp2
    go_ret
    rw [unhide HA2]
    exact ⟨rfl, unhide HB2⟩
  · have HA2 := hide (show O = false by rw [unhide HA]; rfl)
    clear HA XE XN XR
    go_wp2
    go_ret
    rw [unhide HA2]
    exact ⟨rfl, unhide HB⟩
end Go.Proofs.YtmjaobddgaglhaaGreatDoor
/- The document's Judge; Copy. -/
namespace Go.Proofs.YtmjaobddgaglhaaGreatDoor
open Go.RowKit
set_option maxHeartbeats 4000000
set_option maxRecDepth 8000
theorem rjudge_any (id : Int) (cl su : Bs) (va : Option Addr) (vc : Nat) (sc : List Bs) (cr us idl ab gr ge tk st en co : Int) (ti fa tg : Int) (ha : Bs) (mi : Int) (sp : Bool) (at9 ne : Int) (se : Bs) (now : Int) (w : World) (h_cl : cl.length ≤ 9223372036854775807) (h_su : su.length ≤ 9223372036854775807) (hsc : Sts w va sc.length sc) (hsl : sc.length ≤ 140737488355000) (hln : Lns sc) : Calls Tryz.prog 9 #[.agg #[I id, S cl, S su, .slice va sc.length vc, I cr, I us, I idl, I ab, I gr, I ge, I tk, I st, I en, I co], .agg #[I ti, I fa, I tg, S ha, I mi, .bool sp, I at9, I ne, S se], I now] w fun e w' => e = .returned (I (jdg id cl su sc cr us idl ab gr ge tk st en co ti fa tg ha mi sp at9 ne se now)) ∧ Below w.heap.size w w' := by
  have hb : Below w.heap.size w ((w.alloc (.cells #[I id, S cl, S su, .slice va sc.length vc, I cr, I us, I idl, I ab, I gr, I ge, I tk, I st, I en, I co] 24)).alloc (.cells #[I ti, I fa, I tg, S ha, I mi, .bool sp, I at9, I ne, S se] 26)) := (((Below.refl _ w).alloc (by simp <;> omega) _).alloc (by simp <;> omega) _)
  have r0 : ((w.alloc (.cells #[I id, S cl, S su, .slice va sc.length vc, I cr, I us, I idl, I ab, I gr, I ge, I tk, I st, I en, I co] 24)).alloc (.cells #[I ti, I fa, I tg, S ha, I mi, .bool sp, I at9, I ne, S se] 26)).heap[w.heap.size]? = some (.cells #[I id, S cl, S su, .slice va sc.length vc, I cr, I us, I idl, I ab, I gr, I ge, I tk, I st, I en, I co] 24 (0, 0)) := al_old _ _ _ (by simp <;> omega) (al_new w (.cells #[I id, S cl, S su, .slice va sc.length vc, I cr, I us, I idl, I ab, I gr, I ge, I tk, I st, I en, I co] 24) (w.heap.size) (by simp))
  have r1 : ((w.alloc (.cells #[I id, S cl, S su, .slice va sc.length vc, I cr, I us, I idl, I ab, I gr, I ge, I tk, I st, I en, I co] 24)).alloc (.cells #[I ti, I fa, I tg, S ha, I mi, .bool sp, I at9, I ne, S se] 26)).heap[w.heap.size + 1]? = some (.cells #[I ti, I fa, I tg, S ha, I mi, .bool sp, I at9, I ne, S se] 26 (0, 0)) := al_new (w.alloc (.cells #[I id, S cl, S su, .slice va sc.length vc, I cr, I us, I idl, I ab, I gr, I ge, I tk, I st, I en, I co] 24)) (.cells #[I ti, I fa, I tg, S ha, I mi, .bool sp, I at9, I ne, S se] 26) (w.heap.size + 1) (by simp)
  generalize hW1 : ((w.alloc (.cells #[I id, S cl, S su, .slice va sc.length vc, I cr, I us, I idl, I ab, I gr, I ge, I tk, I st, I en, I co] 24)).alloc (.cells #[I ti, I fa, I tg, S ha, I mi, .bool sp, I at9, I ne, S se] 26)) = W1 at *
  have c0_0 : W1.cell? ⟨w.heap.size, 0, none⟩ = some (I id) := cellr r0 rfl
  have c0_1 : W1.cell? ⟨w.heap.size, 1, none⟩ = some (S cl) := cellr r0 rfl
  have c0_2 : W1.cell? ⟨w.heap.size, 2, none⟩ = some (S su) := cellr r0 rfl
  have c0_3 : W1.cell? ⟨w.heap.size, 3, none⟩ = some (.slice va sc.length vc) := cellr r0 rfl
  have c0_4 : W1.cell? ⟨w.heap.size, 4, none⟩ = some (I cr) := cellr r0 rfl
  have c0_5 : W1.cell? ⟨w.heap.size, 5, none⟩ = some (I us) := cellr r0 rfl
  have c0_6 : W1.cell? ⟨w.heap.size, 6, none⟩ = some (I idl) := cellr r0 rfl
  have c0_7 : W1.cell? ⟨w.heap.size, 7, none⟩ = some (I ab) := cellr r0 rfl
  have c0_8 : W1.cell? ⟨w.heap.size, 8, none⟩ = some (I gr) := cellr r0 rfl
  have c0_9 : W1.cell? ⟨w.heap.size, 9, none⟩ = some (I ge) := cellr r0 rfl
  have c0_10 : W1.cell? ⟨w.heap.size, 10, none⟩ = some (I tk) := cellr r0 rfl
  have c0_11 : W1.cell? ⟨w.heap.size, 11, none⟩ = some (I st) := cellr r0 rfl
  have c0_12 : W1.cell? ⟨w.heap.size, 12, none⟩ = some (I en) := cellr r0 rfl
  have c0_13 : W1.cell? ⟨w.heap.size, 13, none⟩ = some (I co) := cellr r0 rfl
  have c1_0 : W1.cell? ⟨w.heap.size + 1, 0, none⟩ = some (I ti) := cellr r1 rfl
  have c1_1 : W1.cell? ⟨w.heap.size + 1, 1, none⟩ = some (I fa) := cellr r1 rfl
  have c1_2 : W1.cell? ⟨w.heap.size + 1, 2, none⟩ = some (I tg) := cellr r1 rfl
  have c1_3 : W1.cell? ⟨w.heap.size + 1, 3, none⟩ = some (S ha) := cellr r1 rfl
  have c1_4 : W1.cell? ⟨w.heap.size + 1, 4, none⟩ = some (I mi) := cellr r1 rfl
  have c1_5 : W1.cell? ⟨w.heap.size + 1, 5, none⟩ = some (.bool sp) := cellr r1 rfl
  have c1_6 : W1.cell? ⟨w.heap.size + 1, 6, none⟩ = some (I at9) := cellr r1 rfl
  have c1_7 : W1.cell? ⟨w.heap.size + 1, 7, none⟩ = some (I ne) := cellr r1 rfl
  have c1_8 : W1.cell? ⟨w.heap.size + 1, 8, none⟩ = some (S se) := cellr r1 rfl
  have HB := hide hb
  have HR0 := hide r0
  have HR1 := hide r1
  clear hb r0 r1
  have XF := hide (fun W (h : Below w.heap.size w W) => rMay75 id cl su va vc sc cr us idl ab gr ge tk st en co W h_cl h_su (hsc.below h) hsl hln)
  have XT := hide (fun W => rMay97 ti fa tg ha mi sp at9 ne se W)
  have XA := hide (fun W => ralive_any id cl su va vc sc cr us idl ab gr ge tk st en co now W)
  have XW := hide (fun W => rwithin_any now at9 gr W)
  have HJ : Hid (jdg id cl su sc cr us idl ab gr ge tk st en co ti fa tg ha mi sp at9 ne se now = jd (famOK id cl su sc cr us idl ab gr ge tk st en co) (tokOK ti fa tg ha mi sp at9 ne se) (fa == id) (st == 1) (alv cr us idl ab st en now) sp (wtn now at9 gr) (ti == tk) (tg == ge)) := hide rfl
  generalize jdg id cl su sc cr us idl ab gr ge tk st en co ti fa tg ha mi sp at9 ne se now = J at *
  generalize famOK id cl su sc cr us idl ab gr ge tk st en co = b0 at *
  generalize tokOK ti fa tg ha mi sp at9 ne se = b1 at *
  generalize alv cr us idl ab st en now = b4 at *
  generalize wtn now at9 gr = b6 at *
  clear hsc hln h_cl h_su hsl
  go_enter Tryz.func9, Tryz.ntmps9
  go_wp2_with fail
  refine (unhide XF W1 (unhide HB)).mono ?_
  rintro e w2 ⟨rfl, h2⟩
  have hbB := (unhide HB).trans (h2.mono (unhide HB).size)
  have r0 := (h2.block _ (lt_of_row (unhide HR0))).trans (unhide HR0)
  have r1 := (h2.block _ (lt_of_row (unhide HR1))).trans (unhide HR1)
  clear h2 HB HR0 HR1 c0_0 c0_1 c0_2 c0_3 c0_4 c0_5 c0_6 c0_7 c0_8 c0_9 c0_10 c0_11 c0_12 c0_13 c1_0 c1_1 c1_2 c1_3 c1_4 c1_5 c1_6 c1_7 c1_8 hW1
  have c0_0 : w2.cell? ⟨w.heap.size, 0, none⟩ = some (I id) := cellr r0 rfl
  have c0_1 : w2.cell? ⟨w.heap.size, 1, none⟩ = some (S cl) := cellr r0 rfl
  have c0_2 : w2.cell? ⟨w.heap.size, 2, none⟩ = some (S su) := cellr r0 rfl
  have c0_3 : w2.cell? ⟨w.heap.size, 3, none⟩ = some (.slice va sc.length vc) := cellr r0 rfl
  have c0_4 : w2.cell? ⟨w.heap.size, 4, none⟩ = some (I cr) := cellr r0 rfl
  have c0_5 : w2.cell? ⟨w.heap.size, 5, none⟩ = some (I us) := cellr r0 rfl
  have c0_6 : w2.cell? ⟨w.heap.size, 6, none⟩ = some (I idl) := cellr r0 rfl
  have c0_7 : w2.cell? ⟨w.heap.size, 7, none⟩ = some (I ab) := cellr r0 rfl
  have c0_8 : w2.cell? ⟨w.heap.size, 8, none⟩ = some (I gr) := cellr r0 rfl
  have c0_9 : w2.cell? ⟨w.heap.size, 9, none⟩ = some (I ge) := cellr r0 rfl
  have c0_10 : w2.cell? ⟨w.heap.size, 10, none⟩ = some (I tk) := cellr r0 rfl
  have c0_11 : w2.cell? ⟨w.heap.size, 11, none⟩ = some (I st) := cellr r0 rfl
  have c0_12 : w2.cell? ⟨w.heap.size, 12, none⟩ = some (I en) := cellr r0 rfl
  have c0_13 : w2.cell? ⟨w.heap.size, 13, none⟩ = some (I co) := cellr r0 rfl
  have c1_0 : w2.cell? ⟨w.heap.size + 1, 0, none⟩ = some (I ti) := cellr r1 rfl
  have c1_1 : w2.cell? ⟨w.heap.size + 1, 1, none⟩ = some (I fa) := cellr r1 rfl
  have c1_2 : w2.cell? ⟨w.heap.size + 1, 2, none⟩ = some (I tg) := cellr r1 rfl
  have c1_3 : w2.cell? ⟨w.heap.size + 1, 3, none⟩ = some (S ha) := cellr r1 rfl
  have c1_4 : w2.cell? ⟨w.heap.size + 1, 4, none⟩ = some (I mi) := cellr r1 rfl
  have c1_5 : w2.cell? ⟨w.heap.size + 1, 5, none⟩ = some (.bool sp) := cellr r1 rfl
  have c1_6 : w2.cell? ⟨w.heap.size + 1, 6, none⟩ = some (I at9) := cellr r1 rfl
  have c1_7 : w2.cell? ⟨w.heap.size + 1, 7, none⟩ = some (I ne) := cellr r1 rfl
  have c1_8 : w2.cell? ⟨w.heap.size + 1, 8, none⟩ = some (S se) := cellr r1 rfl
  have HB := hide hbB
  have HR0 := hide r0
  have HR1 := hide r1
  clear hbB r0 r1
  clear XF
  go_wp2_with fail
  refine (unhide XT w2).mono ?_
  rintro e w3 ⟨rfl, h3⟩
  have hbB := (unhide HB).trans (h3.mono (unhide HB).size)
  have r0 := (h3.block _ (lt_of_row (unhide HR0))).trans (unhide HR0)
  have r1 := (h3.block _ (lt_of_row (unhide HR1))).trans (unhide HR1)
  clear h3 HB HR0 HR1 c0_0 c0_1 c0_2 c0_3 c0_4 c0_5 c0_6 c0_7 c0_8 c0_9 c0_10 c0_11 c0_12 c0_13 c1_0 c1_1 c1_2 c1_3 c1_4 c1_5 c1_6 c1_7 c1_8 
  have c0_0 : w3.cell? ⟨w.heap.size, 0, none⟩ = some (I id) := cellr r0 rfl
  have c0_1 : w3.cell? ⟨w.heap.size, 1, none⟩ = some (S cl) := cellr r0 rfl
  have c0_2 : w3.cell? ⟨w.heap.size, 2, none⟩ = some (S su) := cellr r0 rfl
  have c0_3 : w3.cell? ⟨w.heap.size, 3, none⟩ = some (.slice va sc.length vc) := cellr r0 rfl
  have c0_4 : w3.cell? ⟨w.heap.size, 4, none⟩ = some (I cr) := cellr r0 rfl
  have c0_5 : w3.cell? ⟨w.heap.size, 5, none⟩ = some (I us) := cellr r0 rfl
  have c0_6 : w3.cell? ⟨w.heap.size, 6, none⟩ = some (I idl) := cellr r0 rfl
  have c0_7 : w3.cell? ⟨w.heap.size, 7, none⟩ = some (I ab) := cellr r0 rfl
  have c0_8 : w3.cell? ⟨w.heap.size, 8, none⟩ = some (I gr) := cellr r0 rfl
  have c0_9 : w3.cell? ⟨w.heap.size, 9, none⟩ = some (I ge) := cellr r0 rfl
  have c0_10 : w3.cell? ⟨w.heap.size, 10, none⟩ = some (I tk) := cellr r0 rfl
  have c0_11 : w3.cell? ⟨w.heap.size, 11, none⟩ = some (I st) := cellr r0 rfl
  have c0_12 : w3.cell? ⟨w.heap.size, 12, none⟩ = some (I en) := cellr r0 rfl
  have c0_13 : w3.cell? ⟨w.heap.size, 13, none⟩ = some (I co) := cellr r0 rfl
  have c1_0 : w3.cell? ⟨w.heap.size + 1, 0, none⟩ = some (I ti) := cellr r1 rfl
  have c1_1 : w3.cell? ⟨w.heap.size + 1, 1, none⟩ = some (I fa) := cellr r1 rfl
  have c1_2 : w3.cell? ⟨w.heap.size + 1, 2, none⟩ = some (I tg) := cellr r1 rfl
  have c1_3 : w3.cell? ⟨w.heap.size + 1, 3, none⟩ = some (S ha) := cellr r1 rfl
  have c1_4 : w3.cell? ⟨w.heap.size + 1, 4, none⟩ = some (I mi) := cellr r1 rfl
  have c1_5 : w3.cell? ⟨w.heap.size + 1, 5, none⟩ = some (.bool sp) := cellr r1 rfl
  have c1_6 : w3.cell? ⟨w.heap.size + 1, 6, none⟩ = some (I at9) := cellr r1 rfl
  have c1_7 : w3.cell? ⟨w.heap.size + 1, 7, none⟩ = some (I ne) := cellr r1 rfl
  have c1_8 : w3.cell? ⟨w.heap.size + 1, 8, none⟩ = some (S se) := cellr r1 rfl
  have HB := hide hbB
  have HR0 := hide r0
  have HR1 := hide r1
  clear hbB r0 r1
  clear XT
  cases b0
  · skip
    go_wp2
    go_ret
    exact ⟨by rw [unhide HJ]; rfl, unhide HB⟩
  · skip
    cases b1
    · skip
      go_wp2
      go_ret
      exact ⟨by rw [unhide HJ]; rfl, unhide HB⟩
    · skip
      cases hq2 : (fa == id)
      · skip
        have g2 : (fa != id) = true := by simp [bne, hq2]
        rw [hq2] at HJ
        clear hq2
        go_wp2
        go_ret
        exact ⟨by rw [unhide HJ]; rfl, unhide HB⟩
      · skip
        have g2 : (fa != id) = false := by simp [bne, hq2]
        rw [hq2] at HJ
        clear hq2
        cases hq3 : (st == 1)
        · skip
          have g3 : (st != 1) = true := by simp [bne, hq3]
          rw [hq3] at HJ
          clear hq3
          go_wp2
          go_ret
          exact ⟨by rw [unhide HJ]; rfl, unhide HB⟩
        · skip
          have g3 : (st != 1) = false := by simp [bne, hq3]
          rw [hq3] at HJ
          clear hq3
          go_wp2_with fail
          refine (unhide XA w3).mono ?_
          rintro e w4 ⟨rfl, h4⟩
          have hbB := (unhide HB).trans (h4.mono (unhide HB).size)
          have r0 := (h4.block _ (lt_of_row (unhide HR0))).trans (unhide HR0)
          have r1 := (h4.block _ (lt_of_row (unhide HR1))).trans (unhide HR1)
          clear h4 HB HR0 HR1 c0_0 c0_1 c0_2 c0_3 c0_4 c0_5 c0_6 c0_7 c0_8 c0_9 c0_10 c0_11 c0_12 c0_13 c1_0 c1_1 c1_2 c1_3 c1_4 c1_5 c1_6 c1_7 c1_8 
          have c0_8 : w4.cell? ⟨w.heap.size, 8, none⟩ = some (I gr) := cellr r0 rfl
          have c0_9 : w4.cell? ⟨w.heap.size, 9, none⟩ = some (I ge) := cellr r0 rfl
          have c0_10 : w4.cell? ⟨w.heap.size, 10, none⟩ = some (I tk) := cellr r0 rfl
          have c1_0 : w4.cell? ⟨w.heap.size + 1, 0, none⟩ = some (I ti) := cellr r1 rfl
          have c1_2 : w4.cell? ⟨w.heap.size + 1, 2, none⟩ = some (I tg) := cellr r1 rfl
          have c1_5 : w4.cell? ⟨w.heap.size + 1, 5, none⟩ = some (.bool sp) := cellr r1 rfl
          have c1_6 : w4.cell? ⟨w.heap.size + 1, 6, none⟩ = some (I at9) := cellr r1 rfl
          have HB := hide hbB
          have HR0 := hide r0
          have HR1 := hide r1
          clear hbB r0 r1
          clear XA
          cases b4
          · skip
            go_wp2
            go_ret
            exact ⟨by rw [unhide HJ]; rfl, unhide HB⟩
          · skip
            cases sp
            · skip
              cases hq7 : (ti == tk)
              · skip
                rw [hq7] at HJ
                go_wp2
                go_ret
                exact ⟨by rw [unhide HJ]; rfl, unhide HB⟩
              · skip
                rw [hq7] at HJ
                cases hq8 : (tg == ge)
                · skip
                  rw [hq8] at HJ
                  go_wp2
                  go_ret
                  exact ⟨by rw [unhide HJ]; rfl, unhide HB⟩
                · skip
                  rw [hq8] at HJ
                  go_wp2
                  go_ret
                  exact ⟨by rw [unhide HJ]; rfl, unhide HB⟩
            · skip
              go_wp2_with fail
              refine (unhide XW w4).mono ?_
              rintro e w5 ⟨rfl, hw5⟩
              rw [hw5]
              clear hw5 XW
              cases b6
              · skip
                go_wp2
                go_ret
                exact ⟨by rw [unhide HJ]; rfl, unhide HB⟩
              · skip
                go_wp2
                go_ret
                exact ⟨by rw [unhide HJ]; rfl, unhide HB⟩
theorem rcopy_any (id : Int) (cl su : Bs) (va : Option Addr) (vc : Nat) (sc : List Bs) (cr us idl ab gr ge tk st en co : Int) (w : World) (hsc : Sts w va sc.length sc) (hs : Shn sc) : Calls Tryz.prog 46 #[.agg #[I id, S cl, S su, .slice va sc.length vc, I cr, I us, I idl, I ab, I gr, I ge, I tk, I st, I en, I co]] w (OutF w sc fun v => #[I id, S cl, S su, v, I cr, I us, I idl, I ab, I gr, I ge, I tk, I st, I en, I co]) := by
  have hb : Below w.heap.size w ((w.alloc (.cells #[I id, S cl, S su, .slice va sc.length vc, I cr, I us, I idl, I ab, I gr, I ge, I tk, I st, I en, I co] 24)).alloc (.cells #[I 0, S [], S [], .slice none 0 0, I 0, I 0, I 0, I 0, I 0, I 0, I 0, I 0, I 0, I 0] 24)) := (((Below.refl _ w).alloc (by simp <;> omega) _).alloc (by simp <;> omega) _)
  have rf : ((w.alloc (.cells #[I id, S cl, S su, .slice va sc.length vc, I cr, I us, I idl, I ab, I gr, I ge, I tk, I st, I en, I co] 24)).alloc (.cells #[I 0, S [], S [], .slice none 0 0, I 0, I 0, I 0, I 0, I 0, I 0, I 0, I 0, I 0, I 0] 24)).heap[w.heap.size]? = some (.cells #[I id, S cl, S su, .slice va sc.length vc, I cr, I us, I idl, I ab, I gr, I ge, I tk, I st, I en, I co] 24 (0, 0)) := al_old _ _ _ (by simp <;> omega) (al_new w (.cells #[I id, S cl, S su, .slice va sc.length vc, I cr, I us, I idl, I ab, I gr, I ge, I tk, I st, I en, I co] 24) (w.heap.size) (by simp))
  have rr : ((w.alloc (.cells #[I id, S cl, S su, .slice va sc.length vc, I cr, I us, I idl, I ab, I gr, I ge, I tk, I st, I en, I co] 24)).alloc (.cells #[I 0, S [], S [], .slice none 0 0, I 0, I 0, I 0, I 0, I 0, I 0, I 0, I 0, I 0, I 0] 24)).heap[w.heap.size + 1]? = some (.cells #[I 0, S [], S [], .slice none 0 0, I 0, I 0, I 0, I 0, I 0, I 0, I 0, I 0, I 0, I 0] 24 (0, 0)) := al_new (w.alloc (.cells #[I id, S cl, S su, .slice va sc.length vc, I cr, I us, I idl, I ab, I gr, I ge, I tk, I st, I en, I co] 24)) (.cells #[I 0, S [], S [], .slice none 0 0, I 0, I 0, I 0, I 0, I 0, I 0, I 0, I 0, I 0, I 0] 24) (w.heap.size + 1) (by simp)
  generalize hW1 : ((w.alloc (.cells #[I id, S cl, S su, .slice va sc.length vc, I cr, I us, I idl, I ab, I gr, I ge, I tk, I st, I en, I co] 24)).alloc (.cells #[I 0, S [], S [], .slice none 0 0, I 0, I 0, I 0, I 0, I 0, I 0, I 0, I 0, I 0, I 0] 24)) = W1 at *
  have cf_0 : W1.cell? ⟨w.heap.size, 0, none⟩ = some (I id) := cellr rf rfl
  have cf_1 : W1.cell? ⟨w.heap.size, 1, none⟩ = some (S cl) := cellr rf rfl
  have cf_2 : W1.cell? ⟨w.heap.size, 2, none⟩ = some (S su) := cellr rf rfl
  have cf_3 : W1.cell? ⟨w.heap.size, 3, none⟩ = some (.slice va sc.length vc) := cellr rf rfl
  have cf_4 : W1.cell? ⟨w.heap.size, 4, none⟩ = some (I cr) := cellr rf rfl
  have cf_5 : W1.cell? ⟨w.heap.size, 5, none⟩ = some (I us) := cellr rf rfl
  have cf_6 : W1.cell? ⟨w.heap.size, 6, none⟩ = some (I idl) := cellr rf rfl
  have cf_7 : W1.cell? ⟨w.heap.size, 7, none⟩ = some (I ab) := cellr rf rfl
  have cf_8 : W1.cell? ⟨w.heap.size, 8, none⟩ = some (I gr) := cellr rf rfl
  have cf_9 : W1.cell? ⟨w.heap.size, 9, none⟩ = some (I ge) := cellr rf rfl
  have cf_10 : W1.cell? ⟨w.heap.size, 10, none⟩ = some (I tk) := cellr rf rfl
  have cf_11 : W1.cell? ⟨w.heap.size, 11, none⟩ = some (I st) := cellr rf rfl
  have cf_12 : W1.cell? ⟨w.heap.size, 12, none⟩ = some (I en) := cellr rf rfl
  have cf_13 : W1.cell? ⟨w.heap.size, 13, none⟩ = some (I co) := cellr rf rfl
  have HB := hide hb
  have HRf := hide rf
  have HRr := hide rr
  clear hb rf rr
  have HN := hide (fun W (h : Below w.heap.size w W) => copied_any va sc.length vc sc W (hsc.below h) hs)
  clear hsc hs
  have HX := hide (unhide HN W1 (unhide HB))
  clear HN
  go_enter Tryz.func46, Tryz.ntmps46
  go_wp2_with fail
  refine (unhide HX).mono ?_
  rintro e w2 ⟨a, cap, rfl, ho, h2⟩
  have HO := hide ho
  have hs1 := (unhide HB).size
  have hl1 := lt_of_row (unhide HRf)
  have hl2 := lt_of_row (unhide HRr)
  clear HX ho
  have hbB := (unhide HB).trans (h2.mono (unhide HB).size)
  have rf := (h2.block _ (lt_of_row (unhide HRf))).trans (unhide HRf)
  have rr := (h2.block _ (lt_of_row (unhide HRr))).trans (unhide HRr)
  clear h2 HB HRf HRr cf_0 cf_1 cf_2 cf_3 cf_4 cf_5 cf_6 cf_7 cf_8 cf_9 cf_10 cf_11 cf_12 cf_13 hW1
  have HB := hide hbB
  have HRf := hide rf
  have HRr := hide rr
  clear hbB rf rr
  clear hs1
  go_upto_region 2 with (refine wp_stC (T := 22) (fun _ => by kernel_rfl) rfl (.tmp 6) (.tmp 5) rfl w.heap.size 3 (by rfl) (.slice a sc.length cap) (by rfl) rfl rfl #[I id, S cl, S su, .slice va sc.length vc, I cr, I us, I idl, I ab, I gr, I ge, I tk, I st, I en, I co] 24 (unhide HRf) (by simp) #[I id, S cl, S su, .slice a sc.length cap, I cr, I us, I idl, I ab, I gr, I ge, I tk, I st, I en, I co] rfl ?_; generalize hW3 : w2.setRow w.heap.size #[I id, S cl, S su, .slice a sc.length cap, I cr, I us, I idl, I ab, I gr, I ge, I tk, I st, I en, I co] = W3)
  have rf : W3.heap[w.heap.size]? = some (.cells #[I id, S cl, S su, .slice a sc.length cap, I cr, I us, I idl, I ab, I gr, I ge, I tk, I st, I en, I co] 24 (0, 0)) := by rw [← hW3]; exact setRow_row (unhide HRf)
  have rr : W3.heap[w.heap.size + 1]? = some (.cells #[I 0, S [], S [], .slice none 0 0, I 0, I 0, I 0, I 0, I 0, I 0, I 0, I 0, I 0, I 0] 24 (0, 0)) := by rw [← hW3]; exact row_set (unhide HRr) (by omega)
  have hb3 : Below w.heap.size w W3 := by rw [← hW3]; exact bel_set (unhide HB) _ _ (Nat.le_refl _) (unhide HB).size
  have ho3 : OwnS W1.heap.size W3 (.slice a sc.length cap) sc := by rw [← hW3]; exact own_set (unhide HO) _ _ hl1
  clear hW3 HB HRf HRr HO
  have d0 : W3.cell? ⟨w.heap.size, 0, none⟩ = some (I id) := cellr rf rfl
  have d1 : W3.cell? ⟨w.heap.size, 1, none⟩ = some (S cl) := cellr rf rfl
  have d2 : W3.cell? ⟨w.heap.size, 2, none⟩ = some (S su) := cellr rf rfl
  have d3 : W3.cell? ⟨w.heap.size, 3, none⟩ = some (.slice a sc.length cap) := cellr rf rfl
  have d4 : W3.cell? ⟨w.heap.size, 4, none⟩ = some (I cr) := cellr rf rfl
  have d5 : W3.cell? ⟨w.heap.size, 5, none⟩ = some (I us) := cellr rf rfl
  have d6 : W3.cell? ⟨w.heap.size, 6, none⟩ = some (I idl) := cellr rf rfl
  have d7 : W3.cell? ⟨w.heap.size, 7, none⟩ = some (I ab) := cellr rf rfl
  have d8 : W3.cell? ⟨w.heap.size, 8, none⟩ = some (I gr) := cellr rf rfl
  have d9 : W3.cell? ⟨w.heap.size, 9, none⟩ = some (I ge) := cellr rf rfl
  have d10 : W3.cell? ⟨w.heap.size, 10, none⟩ = some (I tk) := cellr rf rfl
  have d11 : W3.cell? ⟨w.heap.size, 11, none⟩ = some (I st) := cellr rf rfl
  have d12 : W3.cell? ⟨w.heap.size, 12, none⟩ = some (I en) := cellr rf rfl
  have d13 : W3.cell? ⟨w.heap.size, 13, none⟩ = some (I co) := cellr rf rfl
  have HB := hide hb3
  have HRr := hide rr
  have HO := hide ho3
  clear hb3 rr ho3 rf
  go_wp2_with (refine wp_stA inf24 rfl (.tmp 2) (.tmp 7) rfl (w.heap.size + 1) (by rfl) #[I id, S cl, S su, .slice a sc.length cap, I cr, I us, I idl, I ab, I gr, I ge, I tk, I st, I en, I co] (by rfl) #[I 0, S [], S [], .slice none 0 0, I 0, I 0, I 0, I 0, I 0, I 0, I 0, I 0, I 0, I 0] rfl rfl (unhide HRr) (by simp [Value.oneCell']) ?_)
  refine out1c (T := 24) (n := 14) (p := 2) (cs := #[I id, S cl, S su, .slice a sc.length cap, I cr, I us, I idl, I ab, I gr, I ge, I tk, I st, I en, I co]) (fun _ => by kernel_rfl) (fun _ => by kernel_rfl) (Z := w.heap.size + 1) (by rfl) (by rfl) (by rfl) (setRow_row (unhide HRr)) (by rfl) ?_
  exact ⟨a, cap, rfl, (own_set (unhide HO) _ _ hl2).below (Below.refl _ _) (by omega), bel_set (unhide HB) _ _ (by omega) (unhide HB).size⟩
end Go.Proofs.YtmjaobddgaglhaaGreatDoor
/- The document's Rotate. -/
namespace Go.Proofs.YtmjaobddgaglhaaGreatDoor
open Go.RowKit
set_option maxHeartbeats 4000000
set_option maxRecDepth 8000
def rr16T : List (Op × Option Tmp × Option (Nat × Bool)) := [
  (.load 24 (.tmp 17), some 75, none),
  (.load 26 (.tmp 6), some 76, none),
  (.move (.tmp 2), some 77, none),
  (.fieldAddr 24 (.tmp 5) 0, some 78, none),
  (.load 3 (.tmp 78), some 79, none),
  (.fieldAddr 24 (.tmp 17) 9, some 80, none),
  (.load 3 (.tmp 80), some 81, none),
  (.move (.tmp 3), some 82, none),
  (.move (.tmp 16), some 83, none),
  (.call { callee := .value (.func 47), args := #[(.tmp 77), (.tmp 79), (.tmp 81), (.tmp 82), (.tmp 83)], argTypes := #[3, 3, 3, 9, 3] }, some 84, none),
  (.store 24 (.tmp 10) (.tmp 75), none, none),
  (.store 26 (.tmp 11) (.tmp 76), none, none),
  (.store 26 (.tmp 12) (.tmp 84), none, none),
  (.assign (.const (I 0)), some 13, none)]
def rr16V (X D : Nat) (F T U : Array Value) (nx id ge tm : Int) (s : Bs) (_ : Unit) : Nat → Value
  | 0 => .agg F
  | 1 => .agg T
  | 2 => I nx
  | 3 => .pointer (some ⟨X, 0, none⟩)
  | 4 => I id
  | 5 => .pointer (some ⟨D, 9, none⟩)
  | 6 => I (ge + 1)
  | 7 => S s
  | 8 => I tm
  | 9 => .agg U
  | 10 => undef
  | 11 => undef
  | 12 => undef
  | 13 => I 0
  | _ => undef
structure WRR (w : World) (X D M : Nat) (Kf Kt Kg Za Zb Zd : Array Value) (Va Vb Vd : Value → Array Value) (u : List Bs) (c : Value) (L : Nat → Bool) (W : World) : Prop where
  be : Below X w W
  kf : W.heap[X]? = some (.cells Kf 24 (0, 0))
  kt : W.heap[X + 1]? = some (.cells Kt 26 (0, 0))
  kg : W.heap[D]? = some (.cells Kg 24 (0, 0))
  oa : W.heap[X + 2]? = some (.cells (if L 10 then Va c else Za) 24 (0, 0))
  ob : W.heap[X + 3]? = some (.cells (if L 11 then Vb c else Zb) 26 (0, 0))
  od : W.heap[X + 4]? = some (.cells (if L 12 then Vd c else Zd) 26 (0, 0))
  own : OwnS M W c u
  sz : M ≤ W.heap.size
  xm : X + 5 ≤ M
  dm : X + 5 ≤ D
theorem WRR.pure {w : World} {X D M : Nat} {Kf Kt Kg Za Zb Zd : Array Value} {Va Vb Vd : Value → Array Value} {u : List Bs} {c : Value} {L : Nat → Bool} {W : World} (h : WRR w X D M Kf Kt Kg Za Zb Zd Va Vb Vd u c L W) (i : Nat) (h10 : i ≠ 10) (h11 : i ≠ 11) (h12 : i ≠ 12) : WRR w X D M Kf Kt Kg Za Zb Zd Va Vb Vd u c (upd L i) W :=
  ⟨h.be, h.kf, h.kt, h.kg, by rw [upd_ne (fun q => h10 q.symm)]; exact h.oa, by rw [upd_ne (fun q => h11 q.symm)]; exact h.ob, by rw [upd_ne (fun q => h12 q.symm)]; exact h.od, h.own, h.sz, h.xm, h.dm⟩
theorem WRR.call {w : World} {X D M : Nat} {Kf Kt Kg Za Zb Zd : Array Value} {Va Vb Vd : Value → Array Value} {u : List Bs} {c : Value} {L : Nat → Bool} {W : World} {W2 : World} (h : WRR w X D M Kf Kt Kg Za Zb Zd Va Vb Vd u c L W) (hb : Below W.heap.size W W2) : WRR w X D M Kf Kt Kg Za Zb Zd Va Vb Vd u c L W2 :=
  ⟨h.be.trans (hb.mono (by have := h.xm; have := h.sz; omega)), (hb.block _ (lt_of_row h.kf)).trans h.kf, (hb.block _ (lt_of_row h.kt)).trans h.kt, (hb.block _ (lt_of_row h.kg)).trans h.kg, (hb.block _ (lt_of_row h.oa)).trans h.oa, (hb.block _ (lt_of_row h.ob)).trans h.ob, (hb.block _ (lt_of_row h.od)).trans h.od, h.own.below hb (Nat.le_refl _), Nat.le_trans h.sz hb.size, h.xm, h.dm⟩
theorem WRR.puta {w : World} {X D M : Nat} {Kf Kt Kg Za Zb Zd : Array Value} {Va Vb Vd : Value → Array Value} {u : List Bs} {c : Value} {L : Nat → Bool} {W : World} (h : WRR w X D M Kf Kt Kg Za Zb Zd Va Vb Vd u c L W) : WRR w X D M Kf Kt Kg Za Zb Zd Va Vb Vd u c (upd L 10) (W.setRow (X + 2) (Va c)) :=
  ⟨bel_set h.be _ _ (by have := h.xm; have := h.dm; omega) (by have := h.xm; have := h.sz; omega), row_set h.kf (by have := h.xm; have := h.dm; omega), row_set h.kt (by have := h.xm; have := h.dm; omega), row_set h.kg (by have := h.xm; have := h.dm; omega), by rw [upd_eq]; exact setRow_row h.oa, by rw [upd_ne (by decide)]; exact row_set h.ob (by have := h.xm; have := h.dm; omega), by rw [upd_ne (by decide)]; exact row_set h.od (by have := h.xm; have := h.dm; omega), own_set h.own _ _ (by have := h.xm; have := h.dm; omega), by simpa using h.sz, h.xm, h.dm⟩
theorem WRR.putb {w : World} {X D M : Nat} {Kf Kt Kg Za Zb Zd : Array Value} {Va Vb Vd : Value → Array Value} {u : List Bs} {c : Value} {L : Nat → Bool} {W : World} (h : WRR w X D M Kf Kt Kg Za Zb Zd Va Vb Vd u c L W) : WRR w X D M Kf Kt Kg Za Zb Zd Va Vb Vd u c (upd L 11) (W.setRow (X + 3) (Vb c)) :=
  ⟨bel_set h.be _ _ (by have := h.xm; have := h.dm; omega) (by have := h.xm; have := h.sz; omega), row_set h.kf (by have := h.xm; have := h.dm; omega), row_set h.kt (by have := h.xm; have := h.dm; omega), row_set h.kg (by have := h.xm; have := h.dm; omega), by rw [upd_ne (by decide)]; exact row_set h.oa (by have := h.xm; have := h.dm; omega), by rw [upd_eq]; exact setRow_row h.ob, by rw [upd_ne (by decide)]; exact row_set h.od (by have := h.xm; have := h.dm; omega), own_set h.own _ _ (by have := h.xm; have := h.dm; omega), by simpa using h.sz, h.xm, h.dm⟩
theorem WRR.putd {w : World} {X D M : Nat} {Kf Kt Kg Za Zb Zd : Array Value} {Va Vb Vd : Value → Array Value} {u : List Bs} {c : Value} {L : Nat → Bool} {W : World} (h : WRR w X D M Kf Kt Kg Za Zb Zd Va Vb Vd u c L W) : WRR w X D M Kf Kt Kg Za Zb Zd Va Vb Vd u c (upd L 12) (W.setRow (X + 4) (Vd c)) :=
  ⟨bel_set h.be _ _ (by have := h.xm; have := h.dm; omega) (by have := h.xm; have := h.sz; omega), row_set h.kf (by have := h.xm; have := h.dm; omega), row_set h.kt (by have := h.xm; have := h.dm; omega), row_set h.kg (by have := h.xm; have := h.dm; omega), by rw [upd_ne (by decide)]; exact row_set h.oa (by have := h.xm; have := h.dm; omega), by rw [upd_ne (by decide)]; exact row_set h.ob (by have := h.xm; have := h.dm; omega), by rw [upd_eq]; exact setRow_row h.od, own_set h.own _ _ (by have := h.xm; have := h.dm; omega), by simpa using h.sz, h.xm, h.dm⟩
theorem rrotate_any (id : Int) (cl su : Bs) (va : Option Addr) (vc : Nat) (sc : List Bs) (cr us idl ab gr ge tk st en co : Int) (ti fa tg : Int) (ha : Bs) (mi : Int) (sp : Bool) (at9 ne : Int) (se : Bs) (nx : Int) (s : Bs) (now : Int) (w : World) (h_cl : cl.length ≤ 9223372036854775807) (h_su : su.length ≤ 9223372036854775807) (hsc : Sts w va sc.length sc) (hsl : sc.length ≤ 140737488355000) (hln : Lns sc) (hsl9 : s.length ≤ 9223372036854775807) : Calls Tryz.prog 15 #[.agg #[I id, S cl, S su, .slice va sc.length vc, I cr, I us, I idl, I ab, I gr, I ge, I tk, I st, I en, I co], .agg #[I ti, I fa, I tg, S ha, I mi, .bool sp, I at9, I ne, S se], I nx, S s, I now] w (OutR w (rotE (jdg id cl su sc cr us idl ab gr ge tk st en co ti fa tg ha mi sp at9 ne se now) us mi (nr now) ge nx s) sc (fun v => #[I id, S cl, S su, v, I cr, I (nr now), I idl, I ab, I gr, I (ge + 1), I nx, I st, I en, I co]) #[I ti, I fa, I tg, S ha, I mi, .bool true, I (nr now), I nx, S s] #[I nx, I id, I (ge + 1), S (hsh nx s), I (nr now), .bool false, I 0, I 0, S []]) := by
  have hb : Below w.heap.size w (((((w.alloc (.cells #[I id, S cl, S su, .slice va sc.length vc, I cr, I us, I idl, I ab, I gr, I ge, I tk, I st, I en, I co] 24)).alloc (.cells #[I ti, I fa, I tg, S ha, I mi, .bool sp, I at9, I ne, S se] 26)).alloc (.cells #[I 0, S [], S [], .slice none 0 0, I 0, I 0, I 0, I 0, I 0, I 0, I 0, I 0, I 0, I 0] 24)).alloc (.cells #[I 0, I 0, I 0, S [], I 0, .bool false, I 0, I 0, S []] 26)).alloc (.cells #[I 0, I 0, I 0, S [], I 0, .bool false, I 0, I 0, S []] 26)) := ((((((Below.refl _ w).alloc (by simp <;> omega) _).alloc (by simp <;> omega) _).alloc (by simp <;> omega) _).alloc (by simp <;> omega) _).alloc (by simp <;> omega) _)
  have rf : (((((w.alloc (.cells #[I id, S cl, S su, .slice va sc.length vc, I cr, I us, I idl, I ab, I gr, I ge, I tk, I st, I en, I co] 24)).alloc (.cells #[I ti, I fa, I tg, S ha, I mi, .bool sp, I at9, I ne, S se] 26)).alloc (.cells #[I 0, S [], S [], .slice none 0 0, I 0, I 0, I 0, I 0, I 0, I 0, I 0, I 0, I 0, I 0] 24)).alloc (.cells #[I 0, I 0, I 0, S [], I 0, .bool false, I 0, I 0, S []] 26)).alloc (.cells #[I 0, I 0, I 0, S [], I 0, .bool false, I 0, I 0, S []] 26)).heap[w.heap.size]? = some (.cells #[I id, S cl, S su, .slice va sc.length vc, I cr, I us, I idl, I ab, I gr, I ge, I tk, I st, I en, I co] 24 (0, 0)) := al_old _ _ _ (by simp <;> omega) (al_old _ _ _ (by simp <;> omega) (al_old _ _ _ (by simp <;> omega) (al_old _ _ _ (by simp <;> omega) (al_new w (.cells #[I id, S cl, S su, .slice va sc.length vc, I cr, I us, I idl, I ab, I gr, I ge, I tk, I st, I en, I co] 24) (w.heap.size) (by simp)))))
  have rt : (((((w.alloc (.cells #[I id, S cl, S su, .slice va sc.length vc, I cr, I us, I idl, I ab, I gr, I ge, I tk, I st, I en, I co] 24)).alloc (.cells #[I ti, I fa, I tg, S ha, I mi, .bool sp, I at9, I ne, S se] 26)).alloc (.cells #[I 0, S [], S [], .slice none 0 0, I 0, I 0, I 0, I 0, I 0, I 0, I 0, I 0, I 0, I 0] 24)).alloc (.cells #[I 0, I 0, I 0, S [], I 0, .bool false, I 0, I 0, S []] 26)).alloc (.cells #[I 0, I 0, I 0, S [], I 0, .bool false, I 0, I 0, S []] 26)).heap[w.heap.size + 1]? = some (.cells #[I ti, I fa, I tg, S ha, I mi, .bool sp, I at9, I ne, S se] 26 (0, 0)) := al_old _ _ _ (by simp <;> omega) (al_old _ _ _ (by simp <;> omega) (al_old _ _ _ (by simp <;> omega) (al_new (w.alloc (.cells #[I id, S cl, S su, .slice va sc.length vc, I cr, I us, I idl, I ab, I gr, I ge, I tk, I st, I en, I co] 24)) (.cells #[I ti, I fa, I tg, S ha, I mi, .bool sp, I at9, I ne, S se] 26) (w.heap.size + 1) (by simp))))
  have ra : (((((w.alloc (.cells #[I id, S cl, S su, .slice va sc.length vc, I cr, I us, I idl, I ab, I gr, I ge, I tk, I st, I en, I co] 24)).alloc (.cells #[I ti, I fa, I tg, S ha, I mi, .bool sp, I at9, I ne, S se] 26)).alloc (.cells #[I 0, S [], S [], .slice none 0 0, I 0, I 0, I 0, I 0, I 0, I 0, I 0, I 0, I 0, I 0] 24)).alloc (.cells #[I 0, I 0, I 0, S [], I 0, .bool false, I 0, I 0, S []] 26)).alloc (.cells #[I 0, I 0, I 0, S [], I 0, .bool false, I 0, I 0, S []] 26)).heap[w.heap.size + 2]? = some (.cells #[I 0, S [], S [], .slice none 0 0, I 0, I 0, I 0, I 0, I 0, I 0, I 0, I 0, I 0, I 0] 24 (0, 0)) := al_old _ _ _ (by simp <;> omega) (al_old _ _ _ (by simp <;> omega) (al_new ((w.alloc (.cells #[I id, S cl, S su, .slice va sc.length vc, I cr, I us, I idl, I ab, I gr, I ge, I tk, I st, I en, I co] 24)).alloc (.cells #[I ti, I fa, I tg, S ha, I mi, .bool sp, I at9, I ne, S se] 26)) (.cells #[I 0, S [], S [], .slice none 0 0, I 0, I 0, I 0, I 0, I 0, I 0, I 0, I 0, I 0, I 0] 24) (w.heap.size + 2) (by simp)))
  have rb : (((((w.alloc (.cells #[I id, S cl, S su, .slice va sc.length vc, I cr, I us, I idl, I ab, I gr, I ge, I tk, I st, I en, I co] 24)).alloc (.cells #[I ti, I fa, I tg, S ha, I mi, .bool sp, I at9, I ne, S se] 26)).alloc (.cells #[I 0, S [], S [], .slice none 0 0, I 0, I 0, I 0, I 0, I 0, I 0, I 0, I 0, I 0, I 0] 24)).alloc (.cells #[I 0, I 0, I 0, S [], I 0, .bool false, I 0, I 0, S []] 26)).alloc (.cells #[I 0, I 0, I 0, S [], I 0, .bool false, I 0, I 0, S []] 26)).heap[w.heap.size + 3]? = some (.cells #[I 0, I 0, I 0, S [], I 0, .bool false, I 0, I 0, S []] 26 (0, 0)) := al_old _ _ _ (by simp <;> omega) (al_new (((w.alloc (.cells #[I id, S cl, S su, .slice va sc.length vc, I cr, I us, I idl, I ab, I gr, I ge, I tk, I st, I en, I co] 24)).alloc (.cells #[I ti, I fa, I tg, S ha, I mi, .bool sp, I at9, I ne, S se] 26)).alloc (.cells #[I 0, S [], S [], .slice none 0 0, I 0, I 0, I 0, I 0, I 0, I 0, I 0, I 0, I 0, I 0] 24)) (.cells #[I 0, I 0, I 0, S [], I 0, .bool false, I 0, I 0, S []] 26) (w.heap.size + 3) (by simp))
  have rd : (((((w.alloc (.cells #[I id, S cl, S su, .slice va sc.length vc, I cr, I us, I idl, I ab, I gr, I ge, I tk, I st, I en, I co] 24)).alloc (.cells #[I ti, I fa, I tg, S ha, I mi, .bool sp, I at9, I ne, S se] 26)).alloc (.cells #[I 0, S [], S [], .slice none 0 0, I 0, I 0, I 0, I 0, I 0, I 0, I 0, I 0, I 0, I 0] 24)).alloc (.cells #[I 0, I 0, I 0, S [], I 0, .bool false, I 0, I 0, S []] 26)).alloc (.cells #[I 0, I 0, I 0, S [], I 0, .bool false, I 0, I 0, S []] 26)).heap[w.heap.size + 4]? = some (.cells #[I 0, I 0, I 0, S [], I 0, .bool false, I 0, I 0, S []] 26 (0, 0)) := al_new ((((w.alloc (.cells #[I id, S cl, S su, .slice va sc.length vc, I cr, I us, I idl, I ab, I gr, I ge, I tk, I st, I en, I co] 24)).alloc (.cells #[I ti, I fa, I tg, S ha, I mi, .bool sp, I at9, I ne, S se] 26)).alloc (.cells #[I 0, S [], S [], .slice none 0 0, I 0, I 0, I 0, I 0, I 0, I 0, I 0, I 0, I 0, I 0] 24)).alloc (.cells #[I 0, I 0, I 0, S [], I 0, .bool false, I 0, I 0, S []] 26)) (.cells #[I 0, I 0, I 0, S [], I 0, .bool false, I 0, I 0, S []] 26) (w.heap.size + 4) (by simp)
  generalize hW1 : (((((w.alloc (.cells #[I id, S cl, S su, .slice va sc.length vc, I cr, I us, I idl, I ab, I gr, I ge, I tk, I st, I en, I co] 24)).alloc (.cells #[I ti, I fa, I tg, S ha, I mi, .bool sp, I at9, I ne, S se] 26)).alloc (.cells #[I 0, S [], S [], .slice none 0 0, I 0, I 0, I 0, I 0, I 0, I 0, I 0, I 0, I 0, I 0] 24)).alloc (.cells #[I 0, I 0, I 0, S [], I 0, .bool false, I 0, I 0, S []] 26)).alloc (.cells #[I 0, I 0, I 0, S [], I 0, .bool false, I 0, I 0, S []] 26)) = W1 at *
  have HB := hide hb
  have HRf := hide rf
  have HRt := hide rt
  have HRa := hide ra
  have HRb := hide rb
  have HRd := hide rd
  clear hb rf rt ra rb rd
  have XN := hide (fun W => rNear84 now W)
  have XI := hide (fun W => fid_any nx W)
  have XJ := hide (fun W (h : Below w.heap.size w W) => rjudge_any id cl su va vc sc cr us idl ab gr ge tk st en co ti fa tg ha mi sp at9 ne se now W h_cl h_su (hsc.below h) hsl hln)
  have XC := hide (fun W (h : Below w.heap.size w W) (h3 : Shn sc) => rcopy_any id cl su va vc sc cr us idl ab gr ge tk st en co W (hsc.below h) h3)
  have XU : Hid (∀ W, curOK nx s = true → Calls Tryz.prog 47 #[I nx, I id, I (ge + 1), S s, I (nr now)] W fun e w' => e = .returned (.agg #[I nx, I id, I (ge + 1), S (hsh nx s), I (nr now), .bool false, I 0, I 0, S []]) ∧ Below W.heap.size W w') := hide (fun W h => by
    have q := fresh_any nx id (ge + 1) s (nr now) W
    rw [mnt_cur, if_pos h] at q
    exact q)
  have HE : Hid (rotE (jdg id cl su sc cr us idl ab gr ge tk st en co ti fa tg ha mi sp at9 ne se now) us mi (nr now) ge nx s = if jdg id cl su sc cr us idl ab gr ge tk st en co ti fa tg ha mi sp at9 ne se now = 1 ∧ us ≤ nr now ∧ mi ≤ nr now then (if curOK nx s then (if ge = 1073741824 then 153 else 0) else 1) else 1) := hide rfl
  have HCK : Hid (curOK nx s = (idn nx && s.length == 24)) := hide rfl
  have HJ1 : Hid (jdg id cl su sc cr us idl ab gr ge tk st en co ti fa tg ha mi sp at9 ne se now = 1 → 1 ≤ ge ∧ ge ≤ 1073741824 ∧ Shn sc) := hide (fun h => by
    obtain ⟨h0, h1, _⟩ := jd_one h
    simp only [famOK, Bool.and_eq_true] at h0
    have hg := h0.2.2.2.2.2.2.2.2.2.2.2.2.1
    simp [gnr] at hg
    exact ⟨hg.1, hg.2, shn_right h0.2.2.2.2.2.1⟩)
  obtain ⟨ht0, ht1⟩ := nr_b now
  generalize rotE (jdg id cl su sc cr us idl ab gr ge tk st en co ti fa tg ha mi sp at9 ne se now) us mi (nr now) ge nx s = E at *
  generalize jdg id cl su sc cr us idl ab gr ge tk st en co ti fa tg ha mi sp at9 ne se now = J at *
  generalize hsh nx s = hh at *
  generalize nr now = tm at *
  generalize curOK nx s = b0 at *
  generalize idn nx = b1 at *
  have hsn : (s.length : Int) ≤ 9223372036854775807 := by omega
  clear hsc hln h_cl h_su hsl hsl9
  generalize hv0 : (Value.slice va sc.length vc) = v0 at *
  go_enter Tryz.func15, Tryz.ntmps15
  have cf_0 : W1.cell? ⟨w.heap.size, 0, none⟩ = some (I id) := cellr (unhide HRf) rfl
  have cf_1 : W1.cell? ⟨w.heap.size, 1, none⟩ = some (S cl) := cellr (unhide HRf) rfl
  have cf_2 : W1.cell? ⟨w.heap.size, 2, none⟩ = some (S su) := cellr (unhide HRf) rfl
  have cf_3 : W1.cell? ⟨w.heap.size, 3, none⟩ = some (v0) := cellr (unhide HRf) rfl
  have cf_4 : W1.cell? ⟨w.heap.size, 4, none⟩ = some (I cr) := cellr (unhide HRf) rfl
  have cf_5 : W1.cell? ⟨w.heap.size, 5, none⟩ = some (I us) := cellr (unhide HRf) rfl
  have cf_6 : W1.cell? ⟨w.heap.size, 6, none⟩ = some (I idl) := cellr (unhide HRf) rfl
  have cf_7 : W1.cell? ⟨w.heap.size, 7, none⟩ = some (I ab) := cellr (unhide HRf) rfl
  have cf_8 : W1.cell? ⟨w.heap.size, 8, none⟩ = some (I gr) := cellr (unhide HRf) rfl
  have cf_9 : W1.cell? ⟨w.heap.size, 9, none⟩ = some (I ge) := cellr (unhide HRf) rfl
  have cf_10 : W1.cell? ⟨w.heap.size, 10, none⟩ = some (I tk) := cellr (unhide HRf) rfl
  have cf_11 : W1.cell? ⟨w.heap.size, 11, none⟩ = some (I st) := cellr (unhide HRf) rfl
  have cf_12 : W1.cell? ⟨w.heap.size, 12, none⟩ = some (I en) := cellr (unhide HRf) rfl
  have cf_13 : W1.cell? ⟨w.heap.size, 13, none⟩ = some (I co) := cellr (unhide HRf) rfl
  have ct_0 : W1.cell? ⟨w.heap.size + 1, 0, none⟩ = some (I ti) := cellr (unhide HRt) rfl
  have ct_1 : W1.cell? ⟨w.heap.size + 1, 1, none⟩ = some (I fa) := cellr (unhide HRt) rfl
  have ct_2 : W1.cell? ⟨w.heap.size + 1, 2, none⟩ = some (I tg) := cellr (unhide HRt) rfl
  have ct_3 : W1.cell? ⟨w.heap.size + 1, 3, none⟩ = some (S ha) := cellr (unhide HRt) rfl
  have ct_4 : W1.cell? ⟨w.heap.size + 1, 4, none⟩ = some (I mi) := cellr (unhide HRt) rfl
  have ct_5 : W1.cell? ⟨w.heap.size + 1, 5, none⟩ = some (.bool sp) := cellr (unhide HRt) rfl
  have ct_6 : W1.cell? ⟨w.heap.size + 1, 6, none⟩ = some (I at9) := cellr (unhide HRt) rfl
  have ct_7 : W1.cell? ⟨w.heap.size + 1, 7, none⟩ = some (I ne) := cellr (unhide HRt) rfl
  have ct_8 : W1.cell? ⟨w.heap.size + 1, 8, none⟩ = some (S se) := cellr (unhide HRt) rfl
  go_wp2_with fail
  refine (unhide XJ W1 (unhide HB)).mono ?_
  rintro e w2 ⟨rfl, h2⟩
  have hbB := (unhide HB).trans (h2.mono (unhide HB).size)
  have rf := (h2.block _ (lt_of_row (unhide HRf))).trans (unhide HRf)
  have rt := (h2.block _ (lt_of_row (unhide HRt))).trans (unhide HRt)
  have ra := (h2.block _ (lt_of_row (unhide HRa))).trans (unhide HRa)
  have rb := (h2.block _ (lt_of_row (unhide HRb))).trans (unhide HRb)
  have rd := (h2.block _ (lt_of_row (unhide HRd))).trans (unhide HRd)
  clear h2 HB HRf HRt HRa HRb HRd cf_0 cf_1 cf_2 cf_3 cf_4 cf_5 cf_6 cf_7 cf_8 cf_9 cf_10 cf_11 cf_12 cf_13 ct_0 ct_1 ct_2 ct_3 ct_4 ct_5 ct_6 ct_7 ct_8 hW1
  have cf_5 : w2.cell? ⟨w.heap.size, 5, none⟩ = some (I us) := cellr rf rfl
  have cf_9 : w2.cell? ⟨w.heap.size, 9, none⟩ = some (I ge) := cellr rf rfl
  have ct_4 : w2.cell? ⟨w.heap.size + 1, 4, none⟩ = some (I mi) := cellr rt rfl
  have HB := hide hbB
  have HRf := hide rf
  have HRt := hide rt
  have HRa := hide ra
  have HRb := hide rb
  have HRd := hide rd
  clear hbB rf rt ra rb rd
  clear XJ
  go_wp2_with fail
  refine (unhide XI w2 ).mono ?_
  rintro e w9 ⟨rfl, hw9⟩
  rw [hw9]
  clear hw9 w9
  clear XI
  go_wp2_with fail
  refine (unhide XN w2 ).mono ?_
  rintro e w9 ⟨rfl, hw9⟩
  rw [hw9]
  clear hw9 w9
  clear XN
  cases hj : (J == 1)
  · have hE : Hid (E = 1) := hide (by rw [unhide HE, if_neg (by rintro ⟨h, _⟩; rw [h] at hj; cases hj)])
    have dj : (J != 1) = true := by simp [bne, hj]
    clear hj
    clear HE HCK
    go_wp2_with (first | (refine wp_stA inf24 rfl (.tmp 10) (.tmp 49) rfl (w.heap.size + 2) (by rfl) #[I 0, S [], S [], .slice none 0 0, I 0, I 0, I 0, I 0, I 0, I 0, I 0, I 0, I 0, I 0] (by rfl) #[I 0, S [], S [], .slice none 0 0, I 0, I 0, I 0, I 0, I 0, I 0, I 0, I 0, I 0, I 0] rfl rfl (unhide HRa) (by simp [Value.oneCell']) ?_; generalize hZ : w2.setRow (w.heap.size + 2) #[I 0, S [], S [], .slice none 0 0, I 0, I 0, I 0, I 0, I 0, I 0, I 0, I 0, I 0, I 0] = Z1; have HZ1 := hide hZ; clear hZ) | (refine wp_stA inf26 rfl (.tmp 11) (.tmp 50) rfl (w.heap.size + 3) (by rfl) #[I 0, I 0, I 0, S [], I 0, .bool false, I 0, I 0, S []] (by rfl) #[I 0, I 0, I 0, S [], I 0, .bool false, I 0, I 0, S []] rfl rfl (by rw [← unhide HZ1]; exact row_set (unhide HRb) (by omega)) (by simp [Value.oneCell']) ?_; generalize hZ : Z1.setRow (w.heap.size + 3) #[I 0, I 0, I 0, S [], I 0, .bool false, I 0, I 0, S []] = Z2; have HZ2 := hide hZ; clear hZ) | (refine wp_stA inf26 rfl (.tmp 12) (.tmp 51) rfl (w.heap.size + 4) (by rfl) #[I 0, I 0, I 0, S [], I 0, .bool false, I 0, I 0, S []] (by rfl) #[I 0, I 0, I 0, S [], I 0, .bool false, I 0, I 0, S []] rfl rfl (by rw [← unhide HZ2, ← unhide HZ1]; exact row_set (row_set (unhide HRd) (by omega)) (by omega)) (by simp [Value.oneCell']) ?_; generalize hZ : Z2.setRow (w.heap.size + 4) #[I 0, I 0, I 0, S [], I 0, .bool false, I 0, I 0, S []] = Z3; have HZ3 := hide hZ; clear hZ))
    refine out4c (T := 24) (n := 14) (U := 26) (m := 9) (p := 10) (p' := 11) (p2 := 12) (q := 13) (cs := #[I 0, S [], S [], .slice none 0 0, I 0, I 0, I 0, I 0, I 0, I 0, I 0, I 0, I 0, I 0]) (cs' := #[I 0, I 0, I 0, S [], I 0, .bool false, I 0, I 0, S []]) (cs2 := #[I 0, I 0, I 0, S [], I 0, .bool false, I 0, I 0, S []]) (fun _ => by kernel_rfl) (fun _ => by kernel_rfl) (fun _ => by kernel_rfl) (fun _ => by kernel_rfl) (Z := w.heap.size + 2) (Z' := w.heap.size + 3) (Z2 := w.heap.size + 4) (by rfl) (by rfl) (by rfl) (by rfl) (by rfl) (by rfl) (by rw [← unhide HZ3, ← unhide HZ2, ← unhide HZ1]; exact row_set (row_set (setRow_row (unhide HRa)) (by omega)) (by omega)) (by rfl) (by rw [← unhide HZ3, ← unhide HZ2, ← unhide HZ1]; exact row_set (setRow_row (row_set (unhide HRb) (by omega))) (by omega)) (by rfl) (by rw [← unhide HZ3, ← unhide HZ2, ← unhide HZ1]; exact setRow_row (row_set (row_set (unhide HRd) (by omega)) (by omega))) (by rfl) ?_
    rw [unhide hE]
    exact ⟨rfl, by rw [← unhide HZ3, ← unhide HZ2, ← unhide HZ1]; exact bel_set (bel_set (bel_set (unhide HB) _ _ (by omega) (unhide HB).size) _ _ (by omega) (by simpa using (unhide HB).size)) _ _ (by omega) (by simpa using (unhide HB).size)⟩
  · skip
    have dj : (J != 1) = false := by simp [bne, hj]
    obtain rfl : J = 1 := by simpa using hj
    clear hj
    obtain ⟨hg1, hg2, hs3⟩ := unhide HJ1 rfl
    clear HJ1 dj
    have dj : ((1 : Int) != 1) = false := by decide
    have HS3 := hide hs3
    clear hs3
    cases b1
    · have hE : Hid (E = 1) := hide (by rw [unhide HE, unhide HCK]; simp)
      clear HE HCK
      go_wp2_with (first | (refine wp_stA inf24 rfl (.tmp 10) (.tmp 49) rfl (w.heap.size + 2) (by rfl) #[I 0, S [], S [], .slice none 0 0, I 0, I 0, I 0, I 0, I 0, I 0, I 0, I 0, I 0, I 0] (by rfl) #[I 0, S [], S [], .slice none 0 0, I 0, I 0, I 0, I 0, I 0, I 0, I 0, I 0, I 0, I 0] rfl rfl (unhide HRa) (by simp [Value.oneCell']) ?_; generalize hZ : w2.setRow (w.heap.size + 2) #[I 0, S [], S [], .slice none 0 0, I 0, I 0, I 0, I 0, I 0, I 0, I 0, I 0, I 0, I 0] = Z1; have HZ1 := hide hZ; clear hZ) | (refine wp_stA inf26 rfl (.tmp 11) (.tmp 50) rfl (w.heap.size + 3) (by rfl) #[I 0, I 0, I 0, S [], I 0, .bool false, I 0, I 0, S []] (by rfl) #[I 0, I 0, I 0, S [], I 0, .bool false, I 0, I 0, S []] rfl rfl (by rw [← unhide HZ1]; exact row_set (unhide HRb) (by omega)) (by simp [Value.oneCell']) ?_; generalize hZ : Z1.setRow (w.heap.size + 3) #[I 0, I 0, I 0, S [], I 0, .bool false, I 0, I 0, S []] = Z2; have HZ2 := hide hZ; clear hZ) | (refine wp_stA inf26 rfl (.tmp 12) (.tmp 51) rfl (w.heap.size + 4) (by rfl) #[I 0, I 0, I 0, S [], I 0, .bool false, I 0, I 0, S []] (by rfl) #[I 0, I 0, I 0, S [], I 0, .bool false, I 0, I 0, S []] rfl rfl (by rw [← unhide HZ2, ← unhide HZ1]; exact row_set (row_set (unhide HRd) (by omega)) (by omega)) (by simp [Value.oneCell']) ?_; generalize hZ : Z2.setRow (w.heap.size + 4) #[I 0, I 0, I 0, S [], I 0, .bool false, I 0, I 0, S []] = Z3; have HZ3 := hide hZ; clear hZ))
      refine out4c (T := 24) (n := 14) (U := 26) (m := 9) (p := 10) (p' := 11) (p2 := 12) (q := 13) (cs := #[I 0, S [], S [], .slice none 0 0, I 0, I 0, I 0, I 0, I 0, I 0, I 0, I 0, I 0, I 0]) (cs' := #[I 0, I 0, I 0, S [], I 0, .bool false, I 0, I 0, S []]) (cs2 := #[I 0, I 0, I 0, S [], I 0, .bool false, I 0, I 0, S []]) (fun _ => by kernel_rfl) (fun _ => by kernel_rfl) (fun _ => by kernel_rfl) (fun _ => by kernel_rfl) (Z := w.heap.size + 2) (Z' := w.heap.size + 3) (Z2 := w.heap.size + 4) (by rfl) (by rfl) (by rfl) (by rfl) (by rfl) (by rfl) (by rw [← unhide HZ3, ← unhide HZ2, ← unhide HZ1]; exact row_set (row_set (setRow_row (unhide HRa)) (by omega)) (by omega)) (by rfl) (by rw [← unhide HZ3, ← unhide HZ2, ← unhide HZ1]; exact row_set (setRow_row (row_set (unhide HRb) (by omega))) (by omega)) (by rfl) (by rw [← unhide HZ3, ← unhide HZ2, ← unhide HZ1]; exact setRow_row (row_set (row_set (unhide HRd) (by omega)) (by omega))) (by rfl) ?_
      rw [unhide hE]
      exact ⟨rfl, by rw [← unhide HZ3, ← unhide HZ2, ← unhide HZ1]; exact bel_set (bel_set (bel_set (unhide HB) _ _ (by omega) (unhide HB).size) _ _ (by omega) (by simpa using (unhide HB).size)) _ _ (by omega) (by simpa using (unhide HB).size)⟩
    · skip
      by_cases hu : tm < us
      · have hE : Hid (E = 1) := hide (by rw [unhide HE, if_neg (by omega)])
        have du : decide (tm < us) = true := by simpa using hu
        clear HE HCK
        go_wp2_with (first | (refine wp_stA inf24 rfl (.tmp 10) (.tmp 49) rfl (w.heap.size + 2) (by rfl) #[I 0, S [], S [], .slice none 0 0, I 0, I 0, I 0, I 0, I 0, I 0, I 0, I 0, I 0, I 0] (by rfl) #[I 0, S [], S [], .slice none 0 0, I 0, I 0, I 0, I 0, I 0, I 0, I 0, I 0, I 0, I 0] rfl rfl (unhide HRa) (by simp [Value.oneCell']) ?_; generalize hZ : w2.setRow (w.heap.size + 2) #[I 0, S [], S [], .slice none 0 0, I 0, I 0, I 0, I 0, I 0, I 0, I 0, I 0, I 0, I 0] = Z1; have HZ1 := hide hZ; clear hZ) | (refine wp_stA inf26 rfl (.tmp 11) (.tmp 50) rfl (w.heap.size + 3) (by rfl) #[I 0, I 0, I 0, S [], I 0, .bool false, I 0, I 0, S []] (by rfl) #[I 0, I 0, I 0, S [], I 0, .bool false, I 0, I 0, S []] rfl rfl (by rw [← unhide HZ1]; exact row_set (unhide HRb) (by omega)) (by simp [Value.oneCell']) ?_; generalize hZ : Z1.setRow (w.heap.size + 3) #[I 0, I 0, I 0, S [], I 0, .bool false, I 0, I 0, S []] = Z2; have HZ2 := hide hZ; clear hZ) | (refine wp_stA inf26 rfl (.tmp 12) (.tmp 51) rfl (w.heap.size + 4) (by rfl) #[I 0, I 0, I 0, S [], I 0, .bool false, I 0, I 0, S []] (by rfl) #[I 0, I 0, I 0, S [], I 0, .bool false, I 0, I 0, S []] rfl rfl (by rw [← unhide HZ2, ← unhide HZ1]; exact row_set (row_set (unhide HRd) (by omega)) (by omega)) (by simp [Value.oneCell']) ?_; generalize hZ : Z2.setRow (w.heap.size + 4) #[I 0, I 0, I 0, S [], I 0, .bool false, I 0, I 0, S []] = Z3; have HZ3 := hide hZ; clear hZ))
        refine out4c (T := 24) (n := 14) (U := 26) (m := 9) (p := 10) (p' := 11) (p2 := 12) (q := 13) (cs := #[I 0, S [], S [], .slice none 0 0, I 0, I 0, I 0, I 0, I 0, I 0, I 0, I 0, I 0, I 0]) (cs' := #[I 0, I 0, I 0, S [], I 0, .bool false, I 0, I 0, S []]) (cs2 := #[I 0, I 0, I 0, S [], I 0, .bool false, I 0, I 0, S []]) (fun _ => by kernel_rfl) (fun _ => by kernel_rfl) (fun _ => by kernel_rfl) (fun _ => by kernel_rfl) (Z := w.heap.size + 2) (Z' := w.heap.size + 3) (Z2 := w.heap.size + 4) (by rfl) (by rfl) (by rfl) (by rfl) (by rfl) (by rfl) (by rw [← unhide HZ3, ← unhide HZ2, ← unhide HZ1]; exact row_set (row_set (setRow_row (unhide HRa)) (by omega)) (by omega)) (by rfl) (by rw [← unhide HZ3, ← unhide HZ2, ← unhide HZ1]; exact row_set (setRow_row (row_set (unhide HRb) (by omega))) (by omega)) (by rfl) (by rw [← unhide HZ3, ← unhide HZ2, ← unhide HZ1]; exact setRow_row (row_set (row_set (unhide HRd) (by omega)) (by omega))) (by rfl) ?_
        rw [unhide hE]
        exact ⟨rfl, by rw [← unhide HZ3, ← unhide HZ2, ← unhide HZ1]; exact bel_set (bel_set (bel_set (unhide HB) _ _ (by omega) (unhide HB).size) _ _ (by omega) (by simpa using (unhide HB).size)) _ _ (by omega) (by simpa using (unhide HB).size)⟩
      · have du : decide (tm < us) = false := by simpa using hu
        by_cases hm : tm < mi
        · have hE : Hid (E = 1) := hide (by rw [unhide HE, if_neg (by omega)])
          have dm : decide (tm < mi) = true := by simpa using hm
          clear HE HCK
          go_wp2_with (first | (refine wp_stA inf24 rfl (.tmp 10) (.tmp 49) rfl (w.heap.size + 2) (by rfl) #[I 0, S [], S [], .slice none 0 0, I 0, I 0, I 0, I 0, I 0, I 0, I 0, I 0, I 0, I 0] (by rfl) #[I 0, S [], S [], .slice none 0 0, I 0, I 0, I 0, I 0, I 0, I 0, I 0, I 0, I 0, I 0] rfl rfl (unhide HRa) (by simp [Value.oneCell']) ?_; generalize hZ : w2.setRow (w.heap.size + 2) #[I 0, S [], S [], .slice none 0 0, I 0, I 0, I 0, I 0, I 0, I 0, I 0, I 0, I 0, I 0] = Z1; have HZ1 := hide hZ; clear hZ) | (refine wp_stA inf26 rfl (.tmp 11) (.tmp 50) rfl (w.heap.size + 3) (by rfl) #[I 0, I 0, I 0, S [], I 0, .bool false, I 0, I 0, S []] (by rfl) #[I 0, I 0, I 0, S [], I 0, .bool false, I 0, I 0, S []] rfl rfl (by rw [← unhide HZ1]; exact row_set (unhide HRb) (by omega)) (by simp [Value.oneCell']) ?_; generalize hZ : Z1.setRow (w.heap.size + 3) #[I 0, I 0, I 0, S [], I 0, .bool false, I 0, I 0, S []] = Z2; have HZ2 := hide hZ; clear hZ) | (refine wp_stA inf26 rfl (.tmp 12) (.tmp 51) rfl (w.heap.size + 4) (by rfl) #[I 0, I 0, I 0, S [], I 0, .bool false, I 0, I 0, S []] (by rfl) #[I 0, I 0, I 0, S [], I 0, .bool false, I 0, I 0, S []] rfl rfl (by rw [← unhide HZ2, ← unhide HZ1]; exact row_set (row_set (unhide HRd) (by omega)) (by omega)) (by simp [Value.oneCell']) ?_; generalize hZ : Z2.setRow (w.heap.size + 4) #[I 0, I 0, I 0, S [], I 0, .bool false, I 0, I 0, S []] = Z3; have HZ3 := hide hZ; clear hZ))
          refine out4c (T := 24) (n := 14) (U := 26) (m := 9) (p := 10) (p' := 11) (p2 := 12) (q := 13) (cs := #[I 0, S [], S [], .slice none 0 0, I 0, I 0, I 0, I 0, I 0, I 0, I 0, I 0, I 0, I 0]) (cs' := #[I 0, I 0, I 0, S [], I 0, .bool false, I 0, I 0, S []]) (cs2 := #[I 0, I 0, I 0, S [], I 0, .bool false, I 0, I 0, S []]) (fun _ => by kernel_rfl) (fun _ => by kernel_rfl) (fun _ => by kernel_rfl) (fun _ => by kernel_rfl) (Z := w.heap.size + 2) (Z' := w.heap.size + 3) (Z2 := w.heap.size + 4) (by rfl) (by rfl) (by rfl) (by rfl) (by rfl) (by rfl) (by rw [← unhide HZ3, ← unhide HZ2, ← unhide HZ1]; exact row_set (row_set (setRow_row (unhide HRa)) (by omega)) (by omega)) (by rfl) (by rw [← unhide HZ3, ← unhide HZ2, ← unhide HZ1]; exact row_set (setRow_row (row_set (unhide HRb) (by omega))) (by omega)) (by rfl) (by rw [← unhide HZ3, ← unhide HZ2, ← unhide HZ1]; exact setRow_row (row_set (row_set (unhide HRd) (by omega)) (by omega))) (by rfl) ?_
          rw [unhide hE]
          exact ⟨rfl, by rw [← unhide HZ3, ← unhide HZ2, ← unhide HZ1]; exact bel_set (bel_set (bel_set (unhide HB) _ _ (by omega) (unhide HB).size) _ _ (by omega) (by simpa using (unhide HB).size)) _ _ (by omega) (by simpa using (unhide HB).size)⟩
        · have dm : decide (tm < mi) = false := by simpa using hm
          by_cases h24 : s.length = 24
          · skip
            have d24 : ((s.length : Int) != 24) = false := by rw [bne_eq_false_iff_eq]; omega
            have HE2 : Hid (E = if ge = 1073741824 then 153 else 0) := hide (by rw [unhide HE, if_pos ⟨rfl, by omega, by omega⟩, unhide HCK]; simp [h24])
            have hb0 : b0 = true := by rw [unhide HCK]; simp [h24]
            have HB0 := hide hb0
            clear HE HCK hu hm hb0
            by_cases hmx : ge = 1073741824
            · have hE : Hid (E = 153) := hide (by rw [unhide HE2]; simp [hmx])
              have dx : (ge == 1073741824) = true := by simpa using hmx
              clear HE2 hmx
              go_wp2_with (first | (refine wp_stA inf24 rfl (.tmp 10) (.tmp 55) rfl (w.heap.size + 2) (by rfl) #[I 0, S [], S [], .slice none 0 0, I 0, I 0, I 0, I 0, I 0, I 0, I 0, I 0, I 0, I 0] (by rfl) #[I 0, S [], S [], .slice none 0 0, I 0, I 0, I 0, I 0, I 0, I 0, I 0, I 0, I 0, I 0] rfl rfl (unhide HRa) (by simp [Value.oneCell']) ?_; generalize hZ : w2.setRow (w.heap.size + 2) #[I 0, S [], S [], .slice none 0 0, I 0, I 0, I 0, I 0, I 0, I 0, I 0, I 0, I 0, I 0] = Z1; have HZ1 := hide hZ; clear hZ) | (refine wp_stA inf26 rfl (.tmp 11) (.tmp 56) rfl (w.heap.size + 3) (by rfl) #[I 0, I 0, I 0, S [], I 0, .bool false, I 0, I 0, S []] (by rfl) #[I 0, I 0, I 0, S [], I 0, .bool false, I 0, I 0, S []] rfl rfl (by rw [← unhide HZ1]; exact row_set (unhide HRb) (by omega)) (by simp [Value.oneCell']) ?_; generalize hZ : Z1.setRow (w.heap.size + 3) #[I 0, I 0, I 0, S [], I 0, .bool false, I 0, I 0, S []] = Z2; have HZ2 := hide hZ; clear hZ) | (refine wp_stA inf26 rfl (.tmp 12) (.tmp 57) rfl (w.heap.size + 4) (by rfl) #[I 0, I 0, I 0, S [], I 0, .bool false, I 0, I 0, S []] (by rfl) #[I 0, I 0, I 0, S [], I 0, .bool false, I 0, I 0, S []] rfl rfl (by rw [← unhide HZ2, ← unhide HZ1]; exact row_set (row_set (unhide HRd) (by omega)) (by omega)) (by simp [Value.oneCell']) ?_; generalize hZ : Z2.setRow (w.heap.size + 4) #[I 0, I 0, I 0, S [], I 0, .bool false, I 0, I 0, S []] = Z3; have HZ3 := hide hZ; clear hZ))
              refine out4c (T := 24) (n := 14) (U := 26) (m := 9) (p := 10) (p' := 11) (p2 := 12) (q := 13) (cs := #[I 0, S [], S [], .slice none 0 0, I 0, I 0, I 0, I 0, I 0, I 0, I 0, I 0, I 0, I 0]) (cs' := #[I 0, I 0, I 0, S [], I 0, .bool false, I 0, I 0, S []]) (cs2 := #[I 0, I 0, I 0, S [], I 0, .bool false, I 0, I 0, S []]) (fun _ => by kernel_rfl) (fun _ => by kernel_rfl) (fun _ => by kernel_rfl) (fun _ => by kernel_rfl) (Z := w.heap.size + 2) (Z' := w.heap.size + 3) (Z2 := w.heap.size + 4) (by rfl) (by rfl) (by rfl) (by rfl) (by rfl) (by rfl) (by rw [← unhide HZ3, ← unhide HZ2, ← unhide HZ1]; exact row_set (row_set (setRow_row (unhide HRa)) (by omega)) (by omega)) (by rfl) (by rw [← unhide HZ3, ← unhide HZ2, ← unhide HZ1]; exact row_set (setRow_row (row_set (unhide HRb) (by omega))) (by omega)) (by rfl) (by rw [← unhide HZ3, ← unhide HZ2, ← unhide HZ1]; exact setRow_row (row_set (row_set (unhide HRd) (by omega)) (by omega))) (by rfl) ?_
              rw [unhide hE]
              exact ⟨rfl, by rw [← unhide HZ3, ← unhide HZ2, ← unhide HZ1]; exact bel_set (bel_set (bel_set (unhide HB) _ _ (by omega) (unhide HB).size) _ _ (by omega) (by simpa using (unhide HB).size)) _ _ (by omega) (by simpa using (unhide HB).size)⟩
            · have hE : Hid (E = 0) := hide (by rw [unhide HE2]; simp [hmx])
              have dx : (ge == 1073741824) = false := by simpa using hmx
              clear HE2 hmx
              have HX := hide (unhide XC w2 (unhide HB) (unhide HS3))
              have hz2 := lt_of_row (unhide HRd)
              have lf : w2.heap[w.heap.size]? = some (.cells #[I id, S cl, S su, v0, I cr, I us, I idl, I ab, I gr, I ge, I tk, I st, I en, I co] 24 (0, 0)) := unhide HRf
              clear cf_5 cf_9
              have c0 : w2.cell? ⟨w.heap.size, 0, none⟩ = some (I id) := cellr lf rfl
              have c1 : w2.cell? ⟨w.heap.size, 1, none⟩ = some (S cl) := cellr lf rfl
              have c2 : w2.cell? ⟨w.heap.size, 2, none⟩ = some (S su) := cellr lf rfl
              have c3 : w2.cell? ⟨w.heap.size, 3, none⟩ = some (v0) := cellr lf rfl
              have c4 : w2.cell? ⟨w.heap.size, 4, none⟩ = some (I cr) := cellr lf rfl
              have c5 : w2.cell? ⟨w.heap.size, 5, none⟩ = some (I us) := cellr lf rfl
              have c6 : w2.cell? ⟨w.heap.size, 6, none⟩ = some (I idl) := cellr lf rfl
              have c7 : w2.cell? ⟨w.heap.size, 7, none⟩ = some (I ab) := cellr lf rfl
              have c8 : w2.cell? ⟨w.heap.size, 8, none⟩ = some (I gr) := cellr lf rfl
              have c9 : w2.cell? ⟨w.heap.size, 9, none⟩ = some (I ge) := cellr lf rfl
              have c10 : w2.cell? ⟨w.heap.size, 10, none⟩ = some (I tk) := cellr lf rfl
              have c11 : w2.cell? ⟨w.heap.size, 11, none⟩ = some (I st) := cellr lf rfl
              have c12 : w2.cell? ⟨w.heap.size, 12, none⟩ = some (I en) := cellr lf rfl
              have c13 : w2.cell? ⟨w.heap.size, 13, none⟩ = some (I co) := cellr lf rfl
              clear lf
              go_wp2_with fail
              refine (unhide HX).mono ?_
              rintro e w3 ⟨a, cap, rfl, ho, h3⟩
              have HO := hide ho
              clear HX XC ho HS3
              have hs3 := h3.size
              have hbB := (unhide HB).trans (h3.mono (unhide HB).size)
              have rf := (h3.block _ (lt_of_row (unhide HRf))).trans (unhide HRf)
              have rt := (h3.block _ (lt_of_row (unhide HRt))).trans (unhide HRt)
              have ra := (h3.block _ (lt_of_row (unhide HRa))).trans (unhide HRa)
              have rb := (h3.block _ (lt_of_row (unhide HRb))).trans (unhide HRb)
              have rd := (h3.block _ (lt_of_row (unhide HRd))).trans (unhide HRd)
              clear h3 HB HRf HRt HRa HRb HRd ct_4 c0 c1 c2 c3 c4 c5 c6 c7 c8 c9 c10 c11 c12 c13 
              have cf_9 : w3.cell? ⟨w.heap.size, 9, none⟩ = some (I ge) := cellr rf rfl
              have HB := hide hbB
              have HRf := hide rf
              have HRt := hide rt
              have HRa := hide ra
              have HRb := hide rb
              have HRd := hide rd
              clear hbB rf rt ra rb rd
              go_upto_region 9 with (refine wp_stA inf24 rfl (.tmp 17) (.tmp 59) rfl w3.heap.size (by rfl) #[I id, S cl, S su, .slice a sc.length cap, I cr, I us, I idl, I ab, I gr, I ge, I tk, I st, I en, I co] (by rfl) #[I 0, S [], S [], .slice none 0 0, I 0, I 0, I 0, I 0, I 0, I 0, I 0, I 0, I 0, I 0] rfl rfl (heap_alloc_new _ _) (by simp [Value.oneCell']) ?_; generalize hW4 : (w3.alloc (.cells #[I 0, S [], S [], .slice none 0 0, I 0, I 0, I 0, I 0, I 0, I 0, I 0, I 0, I 0, I 0] 24)).setRow w3.heap.size #[I id, S cl, S su, .slice a sc.length cap, I cr, I us, I idl, I ab, I gr, I ge, I tk, I st, I en, I co] = W4)
              obtain ⟨h4, rn⟩ := new_row hW4
              have ho4 := (unhide HO).below h4 (Nat.le_refl _)
              have HO4 := hide ho4
              have hz3 := lt_of_row (unhide HRd)
              clear hW4 HO ho4
              have hbB := (unhide HB).trans (h4.mono (unhide HB).size)
              have rf := (h4.block _ (lt_of_row (unhide HRf))).trans (unhide HRf)
              have rt := (h4.block _ (lt_of_row (unhide HRt))).trans (unhide HRt)
              have ra := (h4.block _ (lt_of_row (unhide HRa))).trans (unhide HRa)
              have rb := (h4.block _ (lt_of_row (unhide HRb))).trans (unhide HRb)
              have rd := (h4.block _ (lt_of_row (unhide HRd))).trans (unhide HRd)
              clear h4 HB HRf HRt HRa HRb HRd cf_9 
              have HB := hide hbB
              have HRf := hide rf
              have HRt := hide rt
              have HRa := hide ra
              have HRb := hide rb
              have HRd := hide rd
              have HRn := hide rn
              clear hbB rf rt ra rb rd rn
              have lf : W4.heap[w.heap.size]? = some (.cells #[I id, S cl, S su, v0, I cr, I us, I idl, I ab, I gr, I ge, I tk, I st, I en, I co] 24 (0, 0)) := unhide HRf
              have c9 : W4.cell? ⟨w.heap.size, 9, none⟩ = some (I ge) := cellr lf rfl
              clear lf
              go_upto_region 12 with (first | (refine wp_stC (T := 3) (fun _ => by kernel_rfl) rfl (.tmp 63) (.tmp 62) rfl (w3.heap.size) 9 (by rfl) (I (ge + 1)) (by rfl) rfl rfl #[I id, S cl, S su, .slice a sc.length cap, I cr, I us, I idl, I ab, I gr, I ge, I tk, I st, I en, I co] 24 (unhide HRn) (by simp) #[I id, S cl, S su, .slice a sc.length cap, I cr, I us, I idl, I ab, I gr, I (ge + 1), I tk, I st, I en, I co] rfl ?_; generalize hY : W4.setRow (w3.heap.size) #[I id, S cl, S su, .slice a sc.length cap, I cr, I us, I idl, I ab, I gr, I (ge + 1), I tk, I st, I en, I co] = Y1; have HY1 := hide hY; clear hY) | (refine wp_stC (T := 3) (fun _ => by kernel_rfl) rfl (.tmp 65) (.tmp 64) rfl (w3.heap.size) 10 (by rfl) (I nx) (by rfl) rfl rfl #[I id, S cl, S su, .slice a sc.length cap, I cr, I us, I idl, I ab, I gr, I (ge + 1), I tk, I st, I en, I co] 24 (by rw [← unhide HY1]; exact setRow_row (unhide HRn)) (by simp) #[I id, S cl, S su, .slice a sc.length cap, I cr, I us, I idl, I ab, I gr, I (ge + 1), I nx, I st, I en, I co] rfl ?_; generalize hY : Y1.setRow (w3.heap.size) #[I id, S cl, S su, .slice a sc.length cap, I cr, I us, I idl, I ab, I gr, I (ge + 1), I nx, I st, I en, I co] = Y2; have HY2 := hide hY; clear hY) | (refine wp_stC (T := 3) (fun _ => by kernel_rfl) rfl (.tmp 67) (.tmp 66) rfl (w3.heap.size) 5 (by rfl) (I tm) (by rfl) rfl rfl #[I id, S cl, S su, .slice a sc.length cap, I cr, I us, I idl, I ab, I gr, I (ge + 1), I nx, I st, I en, I co] 24 (by rw [← unhide HY2, ← unhide HY1]; exact setRow_row (setRow_row (unhide HRn))) (by simp) #[I id, S cl, S su, .slice a sc.length cap, I cr, I tm, I idl, I ab, I gr, I (ge + 1), I nx, I st, I en, I co] rfl ?_; generalize hY : Y2.setRow (w3.heap.size) #[I id, S cl, S su, .slice a sc.length cap, I cr, I tm, I idl, I ab, I gr, I (ge + 1), I nx, I st, I en, I co] = Y3; have HY3 := hide hY; clear hY))
              have rn : Y3.heap[w3.heap.size]? = some (.cells #[I id, S cl, S su, .slice a sc.length cap, I cr, I tm, I idl, I ab, I gr, I (ge + 1), I nx, I st, I en, I co] 24 (0, 0)) := by rw [← unhide HY3, ← unhide HY2, ← unhide HY1]; exact setRow_row (setRow_row (setRow_row (unhide HRn)))
              have rf : Y3.heap[w.heap.size]? = some (.cells #[I id, S cl, S su, v0, I cr, I us, I idl, I ab, I gr, I ge, I tk, I st, I en, I co] 24 (0, 0)) := by rw [← unhide HY3, ← unhide HY2, ← unhide HY1]; exact row_set (row_set (row_set (unhide HRf) (by omega)) (by omega)) (by omega)
              have rt : Y3.heap[w.heap.size + 1]? = some (.cells #[I ti, I fa, I tg, S ha, I mi, .bool sp, I at9, I ne, S se] 26 (0, 0)) := by rw [← unhide HY3, ← unhide HY2, ← unhide HY1]; exact row_set (row_set (row_set (unhide HRt) (by omega)) (by omega)) (by omega)
              have ra : Y3.heap[w.heap.size + 2]? = some (.cells #[I 0, S [], S [], .slice none 0 0, I 0, I 0, I 0, I 0, I 0, I 0, I 0, I 0, I 0, I 0] 24 (0, 0)) := by rw [← unhide HY3, ← unhide HY2, ← unhide HY1]; exact row_set (row_set (row_set (unhide HRa) (by omega)) (by omega)) (by omega)
              have rb : Y3.heap[w.heap.size + 3]? = some (.cells #[I 0, I 0, I 0, S [], I 0, .bool false, I 0, I 0, S []] 26 (0, 0)) := by rw [← unhide HY3, ← unhide HY2, ← unhide HY1]; exact row_set (row_set (row_set (unhide HRb) (by omega)) (by omega)) (by omega)
              have rd : Y3.heap[w.heap.size + 4]? = some (.cells #[I 0, I 0, I 0, S [], I 0, .bool false, I 0, I 0, S []] 26 (0, 0)) := by rw [← unhide HY3, ← unhide HY2, ← unhide HY1]; exact row_set (row_set (row_set (unhide HRd) (by omega)) (by omega)) (by omega)
              have hb : Below w.heap.size w Y3 := by rw [← unhide HY3, ← unhide HY2, ← unhide HY1]; exact bel_set (bel_set (bel_set (unhide HB) _ _ (by omega) (by simpa using (unhide HB).size)) _ _ (by omega) (by simpa using (unhide HB).size)) _ _ (by omega) (by simpa using (unhide HB).size)
              have ho5 : OwnS w2.heap.size Y3 (.slice a sc.length cap) sc := by rw [← unhide HY3, ← unhide HY2, ← unhide HY1]; exact own_set2 (own_set2 (own_set2 (unhide HO4) (unhide HRn) (by decide) _) (setRow_row (unhide HRn)) (by decide) _) (setRow_row (setRow_row (unhide HRn))) (by decide) _
              clear HB HRf HRt HRa HRb HRd HRn HO4 c9 HY1 HY2 HY3
              clear Y1 Y2
              generalize Y3 = W5 at *
              have HB := hide hb
              have HRf := hide rf
              have HRt := hide rt
              have HRa := hide ra
              have HRb := hide rb
              have HRd := hide rd
              have HRn := hide rn
              clear hb rf rt ra rb rd rn
              have HO5 := hide ho5
              clear ho5
              go_upto_region 16 with (first | (refine wp_stC (T := 4) (fun _ => by kernel_rfl) rfl (.tmp 68) (.const (.bool true)) rfl (w.heap.size + 1) 5 (by rfl) (.bool true) (by rfl) rfl rfl #[I ti, I fa, I tg, S ha, I mi, .bool sp, I at9, I ne, S se] 26 (unhide HRt) (by simp) #[I ti, I fa, I tg, S ha, I mi, .bool true, I at9, I ne, S se] rfl ?_; generalize hY : W5.setRow (w.heap.size + 1) #[I ti, I fa, I tg, S ha, I mi, .bool true, I at9, I ne, S se] = Y1; have HY1 := hide hY; clear hY) | (refine wp_stC (T := 3) (fun _ => by kernel_rfl) rfl (.tmp 70) (.tmp 69) rfl (w.heap.size + 1) 6 (by rfl) (I tm) (by rfl) rfl rfl #[I ti, I fa, I tg, S ha, I mi, .bool true, I at9, I ne, S se] 26 (by rw [← unhide HY1]; exact setRow_row (unhide HRt)) (by simp) #[I ti, I fa, I tg, S ha, I mi, .bool true, I tm, I ne, S se] rfl ?_; generalize hY : Y1.setRow (w.heap.size + 1) #[I ti, I fa, I tg, S ha, I mi, .bool true, I tm, I ne, S se] = Y2; have HY2 := hide hY; clear hY) | (refine wp_stC (T := 3) (fun _ => by kernel_rfl) rfl (.tmp 72) (.tmp 71) rfl (w.heap.size + 1) 7 (by rfl) (I nx) (by rfl) rfl rfl #[I ti, I fa, I tg, S ha, I mi, .bool true, I tm, I ne, S se] 26 (by rw [← unhide HY2, ← unhide HY1]; exact setRow_row (setRow_row (unhide HRt))) (by simp) #[I ti, I fa, I tg, S ha, I mi, .bool true, I tm, I nx, S se] rfl ?_; generalize hY : Y2.setRow (w.heap.size + 1) #[I ti, I fa, I tg, S ha, I mi, .bool true, I tm, I nx, S se] = Y3; have HY3 := hide hY; clear hY) | (refine wp_stC (T := 9) (fun _ => by kernel_rfl) rfl (.tmp 74) (.tmp 73) rfl (w.heap.size + 1) 8 (by rfl) (S s) (by rfl) rfl rfl #[I ti, I fa, I tg, S ha, I mi, .bool true, I tm, I nx, S se] 26 (by rw [← unhide HY3, ← unhide HY2, ← unhide HY1]; exact setRow_row (setRow_row (setRow_row (unhide HRt)))) (by simp) #[I ti, I fa, I tg, S ha, I mi, .bool true, I tm, I nx, S s] rfl ?_; generalize hY : Y3.setRow (w.heap.size + 1) #[I ti, I fa, I tg, S ha, I mi, .bool true, I tm, I nx, S s] = Y4; have HY4 := hide hY; clear hY))
              have rt : Y4.heap[w.heap.size + 1]? = some (.cells #[I ti, I fa, I tg, S ha, I mi, .bool true, I tm, I nx, S s] 26 (0, 0)) := by rw [← unhide HY4, ← unhide HY3, ← unhide HY2, ← unhide HY1]; exact setRow_row (setRow_row (setRow_row (setRow_row (unhide HRt))))
              have rf : Y4.heap[w.heap.size]? = some (.cells #[I id, S cl, S su, v0, I cr, I us, I idl, I ab, I gr, I ge, I tk, I st, I en, I co] 24 (0, 0)) := by rw [← unhide HY4, ← unhide HY3, ← unhide HY2, ← unhide HY1]; exact row_set (row_set (row_set (row_set (unhide HRf) (by omega)) (by omega)) (by omega)) (by omega)
              have rn : Y4.heap[w3.heap.size]? = some (.cells #[I id, S cl, S su, .slice a sc.length cap, I cr, I tm, I idl, I ab, I gr, I (ge + 1), I nx, I st, I en, I co] 24 (0, 0)) := by rw [← unhide HY4, ← unhide HY3, ← unhide HY2, ← unhide HY1]; exact row_set (row_set (row_set (row_set (unhide HRn) (by omega)) (by omega)) (by omega)) (by omega)
              have ra : Y4.heap[w.heap.size + 2]? = some (.cells #[I 0, S [], S [], .slice none 0 0, I 0, I 0, I 0, I 0, I 0, I 0, I 0, I 0, I 0, I 0] 24 (0, 0)) := by rw [← unhide HY4, ← unhide HY3, ← unhide HY2, ← unhide HY1]; exact row_set (row_set (row_set (row_set (unhide HRa) (by omega)) (by omega)) (by omega)) (by omega)
              have rb : Y4.heap[w.heap.size + 3]? = some (.cells #[I 0, I 0, I 0, S [], I 0, .bool false, I 0, I 0, S []] 26 (0, 0)) := by rw [← unhide HY4, ← unhide HY3, ← unhide HY2, ← unhide HY1]; exact row_set (row_set (row_set (row_set (unhide HRb) (by omega)) (by omega)) (by omega)) (by omega)
              have rd : Y4.heap[w.heap.size + 4]? = some (.cells #[I 0, I 0, I 0, S [], I 0, .bool false, I 0, I 0, S []] 26 (0, 0)) := by rw [← unhide HY4, ← unhide HY3, ← unhide HY2, ← unhide HY1]; exact row_set (row_set (row_set (row_set (unhide HRd) (by omega)) (by omega)) (by omega)) (by omega)
              have hb : Below w.heap.size w Y4 := by rw [← unhide HY4, ← unhide HY3, ← unhide HY2, ← unhide HY1]; exact bel_set (bel_set (bel_set (bel_set (unhide HB) _ _ (by omega) (by simpa using (unhide HB).size)) _ _ (by omega) (by simpa using (unhide HB).size)) _ _ (by omega) (by simpa using (unhide HB).size)) _ _ (by omega) (by simpa using (unhide HB).size)
              have ho6 : OwnS w2.heap.size Y4 (.slice a sc.length cap) sc := by rw [← unhide HY4, ← unhide HY3, ← unhide HY2, ← unhide HY1]; exact own_set (own_set (own_set (own_set (unhide HO5) _ _ (by omega)) _ _ (by omega)) _ _ (by omega)) _ _ (by omega)
              clear HB HRf HRt HRa HRb HRd HRn HO5 HY1 HY2 HY3 HY4
              clear Y1 Y2 Y3
              generalize Y4 = W6 at *
              have hm3 : w3.heap.size < W6.heap.size := lt_of_row rn
              refine region_tabG rr16T [(17, ptr w3.heap.size), (6, ptr (w.heap.size + 1)), (2, I nx), (5, ptr w.heap.size), (3, S s), (16, I tm), (10, ptr (w.heap.size + 2)), (11, ptr (w.heap.size + 3)), (12, ptr (w.heap.size + 4))] 85 [2, 3, 5, 7, 8, 13] [] (rr16V w.heap.size w3.heap.size #[I id, S cl, S su, .slice a sc.length cap, I cr, I tm, I idl, I ab, I gr, I (ge + 1), I nx, I st, I en, I co] #[I ti, I fa, I tg, S ha, I mi, .bool true, I tm, I nx, S s] #[I nx, I id, I (ge + 1), S (hh), I tm, .bool false, I 0, I 0, S []] nx id ge tm s) rfl (by rfl) (by rfl) rfl (fun c => by kernel_rfl) (fun c => by kernel_rfl) (fun c w => by kernel_rfl) _ W6 (Nat.le_of_ble_eq_true rfl) rfl (fun (_ : Unit) => WRR w w.heap.size w3.heap.size w2.heap.size #[I id, S cl, S su, v0, I cr, I us, I idl, I ab, I gr, I ge, I tk, I st, I en, I co] #[I ti, I fa, I tg, S ha, I mi, .bool true, I tm, I nx, S s] #[I id, S cl, S su, .slice a sc.length cap, I cr, I tm, I idl, I ab, I gr, I (ge + 1), I nx, I st, I en, I co] #[I 0, S [], S [], .slice none 0 0, I 0, I 0, I 0, I 0, I 0, I 0, I 0, I 0, I 0, I 0] #[I 0, I 0, I 0, S [], I 0, .bool false, I 0, I 0, S []] #[I 0, I 0, I 0, S [], I 0, .bool false, I 0, I 0, S []] (fun _ => #[I id, S cl, S su, .slice a sc.length cap, I cr, I tm, I idl, I ab, I gr, I (ge + 1), I nx, I st, I en, I co]) (fun _ => #[I ti, I fa, I tg, S ha, I mi, .bool true, I tm, I nx, S s]) (fun _ => #[I nx, I id, I (ge + 1), S (hh), I tm, .bool false, I 0, I 0, S []]) sc (.slice a sc.length cap)) ⟨(), ⟨hb.drew, rf, rt, rn, ra, rb, rd, ho6, by simp; omega, by omega, by omega⟩⟩ (fun i hi c L W hW => hW.pure i (by intro e; subst e; simp at hi) (by intro e; subst e; simp at hi) (by intro e; subst e; simp at hi)) ?spc ?_
              case spc =>
                intro i hi hp hs c L W hW hL hd
                rcases (by simp [rr16T] at hi hp hs; omega : i = 0 ∨ i = 1 ∨ i = 4 ∨ i = 6 ∨ i = 9 ∨ i = 10 ∨ i = 11 ∨ i = 12) with rfl | rfl | rfl | rfl | rfl | rfl | rfl | rfl
                · skip
                  have f1 : (Instr.loadAt 24 (ptr (w3.heap.size))).run Tryz.prog W = .ok (.agg #[I id, S cl, S su, .slice a sc.length cap, I cr, I tm, I idl, I ab, I gr, I (ge + 1), I nx, I st, I en, I co]) W := s_ldr (T := 24) (n := 14) (fun _ => by kernel_rfl) (fun _ => by kernel_rfl) hW.kg (#[I id, S cl, S su, .slice a sc.length cap, I cr, I tm, I idl, I ab, I gr, I (ge + 1), I nx, I st, I en, I co]).toList rfl rfl
                  exact ⟨f1, hW.pure 0 (by decide) (by decide) (by decide)⟩
                · skip
                  have f1 : (Instr.loadAt 26 (ptr (w.heap.size + 1))).run Tryz.prog W = .ok (.agg #[I ti, I fa, I tg, S ha, I mi, .bool true, I tm, I nx, S s]) W := s_ldr (T := 26) (n := 9) (fun _ => by kernel_rfl) (fun _ => by kernel_rfl) hW.kt (#[I ti, I fa, I tg, S ha, I mi, .bool true, I tm, I nx, S s]).toList rfl rfl
                  exact ⟨f1, hW.pure 1 (by decide) (by decide) (by decide)⟩
                · skip
                  have f1 : (Instr.loadAt 3 (.pointer (some ⟨w.heap.size, 0, none⟩))).run Tryz.prog W = .ok (I id) W := s_ld (T := 3) (fun _ => by kernel_rfl) (cellr hW.kf rfl)
                  exact ⟨f1, hW.pure 4 (by decide) (by decide) (by decide)⟩
                · skip
                  have f1 : (Instr.loadAt 3 (.pointer (some ⟨w3.heap.size, 9, none⟩))).run Tryz.prog W = .ok (I (ge + 1)) W := s_ld (T := 3) (fun _ => by kernel_rfl) (cellr hW.kg rfl)
                  exact ⟨f1, hW.pure 6 (by decide) (by decide) (by decide)⟩
                · skip
                  exact ⟨⟨_, _, Tryz.func47, by kernel_rfl, rfl⟩, (unhide XU W (unhide HB0)).mono fun e w' q => ⟨c, fun _ _ => rfl, q.1, (hW.call q.2).pure 9 (by decide) (by decide) (by decide)⟩⟩
                · skip
                  have hr := hW.oa
                  rw [hL] at hr
                  have f1 : (Instr.storeAt 24 (ptr (w.heap.size + 2)) (.agg #[I id, S cl, S su, .slice a sc.length cap, I cr, I tm, I idl, I ab, I gr, I (ge + 1), I nx, I st, I en, I co])).run Tryz.prog W = .ok () (W.setRow (w.heap.size + 2) #[I id, S cl, S su, .slice a sc.length cap, I cr, I tm, I idl, I ab, I gr, I (ge + 1), I nx, I st, I en, I co]) := st_all (T := 24) (n := 14) (fun _ => by kernel_rfl) (cs := #[I 0, S [], S [], .slice none 0 0, I 0, I 0, I 0, I 0, I 0, I 0, I 0, I 0, I 0, I 0]) hr rfl #[I id, S cl, S su, .slice a sc.length cap, I cr, I tm, I idl, I ab, I gr, I (ge + 1), I nx, I st, I en, I co] rfl (by simp [Value.oneCell'])
                  exact ⟨rfl, _, f1, hW.puta⟩
                · skip
                  have hr := hW.ob
                  rw [hL] at hr
                  have f1 : (Instr.storeAt 26 (ptr (w.heap.size + 3)) (.agg #[I ti, I fa, I tg, S ha, I mi, .bool true, I tm, I nx, S s])).run Tryz.prog W = .ok () (W.setRow (w.heap.size + 3) #[I ti, I fa, I tg, S ha, I mi, .bool true, I tm, I nx, S s]) := st_all (T := 26) (n := 9) (fun _ => by kernel_rfl) (cs := #[I 0, I 0, I 0, S [], I 0, .bool false, I 0, I 0, S []]) hr rfl #[I ti, I fa, I tg, S ha, I mi, .bool true, I tm, I nx, S s] rfl (by simp [Value.oneCell'])
                  exact ⟨rfl, _, f1, hW.putb⟩
                · skip
                  have hr := hW.od
                  rw [hL] at hr
                  have f1 : (Instr.storeAt 26 (ptr (w.heap.size + 4)) (.agg #[I nx, I id, I (ge + 1), S (hh), I tm, .bool false, I 0, I 0, S []])).run Tryz.prog W = .ok () (W.setRow (w.heap.size + 4) #[I nx, I id, I (ge + 1), S (hh), I tm, .bool false, I 0, I 0, S []]) := st_all (T := 26) (n := 9) (fun _ => by kernel_rfl) (cs := #[I 0, I 0, I 0, S [], I 0, .bool false, I 0, I 0, S []]) hr rfl #[I nx, I id, I (ge + 1), S (hh), I tm, .bool false, I 0, I 0, S []] rfl (by simp [Value.oneCell'])
                  exact ⟨rfl, _, f1, hW.putd⟩
              intro c L W7 hall hW
              simp only [frmL, rr16T, rr16V, Act.put, List.setIfInBounds_toArray, List.set_cons_succ, List.set_cons_zero]
              have oa := hW.oa
              rw [hall 10 (by decide)] at oa
              have ob := hW.ob
              rw [hall 11 (by decide)] at ob
              have od := hW.od
              rw [hall 12 (by decide)] at od
              have hbe := hide hW.be
              have hown := hide hW.own
              have HA := hide oa
              have HBb := hide ob
              have HD := hide od
              clear hall hW oa ob od HB0 XU rf rt rn ra rb rd hb ho6
              go_wp2
              refine out4c (T := 24) (n := 14) (U := 26) (m := 9) (p := 10) (p' := 11) (p2 := 12) (q := 13) (cs := #[I id, S cl, S su, .slice a sc.length cap, I cr, I tm, I idl, I ab, I gr, I (ge + 1), I nx, I st, I en, I co]) (cs' := #[I ti, I fa, I tg, S ha, I mi, .bool true, I tm, I nx, S s]) (cs2 := #[I nx, I id, I (ge + 1), S (hh), I tm, .bool false, I 0, I 0, S []]) (fun _ => by kernel_rfl) (fun _ => by kernel_rfl) (fun _ => by kernel_rfl) (fun _ => by kernel_rfl) (Z := w.heap.size + 2) (Z' := w.heap.size + 3) (Z2 := w.heap.size + 4) (by rfl) (by rfl) (by rfl) (by rfl) (by rfl) (by rfl) (unhide HA) (by rfl) (unhide HBb) (by rfl) (unhide HD) (by rfl) ?_
              rw [unhide hE, OutR, if_pos rfl]
              have q1 : OwnS w.heap.size W7 (.slice a sc.length cap) sc := OwnS.below (B' := w.heap.size) (unhide hown) (Below.refl _ _) (by omega)
              exact ⟨a, cap, rfl, q1, unhide hbe⟩
          · have hE : Hid (E = 1) := hide (by rw [unhide HE, unhide HCK]; simp [h24])
            have d24 : ((s.length : Int) != 24) = true := by simp; omega
            clear HE HCK h24
            go_wp2_with (first | (refine wp_stA inf24 rfl (.tmp 10) (.tmp 49) rfl (w.heap.size + 2) (by rfl) #[I 0, S [], S [], .slice none 0 0, I 0, I 0, I 0, I 0, I 0, I 0, I 0, I 0, I 0, I 0] (by rfl) #[I 0, S [], S [], .slice none 0 0, I 0, I 0, I 0, I 0, I 0, I 0, I 0, I 0, I 0, I 0] rfl rfl (unhide HRa) (by simp [Value.oneCell']) ?_; generalize hZ : w2.setRow (w.heap.size + 2) #[I 0, S [], S [], .slice none 0 0, I 0, I 0, I 0, I 0, I 0, I 0, I 0, I 0, I 0, I 0] = Z1; have HZ1 := hide hZ; clear hZ) | (refine wp_stA inf26 rfl (.tmp 11) (.tmp 50) rfl (w.heap.size + 3) (by rfl) #[I 0, I 0, I 0, S [], I 0, .bool false, I 0, I 0, S []] (by rfl) #[I 0, I 0, I 0, S [], I 0, .bool false, I 0, I 0, S []] rfl rfl (by rw [← unhide HZ1]; exact row_set (unhide HRb) (by omega)) (by simp [Value.oneCell']) ?_; generalize hZ : Z1.setRow (w.heap.size + 3) #[I 0, I 0, I 0, S [], I 0, .bool false, I 0, I 0, S []] = Z2; have HZ2 := hide hZ; clear hZ) | (refine wp_stA inf26 rfl (.tmp 12) (.tmp 51) rfl (w.heap.size + 4) (by rfl) #[I 0, I 0, I 0, S [], I 0, .bool false, I 0, I 0, S []] (by rfl) #[I 0, I 0, I 0, S [], I 0, .bool false, I 0, I 0, S []] rfl rfl (by rw [← unhide HZ2, ← unhide HZ1]; exact row_set (row_set (unhide HRd) (by omega)) (by omega)) (by simp [Value.oneCell']) ?_; generalize hZ : Z2.setRow (w.heap.size + 4) #[I 0, I 0, I 0, S [], I 0, .bool false, I 0, I 0, S []] = Z3; have HZ3 := hide hZ; clear hZ))
            refine out4c (T := 24) (n := 14) (U := 26) (m := 9) (p := 10) (p' := 11) (p2 := 12) (q := 13) (cs := #[I 0, S [], S [], .slice none 0 0, I 0, I 0, I 0, I 0, I 0, I 0, I 0, I 0, I 0, I 0]) (cs' := #[I 0, I 0, I 0, S [], I 0, .bool false, I 0, I 0, S []]) (cs2 := #[I 0, I 0, I 0, S [], I 0, .bool false, I 0, I 0, S []]) (fun _ => by kernel_rfl) (fun _ => by kernel_rfl) (fun _ => by kernel_rfl) (fun _ => by kernel_rfl) (Z := w.heap.size + 2) (Z' := w.heap.size + 3) (Z2 := w.heap.size + 4) (by rfl) (by rfl) (by rfl) (by rfl) (by rfl) (by rfl) (by rw [← unhide HZ3, ← unhide HZ2, ← unhide HZ1]; exact row_set (row_set (setRow_row (unhide HRa)) (by omega)) (by omega)) (by rfl) (by rw [← unhide HZ3, ← unhide HZ2, ← unhide HZ1]; exact row_set (setRow_row (row_set (unhide HRb) (by omega))) (by omega)) (by rfl) (by rw [← unhide HZ3, ← unhide HZ2, ← unhide HZ1]; exact setRow_row (row_set (row_set (unhide HRd) (by omega)) (by omega))) (by rfl) ?_
            rw [unhide hE]
            exact ⟨rfl, by rw [← unhide HZ3, ← unhide HZ2, ← unhide HZ1]; exact bel_set (bel_set (bel_set (unhide HB) _ _ (by omega) (unhide HB).size) _ _ (by omega) (by simpa using (unhide HB).size)) _ _ (by omega) (by simpa using (unhide HB).size)⟩
end Go.Proofs.YtmjaobddgaglhaaGreatDoor
/- Finish, Tell. -/
namespace Go.Proofs.YtmjaobddgaglhaaGreatDoor
open Go.RowKit
set_option maxHeartbeats 4000000
set_option maxRecDepth 8000
/-- What Finish answers. -/
def finE (ok : Bool) (st stt us tm : Int) : Int := if ok = true ∧ st = 1 ∧ isE stt = true ∧ us ≤ tm then 0 else 1
def OutN (w : World) (E : Int) (sc : List Bs) (F : Value → Array Value) (e : Ending) (w' : World) : Prop :=
  if E = 0 then ∃ a cap, e = .returned (.tuple #[.agg (F (.slice a sc.length cap)), I 0]) ∧ OwnS w.heap.size w' (.slice a sc.length cap) sc ∧ Below w.heap.size w w' else e = .returned (.tuple #[.agg #[I 0, S [], S [], .slice none 0 0, I 0, I 0, I 0, I 0, I 0, I 0, I 0, I 0, I 0, I 0], I E]) ∧ Below w.heap.size w w'
theorem fam_lens (id : Int) (cl su : Bs) (sc : List Bs) (cr us idl ab gr ge tk st en co : Int) (h0 : famOK id cl su sc cr us idl ab gr ge tk st en co = true) : cl.length ≤ 1000 ∧ su.length ≤ 1000 ∧ Shn sc := by
  simp only [famOK, Bool.and_eq_true] at h0
  exact ⟨by have := right_one h0.2.2.2.1; omega, by have := right_one h0.2.2.2.2.1; omega, shn_right h0.2.2.2.2.2.1⟩
theorem finish_any (id : Int) (cl su : Bs) (va : Option Addr) (vc : Nat) (sc : List Bs) (cr us idl ab gr ge tk st en co : Int) (stt now : Int) (w : World) (h_cl : cl.length ≤ 9223372036854775807) (h_su : su.length ≤ 9223372036854775807) (hsc : Sts w va sc.length sc) (hsl : sc.length ≤ 140737488355000) (hln : Lns sc) : Calls Tryz.prog 16 #[.agg #[I id, S cl, S su, .slice va sc.length vc, I cr, I us, I idl, I ab, I gr, I ge, I tk, I st, I en, I co], I stt, I now] w (OutN w (finE (famOK id cl su sc cr us idl ab gr ge tk st en co) st stt us (nr now)) sc (fun v => #[I id, S cl, S su, v, I cr, I us, I idl, I ab, I gr, I ge, I tk, I stt, I (nr now), I co])) := by
  have hb : Below w.heap.size w ((w.alloc (.cells #[I id, S cl, S su, .slice va sc.length vc, I cr, I us, I idl, I ab, I gr, I ge, I tk, I st, I en, I co] 24)).alloc (.cells #[I 0, S [], S [], .slice none 0 0, I 0, I 0, I 0, I 0, I 0, I 0, I 0, I 0, I 0, I 0] 24)) := (((Below.refl _ w).alloc (by simp <;> omega) _).alloc (by simp <;> omega) _)
  have rf : ((w.alloc (.cells #[I id, S cl, S su, .slice va sc.length vc, I cr, I us, I idl, I ab, I gr, I ge, I tk, I st, I en, I co] 24)).alloc (.cells #[I 0, S [], S [], .slice none 0 0, I 0, I 0, I 0, I 0, I 0, I 0, I 0, I 0, I 0, I 0] 24)).heap[w.heap.size]? = some (.cells #[I id, S cl, S su, .slice va sc.length vc, I cr, I us, I idl, I ab, I gr, I ge, I tk, I st, I en, I co] 24 (0, 0)) := al_old _ _ _ (by simp <;> omega) (al_new w (.cells #[I id, S cl, S su, .slice va sc.length vc, I cr, I us, I idl, I ab, I gr, I ge, I tk, I st, I en, I co] 24) (w.heap.size) (by simp))
  have rr : ((w.alloc (.cells #[I id, S cl, S su, .slice va sc.length vc, I cr, I us, I idl, I ab, I gr, I ge, I tk, I st, I en, I co] 24)).alloc (.cells #[I 0, S [], S [], .slice none 0 0, I 0, I 0, I 0, I 0, I 0, I 0, I 0, I 0, I 0, I 0] 24)).heap[w.heap.size + 1]? = some (.cells #[I 0, S [], S [], .slice none 0 0, I 0, I 0, I 0, I 0, I 0, I 0, I 0, I 0, I 0, I 0] 24 (0, 0)) := al_new (w.alloc (.cells #[I id, S cl, S su, .slice va sc.length vc, I cr, I us, I idl, I ab, I gr, I ge, I tk, I st, I en, I co] 24)) (.cells #[I 0, S [], S [], .slice none 0 0, I 0, I 0, I 0, I 0, I 0, I 0, I 0, I 0, I 0, I 0] 24) (w.heap.size + 1) (by simp)
  generalize hW1 : ((w.alloc (.cells #[I id, S cl, S su, .slice va sc.length vc, I cr, I us, I idl, I ab, I gr, I ge, I tk, I st, I en, I co] 24)).alloc (.cells #[I 0, S [], S [], .slice none 0 0, I 0, I 0, I 0, I 0, I 0, I 0, I 0, I 0, I 0, I 0] 24)) = W1 at *
  have HB := hide hb
  have HRf := hide rf
  have HRr := hide rr
  clear hb rf rr
  have XN := hide (fun W => fnear_any now W)
  have XM := hide (fun W (h : Below w.heap.size w W) => famMay_any id cl su va vc sc cr us idl ab gr ge tk st en co W h_cl h_su (hsc.below h) hsl hln)
  have HJ1 : Hid (famOK id cl su sc cr us idl ab gr ge tk st en co = true → cl.length ≤ 1000 ∧ su.length ≤ 1000 ∧ Shn sc) := hide (fam_lens id cl su sc cr us idl ab gr ge tk st en co)
  have HE : Hid (finE (famOK id cl su sc cr us idl ab gr ge tk st en co) st stt us (nr now) = if famOK id cl su sc cr us idl ab gr ge tk st en co = true ∧ st = 1 ∧ isE stt = true ∧ us ≤ nr now then 0 else 1) := hide rfl
  obtain ⟨ht0, ht1⟩ := nr_b now
  have XI := hide (fun W => isEnd_any stt W)
  have XO := hide (fun W (h : Below w.heap.size w W) (h1 : cl.length ≤ 1000) (h2 : su.length ≤ 1000) (h3 : Shn sc) => ownFamily_any id cl su va vc sc cr us idl ab gr ge tk stt (nr now) co W h1 h2 (hsc.below h) h3)
  generalize finE (famOK id cl su sc cr us idl ab gr ge tk st en co) st stt us (nr now) = E at *
  generalize famOK id cl su sc cr us idl ab gr ge tk st en co = b0 at *
  generalize nr now = tm at *
  generalize isE stt = b2 at *
  clear hsc hln h_cl h_su hsl
  generalize hv0 : (Value.slice va sc.length vc) = v0 at *
  go_enter Tryz.func16, Tryz.ntmps16
  go_wp2_with fail
  refine (unhide XN W1).mono ?_
  rintro e w2 ⟨rfl, h2⟩
  have hbB := (unhide HB).trans (h2.mono (unhide HB).size)
  have rf := (h2.block _ (lt_of_row (unhide HRf))).trans (unhide HRf)
  have rr := (h2.block _ (lt_of_row (unhide HRr))).trans (unhide HRr)
  clear h2 HB HRf HRr  hW1
  have cf_0 : w2.cell? ⟨w.heap.size, 0, none⟩ = some (I id) := cellr rf rfl
  have cf_1 : w2.cell? ⟨w.heap.size, 1, none⟩ = some (S cl) := cellr rf rfl
  have cf_2 : w2.cell? ⟨w.heap.size, 2, none⟩ = some (S su) := cellr rf rfl
  have cf_3 : w2.cell? ⟨w.heap.size, 3, none⟩ = some (v0) := cellr rf rfl
  have cf_4 : w2.cell? ⟨w.heap.size, 4, none⟩ = some (I cr) := cellr rf rfl
  have cf_5 : w2.cell? ⟨w.heap.size, 5, none⟩ = some (I us) := cellr rf rfl
  have cf_6 : w2.cell? ⟨w.heap.size, 6, none⟩ = some (I idl) := cellr rf rfl
  have cf_7 : w2.cell? ⟨w.heap.size, 7, none⟩ = some (I ab) := cellr rf rfl
  have cf_8 : w2.cell? ⟨w.heap.size, 8, none⟩ = some (I gr) := cellr rf rfl
  have cf_9 : w2.cell? ⟨w.heap.size, 9, none⟩ = some (I ge) := cellr rf rfl
  have cf_10 : w2.cell? ⟨w.heap.size, 10, none⟩ = some (I tk) := cellr rf rfl
  have cf_11 : w2.cell? ⟨w.heap.size, 11, none⟩ = some (I st) := cellr rf rfl
  have cf_12 : w2.cell? ⟨w.heap.size, 12, none⟩ = some (I en) := cellr rf rfl
  have cf_13 : w2.cell? ⟨w.heap.size, 13, none⟩ = some (I co) := cellr rf rfl
  have HB := hide hbB
  have HRf := hide rf
  have HRr := hide rr
  clear hbB rf rr
  clear XN
  go_wp2_with fail
  refine (unhide XM w2 (unhide HB)).mono ?_
  rintro e w3 ⟨rfl, h3⟩
  have hbB := (unhide HB).trans (h3.mono (unhide HB).size)
  have rf := (h3.block _ (lt_of_row (unhide HRf))).trans (unhide HRf)
  have rr := (h3.block _ (lt_of_row (unhide HRr))).trans (unhide HRr)
  clear h3 HB HRf HRr cf_0 cf_1 cf_2 cf_3 cf_4 cf_5 cf_6 cf_7 cf_8 cf_9 cf_10 cf_11 cf_12 cf_13 
  have cf_5 : w3.cell? ⟨w.heap.size, 5, none⟩ = some (I us) := cellr rf rfl
  have cf_11 : w3.cell? ⟨w.heap.size, 11, none⟩ = some (I st) := cellr rf rfl
  have HB := hide hbB
  have HRf := hide rf
  have HRr := hide rr
  clear hbB rf rr
  clear XM
  cases b0
  · have hE : Hid (E = 1) := hide (by rw [unhide HE]; simp)
    clear HE
    go_wp2_with (refine wp_stA inf24 rfl (.tmp 6) (.tmp 29) rfl (w.heap.size + 1) (by rfl) #[I 0, S [], S [], .slice none 0 0, I 0, I 0, I 0, I 0, I 0, I 0, I 0, I 0, I 0, I 0] (by rfl) #[I 0, S [], S [], .slice none 0 0, I 0, I 0, I 0, I 0, I 0, I 0, I 0, I 0, I 0, I 0] rfl rfl (unhide HRr) (by simp [Value.oneCell']) ?_)
    refine out2c (T := 24) (n := 14) (p := 6) (q := 7) (cs := #[I 0, S [], S [], .slice none 0 0, I 0, I 0, I 0, I 0, I 0, I 0, I 0, I 0, I 0, I 0]) (fun _ => by kernel_rfl) (fun _ => by kernel_rfl) (Z := w.heap.size + 1) (by rfl) (by rfl) (by rfl) (by rfl) (setRow_row (unhide HRr)) (by rfl) ?_
    rw [unhide hE]
    exact ⟨rfl, bel_set (unhide HB) _ _ (by omega) (unhide HB).size⟩
  · skip
    obtain ⟨hs1, hs2, hs3⟩ := unhide HJ1 rfl
    clear HJ1
    have HS1 := hide hs1
    have HS2 := hide hs2
    have HS3 := hide hs3
    clear hs1 hs2 hs3
    cases h1 : (st == 1)
    · have hE : Hid (E = 1) := hide (by rw [unhide HE, if_neg (by rintro ⟨_, h, _⟩; rw [h] at h1; cases h1)])
      have d1 : (st != 1) = true := by simp [bne, h1]
      clear h1
      clear HE
      go_wp2_with (refine wp_stA inf24 rfl (.tmp 6) (.tmp 29) rfl (w.heap.size + 1) (by rfl) #[I 0, S [], S [], .slice none 0 0, I 0, I 0, I 0, I 0, I 0, I 0, I 0, I 0, I 0, I 0] (by rfl) #[I 0, S [], S [], .slice none 0 0, I 0, I 0, I 0, I 0, I 0, I 0, I 0, I 0, I 0, I 0] rfl rfl (unhide HRr) (by simp [Value.oneCell']) ?_)
      refine out2c (T := 24) (n := 14) (p := 6) (q := 7) (cs := #[I 0, S [], S [], .slice none 0 0, I 0, I 0, I 0, I 0, I 0, I 0, I 0, I 0, I 0, I 0]) (fun _ => by kernel_rfl) (fun _ => by kernel_rfl) (Z := w.heap.size + 1) (by rfl) (by rfl) (by rfl) (by rfl) (setRow_row (unhide HRr)) (by rfl) ?_
      rw [unhide hE]
      exact ⟨rfl, bel_set (unhide HB) _ _ (by omega) (unhide HB).size⟩
    · skip
      have d1 : (st != 1) = false := by simp [bne, h1]
      have HST : Hid (st = 1) := hide (by simpa using h1)
      clear h1
      go_wp2_with fail
      refine (unhide XI w3).mono ?_
      rintro e w9 ⟨rfl, hw9⟩
      rw [hw9]
      clear hw9 w9
      cases b2
      · have hE : Hid (E = 1) := hide (by rw [unhide HE]; simp)
        clear HE
        go_wp2_with (refine wp_stA inf24 rfl (.tmp 6) (.tmp 29) rfl (w.heap.size + 1) (by rfl) #[I 0, S [], S [], .slice none 0 0, I 0, I 0, I 0, I 0, I 0, I 0, I 0, I 0, I 0, I 0] (by rfl) #[I 0, S [], S [], .slice none 0 0, I 0, I 0, I 0, I 0, I 0, I 0, I 0, I 0, I 0, I 0] rfl rfl (unhide HRr) (by simp [Value.oneCell']) ?_)
        refine out2c (T := 24) (n := 14) (p := 6) (q := 7) (cs := #[I 0, S [], S [], .slice none 0 0, I 0, I 0, I 0, I 0, I 0, I 0, I 0, I 0, I 0, I 0]) (fun _ => by kernel_rfl) (fun _ => by kernel_rfl) (Z := w.heap.size + 1) (by rfl) (by rfl) (by rfl) (by rfl) (setRow_row (unhide HRr)) (by rfl) ?_
        rw [unhide hE]
        exact ⟨rfl, bel_set (unhide HB) _ _ (by omega) (unhide HB).size⟩
      · skip
        by_cases hu : tm < us
        · have hE : Hid (E = 1) := hide (by rw [unhide HE, if_neg (by omega)])
          have du : decide (tm < us) = true := by simpa using hu
          clear HE
          go_wp2_with (refine wp_stA inf24 rfl (.tmp 6) (.tmp 29) rfl (w.heap.size + 1) (by rfl) #[I 0, S [], S [], .slice none 0 0, I 0, I 0, I 0, I 0, I 0, I 0, I 0, I 0, I 0, I 0] (by rfl) #[I 0, S [], S [], .slice none 0 0, I 0, I 0, I 0, I 0, I 0, I 0, I 0, I 0, I 0, I 0] rfl rfl (unhide HRr) (by simp [Value.oneCell']) ?_)
          refine out2c (T := 24) (n := 14) (p := 6) (q := 7) (cs := #[I 0, S [], S [], .slice none 0 0, I 0, I 0, I 0, I 0, I 0, I 0, I 0, I 0, I 0, I 0]) (fun _ => by kernel_rfl) (fun _ => by kernel_rfl) (Z := w.heap.size + 1) (by rfl) (by rfl) (by rfl) (by rfl) (setRow_row (unhide HRr)) (by rfl) ?_
          rw [unhide hE]
          exact ⟨rfl, bel_set (unhide HB) _ _ (by omega) (unhide HB).size⟩
        · have du : decide (tm < us) = false := by simpa using hu
          have hE : Hid (E = 0) := hide (by rw [unhide HE, if_pos ⟨by simp, unhide HST, by simp, by omega⟩])
          clear HE hu HST
          go_upto_region 5 with (first | (refine wp_stC (T := 3) (fun _ => by kernel_rfl) rfl (.tmp 32) (.tmp 30) rfl (w.heap.size) 11 (by rfl) (I stt) (by rfl) rfl rfl #[I id, S cl, S su, v0, I cr, I us, I idl, I ab, I gr, I ge, I tk, I st, I en, I co] 24 (unhide HRf) (by simp) #[I id, S cl, S su, v0, I cr, I us, I idl, I ab, I gr, I ge, I tk, I stt, I en, I co] rfl ?_; generalize hY : w3.setRow (w.heap.size) #[I id, S cl, S su, v0, I cr, I us, I idl, I ab, I gr, I ge, I tk, I stt, I en, I co] = Y1; have HY1 := hide hY; clear hY) | (refine wp_stC (T := 3) (fun _ => by kernel_rfl) rfl (.tmp 33) (.tmp 31) rfl (w.heap.size) 12 (by rfl) (I tm) (by rfl) rfl rfl #[I id, S cl, S su, v0, I cr, I us, I idl, I ab, I gr, I ge, I tk, I stt, I en, I co] 24 (by rw [← unhide HY1]; exact setRow_row (unhide HRf)) (by simp) #[I id, S cl, S su, v0, I cr, I us, I idl, I ab, I gr, I ge, I tk, I stt, I tm, I co] rfl ?_; generalize hY : Y1.setRow (w.heap.size) #[I id, S cl, S su, v0, I cr, I us, I idl, I ab, I gr, I ge, I tk, I stt, I tm, I co] = Y2; have HY2 := hide hY; clear hY))
          have rf : Y2.heap[w.heap.size]? = some (.cells #[I id, S cl, S su, v0, I cr, I us, I idl, I ab, I gr, I ge, I tk, I stt, I tm, I co] 24 (0, 0)) := by rw [← unhide HY2, ← unhide HY1]; exact setRow_row (setRow_row (unhide HRf))
          have rr : Y2.heap[w.heap.size + 1]? = some (.cells #[I 0, S [], S [], .slice none 0 0, I 0, I 0, I 0, I 0, I 0, I 0, I 0, I 0, I 0, I 0] 24 (0, 0)) := by rw [← unhide HY2, ← unhide HY1]; exact row_set (row_set (unhide HRr) (by omega)) (by omega)
          have hb : Below w.heap.size w Y2 := by rw [← unhide HY2, ← unhide HY1]; exact bel_set (bel_set (unhide HB) _ _ (by omega) (by simpa using (unhide HB).size)) _ _ (by omega) (by simpa using (unhide HB).size)
          clear HB HRf HRr HY1 HY2 cf_5 cf_11
          clear Y1
          generalize Y2 = W4 at *
          have cf_0 : W4.cell? ⟨w.heap.size, 0, none⟩ = some (I id) := cellr rf rfl
          have cf_1 : W4.cell? ⟨w.heap.size, 1, none⟩ = some (S cl) := cellr rf rfl
          have cf_2 : W4.cell? ⟨w.heap.size, 2, none⟩ = some (S su) := cellr rf rfl
          have cf_3 : W4.cell? ⟨w.heap.size, 3, none⟩ = some (v0) := cellr rf rfl
          have cf_4 : W4.cell? ⟨w.heap.size, 4, none⟩ = some (I cr) := cellr rf rfl
          have cf_5 : W4.cell? ⟨w.heap.size, 5, none⟩ = some (I us) := cellr rf rfl
          have cf_6 : W4.cell? ⟨w.heap.size, 6, none⟩ = some (I idl) := cellr rf rfl
          have cf_7 : W4.cell? ⟨w.heap.size, 7, none⟩ = some (I ab) := cellr rf rfl
          have cf_8 : W4.cell? ⟨w.heap.size, 8, none⟩ = some (I gr) := cellr rf rfl
          have cf_9 : W4.cell? ⟨w.heap.size, 9, none⟩ = some (I ge) := cellr rf rfl
          have cf_10 : W4.cell? ⟨w.heap.size, 10, none⟩ = some (I tk) := cellr rf rfl
          have cf_11 : W4.cell? ⟨w.heap.size, 11, none⟩ = some (I stt) := cellr rf rfl
          have cf_12 : W4.cell? ⟨w.heap.size, 12, none⟩ = some (I tm) := cellr rf rfl
          have cf_13 : W4.cell? ⟨w.heap.size, 13, none⟩ = some (I co) := cellr rf rfl
          have HB := hide hb
          have HRf := hide rf
          have HRr := hide rr
          clear hb rf rr
          have HX := hide (unhide XO W4 (unhide HB) (unhide HS1) (unhide HS2) (unhide HS3))
          clear XO HS1 HS2 HS3
          have hl2 := lt_of_row (unhide HRr)
          go_wp2_with fail
          refine (unhide HX).mono ?_
          rintro e w5 ⟨a, cap, rfl, ho, h5⟩
          have HO := hide ho
          clear HX ho
          have hbB := (unhide HB).trans (h5.mono (unhide HB).size)
          have rf := (h5.block _ (lt_of_row (unhide HRf))).trans (unhide HRf)
          have rr := (h5.block _ (lt_of_row (unhide HRr))).trans (unhide HRr)
          clear h5 HB HRf HRr cf_0 cf_1 cf_2 cf_3 cf_4 cf_5 cf_6 cf_7 cf_8 cf_9 cf_10 cf_11 cf_12 cf_13 
          have HB := hide hbB
          have HRf := hide rf
          have HRr := hide rr
          clear hbB rf rr
          go_wp2_with (refine wp_stA inf24 rfl (.tmp 6) (.tmp 35) rfl (w.heap.size + 1) (by rfl) #[I id, S cl, S su, .slice a sc.length cap, I cr, I us, I idl, I ab, I gr, I ge, I tk, I stt, I tm, I co] (by rfl) #[I 0, S [], S [], .slice none 0 0, I 0, I 0, I 0, I 0, I 0, I 0, I 0, I 0, I 0, I 0] rfl rfl (unhide HRr) (by simp [Value.oneCell']) ?_)
          refine out2c (T := 24) (n := 14) (p := 6) (q := 7) (cs := #[I id, S cl, S su, .slice a sc.length cap, I cr, I us, I idl, I ab, I gr, I ge, I tk, I stt, I tm, I co]) (fun _ => by kernel_rfl) (fun _ => by kernel_rfl) (Z := w.heap.size + 1) (by rfl) (by rfl) (by rfl) (by rfl) (setRow_row (unhide HRr)) (by rfl) ?_
          rw [unhide hE, OutN, if_pos rfl]
          exact ⟨a, cap, rfl, (own_set (unhide HO) _ _ hl2).below (Below.refl _ _) (by omega), bel_set (unhide HB) _ _ (by omega) (unhide HB).size⟩
theorem rfinish_any (id : Int) (cl su : Bs) (va : Option Addr) (vc : Nat) (sc : List Bs) (cr us idl ab gr ge tk st en co : Int) (stt now : Int) (w : World) (h_cl : cl.length ≤ 9223372036854775807) (h_su : su.length ≤ 9223372036854775807) (hsc : Sts w va sc.length sc) (hsl : sc.length ≤ 140737488355000) (hln : Lns sc) : Calls Tryz.prog 17 #[.agg #[I id, S cl, S su, .slice va sc.length vc, I cr, I us, I idl, I ab, I gr, I ge, I tk, I st, I en, I co], I stt, I now] w (OutN w (finE (famOK id cl su sc cr us idl ab gr ge tk st en co) st stt us (nr now)) sc (fun v => #[I id, S cl, S su, v, I cr, I us, I idl, I ab, I gr, I ge, I tk, I stt, I (nr now), I co])) := by
  have hb : Below w.heap.size w ((w.alloc (.cells #[I id, S cl, S su, .slice va sc.length vc, I cr, I us, I idl, I ab, I gr, I ge, I tk, I st, I en, I co] 24)).alloc (.cells #[I 0, S [], S [], .slice none 0 0, I 0, I 0, I 0, I 0, I 0, I 0, I 0, I 0, I 0, I 0] 24)) := (((Below.refl _ w).alloc (by simp <;> omega) _).alloc (by simp <;> omega) _)
  have rf : ((w.alloc (.cells #[I id, S cl, S su, .slice va sc.length vc, I cr, I us, I idl, I ab, I gr, I ge, I tk, I st, I en, I co] 24)).alloc (.cells #[I 0, S [], S [], .slice none 0 0, I 0, I 0, I 0, I 0, I 0, I 0, I 0, I 0, I 0, I 0] 24)).heap[w.heap.size]? = some (.cells #[I id, S cl, S su, .slice va sc.length vc, I cr, I us, I idl, I ab, I gr, I ge, I tk, I st, I en, I co] 24 (0, 0)) := al_old _ _ _ (by simp <;> omega) (al_new w (.cells #[I id, S cl, S su, .slice va sc.length vc, I cr, I us, I idl, I ab, I gr, I ge, I tk, I st, I en, I co] 24) (w.heap.size) (by simp))
  have rr : ((w.alloc (.cells #[I id, S cl, S su, .slice va sc.length vc, I cr, I us, I idl, I ab, I gr, I ge, I tk, I st, I en, I co] 24)).alloc (.cells #[I 0, S [], S [], .slice none 0 0, I 0, I 0, I 0, I 0, I 0, I 0, I 0, I 0, I 0, I 0] 24)).heap[w.heap.size + 1]? = some (.cells #[I 0, S [], S [], .slice none 0 0, I 0, I 0, I 0, I 0, I 0, I 0, I 0, I 0, I 0, I 0] 24 (0, 0)) := al_new (w.alloc (.cells #[I id, S cl, S su, .slice va sc.length vc, I cr, I us, I idl, I ab, I gr, I ge, I tk, I st, I en, I co] 24)) (.cells #[I 0, S [], S [], .slice none 0 0, I 0, I 0, I 0, I 0, I 0, I 0, I 0, I 0, I 0, I 0] 24) (w.heap.size + 1) (by simp)
  generalize hW1 : ((w.alloc (.cells #[I id, S cl, S su, .slice va sc.length vc, I cr, I us, I idl, I ab, I gr, I ge, I tk, I st, I en, I co] 24)).alloc (.cells #[I 0, S [], S [], .slice none 0 0, I 0, I 0, I 0, I 0, I 0, I 0, I 0, I 0, I 0, I 0] 24)) = W1 at *
  have HB := hide hb
  have HRf := hide rf
  have HRr := hide rr
  clear hb rf rr
  have XN := hide (fun W => rNear84 now W)
  have XM := hide (fun W (h : Below w.heap.size w W) => rMay75 id cl su va vc sc cr us idl ab gr ge tk st en co W h_cl h_su (hsc.below h) hsl hln)
  have HJ1 : Hid (famOK id cl su sc cr us idl ab gr ge tk st en co = true → cl.length ≤ 1000 ∧ su.length ≤ 1000 ∧ Shn sc) := hide (fam_lens id cl su sc cr us idl ab gr ge tk st en co)
  have HE : Hid (finE (famOK id cl su sc cr us idl ab gr ge tk st en co) st stt us (nr now) = if famOK id cl su sc cr us idl ab gr ge tk st en co = true ∧ st = 1 ∧ isE stt = true ∧ us ≤ nr now then 0 else 1) := hide rfl
  obtain ⟨ht0, ht1⟩ := nr_b now
  have XC := hide (fun W (h : Below w.heap.size w W) (h3 : Shn sc) => rcopy_any id cl su va vc sc cr us idl ab gr ge tk st en co W (hsc.below h) h3)
  have HI : Hid (isE stt = (decide (2 ≤ stt) && decide (stt ≤ 4))) := hide rfl
  generalize finE (famOK id cl su sc cr us idl ab gr ge tk st en co) st stt us (nr now) = E at *
  generalize famOK id cl su sc cr us idl ab gr ge tk st en co = b0 at *
  generalize nr now = tm at *
  generalize isE stt = b2 at *
  clear hsc hln h_cl h_su hsl
  generalize hv0 : (Value.slice va sc.length vc) = v0 at *
  go_enter Tryz.func17, Tryz.ntmps17
  have c0 : W1.cell? ⟨w.heap.size, 0, none⟩ = some (I id) := cellr (unhide HRf) rfl
  have c1 : W1.cell? ⟨w.heap.size, 1, none⟩ = some (S cl) := cellr (unhide HRf) rfl
  have c2 : W1.cell? ⟨w.heap.size, 2, none⟩ = some (S su) := cellr (unhide HRf) rfl
  have c3 : W1.cell? ⟨w.heap.size, 3, none⟩ = some (v0) := cellr (unhide HRf) rfl
  have c4 : W1.cell? ⟨w.heap.size, 4, none⟩ = some (I cr) := cellr (unhide HRf) rfl
  have c5 : W1.cell? ⟨w.heap.size, 5, none⟩ = some (I us) := cellr (unhide HRf) rfl
  have c6 : W1.cell? ⟨w.heap.size, 6, none⟩ = some (I idl) := cellr (unhide HRf) rfl
  have c7 : W1.cell? ⟨w.heap.size, 7, none⟩ = some (I ab) := cellr (unhide HRf) rfl
  have c8 : W1.cell? ⟨w.heap.size, 8, none⟩ = some (I gr) := cellr (unhide HRf) rfl
  have c9 : W1.cell? ⟨w.heap.size, 9, none⟩ = some (I ge) := cellr (unhide HRf) rfl
  have c10 : W1.cell? ⟨w.heap.size, 10, none⟩ = some (I tk) := cellr (unhide HRf) rfl
  have c11 : W1.cell? ⟨w.heap.size, 11, none⟩ = some (I st) := cellr (unhide HRf) rfl
  have c12 : W1.cell? ⟨w.heap.size, 12, none⟩ = some (I en) := cellr (unhide HRf) rfl
  have c13 : W1.cell? ⟨w.heap.size, 13, none⟩ = some (I co) := cellr (unhide HRf) rfl
  go_wp2_with fail
  refine (unhide XM W1 (unhide HB)).mono ?_
  rintro e w2 ⟨rfl, h2⟩
  have hbB := (unhide HB).trans (h2.mono (unhide HB).size)
  have rf := (h2.block _ (lt_of_row (unhide HRf))).trans (unhide HRf)
  have rr := (h2.block _ (lt_of_row (unhide HRr))).trans (unhide HRr)
  clear h2 HB HRf HRr c0 c1 c2 c3 c4 c5 c6 c7 c8 c9 c10 c11 c12 c13 hW1
  have cf_5 : w2.cell? ⟨w.heap.size, 5, none⟩ = some (I us) := cellr rf rfl
  have cf_11 : w2.cell? ⟨w.heap.size, 11, none⟩ = some (I st) := cellr rf rfl
  have HB := hide hbB
  have HRf := hide rf
  have HRr := hide rr
  clear hbB rf rr
  clear XM
  go_wp2_with fail
  refine (unhide XN w2).mono ?_
  rintro e w9 ⟨rfl, hw9⟩
  rw [hw9]
  clear hw9 w9 XN
  cases b0
  · have hE : Hid (E = 1) := hide (by rw [unhide HE]; simp)
    clear HE HI
    go_wp2_with (refine wp_stA inf24 rfl (.tmp 6) (.tmp 36) rfl (w.heap.size + 1) (by rfl) #[I 0, S [], S [], .slice none 0 0, I 0, I 0, I 0, I 0, I 0, I 0, I 0, I 0, I 0, I 0] (by rfl) #[I 0, S [], S [], .slice none 0 0, I 0, I 0, I 0, I 0, I 0, I 0, I 0, I 0, I 0, I 0] rfl rfl (unhide HRr) (by simp [Value.oneCell']) ?_)
    refine out2c (T := 24) (n := 14) (p := 6) (q := 7) (cs := #[I 0, S [], S [], .slice none 0 0, I 0, I 0, I 0, I 0, I 0, I 0, I 0, I 0, I 0, I 0]) (fun _ => by kernel_rfl) (fun _ => by kernel_rfl) (Z := w.heap.size + 1) (by rfl) (by rfl) (by rfl) (by rfl) (setRow_row (unhide HRr)) (by rfl) ?_
    rw [unhide hE]
    exact ⟨rfl, bel_set (unhide HB) _ _ (by omega) (unhide HB).size⟩
  · skip
    obtain ⟨hs1, hs2, hs3⟩ := unhide HJ1 rfl
    clear HJ1 hs1 hs2
    have HS3 := hide hs3
    clear hs3
    cases h1 : (st == 1)
    · have hE : Hid (E = 1) := hide (by rw [unhide HE, if_neg (by rintro ⟨_, h, _⟩; rw [h] at h1; cases h1)])
      have d1 : (st != 1) = true := by simp [bne, h1]
      clear h1
      clear HE HI
      go_wp2_with (refine wp_stA inf24 rfl (.tmp 6) (.tmp 36) rfl (w.heap.size + 1) (by rfl) #[I 0, S [], S [], .slice none 0 0, I 0, I 0, I 0, I 0, I 0, I 0, I 0, I 0, I 0, I 0] (by rfl) #[I 0, S [], S [], .slice none 0 0, I 0, I 0, I 0, I 0, I 0, I 0, I 0, I 0, I 0, I 0] rfl rfl (unhide HRr) (by simp [Value.oneCell']) ?_)
      refine out2c (T := 24) (n := 14) (p := 6) (q := 7) (cs := #[I 0, S [], S [], .slice none 0 0, I 0, I 0, I 0, I 0, I 0, I 0, I 0, I 0, I 0, I 0]) (fun _ => by kernel_rfl) (fun _ => by kernel_rfl) (Z := w.heap.size + 1) (by rfl) (by rfl) (by rfl) (by rfl) (setRow_row (unhide HRr)) (by rfl) ?_
      rw [unhide hE]
      exact ⟨rfl, bel_set (unhide HB) _ _ (by omega) (unhide HB).size⟩
    · skip
      have d1 : (st != 1) = false := by simp [bne, h1]
      have HST : Hid (st = 1) := hide (by simpa using h1)
      clear h1
      by_cases hl : stt < 2
      · have hE : Hid (E = 1) := hide (by rw [unhide HE, if_neg (by rintro ⟨_, _, h, _⟩; rw [unhide HI] at h; simp at h; omega)])
        have dl : decide (stt < 2) = true := by simpa using hl
        clear HE HI
        go_wp2_with (refine wp_stA inf24 rfl (.tmp 6) (.tmp 36) rfl (w.heap.size + 1) (by rfl) #[I 0, S [], S [], .slice none 0 0, I 0, I 0, I 0, I 0, I 0, I 0, I 0, I 0, I 0, I 0] (by rfl) #[I 0, S [], S [], .slice none 0 0, I 0, I 0, I 0, I 0, I 0, I 0, I 0, I 0, I 0, I 0] rfl rfl (unhide HRr) (by simp [Value.oneCell']) ?_)
        refine out2c (T := 24) (n := 14) (p := 6) (q := 7) (cs := #[I 0, S [], S [], .slice none 0 0, I 0, I 0, I 0, I 0, I 0, I 0, I 0, I 0, I 0, I 0]) (fun _ => by kernel_rfl) (fun _ => by kernel_rfl) (Z := w.heap.size + 1) (by rfl) (by rfl) (by rfl) (by rfl) (setRow_row (unhide HRr)) (by rfl) ?_
        rw [unhide hE]
        exact ⟨rfl, bel_set (unhide HB) _ _ (by omega) (unhide HB).size⟩
      · have dl : decide (stt < 2) = false := by simpa using hl
        by_cases hh : 4 < stt
        · have hE : Hid (E = 1) := hide (by rw [unhide HE, if_neg (by rintro ⟨_, _, h, _⟩; rw [unhide HI] at h; simp at h; omega)])
          have dh : decide (4 < stt) = true := by simpa using hh
          clear HE HI
          go_wp2_with (refine wp_stA inf24 rfl (.tmp 6) (.tmp 36) rfl (w.heap.size + 1) (by rfl) #[I 0, S [], S [], .slice none 0 0, I 0, I 0, I 0, I 0, I 0, I 0, I 0, I 0, I 0, I 0] (by rfl) #[I 0, S [], S [], .slice none 0 0, I 0, I 0, I 0, I 0, I 0, I 0, I 0, I 0, I 0, I 0] rfl rfl (unhide HRr) (by simp [Value.oneCell']) ?_)
          refine out2c (T := 24) (n := 14) (p := 6) (q := 7) (cs := #[I 0, S [], S [], .slice none 0 0, I 0, I 0, I 0, I 0, I 0, I 0, I 0, I 0, I 0, I 0]) (fun _ => by kernel_rfl) (fun _ => by kernel_rfl) (Z := w.heap.size + 1) (by rfl) (by rfl) (by rfl) (by rfl) (setRow_row (unhide HRr)) (by rfl) ?_
          rw [unhide hE]
          exact ⟨rfl, bel_set (unhide HB) _ _ (by omega) (unhide HB).size⟩
        · have dh : decide (4 < stt) = false := by simpa using hh
          by_cases hu : tm < us
          · have hE : Hid (E = 1) := hide (by rw [unhide HE, if_neg (by omega)])
            have du : decide (tm < us) = true := by simpa using hu
            clear HE HI
            go_wp2_with (refine wp_stA inf24 rfl (.tmp 6) (.tmp 36) rfl (w.heap.size + 1) (by rfl) #[I 0, S [], S [], .slice none 0 0, I 0, I 0, I 0, I 0, I 0, I 0, I 0, I 0, I 0, I 0] (by rfl) #[I 0, S [], S [], .slice none 0 0, I 0, I 0, I 0, I 0, I 0, I 0, I 0, I 0, I 0, I 0] rfl rfl (unhide HRr) (by simp [Value.oneCell']) ?_)
            refine out2c (T := 24) (n := 14) (p := 6) (q := 7) (cs := #[I 0, S [], S [], .slice none 0 0, I 0, I 0, I 0, I 0, I 0, I 0, I 0, I 0, I 0, I 0]) (fun _ => by kernel_rfl) (fun _ => by kernel_rfl) (Z := w.heap.size + 1) (by rfl) (by rfl) (by rfl) (by rfl) (setRow_row (unhide HRr)) (by rfl) ?_
            rw [unhide hE]
            exact ⟨rfl, bel_set (unhide HB) _ _ (by omega) (unhide HB).size⟩
          · have du : decide (tm < us) = false := by simpa using hu
            have hE : Hid (E = 0) := hide (by rw [unhide HE, if_pos ⟨by simp, unhide HST, (by rw [unhide HI]; simp; omega), by omega⟩])
            clear HE hu HST HI hl hh
            have HX := hide (unhide XC w2 (unhide HB) (unhide HS3))
            clear XC HS3
            have lf : w2.heap[w.heap.size]? = some (.cells #[I id, S cl, S su, v0, I cr, I us, I idl, I ab, I gr, I ge, I tk, I st, I en, I co] 24 (0, 0)) := unhide HRf
            clear cf_5 cf_11
            have c0 : w2.cell? ⟨w.heap.size, 0, none⟩ = some (I id) := cellr lf rfl
            have c1 : w2.cell? ⟨w.heap.size, 1, none⟩ = some (S cl) := cellr lf rfl
            have c2 : w2.cell? ⟨w.heap.size, 2, none⟩ = some (S su) := cellr lf rfl
            have c3 : w2.cell? ⟨w.heap.size, 3, none⟩ = some (v0) := cellr lf rfl
            have c4 : w2.cell? ⟨w.heap.size, 4, none⟩ = some (I cr) := cellr lf rfl
            have c5 : w2.cell? ⟨w.heap.size, 5, none⟩ = some (I us) := cellr lf rfl
            have c6 : w2.cell? ⟨w.heap.size, 6, none⟩ = some (I idl) := cellr lf rfl
            have c7 : w2.cell? ⟨w.heap.size, 7, none⟩ = some (I ab) := cellr lf rfl
            have c8 : w2.cell? ⟨w.heap.size, 8, none⟩ = some (I gr) := cellr lf rfl
            have c9 : w2.cell? ⟨w.heap.size, 9, none⟩ = some (I ge) := cellr lf rfl
            have c10 : w2.cell? ⟨w.heap.size, 10, none⟩ = some (I tk) := cellr lf rfl
            have c11 : w2.cell? ⟨w.heap.size, 11, none⟩ = some (I st) := cellr lf rfl
            have c12 : w2.cell? ⟨w.heap.size, 12, none⟩ = some (I en) := cellr lf rfl
            have c13 : w2.cell? ⟨w.heap.size, 13, none⟩ = some (I co) := cellr lf rfl
            have hz2 := lt_of_row (unhide HRr)
            clear lf
            go_wp2_with fail
            refine (unhide HX).mono ?_
            rintro e w3 ⟨a, cap, rfl, ho, h3⟩
            have HO := hide ho
            have hs3 := h3.size
            clear HX ho
            have hbB := (unhide HB).trans (h3.mono (unhide HB).size)
            have rf := (h3.block _ (lt_of_row (unhide HRf))).trans (unhide HRf)
            have rr := (h3.block _ (lt_of_row (unhide HRr))).trans (unhide HRr)
            clear h3 HB HRf HRr c0 c1 c2 c3 c4 c5 c6 c7 c8 c9 c10 c11 c12 c13 
            have HB := hide hbB
            have HRf := hide rf
            have HRr := hide rr
            clear hbB rf rr
            go_upto_region 6 with (refine wp_stA inf24 rfl (.tmp 10) (.tmp 38) rfl w3.heap.size (by rfl) #[I id, S cl, S su, .slice a sc.length cap, I cr, I us, I idl, I ab, I gr, I ge, I tk, I st, I en, I co] (by rfl) #[I 0, S [], S [], .slice none 0 0, I 0, I 0, I 0, I 0, I 0, I 0, I 0, I 0, I 0, I 0] rfl rfl (heap_alloc_new _ _) (by simp [Value.oneCell']) ?_; generalize hW4 : (w3.alloc (.cells #[I 0, S [], S [], .slice none 0 0, I 0, I 0, I 0, I 0, I 0, I 0, I 0, I 0, I 0, I 0] 24)).setRow w3.heap.size #[I id, S cl, S su, .slice a sc.length cap, I cr, I us, I idl, I ab, I gr, I ge, I tk, I st, I en, I co] = W4)
            obtain ⟨h4, rn⟩ := new_row hW4
            have ho4 := (unhide HO).below h4 (Nat.le_refl _)
            have HO4 := hide ho4
            have hz3 := lt_of_row (unhide HRr)
            clear hW4 HO ho4
            have hbB := (unhide HB).trans (h4.mono (unhide HB).size)
            have rf := (h4.block _ (lt_of_row (unhide HRf))).trans (unhide HRf)
            have rr := (h4.block _ (lt_of_row (unhide HRr))).trans (unhide HRr)
            clear h4 HB HRf HRr  
            have HB := hide hbB
            have HRf := hide rf
            have HRr := hide rr
            have HRn := hide rn
            clear hbB rf rr rn
            go_upto_region 8 with (first | (refine wp_stC (T := 3) (fun _ => by kernel_rfl) rfl (.tmp 40) (.tmp 39) rfl (w3.heap.size) 11 (by rfl) (I stt) (by rfl) rfl rfl #[I id, S cl, S su, .slice a sc.length cap, I cr, I us, I idl, I ab, I gr, I ge, I tk, I st, I en, I co] 24 (unhide HRn) (by simp) #[I id, S cl, S su, .slice a sc.length cap, I cr, I us, I idl, I ab, I gr, I ge, I tk, I stt, I en, I co] rfl ?_; generalize hY : W4.setRow (w3.heap.size) #[I id, S cl, S su, .slice a sc.length cap, I cr, I us, I idl, I ab, I gr, I ge, I tk, I stt, I en, I co] = Y1; have HY1 := hide hY; clear hY) | (refine wp_stC (T := 3) (fun _ => by kernel_rfl) rfl (.tmp 42) (.tmp 41) rfl (w3.heap.size) 12 (by rfl) (I tm) (by rfl) rfl rfl #[I id, S cl, S su, .slice a sc.length cap, I cr, I us, I idl, I ab, I gr, I ge, I tk, I stt, I en, I co] 24 (by rw [← unhide HY1]; exact setRow_row (unhide HRn)) (by simp) #[I id, S cl, S su, .slice a sc.length cap, I cr, I us, I idl, I ab, I gr, I ge, I tk, I stt, I tm, I co] rfl ?_; generalize hY : Y1.setRow (w3.heap.size) #[I id, S cl, S su, .slice a sc.length cap, I cr, I us, I idl, I ab, I gr, I ge, I tk, I stt, I tm, I co] = Y2; have HY2 := hide hY; clear hY))
            have rn : Y2.heap[w3.heap.size]? = some (.cells #[I id, S cl, S su, .slice a sc.length cap, I cr, I us, I idl, I ab, I gr, I ge, I tk, I stt, I tm, I co] 24 (0, 0)) := by rw [← unhide HY2, ← unhide HY1]; exact setRow_row (setRow_row (unhide HRn))
            have rr : Y2.heap[w.heap.size + 1]? = some (.cells #[I 0, S [], S [], .slice none 0 0, I 0, I 0, I 0, I 0, I 0, I 0, I 0, I 0, I 0, I 0] 24 (0, 0)) := by rw [← unhide HY2, ← unhide HY1]; exact row_set (row_set (unhide HRr) (by omega)) (by omega)
            have hb : Below w.heap.size w Y2 := by rw [← unhide HY2, ← unhide HY1]; exact bel_set (bel_set (unhide HB) _ _ (by omega) (by simpa using (unhide HB).size)) _ _ (by omega) (by simpa using (unhide HB).size)
            have ho5 : OwnS w2.heap.size Y2 (.slice a sc.length cap) sc := by rw [← unhide HY2, ← unhide HY1]; exact own_set2 (own_set2 (unhide HO4) (unhide HRn) (by decide) _) (setRow_row (unhide HRn)) (by decide) _
            clear HB HRf HRr HRn HO4 HY1 HY2
            clear Y1
            generalize Y2 = W5 at *
            have cn_0 : W5.cell? ⟨w3.heap.size, 0, none⟩ = some (I id) := cellr rn rfl
            have cn_1 : W5.cell? ⟨w3.heap.size, 1, none⟩ = some (S cl) := cellr rn rfl
            have cn_2 : W5.cell? ⟨w3.heap.size, 2, none⟩ = some (S su) := cellr rn rfl
            have cn_3 : W5.cell? ⟨w3.heap.size, 3, none⟩ = some (.slice a sc.length cap) := cellr rn rfl
            have cn_4 : W5.cell? ⟨w3.heap.size, 4, none⟩ = some (I cr) := cellr rn rfl
            have cn_5 : W5.cell? ⟨w3.heap.size, 5, none⟩ = some (I us) := cellr rn rfl
            have cn_6 : W5.cell? ⟨w3.heap.size, 6, none⟩ = some (I idl) := cellr rn rfl
            have cn_7 : W5.cell? ⟨w3.heap.size, 7, none⟩ = some (I ab) := cellr rn rfl
            have cn_8 : W5.cell? ⟨w3.heap.size, 8, none⟩ = some (I gr) := cellr rn rfl
            have cn_9 : W5.cell? ⟨w3.heap.size, 9, none⟩ = some (I ge) := cellr rn rfl
            have cn_10 : W5.cell? ⟨w3.heap.size, 10, none⟩ = some (I tk) := cellr rn rfl
            have cn_11 : W5.cell? ⟨w3.heap.size, 11, none⟩ = some (I stt) := cellr rn rfl
            have cn_12 : W5.cell? ⟨w3.heap.size, 12, none⟩ = some (I tm) := cellr rn rfl
            have cn_13 : W5.cell? ⟨w3.heap.size, 13, none⟩ = some (I co) := cellr rn rfl
            have HB := hide hb
            have HRr := hide rr
            have HRn := hide rn
            clear hb rr rn
            have HO5 := hide ho5
            clear ho5
            go_wp2_with (refine wp_stA inf24 rfl (.tmp 6) (.tmp 43) rfl (w.heap.size + 1) (by rfl) #[I id, S cl, S su, .slice a sc.length cap, I cr, I us, I idl, I ab, I gr, I ge, I tk, I stt, I tm, I co] (by rfl) #[I 0, S [], S [], .slice none 0 0, I 0, I 0, I 0, I 0, I 0, I 0, I 0, I 0, I 0, I 0] rfl rfl (unhide HRr) (by simp [Value.oneCell']) ?_)
            refine out2c (T := 24) (n := 14) (p := 6) (q := 7) (cs := #[I id, S cl, S su, .slice a sc.length cap, I cr, I us, I idl, I ab, I gr, I ge, I tk, I stt, I tm, I co]) (fun _ => by kernel_rfl) (fun _ => by kernel_rfl) (Z := w.heap.size + 1) (by rfl) (by rfl) (by rfl) (by rfl) (setRow_row (unhide HRr)) (by rfl) ?_
            rw [unhide hE, OutN, if_pos rfl]
            exact ⟨a, cap, rfl, (own_set (unhide HO5) _ _ hz2).below (Below.refl _ _) (by omega), bel_set (unhide HB) _ _ (by omega) (unhide HB).size⟩
def OutT (w : World) (J : Int) (sc : List Bs) (F : Value → Array Value) (e : Ending) (w' : World) : Prop :=
  if J = 1 then ∃ a cap, e = .returned (.agg (F (.slice a sc.length cap))) ∧ OwnS w.heap.size w' (.slice a sc.length cap) sc ∧ Below w.heap.size w w' else e = .returned (.agg #[.bool false, S [], S [], .slice none 0 0, I 0, I 0, I 0, I 0]) ∧ Below w.heap.size w w'
structure WTL (w : World) (X M : Nat) (Kf Kt Zr : Array Value) (Vr : Value → Array Value) (u : List Bs) (c : Value) (L : Nat → Bool) (W : World) : Prop where
  be : Below X w W
  kf : W.heap[X]? = some (.cells Kf 24 (0, 0))
  kt : W.heap[X + 1]? = some (.cells Kt 26 (0, 0))
  or : W.heap[X + 2]? = some (.cells (if L 18 then Vr c else Zr) 40 (0, 0))
  own : L 8 = true → OwnS M W c u
  sz : M ≤ W.heap.size
  xm : X + 3 ≤ M
  dr : L 18 = true → L 8 = true
  e17 : L 17 = true → L 8 = true
theorem WTL.pure {w : World} {X M : Nat} {Kf Kt Zr : Array Value} {Vr : Value → Array Value} {u : List Bs} {c : Value} {L : Nat → Bool} {W : World} (h : WTL w X M Kf Kt Zr Vr u c L W) (i : Nat) (h18 : i ≠ 18) (h8 : i ≠ 8) (h17 : i ≠ 17) : WTL w X M Kf Kt Zr Vr u c (upd L i) W :=
  ⟨h.be, h.kf, h.kt, by rw [upd_ne (fun q => h18 q.symm)]; exact h.or, fun e => h.own (by rw [upd_ne (fun q => h8 q.symm)] at e; exact e), h.sz, h.xm, fun e => by rw [upd_ne (fun q => h18 q.symm)] at e; exact upd_of (h.dr e), fun e => by rw [upd_ne (fun q => h17 q.symm)] at e; exact upd_of (h.e17 e)⟩
theorem WTL.call {w : World} {X M : Nat} {Kf Kt Zr : Array Value} {Vr : Value → Array Value} {u : List Bs} {c : Value} {L : Nat → Bool} {W : World} {W2 : World} (h : WTL w X M Kf Kt Zr Vr u c L W) (hb : Below W.heap.size W W2) : WTL w X M Kf Kt Zr Vr u c L W2 :=
  ⟨h.be.trans (hb.mono (by have := h.xm; have := h.sz; omega)), (hb.block _ (lt_of_row h.kf)).trans h.kf, (hb.block _ (lt_of_row h.kt)).trans h.kt, (hb.block _ (lt_of_row h.or)).trans h.or, fun e => (h.own e).below hb (Nat.le_refl _), Nat.le_trans h.sz hb.size, h.xm, h.dr, h.e17⟩
theorem WTL.got {w : World} {X M : Nat} {Kf Kt Zr : Array Value} {Vr : Value → Array Value} {u : List Bs} {c : Value} {L : Nat → Bool} {W : World} {B : Nat} {c' : Value} (h : WTL w X M Kf Kt Zr Vr u c L W) (h18 : L 18 = false) (ho : OwnS B W c' u) (hB : M ≤ B) : WTL w X M Kf Kt Zr Vr u c' (upd L 8) W :=
  ⟨h.be, h.kf, h.kt, by have q := h.or; rw [h18] at q; rw [upd_ne (by decide), h18]; exact q, fun _ => ho.below (Below.refl _ _) hB, h.sz, h.xm, fun _ => upd_eq, fun _ => upd_eq⟩
theorem WTL.dep17 {w : World} {X M : Nat} {Kf Kt Zr : Array Value} {Vr : Value → Array Value} {u : List Bs} {c : Value} {L : Nat → Bool} {W : World} (h : WTL w X M Kf Kt Zr Vr u c L W) (hc : L 8 = true) : WTL w X M Kf Kt Zr Vr u c (upd L 17) W :=
  ⟨h.be, h.kf, h.kt, by rw [upd_ne (by decide)]; exact h.or, fun _ => h.own hc, h.sz, h.xm, fun e => by rw [upd_ne (by decide)] at e; exact upd_of (h.dr e), fun _ => upd_of hc⟩
theorem WTL.putr {w : World} {X M : Nat} {Kf Kt Zr : Array Value} {Vr : Value → Array Value} {u : List Bs} {c : Value} {L : Nat → Bool} {W : World} (h : WTL w X M Kf Kt Zr Vr u c L W) (hc : L 8 = true) : WTL w X M Kf Kt Zr Vr u c (upd L 18) (W.setRow (X + 2) (Vr c)) :=
  ⟨bel_set h.be _ _ (by have := h.xm; omega) (by have := h.xm; have := h.sz; omega), row_set h.kf (by have := h.xm; omega), row_set h.kt (by have := h.xm; omega), by rw [upd_eq]; exact setRow_row h.or, fun e => own_set (h.own (by rw [upd_ne (by decide)] at e; exact e)) _ _ (by have := h.xm; omega), by simpa using h.sz, h.xm, fun e => upd_of hc, fun e => upd_of hc⟩
structure WTR (w : World) (X M : Nat) (Kf Kt Zr : Array Value) (Vr : Value → Array Value) (u : List Bs) (c : Value) (L : Nat → Bool) (W : World) : Prop where
  be : Below X w W
  kf : W.heap[X]? = some (.cells Kf 24 (0, 0))
  kt : W.heap[X + 1]? = some (.cells Kt 26 (0, 0))
  or : W.heap[X + 2]? = some (.cells (if L 16 then Vr c else Zr) 40 (0, 0))
  own : L 6 = true → OwnS M W c u
  sz : M ≤ W.heap.size
  xm : X + 3 ≤ M
  dr : L 16 = true → L 6 = true
  e15 : L 15 = true → L 6 = true
theorem WTR.pure {w : World} {X M : Nat} {Kf Kt Zr : Array Value} {Vr : Value → Array Value} {u : List Bs} {c : Value} {L : Nat → Bool} {W : World} (h : WTR w X M Kf Kt Zr Vr u c L W) (i : Nat) (h16 : i ≠ 16) (h6 : i ≠ 6) (h15 : i ≠ 15) : WTR w X M Kf Kt Zr Vr u c (upd L i) W :=
  ⟨h.be, h.kf, h.kt, by rw [upd_ne (fun q => h16 q.symm)]; exact h.or, fun e => h.own (by rw [upd_ne (fun q => h6 q.symm)] at e; exact e), h.sz, h.xm, fun e => by rw [upd_ne (fun q => h16 q.symm)] at e; exact upd_of (h.dr e), fun e => by rw [upd_ne (fun q => h15 q.symm)] at e; exact upd_of (h.e15 e)⟩
theorem WTR.call {w : World} {X M : Nat} {Kf Kt Zr : Array Value} {Vr : Value → Array Value} {u : List Bs} {c : Value} {L : Nat → Bool} {W : World} {W2 : World} (h : WTR w X M Kf Kt Zr Vr u c L W) (hb : Below W.heap.size W W2) : WTR w X M Kf Kt Zr Vr u c L W2 :=
  ⟨h.be.trans (hb.mono (by have := h.xm; have := h.sz; omega)), (hb.block _ (lt_of_row h.kf)).trans h.kf, (hb.block _ (lt_of_row h.kt)).trans h.kt, (hb.block _ (lt_of_row h.or)).trans h.or, fun e => (h.own e).below hb (Nat.le_refl _), Nat.le_trans h.sz hb.size, h.xm, h.dr, h.e15⟩
theorem WTR.got {w : World} {X M : Nat} {Kf Kt Zr : Array Value} {Vr : Value → Array Value} {u : List Bs} {c : Value} {L : Nat → Bool} {W : World} {B : Nat} {c' : Value} (h : WTR w X M Kf Kt Zr Vr u c L W) (h16 : L 16 = false) (ho : OwnS B W c' u) (hB : M ≤ B) : WTR w X M Kf Kt Zr Vr u c' (upd L 6) W :=
  ⟨h.be, h.kf, h.kt, by have q := h.or; rw [h16] at q; rw [upd_ne (by decide), h16]; exact q, fun _ => ho.below (Below.refl _ _) hB, h.sz, h.xm, fun _ => upd_eq, fun _ => upd_eq⟩
theorem WTR.dep15 {w : World} {X M : Nat} {Kf Kt Zr : Array Value} {Vr : Value → Array Value} {u : List Bs} {c : Value} {L : Nat → Bool} {W : World} (h : WTR w X M Kf Kt Zr Vr u c L W) (hc : L 6 = true) : WTR w X M Kf Kt Zr Vr u c (upd L 15) W :=
  ⟨h.be, h.kf, h.kt, by rw [upd_ne (by decide)]; exact h.or, fun _ => h.own hc, h.sz, h.xm, fun e => by rw [upd_ne (by decide)] at e; exact upd_of (h.dr e), fun _ => upd_of hc⟩
theorem WTR.putr {w : World} {X M : Nat} {Kf Kt Zr : Array Value} {Vr : Value → Array Value} {u : List Bs} {c : Value} {L : Nat → Bool} {W : World} (h : WTR w X M Kf Kt Zr Vr u c L W) (hc : L 6 = true) : WTR w X M Kf Kt Zr Vr u c (upd L 16) (W.setRow (X + 2) (Vr c)) :=
  ⟨bel_set h.be _ _ (by have := h.xm; omega) (by have := h.xm; have := h.sz; omega), row_set h.kf (by have := h.xm; omega), row_set h.kt (by have := h.xm; omega), by rw [upd_eq]; exact setRow_row h.or, fun e => own_set (h.own (by rw [upd_ne (by decide)] at e; exact e)) _ _ (by have := h.xm; omega), by simpa using h.sz, h.xm, fun e => upd_of hc, fun e => upd_of hc⟩
def tl18T : List (Op × Option Tmp × Option (Nat × Bool)) := [
  (.fieldAddr 24 (.tmp 3) 1, some 13, none),
  (.load 9 (.tmp 13), some 14, none),
  (.call { callee := .value (.func 49), args := #[(.tmp 14)], argTypes := #[9] }, some 15, none),
  (.fieldAddr 24 (.tmp 3) 2, some 16, none),
  (.load 9 (.tmp 16), some 17, none),
  (.call { callee := .value (.func 49), args := #[(.tmp 17)], argTypes := #[9] }, some 18, none),
  (.fieldAddr 24 (.tmp 3) 3, some 19, none),
  (.load 22 (.tmp 19), some 20, none),
  (.call { callee := .value (.func 50), args := #[(.tmp 20)], argTypes := #[22] }, some 21, none),
  (.fieldAddr 24 (.tmp 3) 0, some 22, none),
  (.load 3 (.tmp 22), some 23, none),
  (.fieldAddr 26 (.tmp 4) 4, some 24, none),
  (.load 3 (.tmp 24), some 25, none),
  (.load 24 (.tmp 3), some 26, none),
  (.call { callee := .value (.func 38), args := #[(.tmp 26)], argTypes := #[24] }, some 27, none),
  (.fieldAddr 24 (.tmp 3) 9, some 28, none),
  (.load 3 (.tmp 28), some 29, none),
  (.build 40 #[(0, (.const (.bool true))), (1, (.tmp 15)), (2, (.tmp 18)), (3, (.tmp 21)), (4, (.tmp 23)), (5, (.tmp 25)), (6, (.tmp 27)), (7, (.tmp 29))], some 30, none),
  (.store 40 (.tmp 6) (.tmp 30), none, none)]
def tl19T : List (Op × Option Tmp × Option (Nat × Bool)) := [
  (.fieldAddr 24 (.tmp 3) 1, some 15, none),
  (.load 9 (.tmp 15), some 16, none),
  (.fieldAddr 24 (.tmp 3) 2, some 17, none),
  (.load 9 (.tmp 17), some 18, none),
  (.fieldAddr 24 (.tmp 3) 3, some 19, none),
  (.load 22 (.tmp 19), some 20, none),
  (.call { callee := .value (.func 51), args := #[(.tmp 20)], argTypes := #[22] }, some 21, none),
  (.fieldAddr 24 (.tmp 3) 0, some 22, none),
  (.load 3 (.tmp 22), some 23, none),
  (.fieldAddr 26 (.tmp 4) 4, some 24, none),
  (.load 3 (.tmp 24), some 25, none),
  (.load 24 (.tmp 3), some 26, none),
  (.call { callee := .value (.func 41), args := #[(.tmp 26)], argTypes := #[24] }, some 27, none),
  (.fieldAddr 24 (.tmp 3) 9, some 28, none),
  (.load 3 (.tmp 28), some 29, none),
  (.build 40 #[(0, (.const (.bool true))), (1, (.tmp 16)), (2, (.tmp 18)), (3, (.tmp 21)), (4, (.tmp 23)), (5, (.tmp 25)), (6, (.tmp 27)), (7, (.tmp 29))], some 30, none),
  (.store 40 (.tmp 6) (.tmp 30), none, none)]
def tl18V (X : Nat) (F : Array Value) (cl su : Bs) (v0 : Value) (n : Nat) (id mi E9 ge : Int) (c : Option Addr × Nat) : Nat → Value
  | 0 => .pointer (some ⟨X, 1, none⟩)
  | 1 => S cl
  | 2 => S cl
  | 3 => .pointer (some ⟨X, 2, none⟩)
  | 4 => S su
  | 5 => S su
  | 6 => .pointer (some ⟨X, 3, none⟩)
  | 7 => v0
  | 8 => .slice c.1 n c.2
  | 9 => .pointer (some ⟨X, 0, none⟩)
  | 10 => I id
  | 11 => .pointer (some ⟨X + 1, 4, none⟩)
  | 12 => I mi
  | 13 => .agg F
  | 14 => I E9
  | 15 => .pointer (some ⟨X, 9, none⟩)
  | 16 => I ge
  | 17 => .agg #[.bool true, S cl, S su, .slice c.1 n c.2, I id, I mi, I E9, I ge]
  | 18 => undef
  | _ => undef
def tl19V (X : Nat) (F : Array Value) (cl su : Bs) (v0 : Value) (n : Nat) (id mi E9 ge : Int) (c : Option Addr × Nat) : Nat → Value
  | 0 => .pointer (some ⟨X, 1, none⟩)
  | 1 => S cl
  | 2 => .pointer (some ⟨X, 2, none⟩)
  | 3 => S su
  | 4 => .pointer (some ⟨X, 3, none⟩)
  | 5 => v0
  | 6 => .slice c.1 n c.2
  | 7 => .pointer (some ⟨X, 0, none⟩)
  | 8 => I id
  | 9 => .pointer (some ⟨X + 1, 4, none⟩)
  | 10 => I mi
  | 11 => .agg F
  | 12 => I E9
  | 13 => .pointer (some ⟨X, 9, none⟩)
  | 14 => I ge
  | 15 => .agg #[.bool true, S cl, S su, .slice c.1 n c.2, I id, I mi, I E9, I ge]
  | 16 => undef
  | _ => undef
theorem tl18V_ne {X : Nat} {F : Array Value} {cl su : Bs} {v0 : Value} {n : Nat} {id mi E9 ge : Int} {c c' : Option Addr × Nat} {j : Nat} (h8 : j ≠ 8) (h17 : j ≠ 17) : tl18V X F cl su v0 n id mi E9 ge c' j = tl18V X F cl su v0 n id mi E9 ge c j := by
  match j, h8, h17 with
  | 0, _, _ => rfl
  | 1, _, _ => rfl
  | 2, _, _ => rfl
  | 3, _, _ => rfl
  | 4, _, _ => rfl
  | 5, _, _ => rfl
  | 6, _, _ => rfl
  | 7, _, _ => rfl
  | 8, h, _ => exact absurd rfl h
  | 9, _, _ => rfl
  | 10, _, _ => rfl
  | 11, _, _ => rfl
  | 12, _, _ => rfl
  | 13, _, _ => rfl
  | 14, _, _ => rfl
  | 15, _, _ => rfl
  | 16, _, _ => rfl
  | 17, _, h => exact absurd rfl h
  | 18, _, _ => rfl
  | (q + 19), _, _ => rfl
theorem tl19V_ne {X : Nat} {F : Array Value} {cl su : Bs} {v0 : Value} {n : Nat} {id mi E9 ge : Int} {c c' : Option Addr × Nat} {j : Nat} (h6 : j ≠ 6) (h15 : j ≠ 15) : tl19V X F cl su v0 n id mi E9 ge c' j = tl19V X F cl su v0 n id mi E9 ge c j := by
  match j, h6, h15 with
  | 0, _, _ => rfl
  | 1, _, _ => rfl
  | 2, _, _ => rfl
  | 3, _, _ => rfl
  | 4, _, _ => rfl
  | 5, _, _ => rfl
  | 6, h, _ => exact absurd rfl h
  | 7, _, _ => rfl
  | 8, _, _ => rfl
  | 9, _, _ => rfl
  | 10, _, _ => rfl
  | 11, _, _ => rfl
  | 12, _, _ => rfl
  | 13, _, _ => rfl
  | 14, _, _ => rfl
  | 15, _, h => exact absurd rfl h
  | 16, _, _ => rfl
  | (q + 17), _, _ => rfl
theorem tell_any (id : Int) (cl su : Bs) (va : Option Addr) (vc : Nat) (sc : List Bs) (cr us idl ab gr ge tk st en co : Int) (ti fa tg : Int) (ha : Bs) (mi : Int) (sp : Bool) (at9 ne : Int) (se : Bs) (now : Int) (w : World) (h_cl : cl.length ≤ 9223372036854775807) (h_su : su.length ≤ 9223372036854775807) (hsc : Sts w va sc.length sc) (hsl : sc.length ≤ 140737488355000) (hln : Lns sc) : Calls Tryz.prog 18 #[.agg #[I id, S cl, S su, .slice va sc.length vc, I cr, I us, I idl, I ab, I gr, I ge, I tk, I st, I en, I co], .agg #[I ti, I fa, I tg, S ha, I mi, .bool sp, I at9, I ne, S se], I now] w (OutT w (jdg id cl su sc cr us idl ab gr ge tk st en co ti fa tg ha mi sp at9 ne se now) sc (fun v => #[.bool true, S cl, S su, v, I id, I mi, I (endV cr us idl ab st en), I ge])) := by
  have hb : Below w.heap.size w (((w.alloc (.cells #[I id, S cl, S su, .slice va sc.length vc, I cr, I us, I idl, I ab, I gr, I ge, I tk, I st, I en, I co] 24)).alloc (.cells #[I ti, I fa, I tg, S ha, I mi, .bool sp, I at9, I ne, S se] 26)).alloc (.cells #[.bool false, S [], S [], .slice none 0 0, I 0, I 0, I 0, I 0] 40)) := ((((Below.refl _ w).alloc (by simp <;> omega) _).alloc (by simp <;> omega) _).alloc (by simp <;> omega) _)
  have rf : (((w.alloc (.cells #[I id, S cl, S su, .slice va sc.length vc, I cr, I us, I idl, I ab, I gr, I ge, I tk, I st, I en, I co] 24)).alloc (.cells #[I ti, I fa, I tg, S ha, I mi, .bool sp, I at9, I ne, S se] 26)).alloc (.cells #[.bool false, S [], S [], .slice none 0 0, I 0, I 0, I 0, I 0] 40)).heap[w.heap.size]? = some (.cells #[I id, S cl, S su, .slice va sc.length vc, I cr, I us, I idl, I ab, I gr, I ge, I tk, I st, I en, I co] 24 (0, 0)) := al_old _ _ _ (by simp <;> omega) (al_old _ _ _ (by simp <;> omega) (al_new w (.cells #[I id, S cl, S su, .slice va sc.length vc, I cr, I us, I idl, I ab, I gr, I ge, I tk, I st, I en, I co] 24) (w.heap.size) (by simp)))
  have rt : (((w.alloc (.cells #[I id, S cl, S su, .slice va sc.length vc, I cr, I us, I idl, I ab, I gr, I ge, I tk, I st, I en, I co] 24)).alloc (.cells #[I ti, I fa, I tg, S ha, I mi, .bool sp, I at9, I ne, S se] 26)).alloc (.cells #[.bool false, S [], S [], .slice none 0 0, I 0, I 0, I 0, I 0] 40)).heap[w.heap.size + 1]? = some (.cells #[I ti, I fa, I tg, S ha, I mi, .bool sp, I at9, I ne, S se] 26 (0, 0)) := al_old _ _ _ (by simp <;> omega) (al_new (w.alloc (.cells #[I id, S cl, S su, .slice va sc.length vc, I cr, I us, I idl, I ab, I gr, I ge, I tk, I st, I en, I co] 24)) (.cells #[I ti, I fa, I tg, S ha, I mi, .bool sp, I at9, I ne, S se] 26) (w.heap.size + 1) (by simp))
  have rr : (((w.alloc (.cells #[I id, S cl, S su, .slice va sc.length vc, I cr, I us, I idl, I ab, I gr, I ge, I tk, I st, I en, I co] 24)).alloc (.cells #[I ti, I fa, I tg, S ha, I mi, .bool sp, I at9, I ne, S se] 26)).alloc (.cells #[.bool false, S [], S [], .slice none 0 0, I 0, I 0, I 0, I 0] 40)).heap[w.heap.size + 2]? = some (.cells #[.bool false, S [], S [], .slice none 0 0, I 0, I 0, I 0, I 0] 40 (0, 0)) := al_new ((w.alloc (.cells #[I id, S cl, S su, .slice va sc.length vc, I cr, I us, I idl, I ab, I gr, I ge, I tk, I st, I en, I co] 24)).alloc (.cells #[I ti, I fa, I tg, S ha, I mi, .bool sp, I at9, I ne, S se] 26)) (.cells #[.bool false, S [], S [], .slice none 0 0, I 0, I 0, I 0, I 0] 40) (w.heap.size + 2) (by simp)
  generalize hW1 : (((w.alloc (.cells #[I id, S cl, S su, .slice va sc.length vc, I cr, I us, I idl, I ab, I gr, I ge, I tk, I st, I en, I co] 24)).alloc (.cells #[I ti, I fa, I tg, S ha, I mi, .bool sp, I at9, I ne, S se] 26)).alloc (.cells #[.bool false, S [], S [], .slice none 0 0, I 0, I 0, I 0, I 0] 40)) = W1 at *
  have cf_0 : W1.cell? ⟨w.heap.size, 0, none⟩ = some (I id) := cellr rf rfl
  have cf_1 : W1.cell? ⟨w.heap.size, 1, none⟩ = some (S cl) := cellr rf rfl
  have cf_2 : W1.cell? ⟨w.heap.size, 2, none⟩ = some (S su) := cellr rf rfl
  have cf_3 : W1.cell? ⟨w.heap.size, 3, none⟩ = some (.slice va sc.length vc) := cellr rf rfl
  have cf_4 : W1.cell? ⟨w.heap.size, 4, none⟩ = some (I cr) := cellr rf rfl
  have cf_5 : W1.cell? ⟨w.heap.size, 5, none⟩ = some (I us) := cellr rf rfl
  have cf_6 : W1.cell? ⟨w.heap.size, 6, none⟩ = some (I idl) := cellr rf rfl
  have cf_7 : W1.cell? ⟨w.heap.size, 7, none⟩ = some (I ab) := cellr rf rfl
  have cf_8 : W1.cell? ⟨w.heap.size, 8, none⟩ = some (I gr) := cellr rf rfl
  have cf_9 : W1.cell? ⟨w.heap.size, 9, none⟩ = some (I ge) := cellr rf rfl
  have cf_10 : W1.cell? ⟨w.heap.size, 10, none⟩ = some (I tk) := cellr rf rfl
  have cf_11 : W1.cell? ⟨w.heap.size, 11, none⟩ = some (I st) := cellr rf rfl
  have cf_12 : W1.cell? ⟨w.heap.size, 12, none⟩ = some (I en) := cellr rf rfl
  have cf_13 : W1.cell? ⟨w.heap.size, 13, none⟩ = some (I co) := cellr rf rfl
  have ct_0 : W1.cell? ⟨w.heap.size + 1, 0, none⟩ = some (I ti) := cellr rt rfl
  have ct_1 : W1.cell? ⟨w.heap.size + 1, 1, none⟩ = some (I fa) := cellr rt rfl
  have ct_2 : W1.cell? ⟨w.heap.size + 1, 2, none⟩ = some (I tg) := cellr rt rfl
  have ct_3 : W1.cell? ⟨w.heap.size + 1, 3, none⟩ = some (S ha) := cellr rt rfl
  have ct_4 : W1.cell? ⟨w.heap.size + 1, 4, none⟩ = some (I mi) := cellr rt rfl
  have ct_5 : W1.cell? ⟨w.heap.size + 1, 5, none⟩ = some (.bool sp) := cellr rt rfl
  have ct_6 : W1.cell? ⟨w.heap.size + 1, 6, none⟩ = some (I at9) := cellr rt rfl
  have ct_7 : W1.cell? ⟨w.heap.size + 1, 7, none⟩ = some (I ne) := cellr rt rfl
  have ct_8 : W1.cell? ⟨w.heap.size + 1, 8, none⟩ = some (S se) := cellr rt rfl
  have cr_0 : W1.cell? ⟨w.heap.size + 2, 0, none⟩ = some (.bool false) := cellr rr rfl
  have cr_1 : W1.cell? ⟨w.heap.size + 2, 1, none⟩ = some (S []) := cellr rr rfl
  have cr_2 : W1.cell? ⟨w.heap.size + 2, 2, none⟩ = some (S []) := cellr rr rfl
  have cr_3 : W1.cell? ⟨w.heap.size + 2, 3, none⟩ = some (.slice none 0 0) := cellr rr rfl
  have cr_4 : W1.cell? ⟨w.heap.size + 2, 4, none⟩ = some (I 0) := cellr rr rfl
  have cr_5 : W1.cell? ⟨w.heap.size + 2, 5, none⟩ = some (I 0) := cellr rr rfl
  have cr_6 : W1.cell? ⟨w.heap.size + 2, 6, none⟩ = some (I 0) := cellr rr rfl
  have cr_7 : W1.cell? ⟨w.heap.size + 2, 7, none⟩ = some (I 0) := cellr rr rfl
  have HB := hide hb
  have HRf := hide rf
  have HRt := hide rt
  have HRr := hide rr
  clear hb rf rt rr
  have XJ := hide (fun W (h : Below w.heap.size w W) => judge_any id cl su va vc sc cr us idl ab gr ge tk st en co ti fa tg ha mi sp at9 ne se now W h_cl h_su (hsc.below h) hsl hln)
  have HJ1 : Hid (jdg id cl su sc cr us idl ab gr ge tk st en co ti fa tg ha mi sp at9 ne se now = 1 → cl.length ≤ 1000 ∧ su.length ≤ 1000 ∧ Shn sc) := hide (fun h => fam_lens id cl su sc cr us idl ab gr ge tk st en co (jd_one h).1)
  have XE := hide (fun W => End_any id cl su va vc sc cr us idl ab gr ge tk st en co W)
  have XO := hide (fun W (h : Below w.heap.size w W) (h3 : Shn sc) => ownNames_any va sc.length vc sc W (hsc.below h) h3)
  have XC := hide (fun W (l : Bs) (h : l.length ≤ 1000) => clone_any l W (by omega))
  generalize jdg id cl su sc cr us idl ab gr ge tk st en co ti fa tg ha mi sp at9 ne se now = J at *
  generalize endV cr us idl ab st en = E9 at *
  clear hsc hln h_cl h_su hsl
  generalize hv0 : (Value.slice va sc.length vc) = v0 at *
  go_enter Tryz.func18, Tryz.ntmps18
  go_wp2_with fail
  refine (unhide XJ W1 (unhide HB)).mono ?_
  rintro e w2 ⟨rfl, h2⟩
  have hbB := (unhide HB).trans (h2.mono (unhide HB).size)
  have rf := (h2.block _ (lt_of_row (unhide HRf))).trans (unhide HRf)
  have rt := (h2.block _ (lt_of_row (unhide HRt))).trans (unhide HRt)
  have rr := (h2.block _ (lt_of_row (unhide HRr))).trans (unhide HRr)
  clear h2 HB HRf HRt HRr cf_0 cf_1 cf_2 cf_3 cf_4 cf_5 cf_6 cf_7 cf_8 cf_9 cf_10 cf_11 cf_12 cf_13 ct_0 ct_1 ct_2 ct_3 ct_4 ct_5 ct_6 ct_7 ct_8 cr_0 cr_1 cr_2 cr_3 cr_4 cr_5 cr_6 cr_7 hW1
  have HB := hide hbB
  have HRf := hide rf
  have HRt := hide rt
  have HRr := hide rr
  clear hbB rf rt rr
  clear XJ
  cases hj : (J == 1)
  · have dj : (J != 1) = true := by simp [bne, hj]
    have hJ : Hid (¬ J = 1) := hide (by intro h; rw [h] at hj; cases hj)
    clear hj XE XO HJ1
    go_wp2_with (refine wp_stA inf40 rfl (.tmp 6) (.tmp 12) rfl (w.heap.size + 2) (by rfl) #[.bool false, S [], S [], .slice none 0 0, I 0, I 0, I 0, I 0] (by rfl) #[.bool false, S [], S [], .slice none 0 0, I 0, I 0, I 0, I 0] rfl rfl (unhide HRr) (by simp [Value.oneCell']) ?_)
    refine out1c (T := 40) (n := 8) (p := 6) (cs := #[.bool false, S [], S [], .slice none 0 0, I 0, I 0, I 0, I 0]) (fun _ => by kernel_rfl) (fun _ => by kernel_rfl) (Z := w.heap.size + 2) (by rfl) (by rfl) (by rfl) (setRow_row (unhide HRr)) (by rfl) ?_
    rw [OutT, if_neg (unhide hJ)]
    exact ⟨rfl, bel_set (unhide HB) _ _ (by omega) (unhide HB).size⟩
  · have dj : (J != 1) = false := by simp [bne, hj]
    obtain rfl : J = 1 := by simpa using hj
    clear hj
    obtain ⟨hs1, hs2, hs3⟩ := unhide HJ1 rfl
    clear HJ1 dj
    have dj : ((1 : Int) != 1) = false := by decide
    have HS1 := hide hs1
    have HS2 := hide hs2
    have HS3 := hide hs3
    clear hs1 hs2 hs3
    go_upto_region 3 with fail
    have hz2 := lt_of_row (unhide HRr)
    refine region_tabG tl18T [(3, ptr w.heap.size), (4, ptr (w.heap.size + 1)), (6, ptr (w.heap.size + 2))] 31 [0, 3, 6, 9, 11, 15] [] (tl18V w.heap.size #[I id, S cl, S su, v0, I cr, I us, I idl, I ab, I gr, I ge, I tk, I st, I en, I co] cl su v0 sc.length id mi E9 ge) rfl (by rfl) (by rfl) rfl (fun c => by kernel_rfl) (fun c => by kernel_rfl) (fun c w => by kernel_rfl) _ w2 (Nat.le_of_ble_eq_true rfl) rfl (fun (c : Option Addr × Nat) => WTL w w.heap.size w2.heap.size #[I id, S cl, S su, v0, I cr, I us, I idl, I ab, I gr, I ge, I tk, I st, I en, I co] #[I ti, I fa, I tg, S ha, I mi, .bool sp, I at9, I ne, S se] #[.bool false, S [], S [], .slice none 0 0, I 0, I 0, I 0, I 0] (fun v => #[.bool true, S cl, S su, v, I id, I mi, I E9, I ge]) sc (.slice c.1 sc.length c.2)) ⟨(none, 0), ⟨(unhide HB).drew, unhide HRf, unhide HRt, unhide HRr, (fun e => by cases e), by simp, by omega, (fun e => by cases e), (fun e => by cases e)⟩⟩ (fun i hi c L W hW => hW.pure i (by intro e; subst e; simp at hi) (by intro e; subst e; simp at hi) (by intro e; subst e; simp at hi)) ?spc ?_
    case spc =>
      intro i hi hp hs c L W hW hL hd
      rcases (by simp [tl18T] at hi hp hs; omega : i = 1 ∨ i = 2 ∨ i = 4 ∨ i = 5 ∨ i = 7 ∨ i = 8 ∨ i = 10 ∨ i = 12 ∨ i = 13 ∨ i = 14 ∨ i = 16 ∨ i = 17 ∨ i = 18) with rfl | rfl | rfl | rfl | rfl | rfl | rfl | rfl | rfl | rfl | rfl | rfl | rfl
      · skip
        have f1 : (Instr.loadAt 9 (.pointer (some ⟨w.heap.size, 1, none⟩))).run Tryz.prog W = .ok (S cl) W := s_ld (T := 9) (fun _ => by kernel_rfl) (cellr hW.kf rfl)
        exact ⟨f1, hW.pure 1 (by decide) (by decide) (by decide)⟩
      · skip
        exact ⟨⟨_, _, Tryz.func49, by kernel_rfl, rfl⟩, (unhide XC W cl (unhide HS1)).mono fun e w' q => ⟨c, fun _ _ => rfl, q.1, (hW.call q.2).pure 2 (by decide) (by decide) (by decide)⟩⟩
      · skip
        have f1 : (Instr.loadAt 9 (.pointer (some ⟨w.heap.size, 2, none⟩))).run Tryz.prog W = .ok (S su) W := s_ld (T := 9) (fun _ => by kernel_rfl) (cellr hW.kf rfl)
        exact ⟨f1, hW.pure 4 (by decide) (by decide) (by decide)⟩
      · skip
        exact ⟨⟨_, _, Tryz.func49, by kernel_rfl, rfl⟩, (unhide XC W su (unhide HS2)).mono fun e w' q => ⟨c, fun _ _ => rfl, q.1, (hW.call q.2).pure 5 (by decide) (by decide) (by decide)⟩⟩
      · skip
        have f1 : (Instr.loadAt 22 (.pointer (some ⟨w.heap.size, 3, none⟩))).run Tryz.prog W = .ok (v0) W := s_ld (T := 22) (fun _ => by kernel_rfl) (cellr hW.kf rfl)
        exact ⟨f1, hW.pure 7 (by decide) (by decide) (by decide)⟩
      · skip
        have hr : L 18 = false := by cases q : L 18 with | false => rfl | true => rw [hW.dr q] at hL; cases hL
        refine ⟨⟨_, _, Tryz.func50, by kernel_rfl, rfl⟩, (unhide XO W hW.be (unhide HS3)).mono fun e w' q => ?_⟩
        obtain ⟨a, cap, e1, e2, e3⟩ := q
        exact ⟨(a, cap), fun j hj => tl18V_ne (by intro e; subst e; rw [hL] at hj; cases hj) (by intro e; subst e; rw [hW.e17 hj] at hL; cases hL), e1, (hW.call e3).got hr e2 hW.sz⟩
      · skip
        have f1 : (Instr.loadAt 3 (.pointer (some ⟨w.heap.size, 0, none⟩))).run Tryz.prog W = .ok (I id) W := s_ld (T := 3) (fun _ => by kernel_rfl) (cellr hW.kf rfl)
        exact ⟨f1, hW.pure 10 (by decide) (by decide) (by decide)⟩
      · skip
        have f1 : (Instr.loadAt 3 (.pointer (some ⟨w.heap.size + 1, 4, none⟩))).run Tryz.prog W = .ok (I mi) W := s_ld (T := 3) (fun _ => by kernel_rfl) (cellr hW.kt rfl)
        exact ⟨f1, hW.pure 12 (by decide) (by decide) (by decide)⟩
      · skip
        have f1 : (Instr.loadAt 24 (ptr w.heap.size)).run Tryz.prog W = .ok (.agg #[I id, S cl, S su, v0, I cr, I us, I idl, I ab, I gr, I ge, I tk, I st, I en, I co]) W := s_ldr (T := 24) (n := 14) (fun _ => by kernel_rfl) (fun _ => by kernel_rfl) hW.kf (#[I id, S cl, S su, v0, I cr, I us, I idl, I ab, I gr, I ge, I tk, I st, I en, I co]).toList rfl rfl
        exact ⟨f1, hW.pure 13 (by decide) (by decide) (by decide)⟩
      · skip
        exact ⟨⟨_, _, Tryz.func38, by kernel_rfl, rfl⟩, (unhide XE W).mono fun e w' q => ⟨c, fun _ _ => rfl, q.1, (hW.call q.2).pure 14 (by decide) (by decide) (by decide)⟩⟩
      · skip
        have f1 : (Instr.loadAt 3 (.pointer (some ⟨w.heap.size, 9, none⟩))).run Tryz.prog W = .ok (I ge) W := s_ld (T := 3) (fun _ => by kernel_rfl) (cellr hW.kf rfl)
        exact ⟨f1, hW.pure 16 (by decide) (by decide) (by decide)⟩
      · skip
        exact ⟨⟨_, rfl, by kernel_rfl⟩, hW.dep17 (hd 8 (by rfl))⟩
      · skip
        have hc8 : L 8 = true := hW.e17 (hd 17 (by rfl))
        have hr := hW.or
        rw [hL] at hr
        have f1 : (Instr.storeAt 40 (ptr (w.heap.size + 2)) (.agg #[.bool true, S cl, S su, .slice c.1 sc.length c.2, I id, I mi, I E9, I ge])).run Tryz.prog W = .ok () (W.setRow (w.heap.size + 2) #[.bool true, S cl, S su, .slice c.1 sc.length c.2, I id, I mi, I E9, I ge]) := st_all (T := 40) (n := 8) (fun _ => by kernel_rfl) (cs := #[.bool false, S [], S [], .slice none 0 0, I 0, I 0, I 0, I 0]) hr rfl #[.bool true, S cl, S su, .slice c.1 sc.length c.2, I id, I mi, I E9, I ge] rfl (by simp [Value.oneCell'])
        exact ⟨rfl, _, f1, hW.putr hc8⟩
    intro c L W7 hall hW
    simp only [frmL, tl18T, tl18V, Act.put, List.setIfInBounds_toArray, List.set_cons_succ, List.set_cons_zero]
    obtain ⟨a, cap⟩ := c
    have orr := hW.or
    rw [hall 18 (by decide)] at orr
    have hbe := hide hW.be
    have hown := hide (hW.own (hall 8 (by decide)))
    have HA := hide orr
    clear hall hW orr HB HRf HRt HRr XO XE XC HS1 HS2 HS3
    go_wp2
    refine out1c (T := 40) (n := 8) (p := 6) (cs := #[.bool true, S cl, S su, .slice a sc.length cap, I id, I mi, I E9, I ge]) (fun _ => by kernel_rfl) (fun _ => by kernel_rfl) (Z := w.heap.size + 2) (by rfl) (by rfl) (by rfl) (unhide HA) (by rfl) ?_
    rw [OutT, if_pos rfl]
    exact ⟨a, cap, rfl, (unhide hown).below (Below.refl _ _) (by omega), unhide hbe⟩
theorem rtell_any (id : Int) (cl su : Bs) (va : Option Addr) (vc : Nat) (sc : List Bs) (cr us idl ab gr ge tk st en co : Int) (ti fa tg : Int) (ha : Bs) (mi : Int) (sp : Bool) (at9 ne : Int) (se : Bs) (now : Int) (w : World) (h_cl : cl.length ≤ 9223372036854775807) (h_su : su.length ≤ 9223372036854775807) (hsc : Sts w va sc.length sc) (hsl : sc.length ≤ 140737488355000) (hln : Lns sc) : Calls Tryz.prog 19 #[.agg #[I id, S cl, S su, .slice va sc.length vc, I cr, I us, I idl, I ab, I gr, I ge, I tk, I st, I en, I co], .agg #[I ti, I fa, I tg, S ha, I mi, .bool sp, I at9, I ne, S se], I now] w (OutT w (jdg id cl su sc cr us idl ab gr ge tk st en co ti fa tg ha mi sp at9 ne se now) sc (fun v => #[.bool true, S cl, S su, v, I id, I mi, I (endV cr us idl ab st en), I ge])) := by
  have hb : Below w.heap.size w (((w.alloc (.cells #[I id, S cl, S su, .slice va sc.length vc, I cr, I us, I idl, I ab, I gr, I ge, I tk, I st, I en, I co] 24)).alloc (.cells #[I ti, I fa, I tg, S ha, I mi, .bool sp, I at9, I ne, S se] 26)).alloc (.cells #[.bool false, S [], S [], .slice none 0 0, I 0, I 0, I 0, I 0] 40)) := ((((Below.refl _ w).alloc (by simp <;> omega) _).alloc (by simp <;> omega) _).alloc (by simp <;> omega) _)
  have rf : (((w.alloc (.cells #[I id, S cl, S su, .slice va sc.length vc, I cr, I us, I idl, I ab, I gr, I ge, I tk, I st, I en, I co] 24)).alloc (.cells #[I ti, I fa, I tg, S ha, I mi, .bool sp, I at9, I ne, S se] 26)).alloc (.cells #[.bool false, S [], S [], .slice none 0 0, I 0, I 0, I 0, I 0] 40)).heap[w.heap.size]? = some (.cells #[I id, S cl, S su, .slice va sc.length vc, I cr, I us, I idl, I ab, I gr, I ge, I tk, I st, I en, I co] 24 (0, 0)) := al_old _ _ _ (by simp <;> omega) (al_old _ _ _ (by simp <;> omega) (al_new w (.cells #[I id, S cl, S su, .slice va sc.length vc, I cr, I us, I idl, I ab, I gr, I ge, I tk, I st, I en, I co] 24) (w.heap.size) (by simp)))
  have rt : (((w.alloc (.cells #[I id, S cl, S su, .slice va sc.length vc, I cr, I us, I idl, I ab, I gr, I ge, I tk, I st, I en, I co] 24)).alloc (.cells #[I ti, I fa, I tg, S ha, I mi, .bool sp, I at9, I ne, S se] 26)).alloc (.cells #[.bool false, S [], S [], .slice none 0 0, I 0, I 0, I 0, I 0] 40)).heap[w.heap.size + 1]? = some (.cells #[I ti, I fa, I tg, S ha, I mi, .bool sp, I at9, I ne, S se] 26 (0, 0)) := al_old _ _ _ (by simp <;> omega) (al_new (w.alloc (.cells #[I id, S cl, S su, .slice va sc.length vc, I cr, I us, I idl, I ab, I gr, I ge, I tk, I st, I en, I co] 24)) (.cells #[I ti, I fa, I tg, S ha, I mi, .bool sp, I at9, I ne, S se] 26) (w.heap.size + 1) (by simp))
  have rr : (((w.alloc (.cells #[I id, S cl, S su, .slice va sc.length vc, I cr, I us, I idl, I ab, I gr, I ge, I tk, I st, I en, I co] 24)).alloc (.cells #[I ti, I fa, I tg, S ha, I mi, .bool sp, I at9, I ne, S se] 26)).alloc (.cells #[.bool false, S [], S [], .slice none 0 0, I 0, I 0, I 0, I 0] 40)).heap[w.heap.size + 2]? = some (.cells #[.bool false, S [], S [], .slice none 0 0, I 0, I 0, I 0, I 0] 40 (0, 0)) := al_new ((w.alloc (.cells #[I id, S cl, S su, .slice va sc.length vc, I cr, I us, I idl, I ab, I gr, I ge, I tk, I st, I en, I co] 24)).alloc (.cells #[I ti, I fa, I tg, S ha, I mi, .bool sp, I at9, I ne, S se] 26)) (.cells #[.bool false, S [], S [], .slice none 0 0, I 0, I 0, I 0, I 0] 40) (w.heap.size + 2) (by simp)
  generalize hW1 : (((w.alloc (.cells #[I id, S cl, S su, .slice va sc.length vc, I cr, I us, I idl, I ab, I gr, I ge, I tk, I st, I en, I co] 24)).alloc (.cells #[I ti, I fa, I tg, S ha, I mi, .bool sp, I at9, I ne, S se] 26)).alloc (.cells #[.bool false, S [], S [], .slice none 0 0, I 0, I 0, I 0, I 0] 40)) = W1 at *
  have cf_0 : W1.cell? ⟨w.heap.size, 0, none⟩ = some (I id) := cellr rf rfl
  have cf_1 : W1.cell? ⟨w.heap.size, 1, none⟩ = some (S cl) := cellr rf rfl
  have cf_2 : W1.cell? ⟨w.heap.size, 2, none⟩ = some (S su) := cellr rf rfl
  have cf_3 : W1.cell? ⟨w.heap.size, 3, none⟩ = some (.slice va sc.length vc) := cellr rf rfl
  have cf_4 : W1.cell? ⟨w.heap.size, 4, none⟩ = some (I cr) := cellr rf rfl
  have cf_5 : W1.cell? ⟨w.heap.size, 5, none⟩ = some (I us) := cellr rf rfl
  have cf_6 : W1.cell? ⟨w.heap.size, 6, none⟩ = some (I idl) := cellr rf rfl
  have cf_7 : W1.cell? ⟨w.heap.size, 7, none⟩ = some (I ab) := cellr rf rfl
  have cf_8 : W1.cell? ⟨w.heap.size, 8, none⟩ = some (I gr) := cellr rf rfl
  have cf_9 : W1.cell? ⟨w.heap.size, 9, none⟩ = some (I ge) := cellr rf rfl
  have cf_10 : W1.cell? ⟨w.heap.size, 10, none⟩ = some (I tk) := cellr rf rfl
  have cf_11 : W1.cell? ⟨w.heap.size, 11, none⟩ = some (I st) := cellr rf rfl
  have cf_12 : W1.cell? ⟨w.heap.size, 12, none⟩ = some (I en) := cellr rf rfl
  have cf_13 : W1.cell? ⟨w.heap.size, 13, none⟩ = some (I co) := cellr rf rfl
  have ct_0 : W1.cell? ⟨w.heap.size + 1, 0, none⟩ = some (I ti) := cellr rt rfl
  have ct_1 : W1.cell? ⟨w.heap.size + 1, 1, none⟩ = some (I fa) := cellr rt rfl
  have ct_2 : W1.cell? ⟨w.heap.size + 1, 2, none⟩ = some (I tg) := cellr rt rfl
  have ct_3 : W1.cell? ⟨w.heap.size + 1, 3, none⟩ = some (S ha) := cellr rt rfl
  have ct_4 : W1.cell? ⟨w.heap.size + 1, 4, none⟩ = some (I mi) := cellr rt rfl
  have ct_5 : W1.cell? ⟨w.heap.size + 1, 5, none⟩ = some (.bool sp) := cellr rt rfl
  have ct_6 : W1.cell? ⟨w.heap.size + 1, 6, none⟩ = some (I at9) := cellr rt rfl
  have ct_7 : W1.cell? ⟨w.heap.size + 1, 7, none⟩ = some (I ne) := cellr rt rfl
  have ct_8 : W1.cell? ⟨w.heap.size + 1, 8, none⟩ = some (S se) := cellr rt rfl
  have cr_0 : W1.cell? ⟨w.heap.size + 2, 0, none⟩ = some (.bool false) := cellr rr rfl
  have cr_1 : W1.cell? ⟨w.heap.size + 2, 1, none⟩ = some (S []) := cellr rr rfl
  have cr_2 : W1.cell? ⟨w.heap.size + 2, 2, none⟩ = some (S []) := cellr rr rfl
  have cr_3 : W1.cell? ⟨w.heap.size + 2, 3, none⟩ = some (.slice none 0 0) := cellr rr rfl
  have cr_4 : W1.cell? ⟨w.heap.size + 2, 4, none⟩ = some (I 0) := cellr rr rfl
  have cr_5 : W1.cell? ⟨w.heap.size + 2, 5, none⟩ = some (I 0) := cellr rr rfl
  have cr_6 : W1.cell? ⟨w.heap.size + 2, 6, none⟩ = some (I 0) := cellr rr rfl
  have cr_7 : W1.cell? ⟨w.heap.size + 2, 7, none⟩ = some (I 0) := cellr rr rfl
  have HB := hide hb
  have HRf := hide rf
  have HRt := hide rt
  have HRr := hide rr
  clear hb rf rt rr
  have XJ := hide (fun W (h : Below w.heap.size w W) => rjudge_any id cl su va vc sc cr us idl ab gr ge tk st en co ti fa tg ha mi sp at9 ne se now W h_cl h_su (hsc.below h) hsl hln)
  have HJ1 : Hid (jdg id cl su sc cr us idl ab gr ge tk st en co ti fa tg ha mi sp at9 ne se now = 1 → cl.length ≤ 1000 ∧ su.length ≤ 1000 ∧ Shn sc) := hide (fun h => fam_lens id cl su sc cr us idl ab gr ge tk st en co (jd_one h).1)
  have XE := hide (fun W => rEnd24 id cl su va vc sc cr us idl ab gr ge tk st en co W)
  have XO := hide (fun W (h : Below w.heap.size w W) (h3 : Shn sc) => copied_any va sc.length vc sc W (hsc.below h) h3)
  generalize jdg id cl su sc cr us idl ab gr ge tk st en co ti fa tg ha mi sp at9 ne se now = J at *
  generalize endV cr us idl ab st en = E9 at *
  clear hsc hln h_cl h_su hsl
  generalize hv0 : (Value.slice va sc.length vc) = v0 at *
  go_enter Tryz.func19, Tryz.ntmps19
  go_wp2_with fail
  refine (unhide XJ W1 (unhide HB)).mono ?_
  rintro e w2 ⟨rfl, h2⟩
  have hbB := (unhide HB).trans (h2.mono (unhide HB).size)
  have rf := (h2.block _ (lt_of_row (unhide HRf))).trans (unhide HRf)
  have rt := (h2.block _ (lt_of_row (unhide HRt))).trans (unhide HRt)
  have rr := (h2.block _ (lt_of_row (unhide HRr))).trans (unhide HRr)
  clear h2 HB HRf HRt HRr cf_0 cf_1 cf_2 cf_3 cf_4 cf_5 cf_6 cf_7 cf_8 cf_9 cf_10 cf_11 cf_12 cf_13 ct_0 ct_1 ct_2 ct_3 ct_4 ct_5 ct_6 ct_7 ct_8 cr_0 cr_1 cr_2 cr_3 cr_4 cr_5 cr_6 cr_7 hW1
  have HB := hide hbB
  have HRf := hide rf
  have HRt := hide rt
  have HRr := hide rr
  clear hbB rf rt rr
  clear XJ
  cases hj : (J == 1)
  · have dj : (J != 1) = true := by simp [bne, hj]
    have hJ : Hid (¬ J = 1) := hide (by intro h; rw [h] at hj; cases hj)
    clear hj XE XO HJ1
    go_wp2_with (refine wp_stA inf40 rfl (.tmp 6) (.tmp 14) rfl (w.heap.size + 2) (by rfl) #[.bool false, S [], S [], .slice none 0 0, I 0, I 0, I 0, I 0] (by rfl) #[.bool false, S [], S [], .slice none 0 0, I 0, I 0, I 0, I 0] rfl rfl (unhide HRr) (by simp [Value.oneCell']) ?_)
    refine out1c (T := 40) (n := 8) (p := 6) (cs := #[.bool false, S [], S [], .slice none 0 0, I 0, I 0, I 0, I 0]) (fun _ => by kernel_rfl) (fun _ => by kernel_rfl) (Z := w.heap.size + 2) (by rfl) (by rfl) (by rfl) (setRow_row (unhide HRr)) (by rfl) ?_
    rw [OutT, if_neg (unhide hJ)]
    exact ⟨rfl, bel_set (unhide HB) _ _ (by omega) (unhide HB).size⟩
  · have dj : (J != 1) = false := by simp [bne, hj]
    obtain rfl : J = 1 := by simpa using hj
    clear hj
    obtain ⟨hs1, hs2, hs3⟩ := unhide HJ1 rfl
    clear HJ1 dj
    have dj : ((1 : Int) != 1) = false := by decide
    have HS1 := hide hs1
    have HS2 := hide hs2
    have HS3 := hide hs3
    clear hs1 hs2 hs3
    go_upto_region 4 with fail
    have hz2 := lt_of_row (unhide HRr)
    refine region_tabG tl19T [(3, ptr w.heap.size), (4, ptr (w.heap.size + 1)), (6, ptr (w.heap.size + 2))] 31 [0, 2, 4, 7, 9, 13] [] (tl19V w.heap.size #[I id, S cl, S su, v0, I cr, I us, I idl, I ab, I gr, I ge, I tk, I st, I en, I co] cl su v0 sc.length id mi E9 ge) rfl (by rfl) (by rfl) rfl (fun c => by kernel_rfl) (fun c => by kernel_rfl) (fun c w => by kernel_rfl) _ w2 (Nat.le_of_ble_eq_true rfl) rfl (fun (c : Option Addr × Nat) => WTR w w.heap.size w2.heap.size #[I id, S cl, S su, v0, I cr, I us, I idl, I ab, I gr, I ge, I tk, I st, I en, I co] #[I ti, I fa, I tg, S ha, I mi, .bool sp, I at9, I ne, S se] #[.bool false, S [], S [], .slice none 0 0, I 0, I 0, I 0, I 0] (fun v => #[.bool true, S cl, S su, v, I id, I mi, I E9, I ge]) sc (.slice c.1 sc.length c.2)) ⟨(none, 0), ⟨(unhide HB).drew, unhide HRf, unhide HRt, unhide HRr, (fun e => by cases e), by simp, by omega, (fun e => by cases e), (fun e => by cases e)⟩⟩ (fun i hi c L W hW => hW.pure i (by intro e; subst e; simp at hi) (by intro e; subst e; simp at hi) (by intro e; subst e; simp at hi)) ?spc ?_
    case spc =>
      intro i hi hp hs c L W hW hL hd
      rcases (by simp [tl19T] at hi hp hs; omega : i = 1 ∨ i = 3 ∨ i = 5 ∨ i = 6 ∨ i = 8 ∨ i = 10 ∨ i = 11 ∨ i = 12 ∨ i = 14 ∨ i = 15 ∨ i = 16) with rfl | rfl | rfl | rfl | rfl | rfl | rfl | rfl | rfl | rfl | rfl
      · skip
        have f1 : (Instr.loadAt 9 (.pointer (some ⟨w.heap.size, 1, none⟩))).run Tryz.prog W = .ok (S cl) W := s_ld (T := 9) (fun _ => by kernel_rfl) (cellr hW.kf rfl)
        exact ⟨f1, hW.pure 1 (by decide) (by decide) (by decide)⟩
      · skip
        have f1 : (Instr.loadAt 9 (.pointer (some ⟨w.heap.size, 2, none⟩))).run Tryz.prog W = .ok (S su) W := s_ld (T := 9) (fun _ => by kernel_rfl) (cellr hW.kf rfl)
        exact ⟨f1, hW.pure 3 (by decide) (by decide) (by decide)⟩
      · skip
        have f1 : (Instr.loadAt 22 (.pointer (some ⟨w.heap.size, 3, none⟩))).run Tryz.prog W = .ok (v0) W := s_ld (T := 22) (fun _ => by kernel_rfl) (cellr hW.kf rfl)
        exact ⟨f1, hW.pure 5 (by decide) (by decide) (by decide)⟩
      · skip
        have hr : L 16 = false := by cases q : L 16 with | false => rfl | true => rw [hW.dr q] at hL; cases hL
        refine ⟨⟨_, _, Tryz.func51, by kernel_rfl, rfl⟩, (unhide XO W hW.be (unhide HS3)).mono fun e w' q => ?_⟩
        obtain ⟨a, cap, e1, e2, e3⟩ := q
        exact ⟨(a, cap), fun j hj => tl19V_ne (by intro e; subst e; rw [hL] at hj; cases hj) (by intro e; subst e; rw [hW.e15 hj] at hL; cases hL), e1, (hW.call e3).got hr e2 hW.sz⟩
      · skip
        have f1 : (Instr.loadAt 3 (.pointer (some ⟨w.heap.size, 0, none⟩))).run Tryz.prog W = .ok (I id) W := s_ld (T := 3) (fun _ => by kernel_rfl) (cellr hW.kf rfl)
        exact ⟨f1, hW.pure 8 (by decide) (by decide) (by decide)⟩
      · skip
        have f1 : (Instr.loadAt 3 (.pointer (some ⟨w.heap.size + 1, 4, none⟩))).run Tryz.prog W = .ok (I mi) W := s_ld (T := 3) (fun _ => by kernel_rfl) (cellr hW.kt rfl)
        exact ⟨f1, hW.pure 10 (by decide) (by decide) (by decide)⟩
      · skip
        have f1 : (Instr.loadAt 24 (ptr w.heap.size)).run Tryz.prog W = .ok (.agg #[I id, S cl, S su, v0, I cr, I us, I idl, I ab, I gr, I ge, I tk, I st, I en, I co]) W := s_ldr (T := 24) (n := 14) (fun _ => by kernel_rfl) (fun _ => by kernel_rfl) hW.kf (#[I id, S cl, S su, v0, I cr, I us, I idl, I ab, I gr, I ge, I tk, I st, I en, I co]).toList rfl rfl
        exact ⟨f1, hW.pure 11 (by decide) (by decide) (by decide)⟩
      · skip
        exact ⟨⟨_, _, Tryz.func41, by kernel_rfl, rfl⟩, (unhide XE W).mono fun e w' q => ⟨c, fun _ _ => rfl, q.1, (hW.call q.2).pure 12 (by decide) (by decide) (by decide)⟩⟩
      · skip
        have f1 : (Instr.loadAt 3 (.pointer (some ⟨w.heap.size, 9, none⟩))).run Tryz.prog W = .ok (I ge) W := s_ld (T := 3) (fun _ => by kernel_rfl) (cellr hW.kf rfl)
        exact ⟨f1, hW.pure 14 (by decide) (by decide) (by decide)⟩
      · skip
        exact ⟨⟨_, rfl, by kernel_rfl⟩, hW.dep15 (hd 6 (by rfl))⟩
      · skip
        have hc8 : L 6 = true := hW.e15 (hd 15 (by rfl))
        have hr := hW.or
        rw [hL] at hr
        have f1 : (Instr.storeAt 40 (ptr (w.heap.size + 2)) (.agg #[.bool true, S cl, S su, .slice c.1 sc.length c.2, I id, I mi, I E9, I ge])).run Tryz.prog W = .ok () (W.setRow (w.heap.size + 2) #[.bool true, S cl, S su, .slice c.1 sc.length c.2, I id, I mi, I E9, I ge]) := st_all (T := 40) (n := 8) (fun _ => by kernel_rfl) (cs := #[.bool false, S [], S [], .slice none 0 0, I 0, I 0, I 0, I 0]) hr rfl #[.bool true, S cl, S su, .slice c.1 sc.length c.2, I id, I mi, I E9, I ge] rfl (by simp [Value.oneCell'])
        exact ⟨rfl, _, f1, hW.putr hc8⟩
    intro c L W7 hall hW
    simp only [frmL, tl19T, tl19V, Act.put, List.setIfInBounds_toArray, List.set_cons_succ, List.set_cons_zero]
    obtain ⟨a, cap⟩ := c
    have orr := hW.or
    rw [hall 16 (by decide)] at orr
    have hbe := hide hW.be
    have hown := hide (hW.own (hall 6 (by decide)))
    have HA := hide orr
    clear hall hW orr HB HRf HRt HRr XO XE  HS1 HS2 HS3
    go_wp2
    refine out1c (T := 40) (n := 8) (p := 6) (cs := #[.bool true, S cl, S su, .slice a sc.length cap, I id, I mi, I E9, I ge]) (fun _ => by kernel_rfl) (fun _ => by kernel_rfl) (Z := w.heap.size + 2) (by rfl) (by rfl) (by rfl) (unhide HA) (by rfl) ?_
    rw [OutT, if_pos rfl]
    exact ⟨a, cap, rfl, (unhide hown).below (Below.refl _ _) (by omega), unhide hbe⟩
end Go.Proofs.YtmjaobddgaglhaaGreatDoor
/- The program's and the document's: the same. -/
namespace Go.Proofs.YtmjaobddgaglhaaGreatDoor
open Go.RowKit
set_option maxHeartbeats 4000000
set_option maxRecDepth 8000
def OutQ3 (F : Value → Array Value) (T U : Array Value) (E : Int) (r : List Bs) (w : World) (e : Ending) (w' : World) : Prop := ∃ a cap, e = .returned (.tuple #[.agg (F (.slice a r.length cap)), .agg T, .agg U, I E]) ∧ OwnS w.heap.size w' (.slice a r.length cap) r ∧ Below w.heap.size w w'
def OutQ2 (F : Value → Array Value) (E : Int) (r : List Bs) (w : World) (e : Ending) (w' : World) : Prop := ∃ a cap, e = .returned (.tuple #[.agg (F (.slice a r.length cap)), I E]) ∧ OwnS w.heap.size w' (.slice a r.length cap) r ∧ Below w.heap.size w w'
def OutQ1 (F : Value → Array Value) (r : List Bs) (w : World) (e : Ending) (w' : World) : Prop := ∃ a cap, e = .returned (.agg (F (.slice a r.length cap))) ∧ OwnS w.heap.size w' (.slice a r.length cap) r ∧ Below w.heap.size w w'
theorem rot_both (id : Int) (cl su : Bs) (sc : List Bs) (cr us idl ab gr ge tk st en co : Int) (ti fa tg : Int) (ha : Bs) (mi : Int) (sp : Bool) (at9 ne : Int) (se : Bs) (nx : Int) (s : Bs) (now : Int) (h_cl : cl.length ≤ 9223372036854775807) (h_su : su.length ≤ 9223372036854775807) (hsl : sc.length ≤ 140737488355000) (hln : Lns sc) (h_s : s.length ≤ 9223372036854775807) : ∃ (q0 : Int) (q1 q2 : Bs) (q4 q5 q6 q7 q8 q9 q10 q11 q12 q13 : Int) (p0 p1 p2 : Int) (p3 : Bs) (p4 : Int) (p5 : Bool) (p6 p7 : Int) (p8 : Bs) (s0 s1 s2 : Int) (s3 : Bs) (s4 : Int) (s5 : Bool) (s6 s7 : Int) (s8 : Bs) (E : Int) (r : List Bs), r.length ≤ 1000 ∧ (∀ (W : World) (va : Option Addr) (vc : Nat), Sts W va sc.length sc → Calls Tryz.prog 14 #[.agg #[I id, S cl, S su, .slice va sc.length vc, I cr, I us, I idl, I ab, I gr, I ge, I tk, I st, I en, I co], .agg #[I ti, I fa, I tg, S ha, I mi, .bool sp, I at9, I ne, S se], I nx, S s, I now] W (OutQ3 (fun v => #[I q0, S q1, S q2, v, I q4, I q5, I q6, I q7, I q8, I q9, I q10, I q11, I q12, I q13]) #[I p0, I p1, I p2, S p3, I p4, .bool p5, I p6, I p7, S p8] #[I s0, I s1, I s2, S s3, I s4, .bool s5, I s6, I s7, S s8] E r W)) ∧ (∀ (W : World) (va : Option Addr) (vc : Nat), Sts W va sc.length sc → Calls Tryz.prog 15 #[.agg #[I id, S cl, S su, .slice va sc.length vc, I cr, I us, I idl, I ab, I gr, I ge, I tk, I st, I en, I co], .agg #[I ti, I fa, I tg, S ha, I mi, .bool sp, I at9, I ne, S se], I nx, S s, I now] W (OutQ3 (fun v => #[I q0, S q1, S q2, v, I q4, I q5, I q6, I q7, I q8, I q9, I q10, I q11, I q12, I q13]) #[I p0, I p1, I p2, S p3, I p4, .bool p5, I p6, I p7, S p8] #[I s0, I s1, I s2, S s3, I s4, .bool s5, I s6, I s7, S s8] E r W)) := by
  have B1 := fun (W : World) (va : Option Addr) (vc : Nat) (h : Sts W va sc.length sc) => rotate_any id cl su va vc sc cr us idl ab gr ge tk st en co ti fa tg ha mi sp at9 ne se nx s now W h_cl h_su h hsl hln
  have B2 := fun (W : World) (va : Option Addr) (vc : Nat) (h : Sts W va sc.length sc) => rrotate_any id cl su va vc sc cr us idl ab gr ge tk st en co ti fa tg ha mi sp at9 ne se nx s now W h_cl h_su h hsl hln h_s
  have HS : rotE (jdg id cl su sc cr us idl ab gr ge tk st en co ti fa tg ha mi sp at9 ne se now) us mi (nr now) ge nx s = 0 → sc.length ≤ 1000 := fun h => by
    by_cases hj : jdg id cl su sc cr us idl ab gr ge tk st en co ti fa tg ha mi sp at9 ne se now = 1
    · exact (fam_lens id cl su sc cr us idl ab gr ge tk st en co (jd_one hj).1).2.2.1
    · rw [rotE, if_neg (by rintro ⟨q, _⟩; exact hj q)] at h; cases h
  generalize rotE (jdg id cl su sc cr us idl ab gr ge tk st en co ti fa tg ha mi sp at9 ne se now) us mi (nr now) ge nx s = E at *
  by_cases hE : E = 0
  · subst hE
    exact ⟨id, cl, su, cr, (nr now), idl, ab, gr, (ge + 1), nx, st, en, co, ti, fa, tg, ha, mi, true, (nr now), nx, s, nx, id, (ge + 1), hsh nx s, (nr now), false, 0, 0, [], 0, sc, HS rfl, B1, B2⟩
  · skip
    exact ⟨0, [], [], 0, 0, 0, 0, 0, 0, 0, 0, 0, 0, 0, 0, 0, [], 0, false, 0, 0, [], 0, 0, 0, [], 0, false, 0, 0, [], E, [], by simp, fun W va vc h => (B1 W va vc h).mono fun e w' q => by rw [OutR, if_neg hE] at q; exact ⟨none, 0, q.1, own_nil _ _, q.2⟩, fun W va vc h => (B2 W va vc h).mono fun e w' q => by rw [OutR, if_neg hE] at q; exact ⟨none, 0, q.1, own_nil _ _, q.2⟩⟩
theorem fin_both (id : Int) (cl su : Bs) (sc : List Bs) (cr us idl ab gr ge tk st en co : Int) (stt now : Int) (h_cl : cl.length ≤ 9223372036854775807) (h_su : su.length ≤ 9223372036854775807) (hsl : sc.length ≤ 140737488355000) (hln : Lns sc) : ∃ (q0 : Int) (q1 q2 : Bs) (q4 q5 q6 q7 q8 q9 q10 q11 q12 q13 : Int) (E : Int) (r : List Bs), r.length ≤ 1000 ∧ (∀ (W : World) (va : Option Addr) (vc : Nat), Sts W va sc.length sc → Calls Tryz.prog 16 #[.agg #[I id, S cl, S su, .slice va sc.length vc, I cr, I us, I idl, I ab, I gr, I ge, I tk, I st, I en, I co], I stt, I now] W (OutQ2 (fun v => #[I q0, S q1, S q2, v, I q4, I q5, I q6, I q7, I q8, I q9, I q10, I q11, I q12, I q13]) E r W)) ∧ (∀ (W : World) (va : Option Addr) (vc : Nat), Sts W va sc.length sc → Calls Tryz.prog 17 #[.agg #[I id, S cl, S su, .slice va sc.length vc, I cr, I us, I idl, I ab, I gr, I ge, I tk, I st, I en, I co], I stt, I now] W (OutQ2 (fun v => #[I q0, S q1, S q2, v, I q4, I q5, I q6, I q7, I q8, I q9, I q10, I q11, I q12, I q13]) E r W)) := by
  have B1 := fun (W : World) (va : Option Addr) (vc : Nat) (h : Sts W va sc.length sc) => finish_any id cl su va vc sc cr us idl ab gr ge tk st en co stt now W h_cl h_su h hsl hln
  have B2 := fun (W : World) (va : Option Addr) (vc : Nat) (h : Sts W va sc.length sc) => rfinish_any id cl su va vc sc cr us idl ab gr ge tk st en co stt now W h_cl h_su h hsl hln
  have HS : finE (famOK id cl su sc cr us idl ab gr ge tk st en co) st stt us (nr now) = 0 → sc.length ≤ 1000 := fun h => by
    by_cases hj : famOK id cl su sc cr us idl ab gr ge tk st en co = true
    · exact (fam_lens id cl su sc cr us idl ab gr ge tk st en co hj).2.2.1
    · rw [finE, if_neg (by rintro ⟨q, _⟩; exact hj q)] at h; cases h
  generalize finE (famOK id cl su sc cr us idl ab gr ge tk st en co) st stt us (nr now) = E at *
  by_cases hE : E = 0
  · subst hE
    exact ⟨id, cl, su, cr, us, idl, ab, gr, ge, tk, stt, (nr now), co, 0, sc, HS rfl, fun W va vc h => (B1 W va vc h).mono fun e w' q => by rw [OutN, if_pos rfl] at q; exact q, fun W va vc h => (B2 W va vc h).mono fun e w' q => by rw [OutN, if_pos rfl] at q; exact q⟩
  · skip
    exact ⟨0, [], [], 0, 0, 0, 0, 0, 0, 0, 0, 0, 0, E, [], by simp, fun W va vc h => (B1 W va vc h).mono fun e w' q => by rw [OutN, if_neg hE] at q; exact ⟨none, 0, q.1, own_nil _ _, q.2⟩, fun W va vc h => (B2 W va vc h).mono fun e w' q => by rw [OutN, if_neg hE] at q; exact ⟨none, 0, q.1, own_nil _ _, q.2⟩⟩
theorem tell_both (id : Int) (cl su : Bs) (sc : List Bs) (cr us idl ab gr ge tk st en co : Int) (ti fa tg : Int) (ha : Bs) (mi : Int) (sp : Bool) (at9 ne : Int) (se : Bs) (now : Int) (h_cl : cl.length ≤ 9223372036854775807) (h_su : su.length ≤ 9223372036854775807) (hsl : sc.length ≤ 140737488355000) (hln : Lns sc) : ∃ (q0 : Bool) (q1 q2 : Bs) (q4 q5 q6 q7 : Int) (r : List Bs), r.length ≤ 1000 ∧ (∀ (W : World) (va : Option Addr) (vc : Nat), Sts W va sc.length sc → Calls Tryz.prog 18 #[.agg #[I id, S cl, S su, .slice va sc.length vc, I cr, I us, I idl, I ab, I gr, I ge, I tk, I st, I en, I co], .agg #[I ti, I fa, I tg, S ha, I mi, .bool sp, I at9, I ne, S se], I now] W (OutQ1 (fun v => #[.bool q0, S q1, S q2, v, I q4, I q5, I q6, I q7]) r W)) ∧ (∀ (W : World) (va : Option Addr) (vc : Nat), Sts W va sc.length sc → Calls Tryz.prog 19 #[.agg #[I id, S cl, S su, .slice va sc.length vc, I cr, I us, I idl, I ab, I gr, I ge, I tk, I st, I en, I co], .agg #[I ti, I fa, I tg, S ha, I mi, .bool sp, I at9, I ne, S se], I now] W (OutQ1 (fun v => #[.bool q0, S q1, S q2, v, I q4, I q5, I q6, I q7]) r W)) := by
  have B1 := fun (W : World) (va : Option Addr) (vc : Nat) (h : Sts W va sc.length sc) => tell_any id cl su va vc sc cr us idl ab gr ge tk st en co ti fa tg ha mi sp at9 ne se now W h_cl h_su h hsl hln
  have B2 := fun (W : World) (va : Option Addr) (vc : Nat) (h : Sts W va sc.length sc) => rtell_any id cl su va vc sc cr us idl ab gr ge tk st en co ti fa tg ha mi sp at9 ne se now W h_cl h_su h hsl hln
  have HS : jdg id cl su sc cr us idl ab gr ge tk st en co ti fa tg ha mi sp at9 ne se now = 1 → sc.length ≤ 1000 := fun h => (fam_lens id cl su sc cr us idl ab gr ge tk st en co (jd_one h).1).2.2.1
  generalize jdg id cl su sc cr us idl ab gr ge tk st en co ti fa tg ha mi sp at9 ne se now = J at *
  by_cases hE : J = 1
  · subst hE
    exact ⟨true, cl, su, id, mi, endV cr us idl ab st en, ge, sc, HS rfl, fun W va vc h => (B1 W va vc h).mono fun e w' q => by rw [OutT, if_pos rfl] at q; exact q, fun W va vc h => (B2 W va vc h).mono fun e w' q => by rw [OutT, if_pos rfl] at q; exact q⟩
  · skip
    exact ⟨false, [], [], 0, 0, 0, 0, [], by simp, fun W va vc h => (B1 W va vc h).mono fun e w' q => by rw [OutT, if_neg hE] at q; exact ⟨none, 0, q.1, own_nil _ _, q.2⟩, fun W va vc h => (B2 W va vc h).mono fun e w' q => by rw [OutT, if_neg hE] at q; exact ⟨none, 0, q.1, own_nil _ _, q.2⟩⟩
end Go.Proofs.YtmjaobddgaglhaaGreatDoor
