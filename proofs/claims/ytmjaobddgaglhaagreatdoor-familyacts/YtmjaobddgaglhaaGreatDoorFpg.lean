import Derived.Test.YtmjaobddgaglhaaGreatDoorZfpa
import Derived.Test.YtmjaobddgaglhaaGreatDoorFpe
import Derived.Test.YtmjaobddgaglhaaGreatDoorFmn
import Derived.Deep.Cut
import Derived.Deep.CutRange
/- FamilyActs. -/
namespace Go.Proofs.YtmjaobddgaglhaaGreatDoor
open Go.RowKit Go.Lib
set_option maxHeartbeats 8000000
set_option maxRecDepth 20000
theorem new_alc {w W : World} {v : Array Value} {t : TypeId} (h : w.alloc (.cells v t) = W) : Below w.heap.size w W ∧ W.heap[w.heap.size]? = some (.cells v t (0, 0)) := by
  subst h
  exact ⟨(Below.refl _ _).alloc (Nat.le_refl _) _, al_new _ _ _ rfl⟩
def fa4T : List (Op × Option Tmp × Option (Nat × Bool)) := [
  (.load 24 (.tmp 4), some 37, none),
  (.fieldAddr 28 (.tmp 1) 1, some 38, none),
  (.load 26 (.tmp 38), some 39, none),
  (.fieldAddr 28 (.tmp 1) 3, some 40, none),
  (.load 3 (.tmp 40), some 41, none),
  (.call { callee := .value (.func 8), args := #[(.tmp 37), (.tmp 39), (.tmp 41)], argTypes := #[24, 26, 3] }, some 42, none),
  (.fieldAddr 28 (.tmp 1) 0, some 43, none),
  (.load 24 (.tmp 43), some 44, none),
  (.fieldAddr 28 (.tmp 1) 1, some 45, none),
  (.load 26 (.tmp 45), some 46, none),
  (.fieldAddr 28 (.tmp 1) 3, some 47, none),
  (.load 3 (.tmp 47), some 48, none),
  (.call { callee := .value (.func 9), args := #[(.tmp 44), (.tmp 46), (.tmp 48)], argTypes := #[24, 26, 3] }, some 49, none),
  (.binOp .neq 3 (.tmp 42) (.tmp 49) 3, some 50, none),
  (.move (.tmp 50), some 51, none),
  (.load 24 (.tmp 4), some 52, some (14, false)),
  (.fieldAddr 28 (.tmp 1) 3, some 53, some (14, false)),
  (.load 3 (.tmp 53), some 54, some (14, false)),
  (.call { callee := .value (.func 10), args := #[(.tmp 52), (.tmp 54)], argTypes := #[24, 3] }, some 55, some (14, false)),
  (.fieldAddr 28 (.tmp 1) 0, some 56, some (14, false)),
  (.load 24 (.tmp 56), some 57, some (14, false)),
  (.fieldAddr 28 (.tmp 1) 3, some 58, some (14, false)),
  (.load 3 (.tmp 58), some 59, some (14, false)),
  (.call { callee := .value (.func 11), args := #[(.tmp 57), (.tmp 59)], argTypes := #[24, 3] }, some 60, some (14, false)),
  (.binOp .neq 4 (.tmp 55) (.tmp 60) 4, some 61, some (14, false)),
  (.pick (.tmp 51) (.const (.bool true)) (.tmp 61), some 62, none)]
def fa6T : List (Op × Option Tmp × Option (Nat × Bool)) := [
  (.load 24 (.tmp 4), some 63, none),
  (.fieldAddr 28 (.tmp 1) 5, some 64, none),
  (.load 3 (.tmp 64), some 65, none),
  (.fieldAddr 28 (.tmp 1) 3, some 66, none),
  (.load 3 (.tmp 66), some 67, none),
  (.call { callee := .value (.func 12), args := #[(.tmp 63), (.tmp 65), (.tmp 67)], argTypes := #[24, 3, 3] }, some 68, none),
  (.fieldAddr 28 (.tmp 1) 0, some 69, none),
  (.load 24 (.tmp 69), some 70, none),
  (.fieldAddr 28 (.tmp 1) 5, some 71, none),
  (.load 3 (.tmp 71), some 72, none),
  (.fieldAddr 28 (.tmp 1) 3, some 73, none),
  (.load 3 (.tmp 73), some 74, none),
  (.call { callee := .value (.func 13), args := #[(.tmp 70), (.tmp 72), (.tmp 74)], argTypes := #[24, 3, 3] }, some 75, none),
  (.binOp .neq 4 (.tmp 68) (.tmp 75) 4, some 76, none)]
def fa4V (X : Nat) (F0 F1 T : Array Value) (nw J : Int) (A : Bool) (_ : Unit) : Nat → Value
  | 0 => .agg F1
  | 1 => .pointer (some ⟨X, 14, none⟩)
  | 2 => .agg T
  | 3 => .pointer (some ⟨X, 24, none⟩)
  | 4 => I nw
  | 5 => I J
  | 6 => .pointer (some ⟨X, 0, none⟩)
  | 7 => .agg F0
  | 8 => .pointer (some ⟨X, 14, none⟩)
  | 9 => .agg T
  | 10 => .pointer (some ⟨X, 24, none⟩)
  | 11 => I nw
  | 12 => I J
  | 13 => .bool false
  | 14 => .bool false
  | 15 => .agg F1
  | 16 => .pointer (some ⟨X, 24, none⟩)
  | 17 => I nw
  | 18 => .bool A
  | 19 => .pointer (some ⟨X, 0, none⟩)
  | 20 => .agg F0
  | 21 => .pointer (some ⟨X, 24, none⟩)
  | 22 => I nw
  | 23 => .bool A
  | 24 => .bool false
  | 25 => .bool false
  | _ => undef
def fa6V (X : Nat) (F0 F1 : Array Value) (nw re : Int) (A : Bool) (_ : Unit) : Nat → Value
  | 0 => .agg F1
  | 1 => .pointer (some ⟨X, 26, none⟩)
  | 2 => I re
  | 3 => .pointer (some ⟨X, 24, none⟩)
  | 4 => I nw
  | 5 => .bool A
  | 6 => .pointer (some ⟨X, 0, none⟩)
  | 7 => .agg F0
  | 8 => .pointer (some ⟨X, 26, none⟩)
  | 9 => I re
  | 10 => .pointer (some ⟨X, 24, none⟩)
  | 11 => I nw
  | 12 => .bool A
  | 13 => .bool false
  | _ => undef
theorem familyActs_any (id : Int) (cl su : Bs) (va : Option Addr) (vc : Nat) (sc : List Bs) (cr us idl ab gr ge tk st en co : Int) (ti fa tg : Int) (ha : Bs) (mi : Int) (sp : Bool) (at9 ne : Int) (se : Bs) (nx nw stt re : Int) (s : Bs) (w : World) (h_cl : cl.length ≤ 9223372036854775807) (h_su : su.length ≤ 9223372036854775807) (h_s : s.length ≤ 9223372036854775807) (hsc : Sts w va sc.length sc) (hsl : sc.length ≤ 8796093022100) (hln : Lns sc) (hnc : va = none → vc = 0) : Calls Tryz.prog 3 #[.agg #[I id, S cl, S su, .slice va sc.length vc, I cr, I us, I idl, I ab, I gr, I ge, I tk, I st, I en, I co, I ti, I fa, I tg, S ha, I mi, .bool sp, I at9, I ne, S se, I nx, I nw, I stt, I re, S s]] w fun e w' => e = .returned (.bool true) ∧ Below w.heap.size w w' := by
  have hb : Below w.heap.size w (w.alloc (.cells #[I id, S cl, S su, .slice va sc.length vc, I cr, I us, I idl, I ab, I gr, I ge, I tk, I st, I en, I co, I ti, I fa, I tg, S ha, I mi, .bool sp, I at9, I ne, S se, I nx, I nw, I stt, I re, S s] 28)) := ((Below.refl _ w).alloc (by simp <;> omega) _)
  have rx : (w.alloc (.cells #[I id, S cl, S su, .slice va sc.length vc, I cr, I us, I idl, I ab, I gr, I ge, I tk, I st, I en, I co, I ti, I fa, I tg, S ha, I mi, .bool sp, I at9, I ne, S se, I nx, I nw, I stt, I re, S s] 28)).heap[w.heap.size]? = some (.cells #[I id, S cl, S su, .slice va sc.length vc, I cr, I us, I idl, I ab, I gr, I ge, I tk, I st, I en, I co, I ti, I fa, I tg, S ha, I mi, .bool sp, I at9, I ne, S se, I nx, I nw, I stt, I re, S s] 28 (0, 0)) := al_new w (.cells #[I id, S cl, S su, .slice va sc.length vc, I cr, I us, I idl, I ab, I gr, I ge, I tk, I st, I en, I co, I ti, I fa, I tg, S ha, I mi, .bool sp, I at9, I ne, S se, I nx, I nw, I stt, I re, S s] 28) (w.heap.size) (by simp)
  generalize hW1 : (w.alloc (.cells #[I id, S cl, S su, .slice va sc.length vc, I cr, I us, I idl, I ab, I gr, I ge, I tk, I st, I en, I co, I ti, I fa, I tg, S ha, I mi, .bool sp, I at9, I ne, S se, I nx, I nw, I stt, I re, S s] 28)) = W1 at *
  have HB := hide hb
  have HRx := hide rx
  clear hb rx
  have HA := hide (awake_any W1)
  obtain ⟨q0, q1, q2, q4, q5, q6, q7, q8, q9, q10, q11, q12, q13, p0, p1, p2, p3, p4, p5, p6, p7, p8, s0, s1, s2, s3, s4, s5, s6, s7, s8, E1, r1, hr1, A1, A2⟩ := rot_both id cl su sc cr us idl ab gr ge tk st en co ti fa tg ha mi sp at9 ne se nx s nw h_cl h_su (by omega) hln h_s
  obtain ⟨m0, m1, m2, m4, m5, m6, m7, m8, m9, m10, m11, m12, m13, E2, r2, hr2, A3, A4⟩ := fin_both id cl su sc cr us idl ab gr ge tk st en co stt nw h_cl h_su (by omega) hln
  obtain ⟨y0, y1, y2, y4, y5, y6, y7, r3, hr3, A5, A6⟩ := tell_both id cl su sc cr us idl ab gr ge tk st en co ti fa tg ha mi sp at9 ne se nw h_cl h_su (by omega) hln
  have HA1 := hide A1
  have HA2 := hide A2
  have HA3 := hide A3
  have HA4 := hide A4
  have HA5 := hide A5
  have HA6 := hide A6
  clear A1 A2 A3 A4 A5 A6
  have XJ := hide (fun W va vc (h : Sts W va sc.length sc) => judge_any id cl su va vc sc cr us idl ab gr ge tk st en co ti fa tg ha mi sp at9 ne se nw W h_cl h_su h (by omega) hln)
  have XK := hide (fun W va vc (h : Sts W va sc.length sc) => rjudge_any id cl su va vc sc cr us idl ab gr ge tk st en co ti fa tg ha mi sp at9 ne se nw W h_cl h_su h (by omega) hln)
  have XA := hide (fun W va vc => alive_any id cl su va vc sc cr us idl ab gr ge tk st en co nw W)
  have XB := hide (fun W va vc => ralive_any id cl su va vc sc cr us idl ab gr ge tk st en co nw W)
  have XO := hide (fun W va vc => fover_any id cl su va vc sc cr us idl ab gr ge tk st en co re nw W)
  have XP := hide (fun W va vc => rover_any id cl su va vc sc cr us idl ab gr ge tk st en co re nw W)
  have HSC := hide (fun W (h : Below w.heap.size w W) => hsc.below h)
  have HL1 := hide (fun W (h : Below w.heap.size w W) => lent_any va sc.length vc sc W (hsc.below h) hnc hsl)
  have HW1 := hide (fun W (h : Below w.heap.size w W) gl (hb : Blk gl (sc ++ [spare, spare]) W) => whole_any gl va sc.length vc sc W hb (hsc.below h) hsl)
  generalize jdg id cl su sc cr us idl ab gr ge tk st en co ti fa tg ha mi sp at9 ne se nw = J at *
  generalize alv cr us idl ab st en nw = A at *
  generalize ovF cr us idl ab st en re nw = O at *
  clear hsc hln h_cl h_su h_s hnc hsl
  go_enter Tryz.func3, Tryz.ntmps3
  go_wp2_with fail
  refine (unhide HA).mono ?_
  rintro e w1 ⟨rfl, h1⟩
  have hbB := (unhide HB).trans (h1.mono (unhide HB).size)
  have rx := (h1.block _ (lt_of_row (unhide HRx))).trans (unhide HRx)
  clear h1 HB HRx    hW1
  have HB := hide hbB
  have HRx := hide rx
  clear hbB rx 
  clear HA
  go_upto_region 3 with (first | (refine wp_run rfl (g_load (t := 24) (a := .tmp 30) rfl (by rfl) (s_ldr (T := 24) (n := 14) (o := 0) (fun _ => by kernel_rfl) (fun _ => by kernel_rfl) (unhide HRx) (#[I id, S cl, S su, .slice va sc.length vc, I cr, I us, I idl, I ab, I gr, I ge, I tk, I st, I en, I co]).toList rfl rfl)) ?_) | (refine wp_stA inf24 rfl (.tmp 4) (.tmp 31) rfl w1.heap.size (by rfl) #[I id, S cl, S su, .slice va sc.length vc, I cr, I us, I idl, I ab, I gr, I ge, I tk, I st, I en, I co] (by rfl) #[I 0, S [], S [], .slice none 0 0, I 0, I 0, I 0, I 0, I 0, I 0, I 0, I 0, I 0, I 0] rfl rfl (heap_alloc_new _ _) (by simp [Value.oneCell']) ?_; generalize hW2 : (w1.alloc (.cells #[I 0, S [], S [], .slice none 0 0, I 0, I 0, I 0, I 0, I 0, I 0, I 0, I 0, I 0, I 0] 24)).setRow w1.heap.size #[I id, S cl, S su, .slice va sc.length vc, I cr, I us, I idl, I ab, I gr, I ge, I tk, I st, I en, I co] = W2))
  obtain ⟨h2, rf⟩ := new_row hW2
  clear hW2
  have hxf : w.heap.size < w1.heap.size := lt_of_row (unhide HRx)
  have hbB := (unhide HB).trans (h2.mono (unhide HB).size)
  have rx := (h2.block _ (lt_of_row (unhide HRx))).trans (unhide HRx)
  clear h2 HB HRx    
  have cx_3 : W2.cell? ⟨w.heap.size, 3, none⟩ = some (.slice va sc.length vc) := cellr rx rfl
  have HB := hide hbB
  have HRx := hide rx
  have HRf := hide rf
  clear hbB rx rf 
  have hfl : w1.heap.size < W2.heap.size := lt_of_row (unhide HRf)
  have HX := hide (unhide HL1 W2 (unhide HB))
  go_wp2_with fail
  refine (unhide HX).mono ?_
  rintro e w3 ⟨rfl, bk, h3⟩
  clear HX HL1
  have HK := hide bk
  clear bk
  have hbB := (unhide HB).trans (h3.mono (unhide HB).size)
  have rx := (h3.block _ (lt_of_row (unhide HRx))).trans (unhide HRx)
  have rf := (h3.block _ (lt_of_row (unhide HRf))).trans (unhide HRf)
  clear h3 HB HRx HRf cx_3
  generalize W2.heap.size = lb at *
  have HB := hide hbB
  have HRx := hide rx
  have HRf := hide rf
  clear hbB rx rf
  go_upto_region 4 with (refine wp_stC (T := 22) (fun _ => by kernel_rfl) rfl (.tmp 36) (.tmp 35) rfl w1.heap.size 3 (by rfl) (.slice (some ⟨lb, 0, none⟩) sc.length (sc.length + 2)) (by rfl) rfl rfl #[I id, S cl, S su, .slice va sc.length vc, I cr, I us, I idl, I ab, I gr, I ge, I tk, I st, I en, I co] 24 (unhide HRf) (by simp) #[I id, S cl, S su, .slice (some ⟨lb, 0, none⟩) sc.length (sc.length + 2), I cr, I us, I idl, I ab, I gr, I ge, I tk, I st, I en, I co] rfl ?_; generalize hW4 : w3.setRow w1.heap.size #[I id, S cl, S su, .slice (some ⟨lb, 0, none⟩) sc.length (sc.length + 2), I cr, I us, I idl, I ab, I gr, I ge, I tk, I st, I en, I co] = W4)
  have rf : W4.heap[w1.heap.size]? = some (.cells #[I id, S cl, S su, .slice (some ⟨lb, 0, none⟩) sc.length (sc.length + 2), I cr, I us, I idl, I ab, I gr, I ge, I tk, I st, I en, I co] 24 (0, 0)) := by rw [← hW4]; exact setRow_row (unhide HRf)
  have rx : W4.heap[w.heap.size]? = some (.cells #[I id, S cl, S su, .slice va sc.length vc, I cr, I us, I idl, I ab, I gr, I ge, I tk, I st, I en, I co, I ti, I fa, I tg, S ha, I mi, .bool sp, I at9, I ne, S se, I nx, I nw, I stt, I re, S s] 28 (0, 0)) := by rw [← hW4]; exact row_set (unhide HRx) (by omega)
  have bk : Blk lb (sc ++ [spare, spare]) W4 := by rw [← hW4]; exact row_set (unhide HK) (by omega)
  have hb : Below w.heap.size w W4 := by rw [← hW4]; exact bel_set (unhide HB) _ _ (by omega) (unhide HB).size
  clear hW4 HRf HRx HK HB
  have HB := hide hb
  have HRx := hide rx
  have HRf := hide rf
  have HK := hide bk
  clear hb rx rf bk 
  refine region_tabG fa4T [(1, ptr w.heap.size), (4, ptr w1.heap.size)] 231 [1, 3, 6, 8, 10, 14, 16, 19, 21, 25] [] (fa4V w.heap.size #[I id, S cl, S su, .slice va sc.length vc, I cr, I us, I idl, I ab, I gr, I ge, I tk, I st, I en, I co] #[I id, S cl, S su, .slice (some ⟨lb, 0, none⟩) sc.length (sc.length + 2), I cr, I us, I idl, I ab, I gr, I ge, I tk, I st, I en, I co] #[I ti, I fa, I tg, S ha, I mi, .bool sp, I at9, I ne, S se] nw J A) rfl (by rfl) (by rfl) rfl (fun c => by kernel_rfl) (fun c => by kernel_rfl) (fun c w => by kernel_rfl) _ W4 (Nat.le_of_ble_eq_true rfl) rfl (fun _ _ W => Below W4.heap.size W4 W) ⟨(), (Below.refl _ _).drew⟩ (fun i hi c L W hW => hW) ?spc ?_
  case spc =>
    intro i hi hp hs c L W hW hL hd
    rcases (by simp [fa4T] at hi hp hs; omega : i = 0 ∨ i = 2 ∨ i = 4 ∨ i = 5 ∨ i = 7 ∨ i = 9 ∨ i = 11 ∨ i = 12 ∨ i = 13 ∨ i = 15 ∨ i = 17 ∨ i = 18 ∨ i = 20 ∨ i = 22 ∨ i = 23 ∨ i = 24) with rfl | rfl | rfl | rfl | rfl | rfl | rfl | rfl | rfl | rfl | rfl | rfl | rfl | rfl | rfl | rfl
    · skip
      have f1 : (Instr.loadAt 24 (.pointer (some ⟨w1.heap.size, 0, none⟩))).run Tryz.prog W = .ok (.agg #[I id, S cl, S su, .slice (some ⟨lb, 0, none⟩) sc.length (sc.length + 2), I cr, I us, I idl, I ab, I gr, I ge, I tk, I st, I en, I co]) W := s_ldr (T := 24) (n := 14) (o := 0) (fun _ => by kernel_rfl) (fun _ => by kernel_rfl) ((hW.block _ (lt_of_row (unhide HRf))).trans (unhide HRf)) (#[I id, S cl, S su, .slice (some ⟨lb, 0, none⟩) sc.length (sc.length + 2), I cr, I us, I idl, I ab, I gr, I ge, I tk, I st, I en, I co]).toList rfl rfl
      exact ⟨f1, hW⟩
    · skip
      have f1 : (Instr.loadAt 26 (.pointer (some ⟨w.heap.size, 14, none⟩))).run Tryz.prog W = .ok (.agg #[I ti, I fa, I tg, S ha, I mi, .bool sp, I at9, I ne, S se]) W := s_ldr (T := 26) (n := 9) (o := 14) (fun _ => by kernel_rfl) (fun _ => by kernel_rfl) ((hW.block _ (lt_of_row (unhide HRx))).trans (unhide HRx)) (#[I ti, I fa, I tg, S ha, I mi, .bool sp, I at9, I ne, S se]).toList rfl rfl
      exact ⟨f1, hW⟩
    · skip
      have f1 : (Instr.loadAt 3 (.pointer (some ⟨w.heap.size, 24, none⟩))).run Tryz.prog W = .ok (I nw) W := s_ld (T := 3) (fun _ => by kernel_rfl) (cellr ((hW.block _ (lt_of_row (unhide HRx))).trans (unhide HRx)) rfl)
      exact ⟨f1, hW⟩
    · skip
      exact ⟨⟨_, _, Tryz.func8, by kernel_rfl, rfl⟩, (unhide XJ W (some ⟨lb, 0, none⟩) (sc.length + 2) ((unhide HK).keep hW).part).mono fun e w' q => ⟨c, fun _ _ => rfl, q.1, hW.trans (q.2.mono hW.size)⟩⟩
    · skip
      have f1 : (Instr.loadAt 24 (.pointer (some ⟨w.heap.size, 0, none⟩))).run Tryz.prog W = .ok (.agg #[I id, S cl, S su, .slice va sc.length vc, I cr, I us, I idl, I ab, I gr, I ge, I tk, I st, I en, I co]) W := s_ldr (T := 24) (n := 14) (o := 0) (fun _ => by kernel_rfl) (fun _ => by kernel_rfl) ((hW.block _ (lt_of_row (unhide HRx))).trans (unhide HRx)) (#[I id, S cl, S su, .slice va sc.length vc, I cr, I us, I idl, I ab, I gr, I ge, I tk, I st, I en, I co]).toList rfl rfl
      exact ⟨f1, hW⟩
    · skip
      have f1 : (Instr.loadAt 26 (.pointer (some ⟨w.heap.size, 14, none⟩))).run Tryz.prog W = .ok (.agg #[I ti, I fa, I tg, S ha, I mi, .bool sp, I at9, I ne, S se]) W := s_ldr (T := 26) (n := 9) (o := 14) (fun _ => by kernel_rfl) (fun _ => by kernel_rfl) ((hW.block _ (lt_of_row (unhide HRx))).trans (unhide HRx)) (#[I ti, I fa, I tg, S ha, I mi, .bool sp, I at9, I ne, S se]).toList rfl rfl
      exact ⟨f1, hW⟩
    · skip
      have f1 : (Instr.loadAt 3 (.pointer (some ⟨w.heap.size, 24, none⟩))).run Tryz.prog W = .ok (I nw) W := s_ld (T := 3) (fun _ => by kernel_rfl) (cellr ((hW.block _ (lt_of_row (unhide HRx))).trans (unhide HRx)) rfl)
      exact ⟨f1, hW⟩
    · skip
      exact ⟨⟨_, _, Tryz.func9, by kernel_rfl, rfl⟩, (unhide XK W va vc (unhide HSC W ((unhide HB).trans (hW.mono (unhide HB).size)))).mono fun e w' q => ⟨c, fun _ _ => rfl, q.1, hW.trans (q.2.mono hW.size)⟩⟩
    · skip
      have f0 : (do eqGuard .neq 3 (.tmp 42) (.tmp 49) (I J) (I J); binOp .neq 3 (I J) (I J) : Sem Value).run Tryz.prog W = .ok (.bool (J != J)) W := by kernel_rfl
      rw [bne_self_eq_false] at f0
      exact ⟨⟨_, rfl, f0⟩, hW⟩
    · skip
      have f1 : (Instr.loadAt 24 (.pointer (some ⟨w1.heap.size, 0, none⟩))).run Tryz.prog W = .ok (.agg #[I id, S cl, S su, .slice (some ⟨lb, 0, none⟩) sc.length (sc.length + 2), I cr, I us, I idl, I ab, I gr, I ge, I tk, I st, I en, I co]) W := s_ldr (T := 24) (n := 14) (o := 0) (fun _ => by kernel_rfl) (fun _ => by kernel_rfl) ((hW.block _ (lt_of_row (unhide HRf))).trans (unhide HRf)) (#[I id, S cl, S su, .slice (some ⟨lb, 0, none⟩) sc.length (sc.length + 2), I cr, I us, I idl, I ab, I gr, I ge, I tk, I st, I en, I co]).toList rfl rfl
      exact ⟨f1, hW⟩
    · skip
      have f1 : (Instr.loadAt 3 (.pointer (some ⟨w.heap.size, 24, none⟩))).run Tryz.prog W = .ok (I nw) W := s_ld (T := 3) (fun _ => by kernel_rfl) (cellr ((hW.block _ (lt_of_row (unhide HRx))).trans (unhide HRx)) rfl)
      exact ⟨f1, hW⟩
    · skip
      exact ⟨⟨_, _, Tryz.func10, by kernel_rfl, rfl⟩, (unhide XA W (some ⟨lb, 0, none⟩) (sc.length + 2) ).mono fun e w' q => ⟨c, fun _ _ => rfl, q.1, hW.trans (q.2.mono hW.size)⟩⟩
    · skip
      have f1 : (Instr.loadAt 24 (.pointer (some ⟨w.heap.size, 0, none⟩))).run Tryz.prog W = .ok (.agg #[I id, S cl, S su, .slice va sc.length vc, I cr, I us, I idl, I ab, I gr, I ge, I tk, I st, I en, I co]) W := s_ldr (T := 24) (n := 14) (o := 0) (fun _ => by kernel_rfl) (fun _ => by kernel_rfl) ((hW.block _ (lt_of_row (unhide HRx))).trans (unhide HRx)) (#[I id, S cl, S su, .slice va sc.length vc, I cr, I us, I idl, I ab, I gr, I ge, I tk, I st, I en, I co]).toList rfl rfl
      exact ⟨f1, hW⟩
    · skip
      have f1 : (Instr.loadAt 3 (.pointer (some ⟨w.heap.size, 24, none⟩))).run Tryz.prog W = .ok (I nw) W := s_ld (T := 3) (fun _ => by kernel_rfl) (cellr ((hW.block _ (lt_of_row (unhide HRx))).trans (unhide HRx)) rfl)
      exact ⟨f1, hW⟩
    · skip
      exact ⟨⟨_, _, Tryz.func11, by kernel_rfl, rfl⟩, (unhide XB W va vc ).mono fun e w' q => ⟨c, fun _ _ => rfl, q.1, hW.trans (q.2.mono hW.size)⟩⟩
    · skip
      have f0 : (do eqGuard .neq 4 (.tmp 55) (.tmp 60) (.bool A) (.bool A); binOp .neq 4 (.bool A) (.bool A) : Sem Value).run Tryz.prog W = .ok (.bool (A != A)) W := by kernel_rfl
      rw [bne_self_eq_false] at f0
      exact ⟨⟨_, rfl, f0⟩, hW⟩
  intro c L W5 hall hW
  simp only [frmL, fa4T, fa4V, Act.put, List.setIfInBounds_toArray, List.set_cons_succ, List.set_cons_zero]
  have h5 := hW
  clear hall hW
  have hbB := (unhide HB).trans (h5.mono (unhide HB).size)
  have rx := (h5.block _ (lt_of_row (unhide HRx))).trans (unhide HRx)
  have rf := (h5.block _ (lt_of_row (unhide HRf))).trans (unhide HRf)
  have bk := (unhide HK).keep h5
  clear h5 HB HRx HRf HK   
  have HB := hide hbB
  have HRx := hide rx
  have HRf := hide rf
  have HK := hide bk
  clear hbB rx rf bk 
  clear XJ XK XA XB
  go_upto_region 6 with fail
  refine region_tabG fa6T [(1, ptr w.heap.size), (4, ptr w1.heap.size)] 231 [1, 3, 6, 8, 10] [] (fa6V w.heap.size #[I id, S cl, S su, .slice va sc.length vc, I cr, I us, I idl, I ab, I gr, I ge, I tk, I st, I en, I co] #[I id, S cl, S su, .slice (some ⟨lb, 0, none⟩) sc.length (sc.length + 2), I cr, I us, I idl, I ab, I gr, I ge, I tk, I st, I en, I co] nw re O) rfl (by rfl) (by rfl) rfl (fun c => by kernel_rfl) (fun c => by kernel_rfl) (fun c w => by kernel_rfl) _ W5 (Nat.le_of_ble_eq_true rfl) rfl (fun _ _ W => Below W5.heap.size W5 W) ⟨(), (Below.refl _ _).drew⟩ (fun i hi c L W hW => hW) ?spc ?_
  case spc =>
    intro i hi hp hs c L W hW hL hd
    rcases (by simp [fa6T] at hi hp hs; omega : i = 0 ∨ i = 2 ∨ i = 4 ∨ i = 5 ∨ i = 7 ∨ i = 9 ∨ i = 11 ∨ i = 12 ∨ i = 13) with rfl | rfl | rfl | rfl | rfl | rfl | rfl | rfl | rfl
    · skip
      have f1 : (Instr.loadAt 24 (.pointer (some ⟨w1.heap.size, 0, none⟩))).run Tryz.prog W = .ok (.agg #[I id, S cl, S su, .slice (some ⟨lb, 0, none⟩) sc.length (sc.length + 2), I cr, I us, I idl, I ab, I gr, I ge, I tk, I st, I en, I co]) W := s_ldr (T := 24) (n := 14) (o := 0) (fun _ => by kernel_rfl) (fun _ => by kernel_rfl) ((hW.block _ (lt_of_row (unhide HRf))).trans (unhide HRf)) (#[I id, S cl, S su, .slice (some ⟨lb, 0, none⟩) sc.length (sc.length + 2), I cr, I us, I idl, I ab, I gr, I ge, I tk, I st, I en, I co]).toList rfl rfl
      exact ⟨f1, hW⟩
    · skip
      have f1 : (Instr.loadAt 3 (.pointer (some ⟨w.heap.size, 26, none⟩))).run Tryz.prog W = .ok (I re) W := s_ld (T := 3) (fun _ => by kernel_rfl) (cellr ((hW.block _ (lt_of_row (unhide HRx))).trans (unhide HRx)) rfl)
      exact ⟨f1, hW⟩
    · skip
      have f1 : (Instr.loadAt 3 (.pointer (some ⟨w.heap.size, 24, none⟩))).run Tryz.prog W = .ok (I nw) W := s_ld (T := 3) (fun _ => by kernel_rfl) (cellr ((hW.block _ (lt_of_row (unhide HRx))).trans (unhide HRx)) rfl)
      exact ⟨f1, hW⟩
    · skip
      exact ⟨⟨_, _, Tryz.func12, by kernel_rfl, rfl⟩, (unhide XO W (some ⟨lb, 0, none⟩) (sc.length + 2) ).mono fun e w' q => ⟨c, fun _ _ => rfl, q.1, hW.trans (q.2.mono hW.size)⟩⟩
    · skip
      have f1 : (Instr.loadAt 24 (.pointer (some ⟨w.heap.size, 0, none⟩))).run Tryz.prog W = .ok (.agg #[I id, S cl, S su, .slice va sc.length vc, I cr, I us, I idl, I ab, I gr, I ge, I tk, I st, I en, I co]) W := s_ldr (T := 24) (n := 14) (o := 0) (fun _ => by kernel_rfl) (fun _ => by kernel_rfl) ((hW.block _ (lt_of_row (unhide HRx))).trans (unhide HRx)) (#[I id, S cl, S su, .slice va sc.length vc, I cr, I us, I idl, I ab, I gr, I ge, I tk, I st, I en, I co]).toList rfl rfl
      exact ⟨f1, hW⟩
    · skip
      have f1 : (Instr.loadAt 3 (.pointer (some ⟨w.heap.size, 26, none⟩))).run Tryz.prog W = .ok (I re) W := s_ld (T := 3) (fun _ => by kernel_rfl) (cellr ((hW.block _ (lt_of_row (unhide HRx))).trans (unhide HRx)) rfl)
      exact ⟨f1, hW⟩
    · skip
      have f1 : (Instr.loadAt 3 (.pointer (some ⟨w.heap.size, 24, none⟩))).run Tryz.prog W = .ok (I nw) W := s_ld (T := 3) (fun _ => by kernel_rfl) (cellr ((hW.block _ (lt_of_row (unhide HRx))).trans (unhide HRx)) rfl)
      exact ⟨f1, hW⟩
    · skip
      exact ⟨⟨_, _, Tryz.func13, by kernel_rfl, rfl⟩, (unhide XP W va vc ).mono fun e w' q => ⟨c, fun _ _ => rfl, q.1, hW.trans (q.2.mono hW.size)⟩⟩
    · skip
      have f0 : (do eqGuard .neq 4 (.tmp 68) (.tmp 75) (.bool O) (.bool O); binOp .neq 4 (.bool O) (.bool O) : Sem Value).run Tryz.prog W = .ok (.bool (O != O)) W := by kernel_rfl
      rw [bne_self_eq_false] at f0
      exact ⟨⟨_, rfl, f0⟩, hW⟩
  intro c L W6 hall hW
  simp only [frmL, fa6T, fa6V, Act.put, List.setIfInBounds_toArray, List.set_cons_succ, List.set_cons_zero]
  have h6 := hW
  clear hall hW
  have hbB := (unhide HB).trans (h6.mono (unhide HB).size)
  have rx := (h6.block _ (lt_of_row (unhide HRx))).trans (unhide HRx)
  have rf := (h6.block _ (lt_of_row (unhide HRf))).trans (unhide HRf)
  have bk := (unhide HK).keep h6
  clear h6 HB HRx HRf HK   
  have HB := hide hbB
  have HRx := hide rx
  have HRf := hide rf
  have HK := hide bk
  clear hbB rx rf bk 
  clear XO XP
  have hz0 : w.heap.size ≤ w1.heap.size := by omega
  go_wp2
  go_loopw [5] (fun i wr => ∃ k : Nat, k ≤ 2 ∧ i = .int .i64 k ∧ Below w.heap.size w wr ∧ wr.heap[w.heap.size]? = some (.cells #[I id, S cl, S su, .slice va sc.length vc, I cr, I us, I idl, I ab, I gr, I ge, I tk, I st, I en, I co, I ti, I fa, I tg, S ha, I mi, .bool sp, I at9, I ne, S se, I nx, I nw, I stt, I re, S s] 28 (0, 0)) ∧ wr.heap[w1.heap.size]? = some (.cells #[I id, S cl, S su, .slice (some ⟨lb, 0, none⟩) sc.length (sc.length + 2), I cr, I us, I idl, I ab, I gr, I ge, I tk, I st, I en, I co] 24 (0, 0)) ∧ Blk lb (sc ++ [spare, spare]) wr) (fun i _ => 2 - (Go.RowKit.intOf i).toNat)
  case atStart => exact ⟨0, by omega, rfl, unhide HB, unhide HRx, unhide HRf, unhide HK⟩
  case round =>
    clear HB HRx HRf HK
    obtain ⟨k, hk, rfl, hb, rx, rf, bk⟩ := hrel
    by_cases hlt : k < 2
    · have hlt' : (k : Int) < 2 := by omega
      have cx_23 : wr.cell? ⟨w.heap.size, 23, none⟩ = some (I nx) := cellr rx rfl
      have cx_24 : wr.cell? ⟨w.heap.size, 24, none⟩ = some (I nw) := cellr rx rfl
      have cx_25 : wr.cell? ⟨w.heap.size, 25, none⟩ = some (I stt) := cellr rx rfl
      have cx_26 : wr.cell? ⟨w.heap.size, 26, none⟩ = some (I re) := cellr rx rfl
      have cx_27 : wr.cell? ⟨w.heap.size, 27, none⟩ = some (S s) := cellr rx rfl
      have HB := hide hb
      have HRx := hide rx
      have HRf := hide rf
      have HK := hide bk
      clear hb rx rf bk 
      have hlb0 := (unhide HK).lt
      have hwz := (unhide HB).size
      have HZ0 := hide hlb0
      have HZw := hide hwz
      clear hlb0 hwz
      have HX := hide (unhide HA1 wr (some ⟨lb, 0, none⟩) (sc.length + 2) (unhide HK).part)
      go_wp2_with (first | (refine wp_run rfl (g_load (t := 24) (a := .tmp 4) rfl (by rfl) (s_ldr (T := 24) (n := 14) (o := 0) (fun _ => by kernel_rfl) (fun _ => by kernel_rfl) (unhide HRf) (#[I id, S cl, S su, .slice (some ⟨lb, 0, none⟩) sc.length (sc.length + 2), I cr, I us, I idl, I ab, I gr, I ge, I tk, I st, I en, I co]).toList rfl rfl)) ?_) | (refine wp_run rfl (g_load (t := 26) (a := .tmp 83) rfl (by rfl) (s_ldr (T := 26) (n := 9) (o := 14) (fun _ => by kernel_rfl) (fun _ => by kernel_rfl) (unhide HRx) (#[I ti, I fa, I tg, S ha, I mi, .bool sp, I at9, I ne, S se]).toList rfl rfl)) ?_))
      refine (unhide HX).mono ?_
      rintro e w2 ⟨a1, k1, rfl, oa, h2⟩
      have HOa := hide oa
      clear HX oa
      have hbB := (unhide HB).trans (h2.mono (unhide HB).size)
      have rx := (h2.block _ (lt_of_row (unhide HRx))).trans (unhide HRx)
      have rf := (h2.block _ (lt_of_row (unhide HRf))).trans (unhide HRf)
      have bk := (unhide HK).keep h2
      clear h2 HB HRx HRf HK  cx_23 cx_24 cx_25 cx_26 cx_27 
      have HB := hide hbB
      have HRx := hide rx
      have HRf := hide rf
      have HK := hide bk
      clear hbB rx rf bk 
      go_upto_region 12 with (first | (refine wp_stA inf24 rfl (.tmp 6) (.tmp 92) rfl w2.heap.size (by rfl) #[I q0, S q1, S q2, .slice a1 r1.length k1, I q4, I q5, I q6, I q7, I q8, I q9, I q10, I q11, I q12, I q13] (by rfl) #[I 0, S [], S [], .slice none 0 0, I 0, I 0, I 0, I 0, I 0, I 0, I 0, I 0, I 0, I 0] rfl rfl (al_old _ _ _ (by simp <;> omega) (al_old _ _ _ (by simp) (al_new _ _ _ rfl))) (by simp [Value.oneCell']) ?_; generalize hZ : (((w2.alloc (.cells #[I 0, S [], S [], .slice none 0 0, I 0, I 0, I 0, I 0, I 0, I 0, I 0, I 0, I 0, I 0] 24)).alloc (.cells #[I 0, I 0, I 0, S [], I 0, .bool false, I 0, I 0, S []] 26)).alloc (.cells #[I 0, I 0, I 0, S [], I 0, .bool false, I 0, I 0, S []] 26)).setRow w2.heap.size #[I q0, S q1, S q2, .slice a1 r1.length k1, I q4, I q5, I q6, I q7, I q8, I q9, I q10, I q11, I q12, I q13] = Z1; have HZ1 := hide hZ; clear hZ) | (refine wp_stA inf26 rfl (.tmp 7) (.tmp 93) rfl (w2.heap.size + 1) (by rfl) #[I p0, I p1, I p2, S p3, I p4, .bool p5, I p6, I p7, S p8] (by rfl) #[I 0, I 0, I 0, S [], I 0, .bool false, I 0, I 0, S []] rfl rfl (by rw [← unhide HZ1]; exact row_set (al_old _ _ _ (by simp) (al_new _ _ _ (by simp))) (by omega)) (by simp [Value.oneCell']) ?_; generalize hZ : Z1.setRow (w2.heap.size + 1) #[I p0, I p1, I p2, S p3, I p4, .bool p5, I p6, I p7, S p8] = Z2; have HZ2 := hide hZ; clear hZ) | (refine wp_stA inf26 rfl (.tmp 8) (.tmp 94) rfl (w2.heap.size + 2) (by rfl) #[I s0, I s1, I s2, S s3, I s4, .bool s5, I s6, I s7, S s8] (by rfl) #[I 0, I 0, I 0, S [], I 0, .bool false, I 0, I 0, S []] rfl rfl (by rw [← unhide HZ2, ← unhide HZ1]; exact row_set (row_set (al_new _ _ _ (by simp)) (by omega)) (by omega)) (by simp [Value.oneCell']) ?_; generalize hZ : Z2.setRow (w2.heap.size + 2) #[I s0, I s1, I s2, S s3, I s4, .bool s5, I s6, I s7, S s8] = W3; have HZ3 := hide hZ; clear hZ))
      have hW8 := unhide HZ3
      rw [← unhide HZ2, ← unhide HZ1] at hW8
      clear HZ1 HZ2 HZ3
      obtain ⟨h3, r6, r7, r8⟩ := new_row3 hW8
      clear hW8
      have hbB := (unhide HB).trans (h3.mono (unhide HB).size)
      have rx := (h3.block _ (lt_of_row (unhide HRx))).trans (unhide HRx)
      have rf := (h3.block _ (lt_of_row (unhide HRf))).trans (unhide HRf)
      have bk := (unhide HK).keep h3
      have oa := (unhide HOa).below h3 (Nat.le_refl _)
      clear h3 HB HRx HRf HK HOa  
      have cx_23 : W3.cell? ⟨w.heap.size, 23, none⟩ = some (I nx) := cellr rx rfl
      have cx_24 : W3.cell? ⟨w.heap.size, 24, none⟩ = some (I nw) := cellr rx rfl
      have cx_25 : W3.cell? ⟨w.heap.size, 25, none⟩ = some (I stt) := cellr rx rfl
      have cx_26 : W3.cell? ⟨w.heap.size, 26, none⟩ = some (I re) := cellr rx rfl
      have cx_27 : W3.cell? ⟨w.heap.size, 27, none⟩ = some (S s) := cellr rx rfl
      have HB := hide hbB
      have HRx := hide rx
      have HRf := hide rf
      have HR6 := hide r6
      have HR7 := hide r7
      have HR8 := hide r8
      have HK := hide bk
      have HOa := hide oa
      clear hbB rx rf r6 r7 r8 bk oa
      have HX := hide (unhide HA2 W3 va vc (unhide HSC W3 (unhide HB)))
      go_wp2_with (first | (refine wp_run rfl (g_load (t := 24) (a := .tmp 97) rfl (by rfl) (s_ldr (T := 24) (n := 14) (o := 0) (fun _ => by kernel_rfl) (fun _ => by kernel_rfl) (unhide HRx) (#[I id, S cl, S su, .slice va sc.length vc, I cr, I us, I idl, I ab, I gr, I ge, I tk, I st, I en, I co]).toList rfl rfl)) ?_) | (refine wp_run rfl (g_load (t := 26) (a := .tmp 99) rfl (by rfl) (s_ldr (T := 26) (n := 9) (o := 14) (fun _ => by kernel_rfl) (fun _ => by kernel_rfl) (unhide HRx) (#[I ti, I fa, I tg, S ha, I mi, .bool sp, I at9, I ne, S se]).toList rfl rfl)) ?_))
      refine (unhide HX).mono ?_
      rintro e w4 ⟨a2, k2, rfl, od, h4⟩
      have HOd := hide od
      clear HX od
      have hbB := (unhide HB).trans (h4.mono (unhide HB).size)
      have rx := (h4.block _ (lt_of_row (unhide HRx))).trans (unhide HRx)
      have rf := (h4.block _ (lt_of_row (unhide HRf))).trans (unhide HRf)
      have r6 := (h4.block _ (lt_of_row (unhide HR6))).trans (unhide HR6)
      have r7 := (h4.block _ (lt_of_row (unhide HR7))).trans (unhide HR7)
      have r8 := (h4.block _ (lt_of_row (unhide HR8))).trans (unhide HR8)
      have bk := (unhide HK).keep h4
      have oa := (unhide HOa).below h4 (Nat.le_refl _)
      clear h4 HB HRx HRf HR6 HR7 HR8 HK HOa cx_23 cx_24 cx_25 cx_26 cx_27 
      have HB := hide hbB
      have HRx := hide rx
      have HRf := hide rf
      have HR6 := hide r6
      have HR7 := hide r7
      have HR8 := hide r8
      have HK := hide bk
      have HOa := hide oa
      clear hbB rx rf r6 r7 r8 bk oa
      go_upto_region 13 with (first | (refine wp_stA inf24 rfl (.tmp 10) (.tmp 108) rfl w4.heap.size (by rfl) #[I q0, S q1, S q2, .slice a2 r1.length k2, I q4, I q5, I q6, I q7, I q8, I q9, I q10, I q11, I q12, I q13] (by rfl) #[I 0, S [], S [], .slice none 0 0, I 0, I 0, I 0, I 0, I 0, I 0, I 0, I 0, I 0, I 0] rfl rfl (al_old _ _ _ (by simp <;> omega) (al_old _ _ _ (by simp) (al_new _ _ _ rfl))) (by simp [Value.oneCell']) ?_; generalize hZ : (((w4.alloc (.cells #[I 0, S [], S [], .slice none 0 0, I 0, I 0, I 0, I 0, I 0, I 0, I 0, I 0, I 0, I 0] 24)).alloc (.cells #[I 0, I 0, I 0, S [], I 0, .bool false, I 0, I 0, S []] 26)).alloc (.cells #[I 0, I 0, I 0, S [], I 0, .bool false, I 0, I 0, S []] 26)).setRow w4.heap.size #[I q0, S q1, S q2, .slice a2 r1.length k2, I q4, I q5, I q6, I q7, I q8, I q9, I q10, I q11, I q12, I q13] = Z1; have HZ1 := hide hZ; clear hZ) | (refine wp_stA inf26 rfl (.tmp 11) (.tmp 109) rfl (w4.heap.size + 1) (by rfl) #[I p0, I p1, I p2, S p3, I p4, .bool p5, I p6, I p7, S p8] (by rfl) #[I 0, I 0, I 0, S [], I 0, .bool false, I 0, I 0, S []] rfl rfl (by rw [← unhide HZ1]; exact row_set (al_old _ _ _ (by simp) (al_new _ _ _ (by simp))) (by omega)) (by simp [Value.oneCell']) ?_; generalize hZ : Z1.setRow (w4.heap.size + 1) #[I p0, I p1, I p2, S p3, I p4, .bool p5, I p6, I p7, S p8] = Z2; have HZ2 := hide hZ; clear hZ) | (refine wp_stA inf26 rfl (.tmp 12) (.tmp 110) rfl (w4.heap.size + 2) (by rfl) #[I s0, I s1, I s2, S s3, I s4, .bool s5, I s6, I s7, S s8] (by rfl) #[I 0, I 0, I 0, S [], I 0, .bool false, I 0, I 0, S []] rfl rfl (by rw [← unhide HZ2, ← unhide HZ1]; exact row_set (row_set (al_new _ _ _ (by simp)) (by omega)) (by omega)) (by simp [Value.oneCell']) ?_; generalize hZ : Z2.setRow (w4.heap.size + 2) #[I s0, I s1, I s2, S s3, I s4, .bool s5, I s6, I s7, S s8] = W5; have HZ3 := hide hZ; clear hZ))
      have hW8 := unhide HZ3
      rw [← unhide HZ2, ← unhide HZ1] at hW8
      clear HZ1 HZ2 HZ3
      obtain ⟨h5, r10, r11, r12⟩ := new_row3 hW8
      clear hW8
      have hbB := (unhide HB).trans (h5.mono (unhide HB).size)
      have rx := (h5.block _ (lt_of_row (unhide HRx))).trans (unhide HRx)
      have rf := (h5.block _ (lt_of_row (unhide HRf))).trans (unhide HRf)
      have r6 := (h5.block _ (lt_of_row (unhide HR6))).trans (unhide HR6)
      have r7 := (h5.block _ (lt_of_row (unhide HR7))).trans (unhide HR7)
      have r8 := (h5.block _ (lt_of_row (unhide HR8))).trans (unhide HR8)
      have bk := (unhide HK).keep h5
      have oa := (unhide HOa).below h5 (Nat.le_refl _)
      have od := (unhide HOd).below h5 (Nat.le_refl _)
      clear h5 HB HRx HRf HR6 HR7 HR8 HK HOa HOd  
      have cx_23 : W5.cell? ⟨w.heap.size, 23, none⟩ = some (I nx) := cellr rx rfl
      have cx_24 : W5.cell? ⟨w.heap.size, 24, none⟩ = some (I nw) := cellr rx rfl
      have cx_25 : W5.cell? ⟨w.heap.size, 25, none⟩ = some (I stt) := cellr rx rfl
      have cx_26 : W5.cell? ⟨w.heap.size, 26, none⟩ = some (I re) := cellr rx rfl
      have cx_27 : W5.cell? ⟨w.heap.size, 27, none⟩ = some (S s) := cellr rx rfl
      have HB := hide hbB
      have HRx := hide rx
      have HRf := hide rf
      have HR6 := hide r6
      have HR7 := hide r7
      have HR8 := hide r8
      have HR10 := hide r10
      have HR11 := hide r11
      have HR12 := hide r12
      have HK := hide bk
      have HOa := hide oa
      have HOd := hide od
      clear hbB rx rf r6 r7 r8 r10 r11 r12 bk oa od
      have HWA : Hid (lb < W5.heap.size ∧ w.heap.size ≤ W5.heap.size) := hide ⟨(unhide HK).lt, (unhide HB).size⟩
      have HLa : Hid (∀ q, (Value.slice a1 r1.length k1).ownBlock = some q → q < W5.heap.size) := hide (fun q e => (World.ownsRow.lt (unhide HOa) q e).2)
      have HX := hide (unhide HA3 W5 (some ⟨lb, 0, none⟩) (sc.length + 2) (unhide HK).part)
      go_wp2_with (first | (refine wp_run rfl (g_load (t := 24) (a := .tmp 4) rfl (by rfl) (s_ldr (T := 24) (n := 14) (o := 0) (fun _ => by kernel_rfl) (fun _ => by kernel_rfl) (unhide HRf) (#[I id, S cl, S su, .slice (some ⟨lb, 0, none⟩) sc.length (sc.length + 2), I cr, I us, I idl, I ab, I gr, I ge, I tk, I st, I en, I co]).toList rfl rfl)) ?_))
      refine (unhide HX).mono ?_
      rintro e w6 ⟨a3, k3, rfl, ok, h6⟩
      have HOk := hide ok
      have hz6 := h6.size
      clear HX ok
      have hbB := (unhide HB).trans (h6.mono (unhide HB).size)
      have rx := (h6.block _ (lt_of_row (unhide HRx))).trans (unhide HRx)
      have rf := (h6.block _ (lt_of_row (unhide HRf))).trans (unhide HRf)
      have r6 := (h6.block _ (lt_of_row (unhide HR6))).trans (unhide HR6)
      have r7 := (h6.block _ (lt_of_row (unhide HR7))).trans (unhide HR7)
      have r8 := (h6.block _ (lt_of_row (unhide HR8))).trans (unhide HR8)
      have r10 := (h6.block _ (lt_of_row (unhide HR10))).trans (unhide HR10)
      have r11 := (h6.block _ (lt_of_row (unhide HR11))).trans (unhide HR11)
      have r12 := (h6.block _ (lt_of_row (unhide HR12))).trans (unhide HR12)
      have bk := (unhide HK).keep h6
      have oa := (unhide HOa).below h6 (Nat.le_refl _)
      have od := (unhide HOd).below h6 (Nat.le_refl _)
      clear h6 HB HRx HRf HR6 HR7 HR8 HR10 HR11 HR12 HK HOa HOd cx_23 cx_24 cx_25 cx_26 cx_27 
      have HB := hide hbB
      have HRx := hide rx
      have HRf := hide rf
      have HR6 := hide r6
      have HR7 := hide r7
      have HR8 := hide r8
      have HR10 := hide r10
      have HR11 := hide r11
      have HR12 := hide r12
      have HK := hide bk
      have HOa := hide oa
      have HOd := hide od
      clear hbB rx rf r6 r7 r8 r10 r11 r12 bk oa od
      go_upto_region 14 with fail
      generalize hW8 : w6.alloc (.cells #[I m0, S m1, S m2, .slice a3 r2.length k3, I m4, I m5, I m6, I m7, I m8, I m9, I m10, I m11, I m12, I m13] 24) = W7 at *
      obtain ⟨h7, r14⟩ := new_alc hW8
      clear hW8
      have HY57 := hide (Nat.le_trans hz6 h7.size)
      clear hz6
      have hbB := (unhide HB).trans (h7.mono (unhide HB).size)
      have rx := (h7.block _ (lt_of_row (unhide HRx))).trans (unhide HRx)
      have rf := (h7.block _ (lt_of_row (unhide HRf))).trans (unhide HRf)
      have r6 := (h7.block _ (lt_of_row (unhide HR6))).trans (unhide HR6)
      have r7 := (h7.block _ (lt_of_row (unhide HR7))).trans (unhide HR7)
      have r8 := (h7.block _ (lt_of_row (unhide HR8))).trans (unhide HR8)
      have r10 := (h7.block _ (lt_of_row (unhide HR10))).trans (unhide HR10)
      have r11 := (h7.block _ (lt_of_row (unhide HR11))).trans (unhide HR11)
      have r12 := (h7.block _ (lt_of_row (unhide HR12))).trans (unhide HR12)
      have bk := (unhide HK).keep h7
      have oa := (unhide HOa).below h7 (Nat.le_refl _)
      have od := (unhide HOd).below h7 (Nat.le_refl _)
      have ok := (unhide HOk).below h7 (Nat.le_refl _)
      clear h7 HB HRx HRf HR6 HR7 HR8 HR10 HR11 HR12 HK HOa HOd HOk  
      have cx_23 : W7.cell? ⟨w.heap.size, 23, none⟩ = some (I nx) := cellr rx rfl
      have cx_24 : W7.cell? ⟨w.heap.size, 24, none⟩ = some (I nw) := cellr rx rfl
      have cx_25 : W7.cell? ⟨w.heap.size, 25, none⟩ = some (I stt) := cellr rx rfl
      have cx_26 : W7.cell? ⟨w.heap.size, 26, none⟩ = some (I re) := cellr rx rfl
      have cx_27 : W7.cell? ⟨w.heap.size, 27, none⟩ = some (S s) := cellr rx rfl
      have HB := hide hbB
      have HRx := hide rx
      have HRf := hide rf
      have HR6 := hide r6
      have HR7 := hide r7
      have HR8 := hide r8
      have HR10 := hide r10
      have HR11 := hide r11
      have HR12 := hide r12
      have HR14 := hide r14
      have HK := hide bk
      have HOa := hide oa
      have HOd := hide od
      have HOk := hide ok
      clear hbB rx rf r6 r7 r8 r10 r11 r12 r14 bk oa od ok
      have HLk : Hid (∀ q, (Value.slice a3 r2.length k3).ownBlock = some q → q < W7.heap.size) := hide (fun q e => (World.ownsRow.lt (unhide HOk) q e).2)
      have HX := hide (unhide HA4 W7 va vc (unhide HSC W7 (unhide HB)))
      go_wp2_with (first | (refine wp_run rfl (g_load (t := 24) (a := .tmp 122) rfl (by rfl) (s_ldr (T := 24) (n := 14) (o := 0) (fun _ => by kernel_rfl) (fun _ => by kernel_rfl) (unhide HRx) (#[I id, S cl, S su, .slice va sc.length vc, I cr, I us, I idl, I ab, I gr, I ge, I tk, I st, I en, I co]).toList rfl rfl)) ?_))
      refine (unhide HX).mono ?_
      rintro e w8 ⟨a4, k4, rfl, on, h8⟩
      have HOn := hide on
      have hz8 := h8.size
      clear HX on
      have hbB := (unhide HB).trans (h8.mono (unhide HB).size)
      have rx := (h8.block _ (lt_of_row (unhide HRx))).trans (unhide HRx)
      have rf := (h8.block _ (lt_of_row (unhide HRf))).trans (unhide HRf)
      have r6 := (h8.block _ (lt_of_row (unhide HR6))).trans (unhide HR6)
      have r7 := (h8.block _ (lt_of_row (unhide HR7))).trans (unhide HR7)
      have r8 := (h8.block _ (lt_of_row (unhide HR8))).trans (unhide HR8)
      have r10 := (h8.block _ (lt_of_row (unhide HR10))).trans (unhide HR10)
      have r11 := (h8.block _ (lt_of_row (unhide HR11))).trans (unhide HR11)
      have r12 := (h8.block _ (lt_of_row (unhide HR12))).trans (unhide HR12)
      have r14 := (h8.block _ (lt_of_row (unhide HR14))).trans (unhide HR14)
      have bk := (unhide HK).keep h8
      have oa := (unhide HOa).below h8 (Nat.le_refl _)
      have od := (unhide HOd).below h8 (Nat.le_refl _)
      have ok := (unhide HOk).below h8 (Nat.le_refl _)
      clear h8 HB HRx HRf HR6 HR7 HR8 HR10 HR11 HR12 HR14 HK HOa HOd HOk cx_23 cx_24 cx_25 cx_26 cx_27 
      have HB := hide hbB
      have HRx := hide rx
      have HRf := hide rf
      have HR6 := hide r6
      have HR7 := hide r7
      have HR8 := hide r8
      have HR10 := hide r10
      have HR11 := hide r11
      have HR12 := hide r12
      have HR14 := hide r14
      have HK := hide bk
      have HOa := hide oa
      have HOd := hide od
      have HOk := hide ok
      clear hbB rx rf r6 r7 r8 r10 r11 r12 r14 bk oa od ok
      go_upto_region 15 with fail
      generalize hW8 : w8.alloc (.cells #[I m0, S m1, S m2, .slice a4 r2.length k4, I m4, I m5, I m6, I m7, I m8, I m9, I m10, I m11, I m12, I m13] 24) = W9 at *
      obtain ⟨h9, r16⟩ := new_alc hW8
      clear hW8
      have HY79 := hide (Nat.le_trans hz8 h9.size)
      clear hz8
      have hbB := (unhide HB).trans (h9.mono (unhide HB).size)
      have rx := (h9.block _ (lt_of_row (unhide HRx))).trans (unhide HRx)
      have rf := (h9.block _ (lt_of_row (unhide HRf))).trans (unhide HRf)
      have r6 := (h9.block _ (lt_of_row (unhide HR6))).trans (unhide HR6)
      have r7 := (h9.block _ (lt_of_row (unhide HR7))).trans (unhide HR7)
      have r8 := (h9.block _ (lt_of_row (unhide HR8))).trans (unhide HR8)
      have r10 := (h9.block _ (lt_of_row (unhide HR10))).trans (unhide HR10)
      have r11 := (h9.block _ (lt_of_row (unhide HR11))).trans (unhide HR11)
      have r12 := (h9.block _ (lt_of_row (unhide HR12))).trans (unhide HR12)
      have r14 := (h9.block _ (lt_of_row (unhide HR14))).trans (unhide HR14)
      have bk := (unhide HK).keep h9
      have oa := (unhide HOa).below h9 (Nat.le_refl _)
      have od := (unhide HOd).below h9 (Nat.le_refl _)
      have ok := (unhide HOk).below h9 (Nat.le_refl _)
      have on := (unhide HOn).below h9 (Nat.le_refl _)
      clear h9 HB HRx HRf HR6 HR7 HR8 HR10 HR11 HR12 HR14 HK HOa HOd HOk HOn  
      have cx_23 : W9.cell? ⟨w.heap.size, 23, none⟩ = some (I nx) := cellr rx rfl
      have cx_24 : W9.cell? ⟨w.heap.size, 24, none⟩ = some (I nw) := cellr rx rfl
      have cx_25 : W9.cell? ⟨w.heap.size, 25, none⟩ = some (I stt) := cellr rx rfl
      have cx_26 : W9.cell? ⟨w.heap.size, 26, none⟩ = some (I re) := cellr rx rfl
      have cx_27 : W9.cell? ⟨w.heap.size, 27, none⟩ = some (S s) := cellr rx rfl
      have HB := hide hbB
      have HRx := hide rx
      have HRf := hide rf
      have HR6 := hide r6
      have HR7 := hide r7
      have HR8 := hide r8
      have HR10 := hide r10
      have HR11 := hide r11
      have HR12 := hide r12
      have HR14 := hide r14
      have HR16 := hide r16
      have HK := hide bk
      have HOa := hide oa
      have HOd := hide od
      have HOk := hide ok
      have HOn := hide on
      clear hbB rx rf r6 r7 r8 r10 r11 r12 r14 r16 bk oa od ok on
      have HX := hide (unhide HA5 W9 (some ⟨lb, 0, none⟩) (sc.length + 2) (unhide HK).part)
      go_wp2_with (first | (refine wp_run rfl (g_load (t := 24) (a := .tmp 4) rfl (by rfl) (s_ldr (T := 24) (n := 14) (o := 0) (fun _ => by kernel_rfl) (fun _ => by kernel_rfl) (unhide HRf) (#[I id, S cl, S su, .slice (some ⟨lb, 0, none⟩) sc.length (sc.length + 2), I cr, I us, I idl, I ab, I gr, I ge, I tk, I st, I en, I co]).toList rfl rfl)) ?_) | (refine wp_run rfl (g_load (t := 26) (a := .tmp 132) rfl (by rfl) (s_ldr (T := 26) (n := 9) (o := 14) (fun _ => by kernel_rfl) (fun _ => by kernel_rfl) (unhide HRx) (#[I ti, I fa, I tg, S ha, I mi, .bool sp, I at9, I ne, S se]).toList rfl rfl)) ?_))
      refine (unhide HX).mono ?_
      rintro e w10 ⟨a5, k5, rfl, op, h10⟩
      have HOp := hide op
      have hz10 := h10.size
      clear HX op
      have hbB := (unhide HB).trans (h10.mono (unhide HB).size)
      have rx := (h10.block _ (lt_of_row (unhide HRx))).trans (unhide HRx)
      have rf := (h10.block _ (lt_of_row (unhide HRf))).trans (unhide HRf)
      have r6 := (h10.block _ (lt_of_row (unhide HR6))).trans (unhide HR6)
      have r7 := (h10.block _ (lt_of_row (unhide HR7))).trans (unhide HR7)
      have r8 := (h10.block _ (lt_of_row (unhide HR8))).trans (unhide HR8)
      have r10 := (h10.block _ (lt_of_row (unhide HR10))).trans (unhide HR10)
      have r11 := (h10.block _ (lt_of_row (unhide HR11))).trans (unhide HR11)
      have r12 := (h10.block _ (lt_of_row (unhide HR12))).trans (unhide HR12)
      have r14 := (h10.block _ (lt_of_row (unhide HR14))).trans (unhide HR14)
      have r16 := (h10.block _ (lt_of_row (unhide HR16))).trans (unhide HR16)
      have bk := (unhide HK).keep h10
      have oa := (unhide HOa).below h10 (Nat.le_refl _)
      have od := (unhide HOd).below h10 (Nat.le_refl _)
      have ok := (unhide HOk).below h10 (Nat.le_refl _)
      have on := (unhide HOn).below h10 (Nat.le_refl _)
      clear h10 HB HRx HRf HR6 HR7 HR8 HR10 HR11 HR12 HR14 HR16 HK HOa HOd HOk HOn cx_23 cx_24 cx_25 cx_26 cx_27 
      have HB := hide hbB
      have HRx := hide rx
      have HRf := hide rf
      have HR6 := hide r6
      have HR7 := hide r7
      have HR8 := hide r8
      have HR10 := hide r10
      have HR11 := hide r11
      have HR12 := hide r12
      have HR14 := hide r14
      have HR16 := hide r16
      have HK := hide bk
      have HOa := hide oa
      have HOd := hide od
      have HOk := hide ok
      have HOn := hide on
      clear hbB rx rf r6 r7 r8 r10 r11 r12 r14 r16 bk oa od ok on
      go_upto_region 16 with fail
      generalize hW8 : w10.alloc (.cells #[.bool y0, S y1, S y2, .slice a5 r3.length k5, I y4, I y5, I y6, I y7] 40) = W11 at *
      obtain ⟨h11, r18⟩ := new_alc hW8
      clear hW8
      have HY911 := hide (Nat.le_trans hz10 h11.size)
      clear hz10
      have hbB := (unhide HB).trans (h11.mono (unhide HB).size)
      have rx := (h11.block _ (lt_of_row (unhide HRx))).trans (unhide HRx)
      have rf := (h11.block _ (lt_of_row (unhide HRf))).trans (unhide HRf)
      have r6 := (h11.block _ (lt_of_row (unhide HR6))).trans (unhide HR6)
      have r7 := (h11.block _ (lt_of_row (unhide HR7))).trans (unhide HR7)
      have r8 := (h11.block _ (lt_of_row (unhide HR8))).trans (unhide HR8)
      have r10 := (h11.block _ (lt_of_row (unhide HR10))).trans (unhide HR10)
      have r11 := (h11.block _ (lt_of_row (unhide HR11))).trans (unhide HR11)
      have r12 := (h11.block _ (lt_of_row (unhide HR12))).trans (unhide HR12)
      have r14 := (h11.block _ (lt_of_row (unhide HR14))).trans (unhide HR14)
      have r16 := (h11.block _ (lt_of_row (unhide HR16))).trans (unhide HR16)
      have bk := (unhide HK).keep h11
      have oa := (unhide HOa).below h11 (Nat.le_refl _)
      have od := (unhide HOd).below h11 (Nat.le_refl _)
      have ok := (unhide HOk).below h11 (Nat.le_refl _)
      have on := (unhide HOn).below h11 (Nat.le_refl _)
      have op := (unhide HOp).below h11 (Nat.le_refl _)
      clear h11 HB HRx HRf HR6 HR7 HR8 HR10 HR11 HR12 HR14 HR16 HK HOa HOd HOk HOn HOp  
      have cx_23 : W11.cell? ⟨w.heap.size, 23, none⟩ = some (I nx) := cellr rx rfl
      have cx_24 : W11.cell? ⟨w.heap.size, 24, none⟩ = some (I nw) := cellr rx rfl
      have cx_25 : W11.cell? ⟨w.heap.size, 25, none⟩ = some (I stt) := cellr rx rfl
      have cx_26 : W11.cell? ⟨w.heap.size, 26, none⟩ = some (I re) := cellr rx rfl
      have cx_27 : W11.cell? ⟨w.heap.size, 27, none⟩ = some (S s) := cellr rx rfl
      have HB := hide hbB
      have HRx := hide rx
      have HRf := hide rf
      have HR6 := hide r6
      have HR7 := hide r7
      have HR8 := hide r8
      have HR10 := hide r10
      have HR11 := hide r11
      have HR12 := hide r12
      have HR14 := hide r14
      have HR16 := hide r16
      have HR18 := hide r18
      have HK := hide bk
      have HOa := hide oa
      have HOd := hide od
      have HOk := hide ok
      have HOn := hide on
      have HOp := hide op
      clear hbB rx rf r6 r7 r8 r10 r11 r12 r14 r16 r18 bk oa od ok on op
      have HLp : Hid (∀ q, (Value.slice a5 r3.length k5).ownBlock = some q → q < W11.heap.size) := hide (fun q e => (World.ownsRow.lt (unhide HOp) q e).2)
      have HX := hide (unhide HA6 W11 va vc (unhide HSC W11 (unhide HB)))
      go_wp2_with (first | (refine wp_run rfl (g_load (t := 24) (a := .tmp 137) rfl (by rfl) (s_ldr (T := 24) (n := 14) (o := 0) (fun _ => by kernel_rfl) (fun _ => by kernel_rfl) (unhide HRx) (#[I id, S cl, S su, .slice va sc.length vc, I cr, I us, I idl, I ab, I gr, I ge, I tk, I st, I en, I co]).toList rfl rfl)) ?_) | (refine wp_run rfl (g_load (t := 26) (a := .tmp 139) rfl (by rfl) (s_ldr (T := 26) (n := 9) (o := 14) (fun _ => by kernel_rfl) (fun _ => by kernel_rfl) (unhide HRx) (#[I ti, I fa, I tg, S ha, I mi, .bool sp, I at9, I ne, S se]).toList rfl rfl)) ?_))
      refine (unhide HX).mono ?_
      rintro e w12 ⟨a6, k6, rfl, oq, h12⟩
      have HOq := hide oq
      clear HX oq
      have hbB := (unhide HB).trans (h12.mono (unhide HB).size)
      have rx := (h12.block _ (lt_of_row (unhide HRx))).trans (unhide HRx)
      have rf := (h12.block _ (lt_of_row (unhide HRf))).trans (unhide HRf)
      have r6 := (h12.block _ (lt_of_row (unhide HR6))).trans (unhide HR6)
      have r7 := (h12.block _ (lt_of_row (unhide HR7))).trans (unhide HR7)
      have r8 := (h12.block _ (lt_of_row (unhide HR8))).trans (unhide HR8)
      have r10 := (h12.block _ (lt_of_row (unhide HR10))).trans (unhide HR10)
      have r11 := (h12.block _ (lt_of_row (unhide HR11))).trans (unhide HR11)
      have r12 := (h12.block _ (lt_of_row (unhide HR12))).trans (unhide HR12)
      have r14 := (h12.block _ (lt_of_row (unhide HR14))).trans (unhide HR14)
      have r16 := (h12.block _ (lt_of_row (unhide HR16))).trans (unhide HR16)
      have r18 := (h12.block _ (lt_of_row (unhide HR18))).trans (unhide HR18)
      have bk := (unhide HK).keep h12
      have oa := (unhide HOa).below h12 (Nat.le_refl _)
      have od := (unhide HOd).below h12 (Nat.le_refl _)
      have ok := (unhide HOk).below h12 (Nat.le_refl _)
      have on := (unhide HOn).below h12 (Nat.le_refl _)
      have op := (unhide HOp).below h12 (Nat.le_refl _)
      clear h12 HB HRx HRf HR6 HR7 HR8 HR10 HR11 HR12 HR14 HR16 HR18 HK HOa HOd HOk HOn HOp cx_23 cx_24 cx_25 cx_26 cx_27 
      have HB := hide hbB
      have HRx := hide rx
      have HRf := hide rf
      have HR6 := hide r6
      have HR7 := hide r7
      have HR8 := hide r8
      have HR10 := hide r10
      have HR11 := hide r11
      have HR12 := hide r12
      have HR14 := hide r14
      have HR16 := hide r16
      have HR18 := hide r18
      have HK := hide bk
      have HOa := hide oa
      have HOd := hide od
      have HOk := hide ok
      have HOn := hide on
      have HOp := hide op
      clear hbB rx rf r6 r7 r8 r10 r11 r12 r14 r16 r18 bk oa od ok on op
      go_upto_region 17 with fail
      generalize hW8 : w12.alloc (.cells #[.bool y0, S y1, S y2, .slice a6 r3.length k6, I y4, I y5, I y6, I y7] 40) = W13 at *
      obtain ⟨h13, r19⟩ := new_alc hW8
      clear hW8
      have hbB := (unhide HB).trans (h13.mono (unhide HB).size)
      have rx := (h13.block _ (lt_of_row (unhide HRx))).trans (unhide HRx)
      have rf := (h13.block _ (lt_of_row (unhide HRf))).trans (unhide HRf)
      have r6 := (h13.block _ (lt_of_row (unhide HR6))).trans (unhide HR6)
      have r7 := (h13.block _ (lt_of_row (unhide HR7))).trans (unhide HR7)
      have r8 := (h13.block _ (lt_of_row (unhide HR8))).trans (unhide HR8)
      have r10 := (h13.block _ (lt_of_row (unhide HR10))).trans (unhide HR10)
      have r11 := (h13.block _ (lt_of_row (unhide HR11))).trans (unhide HR11)
      have r12 := (h13.block _ (lt_of_row (unhide HR12))).trans (unhide HR12)
      have r14 := (h13.block _ (lt_of_row (unhide HR14))).trans (unhide HR14)
      have r16 := (h13.block _ (lt_of_row (unhide HR16))).trans (unhide HR16)
      have r18 := (h13.block _ (lt_of_row (unhide HR18))).trans (unhide HR18)
      have bk := (unhide HK).keep h13
      have oa := (unhide HOa).below h13 (Nat.le_refl _)
      have od := (unhide HOd).below h13 (Nat.le_refl _)
      have ok := (unhide HOk).below h13 (Nat.le_refl _)
      have on := (unhide HOn).below h13 (Nat.le_refl _)
      have op := (unhide HOp).below h13 (Nat.le_refl _)
      have oq := (unhide HOq).below h13 (Nat.le_refl _)
      clear h13 HB HRx HRf HR6 HR7 HR8 HR10 HR11 HR12 HR14 HR16 HR18 HK HOa HOd HOk HOn HOp HOq  
      have HB := hide hbB
      have HRx := hide rx
      have HRf := hide rf
      have HR6 := hide r6
      have HR7 := hide r7
      have HR8 := hide r8
      have HR10 := hide r10
      have HR11 := hide r11
      have HR12 := hide r12
      have HR14 := hide r14
      have HR16 := hide r16
      have HR18 := hide r18
      have HR19 := hide r19
      have HK := hide bk
      have HOa := hide oa
      have HOd := hide od
      have HOk := hide ok
      have HOn := hide on
      have HOp := hide op
      have HOq := hide oq
      clear hbB rx rf r6 r7 r8 r10 r11 r12 r14 r16 r18 r19 bk oa od ok on op oq
      have HX := hide (sameFamily_same q0 q1 q2 r1 q4 q5 q6 q7 q8 q9 q10 q11 q12 q13 a1 a2 k1 k2 W13 (unhide HOa).sts (unhide HOd).sts (by omega))
      go_wp2_with (first | (refine wp_run rfl (g_load (t := 24) (a := .tmp 6) rfl (by rfl) (s_ldr (T := 24) (n := 14) (o := 0) (fun _ => by kernel_rfl) (fun _ => by kernel_rfl) (unhide HR6) (#[I q0, S q1, S q2, .slice a1 r1.length k1, I q4, I q5, I q6, I q7, I q8, I q9, I q10, I q11, I q12, I q13]).toList rfl rfl)) ?_) | (refine wp_run rfl (g_load (t := 24) (a := .tmp 10) rfl (by rfl) (s_ldr (T := 24) (n := 14) (o := 0) (fun _ => by kernel_rfl) (fun _ => by kernel_rfl) (unhide HR10) (#[I q0, S q1, S q2, .slice a2 r1.length k2, I q4, I q5, I q6, I q7, I q8, I q9, I q10, I q11, I q12, I q13]).toList rfl rfl)) ?_))
      refine (unhide HX).mono ?_
      rintro e w14 ⟨rfl, h14⟩
      clear HX HOd
      have hbB := (unhide HB).trans (h14.mono (unhide HB).size)
      clear HR10
      have rx := (h14.block _ (lt_of_row (unhide HRx))).trans (unhide HRx)
      have rf := (h14.block _ (lt_of_row (unhide HRf))).trans (unhide HRf)
      have r6 := (h14.block _ (lt_of_row (unhide HR6))).trans (unhide HR6)
      have r7 := (h14.block _ (lt_of_row (unhide HR7))).trans (unhide HR7)
      have r8 := (h14.block _ (lt_of_row (unhide HR8))).trans (unhide HR8)
      have r11 := (h14.block _ (lt_of_row (unhide HR11))).trans (unhide HR11)
      have r12 := (h14.block _ (lt_of_row (unhide HR12))).trans (unhide HR12)
      have r14 := (h14.block _ (lt_of_row (unhide HR14))).trans (unhide HR14)
      have r16 := (h14.block _ (lt_of_row (unhide HR16))).trans (unhide HR16)
      have r18 := (h14.block _ (lt_of_row (unhide HR18))).trans (unhide HR18)
      have r19 := (h14.block _ (lt_of_row (unhide HR19))).trans (unhide HR19)
      have bk := (unhide HK).keep h14
      have oa := (unhide HOa).below h14 (Nat.le_refl _)
      have ok := (unhide HOk).below h14 (Nat.le_refl _)
      have on := (unhide HOn).below h14 (Nat.le_refl _)
      have op := (unhide HOp).below h14 (Nat.le_refl _)
      have oq := (unhide HOq).below h14 (Nat.le_refl _)
      clear h14 HB HRx HRf HR6 HR7 HR8 HR11 HR12 HR14 HR16 HR18 HR19 HK HOa HOk HOn HOp HOq  
      have HB := hide hbB
      have HRx := hide rx
      have HRf := hide rf
      have HR6 := hide r6
      have HR7 := hide r7
      have HR8 := hide r8
      have HR11 := hide r11
      have HR12 := hide r12
      have HR14 := hide r14
      have HR16 := hide r16
      have HR18 := hide r18
      have HR19 := hide r19
      have HK := hide bk
      have HOa := hide oa
      have HOk := hide ok
      have HOn := hide on
      have HOp := hide op
      have HOq := hide oq
      clear hbB rx rf r6 r7 r8 r11 r12 r14 r16 r18 r19 bk oa ok on op oq
      have HX := hide (sameFamily_same m0 m1 m2 r2 m4 m5 m6 m7 m8 m9 m10 m11 m12 m13 a3 a4 k3 k4 w14 (unhide HOk).sts (unhide HOn).sts (by omega))
      go_wp2_with (first | (refine wp_run rfl (g_load (t := 24) (a := .tmp 14) rfl (by rfl) (s_ldr (T := 24) (n := 14) (o := 0) (fun _ => by kernel_rfl) (fun _ => by kernel_rfl) (unhide HR14) (#[I m0, S m1, S m2, .slice a3 r2.length k3, I m4, I m5, I m6, I m7, I m8, I m9, I m10, I m11, I m12, I m13]).toList rfl rfl)) ?_) | (refine wp_run rfl (g_load (t := 24) (a := .tmp 16) rfl (by rfl) (s_ldr (T := 24) (n := 14) (o := 0) (fun _ => by kernel_rfl) (fun _ => by kernel_rfl) (unhide HR16) (#[I m0, S m1, S m2, .slice a4 r2.length k4, I m4, I m5, I m6, I m7, I m8, I m9, I m10, I m11, I m12, I m13]).toList rfl rfl)) ?_))
      refine (unhide HX).mono ?_
      rintro e w15 ⟨rfl, h15⟩
      clear HX
      have hbB := (unhide HB).trans (h15.mono (unhide HB).size)
      have rx := (h15.block _ (lt_of_row (unhide HRx))).trans (unhide HRx)
      have rf := (h15.block _ (lt_of_row (unhide HRf))).trans (unhide HRf)
      have r6 := (h15.block _ (lt_of_row (unhide HR6))).trans (unhide HR6)
      have r7 := (h15.block _ (lt_of_row (unhide HR7))).trans (unhide HR7)
      have r8 := (h15.block _ (lt_of_row (unhide HR8))).trans (unhide HR8)
      have r11 := (h15.block _ (lt_of_row (unhide HR11))).trans (unhide HR11)
      have r12 := (h15.block _ (lt_of_row (unhide HR12))).trans (unhide HR12)
      have r14 := (h15.block _ (lt_of_row (unhide HR14))).trans (unhide HR14)
      have r16 := (h15.block _ (lt_of_row (unhide HR16))).trans (unhide HR16)
      have r18 := (h15.block _ (lt_of_row (unhide HR18))).trans (unhide HR18)
      have r19 := (h15.block _ (lt_of_row (unhide HR19))).trans (unhide HR19)
      have bk := (unhide HK).keep h15
      have oa := (unhide HOa).below h15 (Nat.le_refl _)
      have ok := (unhide HOk).below h15 (Nat.le_refl _)
      have on := (unhide HOn).below h15 (Nat.le_refl _)
      have op := (unhide HOp).below h15 (Nat.le_refl _)
      have oq := (unhide HOq).below h15 (Nat.le_refl _)
      clear h15 HB HRx HRf HR6 HR7 HR8 HR11 HR12 HR14 HR16 HR18 HR19 HK HOa HOk HOn HOp HOq  
      have HB := hide hbB
      have HRx := hide rx
      have HRf := hide rf
      have HR6 := hide r6
      have HR7 := hide r7
      have HR8 := hide r8
      have HR11 := hide r11
      have HR12 := hide r12
      have HR14 := hide r14
      have HR16 := hide r16
      have HR18 := hide r18
      have HR19 := hide r19
      have HK := hide bk
      have HOa := hide oa
      have HOk := hide ok
      have HOn := hide on
      have HOp := hide op
      have HOq := hide oq
      clear hbB rx rf r6 r7 r8 r11 r12 r14 r16 r18 r19 bk oa ok on op oq
      have HX := hide (told_same y0 y1 y2 r3 y4 y5 y6 y7 a5 a6 k5 k6 w15 (unhide HOp).sts (unhide HOq).sts (by omega))
      go_wp2_with (first | (refine wp_run rfl (g_load (t := 40) (a := .tmp 18) rfl (by rfl) (s_ldr (T := 40) (n := 8) (o := 0) (fun _ => by kernel_rfl) (fun _ => by kernel_rfl) (unhide HR18) (#[.bool y0, S y1, S y2, .slice a5 r3.length k5, I y4, I y5, I y6, I y7]).toList rfl rfl)) ?_) | (refine wp_run rfl (g_load (t := 40) (a := .tmp 19) rfl (by rfl) (s_ldr (T := 40) (n := 8) (o := 0) (fun _ => by kernel_rfl) (fun _ => by kernel_rfl) (unhide HR19) (#[.bool y0, S y1, S y2, .slice a6 r3.length k6, I y4, I y5, I y6, I y7]).toList rfl rfl)) ?_))
      refine (unhide HX).mono ?_
      rintro e w16 ⟨rfl, h16⟩
      clear HX
      have hbB := (unhide HB).trans (h16.mono (unhide HB).size)
      have rx := (h16.block _ (lt_of_row (unhide HRx))).trans (unhide HRx)
      have rf := (h16.block _ (lt_of_row (unhide HRf))).trans (unhide HRf)
      have r6 := (h16.block _ (lt_of_row (unhide HR6))).trans (unhide HR6)
      have r7 := (h16.block _ (lt_of_row (unhide HR7))).trans (unhide HR7)
      have r8 := (h16.block _ (lt_of_row (unhide HR8))).trans (unhide HR8)
      have r11 := (h16.block _ (lt_of_row (unhide HR11))).trans (unhide HR11)
      have r12 := (h16.block _ (lt_of_row (unhide HR12))).trans (unhide HR12)
      have r14 := (h16.block _ (lt_of_row (unhide HR14))).trans (unhide HR14)
      have r16 := (h16.block _ (lt_of_row (unhide HR16))).trans (unhide HR16)
      have r18 := (h16.block _ (lt_of_row (unhide HR18))).trans (unhide HR18)
      have r19 := (h16.block _ (lt_of_row (unhide HR19))).trans (unhide HR19)
      have bk := (unhide HK).keep h16
      have oa := (unhide HOa).below h16 (Nat.le_refl _)
      have ok := (unhide HOk).below h16 (Nat.le_refl _)
      have on := (unhide HOn).below h16 (Nat.le_refl _)
      have op := (unhide HOp).below h16 (Nat.le_refl _)
      have oq := (unhide HOq).below h16 (Nat.le_refl _)
      clear h16 HB HRx HRf HR6 HR7 HR8 HR11 HR12 HR14 HR16 HR18 HR19 HK HOa HOk HOn HOp HOq  
      have c6_3 : w16.cell? ⟨w2.heap.size, 3, none⟩ = some (.slice a1 r1.length k1) := cellr r6 rfl
      have c7_0 : w16.cell? ⟨w2.heap.size + 1, 0, none⟩ = some (I p0) := cellr r7 rfl
      have c7_1 : w16.cell? ⟨w2.heap.size + 1, 1, none⟩ = some (I p1) := cellr r7 rfl
      have c7_2 : w16.cell? ⟨w2.heap.size + 1, 2, none⟩ = some (I p2) := cellr r7 rfl
      have c7_3 : w16.cell? ⟨w2.heap.size + 1, 3, none⟩ = some (S p3) := cellr r7 rfl
      have c7_4 : w16.cell? ⟨w2.heap.size + 1, 4, none⟩ = some (I p4) := cellr r7 rfl
      have c7_5 : w16.cell? ⟨w2.heap.size + 1, 5, none⟩ = some (.bool p5) := cellr r7 rfl
      have c7_6 : w16.cell? ⟨w2.heap.size + 1, 6, none⟩ = some (I p6) := cellr r7 rfl
      have c7_7 : w16.cell? ⟨w2.heap.size + 1, 7, none⟩ = some (I p7) := cellr r7 rfl
      have c7_8 : w16.cell? ⟨w2.heap.size + 1, 8, none⟩ = some (S p8) := cellr r7 rfl
      have c8_0 : w16.cell? ⟨w2.heap.size + 2, 0, none⟩ = some (I s0) := cellr r8 rfl
      have c8_1 : w16.cell? ⟨w2.heap.size + 2, 1, none⟩ = some (I s1) := cellr r8 rfl
      have c8_2 : w16.cell? ⟨w2.heap.size + 2, 2, none⟩ = some (I s2) := cellr r8 rfl
      have c8_3 : w16.cell? ⟨w2.heap.size + 2, 3, none⟩ = some (S s3) := cellr r8 rfl
      have c8_4 : w16.cell? ⟨w2.heap.size + 2, 4, none⟩ = some (I s4) := cellr r8 rfl
      have c8_5 : w16.cell? ⟨w2.heap.size + 2, 5, none⟩ = some (.bool s5) := cellr r8 rfl
      have c8_6 : w16.cell? ⟨w2.heap.size + 2, 6, none⟩ = some (I s6) := cellr r8 rfl
      have c8_7 : w16.cell? ⟨w2.heap.size + 2, 7, none⟩ = some (I s7) := cellr r8 rfl
      have c8_8 : w16.cell? ⟨w2.heap.size + 2, 8, none⟩ = some (S s8) := cellr r8 rfl
      have c11_0 : w16.cell? ⟨w4.heap.size + 1, 0, none⟩ = some (I p0) := cellr r11 rfl
      have c11_1 : w16.cell? ⟨w4.heap.size + 1, 1, none⟩ = some (I p1) := cellr r11 rfl
      have c11_2 : w16.cell? ⟨w4.heap.size + 1, 2, none⟩ = some (I p2) := cellr r11 rfl
      have c11_3 : w16.cell? ⟨w4.heap.size + 1, 3, none⟩ = some (S p3) := cellr r11 rfl
      have c11_4 : w16.cell? ⟨w4.heap.size + 1, 4, none⟩ = some (I p4) := cellr r11 rfl
      have c11_5 : w16.cell? ⟨w4.heap.size + 1, 5, none⟩ = some (.bool p5) := cellr r11 rfl
      have c11_6 : w16.cell? ⟨w4.heap.size + 1, 6, none⟩ = some (I p6) := cellr r11 rfl
      have c11_7 : w16.cell? ⟨w4.heap.size + 1, 7, none⟩ = some (I p7) := cellr r11 rfl
      have c11_8 : w16.cell? ⟨w4.heap.size + 1, 8, none⟩ = some (S p8) := cellr r11 rfl
      have c12_0 : w16.cell? ⟨w4.heap.size + 2, 0, none⟩ = some (I s0) := cellr r12 rfl
      have c12_1 : w16.cell? ⟨w4.heap.size + 2, 1, none⟩ = some (I s1) := cellr r12 rfl
      have c12_2 : w16.cell? ⟨w4.heap.size + 2, 2, none⟩ = some (I s2) := cellr r12 rfl
      have c12_3 : w16.cell? ⟨w4.heap.size + 2, 3, none⟩ = some (S s3) := cellr r12 rfl
      have c12_4 : w16.cell? ⟨w4.heap.size + 2, 4, none⟩ = some (I s4) := cellr r12 rfl
      have c12_5 : w16.cell? ⟨w4.heap.size + 2, 5, none⟩ = some (.bool s5) := cellr r12 rfl
      have c12_6 : w16.cell? ⟨w4.heap.size + 2, 6, none⟩ = some (I s6) := cellr r12 rfl
      have c12_7 : w16.cell? ⟨w4.heap.size + 2, 7, none⟩ = some (I s7) := cellr r12 rfl
      have c12_8 : w16.cell? ⟨w4.heap.size + 2, 8, none⟩ = some (S s8) := cellr r12 rfl
      have HB := hide hbB
      have HRx := hide rx
      have HRf := hide rf
      have HR6 := hide r6
      have HR7 := hide r7
      have HR8 := hide r8
      have HR11 := hide r11
      have HR12 := hide r12
      have HR14 := hide r14
      have HR16 := hide r16
      have HR18 := hide r18
      have HR19 := hide r19
      have HK := hide bk
      have HOa := hide oa
      have HOk := hide ok
      have HOn := hide on
      have HOp := hide op
      have HOq := hide oq
      clear hbB rx rf r6 r7 r8 r11 r12 r14 r16 r18 r19 bk oa ok on op oq
      have f1 := ne26s p0 p1 p2 p3 p4 p5 p6 p7 p8
      have f2 := ne26s s0 s1 s2 s3 s4 s5 s6 s7 s8
      have HX := hide (over_any a1 k1 r1 w16 (row_own (unhide HOa)) hr1)
      go_wp2_with fail
      refine (unhide HX).mono ?_
      rintro e w17 ⟨rfl, ho⟩
      have own9 := unhide HOa
      have hbw := unhide HB
      have hzw := unhide HZw
      have hz0b := unhide HZ0
      clear HR6
      clear HR7
      clear HR8
      clear HR11
      clear HR12
      have rx := only_row ho (unhide HRx) (own_ne2 own9 (unhide HRx) (by decide))
      have rf := only_row ho (unhide HRf) (own_ne2 own9 (unhide HRf) (by decide))
      have r14 := only_row ho (unhide HR14) (own_ne2 own9 (unhide HR14) (by decide))
      have r16 := only_row ho (unhide HR16) (own_ne2 own9 (unhide HR16) (by decide))
      have r18 := only_row ho (unhide HR18) (own_ne2 own9 (unhide HR18) (by decide))
      have r19 := only_row ho (unhide HR19) (own_ne2 own9 (unhide HR19) (by decide))
      have bk : Blk lb (sc ++ [spare, spare]) w17 := only_row ho (show w16.heap[lb]? = some (.cells (cellsS (sc ++ [spare, spare])) 9 (0, 0)) from unhide HK) (own_ne own9 (by omega))
      have ok := own_keep (unhide HOk) ho (fun q e => by have h1 := unhide HLa q e; have := unhide HY57; have := unhide HY79; have := unhide HY911; omega)
      have on := own_keep (unhide HOn) ho (fun q e => by have h1 := unhide HLa q e; have := unhide HY57; have := unhide HY79; have := unhide HY911; omega)
      have op := own_keep (unhide HOp) ho (fun q e => by have h1 := unhide HLa q e; have := unhide HY57; have := unhide HY79; have := unhide HY911; omega)
      have oq := own_keep (unhide HOq) ho (fun q e => by have h1 := unhide HLa q e; have := unhide HY57; have := unhide HY79; have := unhide HY911; omega)
      have hb := ho.below hbw hbw.size (fun q e => by have := (World.ownsRow.lt own9 q e).1; omega)
      clear HX ho own9 hbw hzw hz0b HB HK HOa HRx HRf HR14 HR16 HR18 HR19 HOk HOn HOp HOq c6_3 c7_0 c7_1 c7_2 c7_3 c7_4 c7_5 c7_6 c7_7 c7_8 c8_0 c8_1 c8_2 c8_3 c8_4 c8_5 c8_6 c8_7 c8_8 c11_0 c11_1 c11_2 c11_3 c11_4 c11_5 c11_6 c11_7 c11_8 c12_0 c12_1 c12_2 c12_3 c12_4 c12_5 c12_6 c12_7 c12_8
      have c14_3 : w17.cell? ⟨w6.heap.size, 3, none⟩ = some (.slice a3 r2.length k3) := cellr r14 rfl
      have c16_3 : w17.cell? ⟨w8.heap.size, 3, none⟩ = some (.slice a4 r2.length k4) := cellr r16 rfl
      have HB := hide hb
      have HRx := hide rx
      have HRf := hide rf
      have HR14 := hide r14
      have HR16 := hide r16
      have HR18 := hide r18
      have HR19 := hide r19
      have HK := hide bk
      have HOk := hide ok
      have HOn := hide on
      have HOp := hide op
      have HOq := hide oq
      clear hb rx rf r14 r16 r18 r19 bk ok on op oq
      clear f1 f2 HLa
      have HX := hide (same_any a3 a4 r2.length r2.length k3 k4 r2 r2 w17 (unhide HOk).sts (unhide HOn).sts (by omega) (by omega))
      rw [show decide (r2 = r2) = true from decide_eq_true rfl] at HX
      go_wp2_with fail
      refine (unhide HX).mono ?_
      rintro e w18 ⟨rfl, h18⟩
      clear HX HOn
      have hbB := (unhide HB).trans (h18.mono (unhide HB).size)
      clear HR16
      have rx := (h18.block _ (lt_of_row (unhide HRx))).trans (unhide HRx)
      have rf := (h18.block _ (lt_of_row (unhide HRf))).trans (unhide HRf)
      have r14 := (h18.block _ (lt_of_row (unhide HR14))).trans (unhide HR14)
      have r18 := (h18.block _ (lt_of_row (unhide HR18))).trans (unhide HR18)
      have r19 := (h18.block _ (lt_of_row (unhide HR19))).trans (unhide HR19)
      have bk := (unhide HK).keep h18
      have ok := (unhide HOk).below h18 (Nat.le_refl _)
      have op := (unhide HOp).below h18 (Nat.le_refl _)
      have oq := (unhide HOq).below h18 (Nat.le_refl _)
      clear h18 HB HRx HRf HR14 HR18 HR19 HK HOk HOp HOq c14_3 c16_3 
      have c14_3 : w18.cell? ⟨w6.heap.size, 3, none⟩ = some (.slice a3 r2.length k3) := cellr r14 rfl
      have HB := hide hbB
      have HRx := hide rx
      have HRf := hide rf
      have HR14 := hide r14
      have HR18 := hide r18
      have HR19 := hide r19
      have HK := hide bk
      have HOk := hide ok
      have HOp := hide op
      have HOq := hide oq
      clear hbB rx rf r14 r18 r19 bk ok op oq
      have HX := hide (over_any a3 k3 r2 w18 (row_own (unhide HOk)) hr2)
      go_wp2_with fail
      refine (unhide HX).mono ?_
      rintro e w19 ⟨rfl, ho⟩
      have own9 := unhide HOk
      have hbw := unhide HB
      have hzw := unhide HZw
      have hz0b := unhide HZ0
      clear HR14
      have rx := only_row ho (unhide HRx) (own_ne2 own9 (unhide HRx) (by decide))
      have rf := only_row ho (unhide HRf) (own_ne2 own9 (unhide HRf) (by decide))
      have r18 := only_row ho (unhide HR18) (own_ne2 own9 (unhide HR18) (by decide))
      have r19 := only_row ho (unhide HR19) (own_ne2 own9 (unhide HR19) (by decide))
      have bk : Blk lb (sc ++ [spare, spare]) w19 := only_row ho (show w18.heap[lb]? = some (.cells (cellsS (sc ++ [spare, spare])) 9 (0, 0)) from unhide HK) (own_ne own9 (by have := unhide HWA; omega))
      have op := own_keep (unhide HOp) ho (fun q e => by have h1 := unhide HLk q e; have := unhide HY57; have := unhide HY79; have := unhide HY911; omega)
      have oq := own_keep (unhide HOq) ho (fun q e => by have h1 := unhide HLk q e; have := unhide HY57; have := unhide HY79; have := unhide HY911; omega)
      have hb := ho.below hbw hbw.size (fun q e => by have := (World.ownsRow.lt own9 q e).1; have := unhide HWA; omega)
      clear HX ho own9 hbw hzw hz0b HB HK HOk HRx HRf HR18 HR19 HOp HOq c14_3
      have c18_3 : w19.cell? ⟨w10.heap.size, 3, none⟩ = some (.slice a5 r3.length k5) := cellr r18 rfl
      have c19_3 : w19.cell? ⟨w12.heap.size, 3, none⟩ = some (.slice a6 r3.length k6) := cellr r19 rfl
      have HB := hide hb
      have HRx := hide rx
      have HRf := hide rf
      have HR18 := hide r18
      have HR19 := hide r19
      have HK := hide bk
      have HOp := hide op
      have HOq := hide oq
      clear hb rx rf r18 r19 bk op oq
      clear HLk
      have HX := hide (same_any a5 a6 r3.length r3.length k5 k6 r3 r3 w19 (unhide HOp).sts (unhide HOq).sts (by omega) (by omega))
      rw [show decide (r3 = r3) = true from decide_eq_true rfl] at HX
      go_wp2_with fail
      refine (unhide HX).mono ?_
      rintro e w20 ⟨rfl, h20⟩
      clear HX HOq
      have hbB := (unhide HB).trans (h20.mono (unhide HB).size)
      clear HR19
      have rx := (h20.block _ (lt_of_row (unhide HRx))).trans (unhide HRx)
      have rf := (h20.block _ (lt_of_row (unhide HRf))).trans (unhide HRf)
      have r18 := (h20.block _ (lt_of_row (unhide HR18))).trans (unhide HR18)
      have bk := (unhide HK).keep h20
      have op := (unhide HOp).below h20 (Nat.le_refl _)
      clear h20 HB HRx HRf HR18 HK HOp c18_3 c19_3 
      have c18_3 : w20.cell? ⟨w10.heap.size, 3, none⟩ = some (.slice a5 r3.length k5) := cellr r18 rfl
      have HB := hide hbB
      have HRx := hide rx
      have HRf := hide rf
      have HR18 := hide r18
      have HK := hide bk
      have HOp := hide op
      clear hbB rx rf r18 bk op
      have HX := hide (over_any a5 k5 r3 w20 (row_own (unhide HOp)) hr3)
      go_wp2_with fail
      refine (unhide HX).mono ?_
      rintro e w21 ⟨rfl, ho⟩
      have own9 := unhide HOp
      have hbw := unhide HB
      have hzw := unhide HZw
      have hz0b := unhide HZ0
      clear HR18
      have rx := only_row ho (unhide HRx) (own_ne2 own9 (unhide HRx) (by decide))
      have rf := only_row ho (unhide HRf) (own_ne2 own9 (unhide HRf) (by decide))
      have bk : Blk lb (sc ++ [spare, spare]) w21 := only_row ho (show w20.heap[lb]? = some (.cells (cellsS (sc ++ [spare, spare])) 9 (0, 0)) from unhide HK) (own_ne own9 (by have := unhide HWA; have := unhide HY57; have := unhide HY79; omega))
      have hb := ho.below hbw hbw.size (fun q e => by have := (World.ownsRow.lt own9 q e).1; have := unhide HWA; have := unhide HY57; have := unhide HY79; omega)
      clear HX ho own9 hbw hzw hz0b HB HK HOp HRx HRf  c18_3
      have cx_3 : w21.cell? ⟨w.heap.size, 3, none⟩ = some (.slice va sc.length vc) := cellr rx rfl
      have cf_3 : w21.cell? ⟨w1.heap.size, 3, none⟩ = some (.slice (some ⟨lb, 0, none⟩) sc.length (sc.length + 2)) := cellr rf rfl
      have HB := hide hb
      have HRx := hide rx
      have HRf := hide rf
      have HK := hide bk
      clear hb rx rf bk 
      have HX := hide (unhide HW1 w21 (unhide HB) lb (unhide HK))
      go_wp2_with fail
      refine (unhide HX).mono ?_
      rintro e w22 ⟨rfl, h22⟩
      clear HX
      have hbB := (unhide HB).trans (h22.mono (unhide HB).size)
      have rx := (h22.block _ (lt_of_row (unhide HRx))).trans (unhide HRx)
      have rf := (h22.block _ (lt_of_row (unhide HRf))).trans (unhide HRf)
      have bk := (unhide HK).keep h22
      clear h22 HB HRx HRf HK  cx_3 cf_3 
      have HB := hide hbB
      have HRx := hide rx
      have HRf := hide rf
      have HK := hide bk
      clear hbB rx rf bk 
      go_wp2
      refine ⟨⟨k + 1, by omega, by go_num, unhide HB, unhide HRx, unhide HRf, unhide HK⟩, ?_⟩
      simp [Go.RowKit.intOf]
      omega
    · have hk2 : k = 2 := by omega
      subst hk2
      have HB := hide hb
      clear hb rx rf bk
      have hd : ¬ ((2 : Nat) : Int) < 2 := by omega
      go_wp2
      go_ret
      exact ⟨rfl, unhide HB⟩
end Go.Proofs.YtmjaobddgaglhaaGreatDoor
