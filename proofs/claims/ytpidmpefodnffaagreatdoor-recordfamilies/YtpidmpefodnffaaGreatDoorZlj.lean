import Derived.Test.YtpidmpefodnffaaGreatDoorZrdi
import Derived.Test.YtpidmpefodnffaaGreatDoorRgze
import Derived.Test.YtpidmpefodnffaaGreatDoorZidx
import Derived.Test.YtpidmpefodnffaaGreatDoorZsmc
import Derived.Deep.Cut
import Derived.Deep.CutRange
namespace Go.Proofs.YtpidmpefodnffaaGreatDoor
open Go.RowKit Go.Lib
set_option maxHeartbeats 8000000
set_option maxRecDepth 20000
theorem cell_part4 {W : World} {g o n : Nat} {CS : Array Value} {t : TypeId} {f : Nat × Nat} {vs : List Value} (hr : W.heap[g]? = some (.cells CS t f)) (h : (CS.toList.drop o).take n = vs) (hn : vs.length = n) {j : Nat} {v : Value} (hj : vs[j]? = some v) : W.cell? ⟨g, o + j, none⟩ = some v := by
  have hl : j < n := by rw [← hn]; exact (List.getElem?_eq_some_iff.1 hj).1
  rw [cell_of_row W g (o + j) CS t f hr, ← hj, ← h, List.getElem?_take_of_lt hl, List.getElem?_drop, Array.getElem?_toList]
theorem s_ix41 {w : World} (g k : Nat) (hk : k < 3) : (Instr.indexAt 41 (.slice (some ⟨g, 0, none⟩) 3 3) (I (k : Int))).run Tryz.prog w = .ok (.pointer (some ⟨g, k * 14, none⟩)) w := by
  have h1 : (k : Int) < 3 := by omega
  have u := Tryz.underlying41
  have z := Tryz.sizeOf40
  simp [go_sem, u, z, h1]
theorem row14 {W : World} {g : Nat} {v0 v1 v2 v3 v4 v5 v6 v7 v8 v9 v10 v11 v12 v13 : Value} {t : TypeId} {f : Nat × Nat} (h : W.heap[g]? = some (.cells #[v0, v1, v2, v3, v4, v5, v6, v7, v8, v9, v10, v11, v12, v13] t f)) : W.cell? ⟨g, 0, none⟩ = some v0 ∧ W.cell? ⟨g, 1, none⟩ = some v1 ∧ W.cell? ⟨g, 2, none⟩ = some v2 ∧ W.cell? ⟨g, 3, none⟩ = some v3 ∧ W.cell? ⟨g, 4, none⟩ = some v4 ∧ W.cell? ⟨g, 5, none⟩ = some v5 ∧ W.cell? ⟨g, 6, none⟩ = some v6 ∧ W.cell? ⟨g, 7, none⟩ = some v7 ∧ W.cell? ⟨g, 8, none⟩ = some v8 ∧ W.cell? ⟨g, 9, none⟩ = some v9 ∧ W.cell? ⟨g, 10, none⟩ = some v10 ∧ W.cell? ⟨g, 11, none⟩ = some v11 ∧ W.cell? ⟨g, 12, none⟩ = some v12 ∧ W.cell? ⟨g, 13, none⟩ = some v13 :=
  ⟨cellr h rfl, cellr h rfl, cellr h rfl, cellr h rfl, cellr h rfl, cellr h rfl, cellr h rfl, cellr h rfl, cellr h rfl, cellr h rfl, cellr h rfl, cellr h rfl, cellr h rfl, cellr h rfl⟩
theorem part14 {W : World} {g o : Nat} {CS : Array Value} {v0 v1 v2 v3 v4 v5 v6 v7 v8 v9 v10 v11 v12 v13 : Value} {t : TypeId} {f : Nat × Nat} (hr : W.heap[g]? = some (.cells CS t f)) (h : (CS.toList.drop o).take 14 = [v0, v1, v2, v3, v4, v5, v6, v7, v8, v9, v10, v11, v12, v13]) : W.cell? ⟨g, o, none⟩ = some v0 ∧ W.cell? ⟨g, o + 1, none⟩ = some v1 ∧ W.cell? ⟨g, o + 2, none⟩ = some v2 ∧ W.cell? ⟨g, o + 3, none⟩ = some v3 ∧ W.cell? ⟨g, o + 4, none⟩ = some v4 ∧ W.cell? ⟨g, o + 5, none⟩ = some v5 ∧ W.cell? ⟨g, o + 6, none⟩ = some v6 ∧ W.cell? ⟨g, o + 7, none⟩ = some v7 ∧ W.cell? ⟨g, o + 8, none⟩ = some v8 ∧ W.cell? ⟨g, o + 9, none⟩ = some v9 ∧ W.cell? ⟨g, o + 10, none⟩ = some v10 ∧ W.cell? ⟨g, o + 11, none⟩ = some v11 ∧ W.cell? ⟨g, o + 12, none⟩ = some v12 ∧ W.cell? ⟨g, o + 13, none⟩ = some v13 :=
  ⟨cell_part4 hr h rfl (j := 0) rfl, cell_part4 hr h rfl (j := 1) rfl, cell_part4 hr h rfl (j := 2) rfl, cell_part4 hr h rfl (j := 3) rfl, cell_part4 hr h rfl (j := 4) rfl, cell_part4 hr h rfl (j := 5) rfl, cell_part4 hr h rfl (j := 6) rfl, cell_part4 hr h rfl (j := 7) rfl, cell_part4 hr h rfl (j := 8) rfl, cell_part4 hr h rfl (j := 9) rfl, cell_part4 hr h rfl (j := 10) rfl, cell_part4 hr h rfl (j := 11) rfl, cell_part4 hr h rfl (j := 12) rfl, cell_part4 hr h rfl (j := 13) rfl⟩
theorem s_ix43 {w : World} (g k : Nat) (hk : k < 2) : (Instr.indexAt 43 (.slice (some ⟨g, 0, none⟩) 2 2) (I (k : Int))).run Tryz.prog w = .ok (.pointer (some ⟨g, k * 2, none⟩)) w := by
  have h1 : (k : Int) < 2 := by omega
  have u := Tryz.underlying43
  have z := Tryz.sizeOf30
  simp [go_sem, u, z, h1]
theorem s_ne30 (k v : Bs) (x y : Operand) {w : World} : (do eqGuard .neq 30 x y (.agg #[S k, S v]) (.agg #[S k, S v]); binOp .neq 30 (.agg #[S k, S v]) (.agg #[S k, S v]) : Sem Value).run Tryz.prog w = .ok (.bool false) w :=
  s_bin (by simp [eqGuard, go_sem]) (ne30s k v w)
theorem recordFamilies_any (id91 : Int) (cl1 : Bs) (su1 : Bs) (va1 : Option Addr) (vc1 : Nat) (sc1 : List Bs) (cr1 : Int) (us1 : Int) (idl1 : Int) (ab1 : Int) (gr1 : Int) (ge1 : Int) (tk91 : Int) (st1 : Int) (en1 : Int) (co1 : Int) (id92 : Int) (cl2 : Bs) (su2 : Bs) (va2 : Option Addr) (vc2 : Nat) (sc2 : List Bs) (cr2 : Int) (us2 : Int) (idl2 : Int) (ab2 : Int) (gr2 : Int) (ge2 : Int) (tk92 : Int) (st2 : Int) (en2 : Int) (co2 : Int) (w : World) (hcl1 : cl1.length ≤ 9223372036854775807) (hsu1 : su1.length ≤ 9223372036854775807) (hsc1 : Sts w va1 sc1.length sc1) (hsl1 : sc1.length ≤ 8796093022100) (hln1 : Lns sc1) (hno1 : va1 = none → vc1 = 0) (hcl2 : cl2.length ≤ 9223372036854775807) (hsu2 : su2.length ≤ 9223372036854775807) (hsc2 : Sts w va2 sc2.length sc2) (hsl2 : sc2.length ≤ 8796093022100) (hln2 : Lns sc2) (hno2 : va2 = none → vc2 = 0) : Calls Tryz.prog 4 #[.agg #[I id91, S cl1, S su1, .slice va1 sc1.length vc1, I cr1, I us1, I idl1, I ab1, I gr1, I ge1, I tk91, I st1, I en1, I co1], .agg #[I id92, S cl2, S su2, .slice va2 sc2.length vc2, I cr2, I us2, I idl2, I ab2, I gr2, I ge2, I tk92, I st2, I en2, I co2]] w fun e w' => e = .returned (.bool true) ∧ Below w.heap.size w w' := by
  have HB0 := hide (show Below w.heap.size w ((w.alloc (.cells #[I id91, S cl1, S su1, .slice va1 sc1.length vc1, I cr1, I us1, I idl1, I ab1, I gr1, I ge1, I tk91, I st1, I en1, I co1] 40)).alloc (.cells #[I id92, S cl2, S su2, .slice va2 sc2.length vc2, I cr2, I us2, I idl2, I ab2, I gr2, I ge2, I tk92, I st2, I en2, I co2] 40)) from ((Below.refl _ w).alloc (Nat.le_refl _) _).alloc (by simp) _)
  have HK0 := hide (((show Kpr [] w from fun y9 hy9 => by cases hy9).add #[I id91, S cl1, S su1, .slice va1 sc1.length vc1, I cr1, I us1, I idl1, I ab1, I gr1, I ge1, I tk91, I st1, I en1, I co1] 40).add #[I id92, S cl2, S su2, .slice va2 sc2.length vc2, I cr2, I us2, I idl2, I ab2, I gr2, I ge2, I tk92, I st2, I en2, I co2] 40)
  rw [show (w.alloc (.cells #[I id91, S cl1, S su1, .slice va1 sc1.length vc1, I cr1, I us1, I idl1, I ab1, I gr1, I ge1, I tk91, I st1, I en1, I co1] 40)).heap.size = w.heap.size + 1 by simp] at HK0
  have HA := hide (awake_any ((w.alloc (.cells #[I id91, S cl1, S su1, .slice va1 sc1.length vc1, I cr1, I us1, I idl1, I ab1, I gr1, I ge1, I tk91, I st1, I en1, I co1] 40)).alloc (.cells #[I id92, S cl2, S su2, .slice va2 sc2.length vc2, I cr2, I us2, I idl2, I ab2, I gr2, I ge2, I tk92, I st2, I en2, I co2] 40)))
  generalize hW0 : ((w.alloc (.cells #[I id91, S cl1, S su1, .slice va1 sc1.length vc1, I cr1, I us1, I idl1, I ab1, I gr1, I ge1, I tk91, I st1, I en1, I co1] 40)).alloc (.cells #[I id92, S cl2, S su2, .slice va2 sc2.length vc2, I cr2, I us2, I idl2, I ab2, I gr2, I ge2, I tk92, I st2, I en2, I co2] 40)) = W0 at *
  obtain ⟨CS, hCS⟩ : ∃ CS : Array Value, CS = #[I id91, S cl1, S su1, .slice va1 sc1.length vc1, I cr1, I us1, I idl1, I ab1, I gr1, I ge1, I tk91, I st1, I en1, I co1, I id92, S cl2, S su2, .slice va2 sc2.length vc2, I cr2, I us2, I idl2, I ab2, I gr2, I ge2, I tk92, I st2, I en2, I co2, I id91, S cl1, S su1, .slice va1 sc1.length vc1, I cr1, I us1, I idl1, I ab1, I gr1, I ge1, I tk91, I st1, I en1, I co1] := ⟨_, rfl⟩
  have HC : Hid (∀ k, k < 3 → ∃ (id9 : Int) (cl : Bs) (su : Bs) (va : Option Addr) (vc : Nat) (sc : List Bs) (cr : Int) (us : Int) (idl : Int) (ab : Int) (gr : Int) (ge : Int) (tk9 : Int) (st : Int) (en : Int) (co : Int), (CS.toList.drop (k * 14)).take 14 = [I id9, S cl, S su, .slice va sc.length vc, I cr, I us, I idl, I ab, I gr, I ge, I tk9, I st, I en, I co] ∧ cl.length ≤ 9223372036854775807 ∧ su.length ≤ 9223372036854775807 ∧ Sts w va sc.length sc ∧ sc.length ≤ 8796093022100 ∧ Lns sc ∧ (va = none → vc = 0)) := hide (fun k hk => by
    rw [hCS]
    rcases (by omega : k = 0 ∨ k = 1 ∨ k = 2) with rfl | rfl | rfl
    · exact ⟨id91, cl1, su1, va1, vc1, sc1, cr1, us1, idl1, ab1, gr1, ge1, tk91, st1, en1, co1, rfl, hcl1, hsu1, hsc1, hsl1, hln1, hno1⟩
    · exact ⟨id92, cl2, su2, va2, vc2, sc2, cr2, us2, idl2, ab2, gr2, ge2, tk92, st2, en2, co2, rfl, hcl2, hsu2, hsc2, hsl2, hln2, hno2⟩
    · exact ⟨id91, cl1, su1, va1, vc1, sc1, cr1, us1, idl1, ab1, gr1, ge1, tk91, st1, en1, co1, rfl, hcl1, hsu1, hsc1, hsl1, hln1, hno1⟩)
  clear hcl1 hsu1 hsc1 hsl1 hln1 hno1 hcl2 hsu2 hsc2 hsl2 hln2 hno2
  go_enter Tryz.func4, Tryz.ntmps4
  go_wp2_with fail
  refine (unhide HA).mono ?_
  rintro e w1 ⟨rfl, hb⟩
  have HB1 := hide (btr (unhide HB0) hb)
  have HK1 := hide ((unhide HK0).below hb)
  clear hb HA HB0 HK0 hW0
  have hrw : w1.heap[w.heap.size]? = some (.cells #[I id91, S cl1, S su1, .slice va1 sc1.length vc1, I cr1, I us1, I idl1, I ab1, I gr1, I ge1, I tk91, I st1, I en1, I co1] 40 (0, 0)) := (unhide HK1).tail.r0
  obtain ⟨b10, b11, b12, b13, b14, b15, b16, b17, b18, b19, b110, b111, b112, b113⟩ := row14 hrw
  clear hrw
  have hrw : w1.heap[w.heap.size + 1]? = some (.cells #[I id92, S cl2, S su2, .slice va2 sc2.length vc2, I cr2, I us2, I idl2, I ab2, I gr2, I ge2, I tk92, I st2, I en2, I co2] 40 (0, 0)) := (unhide HK1).r0
  obtain ⟨b20, b21, b22, b23, b24, b25, b26, b27, b28, b29, b210, b211, b212, b213⟩ := row14 hrw
  clear hrw
  have HR := hide (show (w1.alloc (.cells #[I id91, S cl1, S su1, .slice va1 sc1.length vc1, I cr1, I us1, I idl1, I ab1, I gr1, I ge1, I tk91, I st1, I en1, I co1, I id92, S cl2, S su2, .slice va2 sc2.length vc2, I cr2, I us2, I idl2, I ab2, I gr2, I ge2, I tk92, I st2, I en2, I co2, I id91, S cl1, S su1, .slice va1 sc1.length vc1, I cr1, I us1, I idl1, I ab1, I gr1, I ge1, I tk91, I st1, I en1, I co1] 40)).heap[w1.heap.size]? = some (.cells CS 40 (0, 0)) from by rw [hCS]; exact heap_alloc_new _ _)
  have HB2 := hide (bal (unhide HB1) (.cells #[I id91, S cl1, S su1, .slice va1 sc1.length vc1, I cr1, I us1, I idl1, I ab1, I gr1, I ge1, I tk91, I st1, I en1, I co1, I id92, S cl2, S su2, .slice va2 sc2.length vc2, I cr2, I us2, I idl2, I ab2, I gr2, I ge2, I tk92, I st2, I en2, I co2, I id91, S cl1, S su1, .slice va1 sc1.length vc1, I cr1, I us1, I idl1, I ab1, I gr1, I ge1, I tk91, I st1, I en1, I co1] 40))
  go_wp2
  generalize w1.alloc (.cells #[I id91, S cl1, S su1, .slice va1 sc1.length vc1, I cr1, I us1, I idl1, I ab1, I gr1, I ge1, I tk91, I st1, I en1, I co1, I id92, S cl2, S su2, .slice va2 sc2.length vc2, I cr2, I us2, I idl2, I ab2, I gr2, I ge2, I tk92, I st2, I en2, I co2, I id91, S cl1, S su1, .slice va1 sc1.length vc1, I cr1, I us1, I idl1, I ab1, I gr1, I ge1, I tk91, I st1, I en1, I co1] 40) = W1 at *
  generalize w1.heap.size = g at *
  have HCW := hide (Cw.start w W1 (unhide HB2))
  clear hCS HK1 HB1 HB2 b10 b11 b12 b13 b14 b15 b16 b17 b18 b19 b110 b111 b112 b113 b20 b21 b22 b23 b24 b25 b26 b27 b28 b29 b210 b211 b212 b213
  go_loopw [6, 7, 9] (fun l want i wr => ∃ (k : Nat) (L : List (Value × List Bs)) (M : List Value), k ≤ 3 ∧ i = .int .i64 k ∧ L.length = k ∧ M.length = k ∧ Cw w.heap.size w wr l want L M ∧ wr.heap[g]? = some (.cells CS 40 (0, 0))) (fun _ _ i _ => 3 - (Go.RowKit.intOf i).toNat)
  case atStart => exact ⟨0, [], [], by omega, rfl, rfl, rfl, unhide HCW, unhide HR⟩
  case round =>
    clear HCW HR
    obtain ⟨k, L, M, hk, rfl, hL, hM, hC, hrow⟩ := hrel
    obtain ⟨wb, rfl⟩ : ∃ x, x = wr := ⟨wr, rfl⟩
    by_cases hlt : k < 3
    · have hlt' : (k : Int) < 3 := by omega
      obtain ⟨id9, cl, su, va, vc, sc, cr, us, idl, ab, gr, ge, tk9, st, en, co, hV, hcl, hsu, hsc0, hsl, hln, hno⟩ := unhide HC k hlt
      have HSC := hide (hsc0.below hC.below)
      have hgl := lt_of_row hrow
      obtain ⟨t0, t1, t2, t4, t5, t6, t7, t8, t9, t10, t11, t12, t13, u, pe, hor, hu8, Y1, Y2⟩ := famQ id9 cl su sc cr us idl ab gr ge tk9 st en co
      have HP := hide (fun W la lc (hs : Sts W la sc.length sc) => Print19 id9 cl su la lc sc cr us idl ab gr ge tk9 st en co W hcl hsu hs (by omega) hln)
      have HQ := hide (fun W (hs : Sts W va sc.length sc) => rPr20 id9 cl su va vc sc cr us idl ab gr ge tk9 st en co W hcl hsu hs (by omega) hln)
      have HO1 := hide (fun W la lc (hs : Sts W la sc.length sc) => ofz.OfFamily_any id9 cl su la lc sc cr us idl ab gr ge tk9 st en co W hcl hsu hs (by omega) hln)
      have HO2 := hide (fun W (hs : Sts W va sc.length sc) => rOf22 id9 cl su va vc sc cr us idl ab gr ge tk9 st en co W hcl hsu hs (by omega) hln)
      have HE1 := hide (fun W la lc => End_any id9 cl su la lc sc cr us idl ab gr ge tk9 st en co W)
      have HE2 := hide (fun W => rEnd24 id9 cl su va vc sc cr us idl ab gr ge tk9 st en co W)
      have HY1 := hide Y1
      have HY2 := hide Y2
      have HU := hide hu8
      have HLT := hide (fun W (hs : Sts W va sc.length sc) => lent_any va sc.length vc sc W hs hno hsl)
      have HWH := hide (fun W gl (hb : Blk gl (sc ++ [spare, spare]) W) (hs : Sts W va sc.length sc) => whole_any gl va sc.length vc sc W hb hs hsl)
      have HOR := hide hor
      clear Y1 Y2 hor hu8 hcl hsu hsc0 hln hno
      generalize endV cr us idl ab st en = ev at HO1 HO2 HE1 HE2
      generalize hk1 : cat (lx (endKl ev id9)) 3 = k1 at HO1 HO2
      generalize hk2 : cat (lx (subKl su id9)) 4 = k2 at HO1 HO2
      have HO1 : Hid (∀ W la lc, Sts W la sc.length sc → Calls Tryz.prog 21 #[.agg #[I id9, S cl, S su, .slice la sc.length lc, I cr, I us, I idl, I ab, I gr, I ge, I tk9, I st, I en, I co]] W fun e w' => ofz.OfF W.heap.size (famOK id9 cl su sc cr us idl ab gr ge tk9 st en co) k1 [] k2 [] e w' ∧ Below W.heap.size W w') := hide (unhide HO1)
      have HO2 : Hid (∀ W, Sts W va sc.length sc → Calls Tryz.prog 22 #[.agg #[I id9, S cl, S su, .slice va sc.length vc, I cr, I us, I idl, I ab, I gr, I ge, I tk9, I st, I en, I co]] W fun e w' => ofz.OfF W.heap.size (famOK id9 cl su sc cr us idl ab gr ge tk9 st en co) k1 [] k2 [] e w' ∧ Below W.heap.size W w') := hide (unhide HO2)
      clear hk1 hk2
      have HU1 : Hid (∀ W la lc, Sts W la sc.length sc → Calls Tryz.prog 21 #[.agg #[I id9, S cl, S su, .slice la sc.length lc, I cr, I us, I idl, I ab, I gr, I ge, I tk9, I st, I en, I co]] W fun e w' => (∃ kp, e = .returned (.tuple #[.slice kp (if famOK id9 cl su sc cr us idl ab gr ge tk9 st en co then 2 else 0) (if famOK id9 cl su sc cr us idl ab gr ge tk9 st en co then 2 else 0), I (if famOK id9 cl su sc cr us idl ab gr ge tk9 st en co then 0 else 140 : Nat)]) ∧ KR W.heap.size k1 k2 (if famOK id9 cl su sc cr us idl ab gr ge tk9 st en co then 2 else 0) kp w') ∧ Below W.heap.size W w') := hide (fun W la lc hs => (unhide HO1 W la lc hs).mono fun e w' h => ⟨ofF_KR h.1, h.2⟩)
      have HU2 : Hid (∀ W, Sts W va sc.length sc → Calls Tryz.prog 22 #[.agg #[I id9, S cl, S su, .slice va sc.length vc, I cr, I us, I idl, I ab, I gr, I ge, I tk9, I st, I en, I co]] W fun e w' => (∃ kp, e = .returned (.tuple #[.slice kp (if famOK id9 cl su sc cr us idl ab gr ge tk9 st en co then 2 else 0) (if famOK id9 cl su sc cr us idl ab gr ge tk9 st en co then 2 else 0), I (if famOK id9 cl su sc cr us idl ab gr ge tk9 st en co then 0 else 140 : Nat)]) ∧ KR W.heap.size k1 k2 (if famOK id9 cl su sc cr us idl ab gr ge tk9 st en co then 2 else 0) kp w') ∧ Below W.heap.size W w') := hide (fun W hs => (unhide HO2 W hs).mono fun e w' h => ⟨ofF_KR h.1, h.2⟩)
      clear HO1 HO2
      have HN9 : Hid ((if famOK id9 cl su sc cr us idl ab gr ge tk9 st en co then 2 else 0 : Nat) ≤ 2) := hide (by split <;> omega)
      generalize (if famOK id9 cl su sc cr us idl ab gr ge tk9 st en co then 2 else 0 : Nat) = nn at HU1 HU2 HN9
      generalize (if famOK id9 cl su sc cr us idl ab gr ge tk9 st en co then 0 else 140 : Nat) = oe at HU1 HU2
      generalize famP id9 cl su sc cr us idl ab gr ge tk9 st en co = PP at HP HQ HY1 HY2 HOR
      obtain ⟨⟨pk, pv⟩, pq⟩ := PP
      dsimp only at HP HQ HY1 HY2 HOR
      have HCw := hide hC
      have HRow := hide hrow
      have HM := hide hM
      have HL := hide hL
      obtain ⟨c0, c1, c2, c3, c4, c5, c6, c7, c8, c9, c10, c11, c12, c13⟩ := part14 hrow hV
      clear hC hrow hM hL
      have HK0 := hide ((show Kpr [] wb from fun y9 hy9 => by cases hy9).add #[I id9, S cl, S su, .slice va sc.length vc, I cr, I us, I idl, I ab, I gr, I ge, I tk9, I st, I en, I co] 40)
      have HB0 := hide (show Below wb.heap.size wb (wb.alloc (.cells #[I id9, S cl, S su, .slice va sc.length vc, I cr, I us, I idl, I ab, I gr, I ge, I tk9, I st, I en, I co] 40)) from (Below.refl _ wb).alloc (Nat.le_refl _) _)
      have n3 : (wb.alloc (.cells #[I id9, S cl, S su, .slice va sc.length vc, I cr, I us, I idl, I ab, I gr, I ge, I tk9, I st, I en, I co] 40)).cell? ⟨wb.heap.size, 3, none⟩ = some (.slice va sc.length vc) := cellr (unhide HK0).r0 rfl
      have HX := hide (unhide HLT (wb.alloc (.cells #[I id9, S cl, S su, .slice va sc.length vc, I cr, I us, I idl, I ab, I gr, I ge, I tk9, I st, I en, I co] 40)) ((unhide HSC).below (unhide HB0)))
      have NX := hide (show wb.heap.size < (wb.alloc (.cells #[I id9, S cl, S su, .slice va sc.length vc, I cr, I us, I idl, I ab, I gr, I ge, I tk9, I st, I en, I co] 40)).heap.size by simp)
      generalize hW1 : wb.alloc (.cells #[I id9, S cl, S su, .slice va sc.length vc, I cr, I us, I idl, I ab, I gr, I ge, I tk9, I st, I en, I co] 40) = V1 at HK0 HB0 n3 HX NX
      go_wp2_with fail
      refine (unhide HX).mono ?_
      rintro e w2 ⟨rfl, hbk, hb⟩
      have hK2 := (unhide HK0).below hb
      have hB2 := (unhide HB0).trans (hb.mono (unhide HB0).size)
      have NG := hide (show V1.heap.size ≠ wb.heap.size from Nat.ne_of_gt (unhide NX))
      generalize V1.heap.size = gl at hbk NG NX ⊢
      have s1 : w2.cell? ⟨wb.heap.size, 3, none⟩ = some (.slice va sc.length vc) := cellr hK2.r0 rfl
      have s2 := frz hK2.r0 3
      have HK2 : Hid (Kpr [(wb.heap.size, #[I id9, S cl, S su, .slice (some ⟨gl, 0, none⟩) sc.length (sc.length + 2), I cr, I us, I idl, I ab, I gr, I ge, I tk9, I st, I en, I co], 40)] (w2.setCell ⟨wb.heap.size, 3, none⟩ (.slice (some ⟨gl, 0, none⟩) sc.length (sc.length + 2)))) := hide (fun y9 hy9 => by rw [List.mem_singleton.1 hy9]; exact heap_setCell_same w2 wb.heap.size 3 #[I id9, S cl, S su, .slice va sc.length vc, I cr, I us, I idl, I ab, I gr, I ge, I tk9, I st, I en, I co] 40 (.slice (some ⟨gl, 0, none⟩) sc.length (sc.length + 2)) hK2.r0)
      have HB2 := hide (hB2.setCell (p := ⟨wb.heap.size, 3, none⟩) (Nat.le_refl _) (.slice (some ⟨gl, 0, none⟩) sc.length (sc.length + 2)))
      have HL2 : Hid (Blk gl (sc ++ [spare, spare]) (w2.setCell ⟨wb.heap.size, 3, none⟩ (.slice (some ⟨gl, 0, none⟩) sc.length (sc.length + 2)))) := hide ((setCells_other (unhide NG)).trans hbk)
      clear hb hbk hK2 hB2 HK0 HB0 HX n3 c0 c1 c2 c3 c4 c5 c6 c7 c8 c9 c10 c11 c12 c13 hW1
      generalize hV2 : w2.setCell ⟨wb.heap.size, 3, none⟩ (.slice (some ⟨gl, 0, none⟩) sc.length (sc.length + 2)) = V2 at HK2 HB2 HL2
      have hrw : V2.heap[wb.heap.size]? = some (.cells #[I id9, S cl, S su, .slice (some ⟨gl, 0, none⟩) sc.length (sc.length + 2), I cr, I us, I idl, I ab, I gr, I ge, I tk9, I st, I en, I co] 40 (0, 0)) := (unhide HK2).r0
      obtain ⟨x0, x1, x2, x3, x4, x5, x6, x7, x8, x9, x10, x11, x12, x13⟩ := row14 hrw
      clear hrw
      have HX := hide (unhide HP V2 (some ⟨gl, 0, none⟩) (sc.length + 2) (unhide HL2).part)
      go_wp2_with fail
      refine (unhide HX).mono ?_
      rintro e w3 ⟨rfl, hb⟩
      have HK3 := hide (((unhide HK2).below hb).add #[S pk, S pv] 30)
      have HB3 := hide ((unhide HB2).trans (hb.mono (unhide HB2).size) |>.alloc (Nat.le_trans (unhide HB2).size hb.size) (.cells #[S pk, S pv] 30))
      have HL3 := hide (((unhide HL2).keep hb).keep ((Below.refl _ w3).alloc (Nat.le_refl _) (.cells #[S pk, S pv] 30)))
      clear hb HK2 HB2 HL2 HX s1 s2 hV2 x0 x1 x2 x3 x4 x5 x6 x7 x8 x9 x10 x11 x12 x13 HP
      generalize hV3 : w3.alloc (.cells #[S pk, S pv] 30) = V3 at HK3 HB3 HL3
      have hrw : V3.heap[g]? = some (.cells CS 40 (0, 0)) := ((unhide HB3).block g hgl).trans (unhide HRow)
      obtain ⟨c0, c1, c2, c3, c4, c5, c6, c7, c8, c9, c10, c11, c12, c13⟩ := part14 hrw hV
      clear hrw
      have HX := hide (unhide HQ V3 ((unhide HSC).below (unhide HB3)))
      go_wp2_with fail
      refine (unhide HX).mono ?_
      rintro e w4 ⟨rfl, hb⟩
      have HK4 := hide (((unhide HK3).below hb).add #[S pk, S pv] 30)
      have HB4 := hide ((unhide HB3).trans (hb.mono (unhide HB3).size) |>.alloc (Nat.le_trans (unhide HB3).size hb.size) (.cells #[S pk, S pv] 30))
      have HL4 := hide (((unhide HL3).keep hb).keep ((Below.refl _ w4).alloc (Nat.le_refl _) (.cells #[S pk, S pv] 30)))
      clear hb HK3 HB3 HL3 HX hV3 c0 c1 c2 c3 c4 c5 c6 c7 c8 c9 c10 c11 c12 c13 HQ
      generalize hV4 : w4.alloc (.cells #[S pk, S pv] 30) = V4 at HK4 HB4 HL4
      have hrw : V4.heap[wb.heap.size]? = some (.cells #[I id9, S cl, S su, .slice (some ⟨gl, 0, none⟩) sc.length (sc.length + 2), I cr, I us, I idl, I ab, I gr, I ge, I tk9, I st, I en, I co] 40 (0, 0)) := (unhide HK4).tail.tail.r0
      obtain ⟨x0, x1, x2, x3, x4, x5, x6, x7, x8, x9, x10, x11, x12, x13⟩ := row14 hrw
      clear hrw
      have HX := hide (unhide HU1 V4 (some ⟨gl, 0, none⟩) (sc.length + 2) (unhide HL4).part)
      go_wp2_with fail
      refine (unhide HX).mono ?_
      rintro e w5 ⟨⟨kp, rfl, hr1⟩, hb⟩
      have HK5 := hide ((unhide HK4).below hb)
      have HB5 := hide ((unhide HB4).trans (hb.mono (unhide HB4).size))
      have HL5 := hide ((unhide HL4).keep hb)
      have HR1 := hide hr1
      have NB := hide (show ∀ x ∈ [w4.heap.size, w3.heap.size, wb.heap.size, gl], x < V4.heap.size from fun x hx => by
        simp only [List.mem_cons, List.not_mem_nil, or_false] at hx
        rcases hx with rfl | rfl | rfl | rfl
        · exact lt_of_row (unhide HK4).r0
        · exact lt_of_row (unhide HK4).tail.r0
        · exact lt_of_row (unhide HK4).tail.tail.r0
        · exact (unhide HL4).lt)
      have NS := hide (show wb.heap.size ≤ V4.heap.size from (unhide HB4).size)
      clear hb hr1 HK4 HB4 HL4 HX hV4 x0 x1 x2 x3 x4 x5 x6 x7 x8 x9 x10 x11 x12 x13
      have hrw : w5.heap[g]? = some (.cells CS 40 (0, 0)) := ((unhide HB5).block g hgl).trans (unhide HRow)
      obtain ⟨c0, c1, c2, c3, c4, c5, c6, c7, c8, c9, c10, c11, c12, c13⟩ := part14 hrw hV
      clear hrw
      have HX := hide (unhide HU2 w5 ((unhide HSC).below (unhide HB5)))
      go_wp2_with fail
      refine (unhide HX).mono ?_
      rintro e w6 ⟨⟨mp, rfl, hr2⟩, hb⟩
      have HK6 := hide ((unhide HK5).below hb)
      have HB6 := hide ((unhide HB5).trans (hb.mono (unhide HB5).size))
      have HL6 := hide ((unhide HL5).keep hb)
      have HKL := hide (KL.start (bx := [w4.heap.size, w3.heap.size, wb.heap.size, gl]) (unhide HR1) hb hr2 (unhide NS) (Nat.le_refl _) (unhide NB))
      clear hb hr2 HK5 HB5 HL5 HX HU2 HR1 NB NS c0 c1 c2 c3 c4 c5 c6 c7 c8 c9 c10 c11 c12 c13
      have hrw : w6.heap[wb.heap.size]? = some (.cells #[I id9, S cl, S su, .slice (some ⟨gl, 0, none⟩) sc.length (sc.length + 2), I cr, I us, I idl, I ab, I gr, I ge, I tk9, I st, I en, I co] 40 (0, 0)) := (unhide HK6).tail.tail.r0
      obtain ⟨x0, x1, x2, x3, x4, x5, x6, x7, x8, x9, x10, x11, x12, x13⟩ := row14 hrw
      clear hrw
      have HX := hide (unhide HE1 w6 (some ⟨gl, 0, none⟩) (sc.length + 2))
      go_wp2_with fail
      refine (unhide HX).mono ?_
      rintro e w7 ⟨rfl, hb⟩
      have HK7 := hide ((unhide HK6).below hb)
      have HB7 := hide ((unhide HB6).trans (hb.mono (unhide HB6).size))
      have HL7 := hide ((unhide HL6).keep hb)
      have HKM := hide ((unhide HKL).below hb)
      clear hb HK6 HB6 HL6 HX HE1 HKL x0 x1 x2 x3 x4 x5 x6 x7 x8 x9 x10 x11 x12 x13
      have x3 : w7.cell? ⟨wb.heap.size, 3, none⟩ = some (.slice (some ⟨gl, 0, none⟩) sc.length (sc.length + 2)) := cellr (unhide HK7).tail.tail.r0 rfl
      have HX := hide (unhide HWH w7 gl (unhide HL7) ((unhide HSC).below (unhide HB7)))
      go_wp2_with fail
      refine (unhide HX).mono ?_
      rintro e w8 ⟨rfl, hb⟩
      have HK8 := hide ((unhide HK7).below hb)
      have HB8 := hide ((unhide HB7).trans (hb.mono (unhide HB7).size))
      have HL8 := hide ((unhide HL7).keep hb)
      have HKL := hide ((unhide HKM).below hb)
      clear hb HK7 HB7 HL7 HX HKM x3 HWH HLT NX NG
      have hrw : w8.heap[g]? = some (.cells CS 40 (0, 0)) := ((unhide HB8).block g hgl).trans (unhide HRow)
      obtain ⟨c0, c1, c2, c3, c4, c5, c6, c7, c8, c9, c10, c11, c12, c13⟩ := part14 hrw hV
      clear hrw
      have pb0 : w8.cell? ⟨w3.heap.size, 0, none⟩ = some (S pk) := cellr (unhide HK8).tail.r0 rfl
      have pb1 : w8.cell? ⟨w3.heap.size, 1, none⟩ = some (S pv) := cellr (unhide HK8).tail.r0 rfl
      have qb0 : w8.cell? ⟨w4.heap.size, 0, none⟩ = some (S pk) := cellr (unhide HK8).r0 rfl
      have qb1 : w8.cell? ⟨w4.heap.size, 1, none⟩ = some (S pv) := cellr (unhide HK8).r0 rfl
      have f1 := ne30s pk pv
      have HX := hide (unhide HE2 w8)
      go_wp2_with fail
      refine (unhide HX).mono ?_
      rintro e w9 ⟨rfl, hb⟩
      have HK9 := hide ((unhide HK8).below hb)
      have HB9 := hide ((unhide HB8).trans (hb.mono (unhide HB8).size))
      have HL9 := hide ((unhide HL8).keep hb)
      have HKM := hide ((unhide HKL).below hb)
      clear hb HK8 HB8 HL8 HX HE2 HKL pb0 pb1 qb0 qb1 f1 c0 c1 c2 c3 c4 c5 c6 c7 c8 c9 c10 c11 c12 c13
      generalize w3.heap.size = bp at HK9 HKM ⊢
      generalize w4.heap.size = bq at HK9 HKM ⊢
      go_wp2
      have HS : Hid (Kpr [(bq, #[S pk, S pv], 30), (bp, #[S pk, S pv], 30), (wb.heap.size, #[I id9, S cl, S su, .slice (some ⟨gl, 0, none⟩) sc.length (sc.length + 2), I cr, I us, I idl, I ab, I gr, I ge, I tk9, I st, I en, I co], 40)] w9 ∧ Blk gl (sc ++ [spare, spare]) w9 ∧ Below wb.heap.size wb w9 ∧ KL wb.heap.size k1 k2 nn kp mp 0 [bq, bp, wb.heap.size, gl] w9) := hide ⟨unhide HK9, unhide HL9, unhide HB9, unhide HKM⟩
      clear HK9 HL9 HB9 HKM
      go_loopw [22] (fun i wq => ∃ j : Nat, j ≤ nn ∧ i = .int .i64 j ∧ Kpr [(bq, #[S pk, S pv], 30), (bp, #[S pk, S pv], 30), (wb.heap.size, #[I id9, S cl, S su, .slice (some ⟨gl, 0, none⟩) sc.length (sc.length + 2), I cr, I us, I idl, I ab, I gr, I ge, I tk9, I st, I en, I co], 40)] wq ∧ Blk gl (sc ++ [spare, spare]) wq ∧ Below wb.heap.size wb wq ∧ KL wb.heap.size k1 k2 nn kp mp j [bq, bp, wb.heap.size, gl] wq) (fun i _ => nn - (Go.RowKit.intOf i).toNat)
      case atStart => exact ⟨0, by omega, rfl, unhide HS⟩
      case round =>
        clear HS
        obtain ⟨j, hj, rfl, hK, hBk, hB, hKL⟩ := hrel
        by_cases hjn : j < nn
        · have hjn' : (j : Int) < (nn : Int) := by omega
          rcases hKL with ⟨h0, _⟩ | ⟨h1, p, m, h2, h3, h4, h5, h6, h7, h8⟩
          · omega
          subst h1 h2 h3
          have HK := hide hK
          have HBk := hide hBk
          have HBw := hide hB
          have H6 := hide h6
          have H5 := hide h5
          have H4 := hide h4
          clear hK hBk hB h4 h5 h6 hj
          rcases (by omega : j = 0 ∨ j = 1) with rfl | rfl
          · as_aux_lemma =>
              have H7 : Hid (wr.heap[p]? = some (.cells #[S k1, S [], S k2, S []] 30 (0, 0))) := hide h7
              have H8 := hide h8
              clear h7 h8
              go_upto_region 21 with fail
              refine rzk21 p m 0 0 k1 [] rfl (by rfl) (by rfl) _ wr (by simp) rfl rfl rfl (fun _ _ W => Below wr.heap.size wr W) ⟨(), (Below.refl _ _).drew⟩ (fun _ _ _ _ _ hW => hW) (fun W => s_ix43 p 0 (by omega))
                (fun c L W hW _ _ => s_ldr (T := 30) (n := 2) (fun _ => by as_aux_lemma => kernel_rfl) (fun _ => by as_aux_lemma => kernel_rfl) (o := 0) ((hW.block _ (lt_of_row (unhide H7))).trans (unhide H7)) [S k1, S []] rfl rfl) (fun W => s_ix43 m 0 (by omega))
                (fun c L W hW _ _ => s_ldr (T := 30) (n := 2) (fun _ => by as_aux_lemma => kernel_rfl) (fun _ => by as_aux_lemma => kernel_rfl) (o := 0) ((hW.block _ (lt_of_row (unhide H8))).trans (unhide H8)) [S k1, S []] rfl rfl) (fun W => s_ne30 k1 [] _ _) ?_
              intro c L9 W hall hW
              simp only [Act.put, List.setIfInBounds_toArray, List.set_cons_succ, List.set_cons_zero]
              have H7b : Hid (W.heap[p]? = some (.cells #[S k1, S [], S k2, S []] 30 (0, 0))) := hide ((hW.block _ (lt_of_row (unhide H7))).trans (unhide H7))
              have HN : Hid (Kpr [(bq, #[S pk, S pv], 30), (bp, #[S pk, S pv], 30), (wb.heap.size, #[I id9, S cl, S su, .slice (some ⟨gl, 0, none⟩) sc.length (sc.length + 2), I cr, I us, I idl, I ab, I gr, I ge, I tk9, I st, I en, I co], 40)] (W.setRow p #[S OV, S [], S k2, S []]) ∧ Blk gl (sc ++ [spare, spare]) (W.setRow p #[S OV, S [], S k2, S []]) ∧ Below wb.heap.size wb (W.setRow p #[S OV, S [], S k2, S []]) ∧ KL wb.heap.size k1 k2 2 (some ⟨p, 0, none⟩) (some ⟨m, 0, none⟩) 1 [bq, bp, wb.heap.size, gl] (W.setRow p #[S OV, S [], S k2, S []])) := hide (by
                refine ⟨fun q9 hq9 => ?_, ?_, ?_, .inr ⟨rfl, p, m, rfl, rfl, unhide H4, unhide H5, unhide H6, setRow_row (unhide H7b), ?_⟩⟩
                · have hq8 := ((unhide HK).below hW) q9 hq9
                  refine ((setRow_Only W p _).block _ (lt_of_row hq8) ?_).trans hq8
                  refine unhide H6 q9.1 ?_
                  simp only [List.mem_cons, List.not_mem_nil, or_false] at hq9 ⊢
                  rcases hq9 with rfl | rfl | rfl
                  · exact .inl rfl
                  · exact .inr (.inl rfl)
                  · exact .inr (.inr (.inl rfl))
                · have hb9 := (unhide HBk).keep hW
                  exact ((setRow_Only W p _).block _ hb9.lt (unhide H6 gl (by simp))).trans hb9
                · exact (setRow_Only W p _).below ((unhide HBw).trans (hW.mono (unhide HBw).size)) (Nat.le_trans (unhide HBw).size hW.size) (fun k9 e9 => by have := unhide H4; omega)
                · have hm9 := (hW.block _ (lt_of_row (unhide H8))).trans (unhide H8)
                  exact ((setRow_Only W p _).block _ (lt_of_row hm9) (unhide H5)).trans hm9)
              clear hW hall H7 H8 HK HBk HBw H4 H5 H6
              go_wp2_with (refine wp_st30o rfl (.tmp 136) (.tmp 135) rfl p 0 (by rfl) OV [] (by rfl) #[S k1, S [], S k2, S []] (show 0 + 2 ≤ 4 by omega) (unhide H7b) #[S OV, S [], S k2, S []] rfl ?_)
              refine ⟨⟨_, _, _, _, _, _, _, _, _, _, _, _, _, _, _, _, _, _, _, _, _, ⟨1, by omega, by go_num, unhide HN⟩, rfl⟩, ?_⟩
              simp [Go.RowKit.intOf]
          · as_aux_lemma =>
              have H7 : Hid (wr.heap[p]? = some (.cells #[S OV, S [], S k2, S []] 30 (0, 0))) := hide h7
              have H8 := hide h8
              clear h7 h8
              go_upto_region 21 with fail
              refine rzk21 p m 2 1 k2 [] rfl (by rfl) (by rfl) _ wr (by simp) rfl rfl rfl (fun _ _ W => Below wr.heap.size wr W) ⟨(), (Below.refl _ _).drew⟩ (fun _ _ _ _ _ hW => hW) (fun W => s_ix43 p 1 (by omega))
                (fun c L W hW _ _ => s_ldr (T := 30) (n := 2) (fun _ => by as_aux_lemma => kernel_rfl) (fun _ => by as_aux_lemma => kernel_rfl) (o := 2) ((hW.block _ (lt_of_row (unhide H7))).trans (unhide H7)) [S k2, S []] rfl rfl) (fun W => s_ix43 m 1 (by omega))
                (fun c L W hW _ _ => s_ldr (T := 30) (n := 2) (fun _ => by as_aux_lemma => kernel_rfl) (fun _ => by as_aux_lemma => kernel_rfl) (o := 2) ((hW.block _ (lt_of_row (unhide H8))).trans (unhide H8)) [S k2, S []] rfl rfl) (fun W => s_ne30 k2 [] _ _) ?_
              intro c L9 W hall hW
              simp only [Act.put, List.setIfInBounds_toArray, List.set_cons_succ, List.set_cons_zero]
              have H7b : Hid (W.heap[p]? = some (.cells #[S OV, S [], S k2, S []] 30 (0, 0))) := hide ((hW.block _ (lt_of_row (unhide H7))).trans (unhide H7))
              have HN : Hid (Kpr [(bq, #[S pk, S pv], 30), (bp, #[S pk, S pv], 30), (wb.heap.size, #[I id9, S cl, S su, .slice (some ⟨gl, 0, none⟩) sc.length (sc.length + 2), I cr, I us, I idl, I ab, I gr, I ge, I tk9, I st, I en, I co], 40)] (W.setRow p #[S OV, S [], S OV, S []]) ∧ Blk gl (sc ++ [spare, spare]) (W.setRow p #[S OV, S [], S OV, S []]) ∧ Below wb.heap.size wb (W.setRow p #[S OV, S [], S OV, S []]) ∧ KL wb.heap.size k1 k2 2 (some ⟨p, 0, none⟩) (some ⟨m, 0, none⟩) 2 [bq, bp, wb.heap.size, gl] (W.setRow p #[S OV, S [], S OV, S []])) := hide (by
                refine ⟨fun q9 hq9 => ?_, ?_, ?_, .inr ⟨rfl, p, m, rfl, rfl, unhide H4, unhide H5, unhide H6, setRow_row (unhide H7b), ?_⟩⟩
                · have hq8 := ((unhide HK).below hW) q9 hq9
                  refine ((setRow_Only W p _).block _ (lt_of_row hq8) ?_).trans hq8
                  refine unhide H6 q9.1 ?_
                  simp only [List.mem_cons, List.not_mem_nil, or_false] at hq9 ⊢
                  rcases hq9 with rfl | rfl | rfl
                  · exact .inl rfl
                  · exact .inr (.inl rfl)
                  · exact .inr (.inr (.inl rfl))
                · have hb9 := (unhide HBk).keep hW
                  exact ((setRow_Only W p _).block _ hb9.lt (unhide H6 gl (by simp))).trans hb9
                · exact (setRow_Only W p _).below ((unhide HBw).trans (hW.mono (unhide HBw).size)) (Nat.le_trans (unhide HBw).size hW.size) (fun k9 e9 => by have := unhide H4; omega)
                · have hm9 := (hW.block _ (lt_of_row (unhide H8))).trans (unhide H8)
                  exact ((setRow_Only W p _).block _ (lt_of_row hm9) (unhide H5)).trans hm9)
              clear hW hall H7 H8 HK HBk HBw H4 H5 H6
              go_wp2_with (refine wp_st30o rfl (.tmp 136) (.tmp 135) rfl p 2 (by rfl) OV [] (by rfl) #[S OV, S [], S k2, S []] (show 2 + 2 ≤ 4 by omega) (unhide H7b) #[S OV, S [], S OV, S []] rfl ?_)
              refine ⟨⟨_, _, _, _, _, _, _, _, _, _, _, _, _, _, _, _, _, _, _, _, _, ⟨2, by omega, by go_num, unhide HN⟩, rfl⟩, ?_⟩
              simp [Go.RowKit.intOf]
        · have hd2 : decide (j < nn) = false := by simp; omega
          obtain rfl : j = nn := by omega
          obtain ⟨ys, hown⟩ := hKL.owns
          have HOWN := hide hown
          have HOB := hide hKL.own
          have HMI := hide hKL.mine
          have HKq := hide hK
          have HBq := hide hBk
          have HWq := hide hB
          have inb : ∀ q9, q9 ∈ ([(bq, #[S pk, S pv], 30), (bp, #[S pk, S pv], 30), (wb.heap.size, #[I id9, S cl, S su, .slice (some ⟨gl, 0, none⟩) sc.length (sc.length + 2), I cr, I us, I idl, I ab, I gr, I ge, I tk9, I st, I en, I co], 40)] : List (Nat × Array Value × TypeId)) → q9.1 ∈ [bq, bp, wb.heap.size, gl] := fun q9 hq9 => by
            simp only [List.mem_cons, List.not_mem_nil, or_false] at hq9 ⊢
            rcases hq9 with rfl | rfl | rfl
            · exact .inl rfl
            · exact .inr (.inl rfl)
            · exact .inr (.inr (.inl rfl))
          clear hown hKL hK hBk hB hd2 hj hjn
          have hj3 : (j : Int) ≤ 2 := by have := unhide HN9; omega
          go_wp2_with (first | (at_builtin; refine pushP rfl (.tmp 137) (.tmp 141) rfl _ j ys rfl wr (unhide HOWN) (by rfl) (by have := unhide HN9; omega) ?_; intro kq kc w10 hg10; have HK10 := hide ((unhide HKq).grown hg10 (fun q9 hq9 e9 => (unhide HOB q9.1 e9.symm).2.1 q9.1 (inb q9 hq9) rfl)); have HB10 := hide (below_grown (unhide HWq) (unhide HWq).size hg10 (fun p9 e9 => (unhide HOB p9 e9).1)); have HL10 : Hid (Blk gl (sc ++ [spare, spare]) w10) := hide (blk_grown (unhide HBq) hg10 (fun e9 => (unhide HOB gl e9).2.1 gl (by simp) rfl)); have HM10 := hide ((unhide HMI).grown hg10 (fun p9 e9 m9 f9 => (unhide HOB p9 e9).2.2 m9 f9)); have hrw : w10.heap[wb.heap.size]? = some (.cells #[I id9, S cl, S su, .slice (some ⟨gl, 0, none⟩) sc.length (sc.length + 2), I cr, I us, I idl, I ab, I gr, I ge, I tk9, I st, I en, I co] 40 (0, 0)) := (unhide HK10).tail.tail.r0; obtain ⟨x0, x1, x2, x3, x4, x5, x6, x7, x8, x9, x10, x11, x12, x13⟩ := row14 hrw; clear hrw; have HX := hide (unhide HU1 w10 (some ⟨gl, 0, none⟩) (sc.length + 2) (unhide HL10).part); clear hg10))
          refine (unhide HX).mono ?_
          rintro e w11 ⟨⟨ap, rfl, hr3⟩, hb⟩
          have HK11 := hide ((unhide HK10).below hb)
          have HB11 := hide ((unhide HB10).trans (hb.mono (unhide HB10).size))
          have HM11 := hide ((unhide HM10).below hb)
          have HA11 := hide hr3
          clear hb hr3 HX HU1 HK10 HB10 HL10 HM10 HKq HBq HWq HOWN HOB HMI x0 x1 x2 x3 x4 x5 x6 x7 x8 x9 x10 x11 x12 x13
          go_wp2
          go_loopw [25] (fun i wq => ∃ jj : Nat, jj ≤ j ∧ i = .int .i64 jj ∧ Below w11.heap.size w11 wq) (fun i _ => j - (Go.RowKit.intOf i).toNat)
          case atStart => exact ⟨0, by omega, rfl, Below.refl _ _⟩
          case round =>
            obtain ⟨jj, hj, rfl, hbq⟩ := hrel
            by_cases hjn : jj < j
            · have hjn' : (jj : Int) < (j : Int) := by omega
              rcases (unhide HA11).below hbq with ⟨h0, _⟩ | ⟨h1, p, h2, _, h7⟩
              · omega
              rcases (unhide HM11).below hbq with ⟨h0, _⟩ | ⟨_, m, h3, _, h8⟩
              · omega
              subst h1 h2 h3
              have HBq := hide hbq
              have H7 := hide h7
              have H8 := hide h8
              clear hbq h7 h8 HA11 HM11 HK11 HB11 HU HY1 HY2 HSC HCw HRow HM HL HC HOR
              rcases (by omega : jj = 0 ∨ jj = 1) with rfl | rfl
              · as_aux_lemma =>
                  go_upto_region 31 with fail
                  refine rzk31 p m 0 0 k1 [] rfl (by rfl) (by rfl) _ wr (by simp) rfl rfl rfl (fun _ _ W => Below wr.heap.size wr W) ⟨(), (Below.refl _ _).drew⟩ (fun _ _ _ _ _ hW => hW) (fun W => s_ix43 p 0 (by omega))
                    (fun c L W hW _ _ => s_ldr (T := 30) (n := 2) (fun _ => by as_aux_lemma => kernel_rfl) (fun _ => by as_aux_lemma => kernel_rfl) (o := 0) ((hW.block _ (lt_of_row (unhide H7))).trans (unhide H7)) [S k1, S []] rfl rfl) (fun W => s_ix43 m 0 (by omega))
                    (fun c L W hW _ _ => s_ldr (T := 30) (n := 2) (fun _ => by as_aux_lemma => kernel_rfl) (fun _ => by as_aux_lemma => kernel_rfl) (o := 0) ((hW.block _ (lt_of_row (unhide H8))).trans (unhide H8)) [S k1, S []] rfl rfl) (fun W => s_ne30 k1 [] _ _) ?_
                  intro c L9 W hall hW
                  simp only [Act.put, List.setIfInBounds_toArray, List.set_cons_succ, List.set_cons_zero]
                  have HBz := hide ((unhide HBq).trans (hW.mono (unhide HBq).size))
                  clear hW hall H7 H8 HBq
                  go_wp2
                  refine ⟨⟨1, by omega, by go_num, unhide HBz⟩, ?_⟩
                  simp [Go.RowKit.intOf]
              · as_aux_lemma =>
                  go_upto_region 31 with fail
                  refine rzk31 p m 2 1 k2 [] rfl (by rfl) (by rfl) _ wr (by simp) rfl rfl rfl (fun _ _ W => Below wr.heap.size wr W) ⟨(), (Below.refl _ _).drew⟩ (fun _ _ _ _ _ hW => hW) (fun W => s_ix43 p 1 (by omega))
                    (fun c L W hW _ _ => s_ldr (T := 30) (n := 2) (fun _ => by as_aux_lemma => kernel_rfl) (fun _ => by as_aux_lemma => kernel_rfl) (o := 2) ((hW.block _ (lt_of_row (unhide H7))).trans (unhide H7)) [S k2, S []] rfl rfl) (fun W => s_ix43 m 1 (by omega))
                    (fun c L W hW _ _ => s_ldr (T := 30) (n := 2) (fun _ => by as_aux_lemma => kernel_rfl) (fun _ => by as_aux_lemma => kernel_rfl) (o := 2) ((hW.block _ (lt_of_row (unhide H8))).trans (unhide H8)) [S k2, S []] rfl rfl) (fun W => s_ne30 k2 [] _ _) ?_
                  intro c L9 W hall hW
                  simp only [Act.put, List.setIfInBounds_toArray, List.set_cons_succ, List.set_cons_zero]
                  have HBz := hide ((unhide HBq).trans (hW.mono (unhide HBq).size))
                  clear hW hall H7 H8 HBq
                  go_wp2
                  refine ⟨⟨2, by omega, by go_num, unhide HBz⟩, ?_⟩
                  simp [Go.RowKit.intOf]
            · have hd3 : decide (jj < j) = false := by simp; omega
              obtain rfl : jj = j := by omega
              have HK5 := hide ((unhide HK11).below hbq)
              have HB5 := hide ((unhide HB11).trans (hbq.mono (unhide HB11).size))
              clear HK11 HB11 HM11 HA11 hbq hd3 hj hjn
              as_aux_lemma =>
                have pb0 : wr.cell? ⟨bp, 0, none⟩ = some (S pk) := cellr (unhide HK5).tail.r0 rfl
                have pb1 : wr.cell? ⟨bp, 1, none⟩ = some (S pv) := cellr (unhide HK5).tail.r0 rfl
                go_wp2_with fail
                refine (unhide HY1 wr).mono ?_
                rintro e w12 ⟨hb, va6, vc6, rfl, ho6⟩
                have HK6 := hide (((unhide HK5).below hb).add #[I t0, S t1, S t2, .slice va6 u.length vc6, I t4, I t5, I t6, I t7, I t8, I t9, I t10, I t11, I t12, I t13] 40)
                have HB6 := hide ((unhide HB5).trans (hb.mono (unhide HB5).size) |>.alloc (Nat.le_trans (unhide HB5).size hb.size) (.cells #[I t0, S t1, S t2, .slice va6 u.length vc6, I t4, I t5, I t6, I t7, I t8, I t9, I t10, I t11, I t12, I t13] 40))
                have HO6 := hide ((ho6.below ((Below.refl _ w12).alloc (Nat.le_refl _) (.cells #[I t0, S t1, S t2, .slice va6 u.length vc6, I t4, I t5, I t6, I t7, I t8, I t9, I t10, I t11, I t12, I t13] 40)) (Nat.le_refl _)).below (Below.refl _ _) (unhide HB5).size)
                clear hb HK5 HB5 HY1 ho6 pb0 pb1
                generalize hV6 : w12.alloc (.cells #[I t0, S t1, S t2, .slice va6 u.length vc6, I t4, I t5, I t6, I t7, I t8, I t9, I t10, I t11, I t12, I t13] 40) = V6 at HK6 HB6 HO6
                have pb0 : V6.cell? ⟨bp, 0, none⟩ = some (S pk) := cellr (unhide HK6).tail.tail.r0 rfl
                have pb1 : V6.cell? ⟨bp, 1, none⟩ = some (S pv) := cellr (unhide HK6).tail.tail.r0 rfl
                go_wp2_with fail
                refine (unhide HY2 V6).mono ?_
                rintro e w13 ⟨hb, va7, vc7, rfl, ho7⟩
                have HK7 := hide (((unhide HK6).below hb).add #[I t0, S t1, S t2, .slice va7 u.length vc7, I t4, I t5, I t6, I t7, I t8, I t9, I t10, I t11, I t12, I t13] 40)
                have HB7 := hide ((unhide HB6).trans (hb.mono (unhide HB6).size) |>.alloc (Nat.le_trans (unhide HB6).size hb.size) (.cells #[I t0, S t1, S t2, .slice va7 u.length vc7, I t4, I t5, I t6, I t7, I t8, I t9, I t10, I t11, I t12, I t13] 40))
                have HO6a := hide (((unhide HO6).below hb (Nat.le_refl _)).below ((Below.refl _ w13).alloc (Nat.le_refl _) (.cells #[I t0, S t1, S t2, .slice va7 u.length vc7, I t4, I t5, I t6, I t7, I t8, I t9, I t10, I t11, I t12, I t13] 40)) (Nat.le_refl _))
                have HO7 := hide ((ho7.below ((Below.refl _ w13).alloc (Nat.le_refl _) (.cells #[I t0, S t1, S t2, .slice va7 u.length vc7, I t4, I t5, I t6, I t7, I t8, I t9, I t10, I t11, I t12, I t13] 40)) (Nat.le_refl _)).below (Below.refl _ _) (unhide HB6).size)
                clear hb HK6 HB6 HY2 ho7 pb0 pb1 hV6 HO6
                generalize hV7 : w13.alloc (.cells #[I t0, S t1, S t2, .slice va7 u.length vc7, I t4, I t5, I t6, I t7, I t8, I t9, I t10, I t11, I t12, I t13] 40) = V7 at HK7 HB7 HO6a HO7
                have hrw : V7.heap[w12.heap.size]? = some (.cells #[I t0, S t1, S t2, .slice va6 u.length vc6, I t4, I t5, I t6, I t7, I t8, I t9, I t10, I t11, I t12, I t13] 40 (0, 0)) := (unhide HK7).tail.r0
                obtain ⟨y0, y1, y2, y3, y4, y5, y6, y7, y8, y9, y10, y11, y12, y13⟩ := row14 hrw
                clear hrw
                have hrw : V7.heap[w13.heap.size]? = some (.cells #[I t0, S t1, S t2, .slice va7 u.length vc7, I t4, I t5, I t6, I t7, I t8, I t9, I t10, I t11, I t12, I t13] 40 (0, 0)) := (unhide HK7).r0
                obtain ⟨z0, z1, z2, z3, z4, z5, z6, z7, z8, z9, z10, z11, z12, z13⟩ := row14 hrw
                clear hrw
                have HX := hide (sameFamily_same t0 t1 t2 u t4 t5 t6 t7 t8 t9 t10 t11 t12 t13 va6 va7 vc6 vc7 V7 (unhide HO6a).sts (unhide HO7).sts (by have := unhide HU; omega))
                go_wp2_with fail
                refine (unhide HX).mono ?_
                rintro e w14 ⟨rfl, hb⟩
                have HK8 := hide ((unhide HK7).below hb)
                have HB8 := hide ((unhide HB7).trans (hb.mono (unhide HB7).size))
                have HO8 := hide ((unhide HO6a).below hb (Nat.le_refl _))
                have HO9 := hide ((unhide HO7).below hb (Nat.le_refl _))
                clear hb HK7 HB7 HX HO6a HO7 hV7 y0 z0 y1 z1 y2 z2 y3 z3 y4 z4 y5 z5 y6 z6 y7 z7 y8 z8 y9 z9 y10 z10 y11 z11 y12 z12 y13 z13
                rcases unhide HOR with ⟨h0, h1, h2, et0, et1, et2, et4, et5, et6, et7, et8, et9, et10, et11, et12, et13⟩ | ⟨h0, h1⟩
                · subst h0 h1 h2 et0 et1 et2 et4 et5 et6 et7 et8 et9 et10 et11 et12 et13
                  clear HOR
                  as_aux_lemma =>
                    have R6 := hide (unhide HK8).tail.r0
                    have RG := hide (((unhide HB8).block g hgl).trans (unhide HRow))
                    have GL := hide (show g < w14.heap.size from Nat.lt_of_lt_of_le hgl (unhide HB8).size)
                    have HV9 := hide hV
                    have HSB := hide ((unhide HSC).below (unhide HB8))
                    have HX := hide (fun W (hb : Below w14.heap.size w14 W) => sameFamily_same t0 t1 t2 u t4 t5 t6 t7 t8 t9 t10 t11 t12 t13 va6 va vc6 vc W ((unhide HO8).below hb (Nat.le_refl _)).sts ((unhide HSB).below hb) (by have := unhide HU; omega))
                    clear hV
                    go_upto_region 39 with fail
                    refine rzb4 w12.heap.size g (k * 14) k #[I t0, S t1, S t2, .slice va6 u.length vc6, I t4, I t5, I t6, I t7, I t8, I t9, I t10, I t11, I t12, I t13] #[I t0, S t1, S t2, .slice va u.length vc, I t4, I t5, I t6, I t7, I t8, I t9, I t10, I t11, I t12, I t13] rfl (by rfl) (by rfl) _ w14 (by simp) rfl rfl rfl (fun _ _ W => Below w14.heap.size w14 W) ⟨(), (Below.refl _ _).drew⟩ (fun _ _ _ _ _ hW => hW)
                      (fun c L W hW _ => s_ldr (T := 40) (n := 14) (fun _ => by as_aux_lemma => kernel_rfl) (fun _ => by as_aux_lemma => kernel_rfl) (o := 0) ((hW.block _ (lt_of_row (unhide R6))).trans (unhide R6)) [I t0, S t1, S t2, .slice va6 u.length vc6, I t4, I t5, I t6, I t7, I t8, I t9, I t10, I t11, I t12, I t13] rfl rfl)
                      (fun W => s_ix41 g k hlt)
                      (fun c L W hW _ _ => s_ldr (T := 40) (n := 14) (fun _ => by as_aux_lemma => kernel_rfl) (fun _ => by as_aux_lemma => kernel_rfl) (o := k * 14) ((hW.block g (unhide GL)).trans (unhide RG)) [I t0, S t1, S t2, .slice va u.length vc, I t4, I t5, I t6, I t7, I t8, I t9, I t10, I t11, I t12, I t13] rfl (unhide HV9))
                      (fun c L W hW _ _ _ => (unhide HX W hW).mono fun e w' q9 => ⟨c, fun _ _ => rfl, q9.1, hW.trans (q9.2.mono hW.size)⟩) ?_
                    intro c L9 W hall hW
                    simp only [Act.put, List.setIfInBounds_toArray, List.set_cons_succ, List.set_cons_zero]
                    have HBx := hide ((unhide HB8).trans (hW.mono (unhide HB8).size))
                    have HKx := hide ((unhide HK8).below hW)
                    have HOx := hide ((unhide HO8).below hW (Nat.le_refl _))
                    have HOy := hide ((unhide HO9).below hW (Nat.le_refl _))
                    clear hW hall HX R6 RG GL HV9 HSB HB8 HK8 HO8 HO9
                    have HCn := hide ((unhide HCw).keep (unhide HBx))
                    have HRg := hide (((unhide HBx).block g hgl).trans (unhide HRow))
                    have yc : W.cell? ⟨w12.heap.size, 3, none⟩ = some (.slice va6 u.length vc6) := cellr (unhide HKx).tail.r0 rfl
                    go_wp2_with (first | (at_builtin; refine pushA rfl (.tmp 215) (.tmp 218) rfl _ (L.map (·.1)) rfl W va6 u.length vc6 (unhide HCn).s1 (by rfl) (by have := unhide HL; simp; omega) (unhide HCn).sz ?_; intro l9 w19 hs9 hg9 hat9; have HC1 := hide ((unhide HCn).push1 ((unhide HM).trans (unhide HL).symm) (unhide HCw).old (unhide HOx) (unhide HCw).sz (unhide HU) hs9 hg9 hat9); have zc : w19.cell? ⟨w13.heap.size, 3, none⟩ = some (.slice va7 u.length vc7) := cellr (grown_row (unhide HCn).s1 hg9 (unhide HKx).r0 (show (40 : Nat) ≠ 22 by decide)) rfl; have HO10 := hide (own_grown (unhide HCn).s1 hg9 (unhide HOy)); have HRh := hide (grown_row (unhide HCn).s1 hg9 (unhide HRg) (by decide)); clear hs9 hg9 hat9) | (at_builtin; refine pushA rfl (.tmp 220) (.tmp 223) rfl _ M rfl w19 va7 u.length vc7 (unhide HC1).s2 (by rfl) (by have := unhide HM; omega) (unhide HC1).sz ?_; intro q9 w20 hs10 hg10 hat10))
                    refine ⟨⟨k + 1, L ++ [(.slice va6 u.length vc6, u)], M ++ [.slice va7 u.length vc7], by omega, by go_num, by have := unhide HL; simp; omega, by have := unhide HM; simp; omega, (unhide HC1).push2 ((unhide HM).trans (unhide HL).symm) ((unhide HO10).below (Below.refl _ _) (unhide HCw).sz) hs10 hg10 hat10, grown_row (unhide HC1).s2 hg10 (unhide HRh) (by decide)⟩, ?_⟩
                    simp [Go.RowKit.intOf]; omega
                · subst h0 h1
                  clear HOR
                  as_aux_lemma =>
                    have HCn := hide ((unhide HCw).keep (unhide HB8))
                    have HRg := hide (((unhide HB8).block g hgl).trans (unhide HRow))
                    have yc : w14.cell? ⟨w12.heap.size, 3, none⟩ = some (.slice va6 u.length vc6) := cellr (unhide HK8).tail.r0 rfl
                    go_wp2_with (first | (at_builtin; refine pushA rfl (.tmp 215) (.tmp 218) rfl _ (L.map (·.1)) rfl w14 va6 u.length vc6 (unhide HCn).s1 (by rfl) (by have := unhide HL; simp; omega) (unhide HCn).sz ?_; intro l9 w19 hs9 hg9 hat9; have HC1 := hide ((unhide HCn).push1 ((unhide HM).trans (unhide HL).symm) (unhide HCw).old (unhide HO8) (unhide HCw).sz (unhide HU) hs9 hg9 hat9); have zc : w19.cell? ⟨w13.heap.size, 3, none⟩ = some (.slice va7 u.length vc7) := cellr (grown_row (unhide HCn).s1 hg9 (unhide HK8).r0 (show (40 : Nat) ≠ 22 by decide)) rfl; have HO10 := hide (own_grown (unhide HCn).s1 hg9 (unhide HO9)); have HRh := hide (grown_row (unhide HCn).s1 hg9 (unhide HRg) (by decide)); clear hs9 hg9 hat9) | (at_builtin; refine pushA rfl (.tmp 220) (.tmp 223) rfl _ M rfl w19 va7 u.length vc7 (unhide HC1).s2 (by rfl) (by have := unhide HM; omega) (unhide HC1).sz ?_; intro q9 w20 hs10 hg10 hat10))
                    refine ⟨⟨k + 1, L ++ [(.slice va6 u.length vc6, u)], M ++ [.slice va7 u.length vc7], by omega, by go_num, by have := unhide HL; simp; omega, by have := unhide HM; simp; omega, (unhide HC1).push2 ((unhide HM).trans (unhide HL).symm) ((unhide HO10).below (Below.refl _ _) (unhide HCw).sz) hs10 hg10 hat10, grown_row (unhide HC1).s2 hg10 (unhide HRh) (by decide)⟩, ?_⟩
                    simp [Go.RowKit.intOf]; omega
    · have hd : decide (k < 3) = false := by simp; omega
      obtain rfl : k = 3 := by omega
      obtain ⟨G, d1, H, d2, e1, e2, hR, hWn, hl⟩ := hC.rws hL hM
      have HAp := hide (apart_any w.heap.size G H 3 d1 d2 _ _ wb hR hWn (by omega) hl)
      have HBf := hide hC.below
      clear hR hWn hl hC hrow HC hL hM
      subst e1 e2
      go_wp2_with fail
      refine (unhide HAp).mono ?_
      rintro e w9 ⟨rfl, hb⟩
      have HBz := hide ((unhide HBf).trans hb)
      clear hb HAp HBf
      go_wp2
      go_ret
      exact ⟨rfl, unhide HBz⟩
end Go.Proofs.YtpidmpefodnffaaGreatDoor
