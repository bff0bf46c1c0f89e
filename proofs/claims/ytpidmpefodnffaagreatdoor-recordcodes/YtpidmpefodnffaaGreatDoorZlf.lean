import Derived.Test.YtpidmpefodnffaaGreatDoorZrdg
import Derived.Test.YtpidmpefodnffaaGreatDoorRgzb
import Derived.Test.YtpidmpefodnffaaGreatDoorZidx
import Derived.Test.YtpidmpefodnffaaGreatDoorSmc
import Derived.Deep.Cut
import Derived.Deep.CutRange
namespace Go.Proofs.YtpidmpefodnffaaGreatDoor
open Go.RowKit Go.Lib
set_option maxHeartbeats 8000000
set_option maxRecDepth 20000
theorem cell_part5 {W : World} {g o n : Nat} {CS : Array Value} {t : TypeId} {f : Nat × Nat} {vs : List Value} (hr : W.heap[g]? = some (.cells CS t f)) (h : (CS.toList.drop o).take n = vs) (hn : vs.length = n) {j : Nat} {v : Value} (hj : vs[j]? = some v) : W.cell? ⟨g, o + j, none⟩ = some v := by
  have hl : j < n := by rw [← hn]; exact (List.getElem?_eq_some_iff.1 hj).1
  rw [cell_of_row W g (o + j) CS t f hr, ← hj, ← h, List.getElem?_take_of_lt hl, List.getElem?_drop, Array.getElem?_toList]
theorem s_ix52 {w : World} (g k : Nat) (hk : k < 3) : (Instr.indexAt 52 (.slice (some ⟨g, 0, none⟩) 3 3) (I (k : Int))).run Tryz.prog w = .ok (.pointer (some ⟨g, k * 9, none⟩)) w := by
  have h1 : (k : Int) < 3 := by omega
  have u := Tryz.underlying52
  have z := Tryz.sizeOf51
  simp [go_sem, u, z, h1]
theorem recordCodes_any (id91 : Int) (cl1 : Bs) (su1 : Bs) (va1 : Option Addr) (vc1 : Nat) (sc1 : List Bs) (hq1 : Bs) (ch1 : Bs) (un1 : Int) (st1 : Int) (fa1 : Int) (id92 : Int) (cl2 : Bs) (su2 : Bs) (va2 : Option Addr) (vc2 : Nat) (sc2 : List Bs) (hq2 : Bs) (ch2 : Bs) (un2 : Int) (st2 : Int) (fa2 : Int) (w : World) (hcl1 : cl1.length ≤ 9223372036854775807) (hsu1 : su1.length ≤ 9223372036854775807) (hsc1 : Sts w va1 sc1.length sc1) (hsl1 : sc1.length ≤ 8796093022100) (hln1 : Lns sc1) (hno1 : va1 = none → vc1 = 0) (hcl2 : cl2.length ≤ 9223372036854775807) (hsu2 : su2.length ≤ 9223372036854775807) (hsc2 : Sts w va2 sc2.length sc2) (hsl2 : sc2.length ≤ 8796093022100) (hln2 : Lns sc2) (hno2 : va2 = none → vc2 = 0) : Calls Tryz.prog 5 #[.agg #[I id91, S cl1, S su1, .slice va1 sc1.length vc1, S hq1, S ch1, I un1, I st1, I fa1], .agg #[I id92, S cl2, S su2, .slice va2 sc2.length vc2, S hq2, S ch2, I un2, I st2, I fa2]] w fun e w' => e = .returned (.bool true) ∧ Below w.heap.size w w' := by
  have HB0 := hide (show Below w.heap.size w ((w.alloc (.cells #[I id91, S cl1, S su1, .slice va1 sc1.length vc1, S hq1, S ch1, I un1, I st1, I fa1] 51)).alloc (.cells #[I id92, S cl2, S su2, .slice va2 sc2.length vc2, S hq2, S ch2, I un2, I st2, I fa2] 51)) from ((Below.refl _ w).alloc (Nat.le_refl _) _).alloc (by simp) _)
  have HK0 := hide (((show Kpr [] w from fun y9 hy9 => by cases hy9).add #[I id91, S cl1, S su1, .slice va1 sc1.length vc1, S hq1, S ch1, I un1, I st1, I fa1] 51).add #[I id92, S cl2, S su2, .slice va2 sc2.length vc2, S hq2, S ch2, I un2, I st2, I fa2] 51)
  rw [show (w.alloc (.cells #[I id91, S cl1, S su1, .slice va1 sc1.length vc1, S hq1, S ch1, I un1, I st1, I fa1] 51)).heap.size = w.heap.size + 1 by simp] at HK0
  have HA := hide (awake_any ((w.alloc (.cells #[I id91, S cl1, S su1, .slice va1 sc1.length vc1, S hq1, S ch1, I un1, I st1, I fa1] 51)).alloc (.cells #[I id92, S cl2, S su2, .slice va2 sc2.length vc2, S hq2, S ch2, I un2, I st2, I fa2] 51)))
  generalize hW0 : ((w.alloc (.cells #[I id91, S cl1, S su1, .slice va1 sc1.length vc1, S hq1, S ch1, I un1, I st1, I fa1] 51)).alloc (.cells #[I id92, S cl2, S su2, .slice va2 sc2.length vc2, S hq2, S ch2, I un2, I st2, I fa2] 51)) = W0 at *
  obtain ⟨CS, hCS⟩ : ∃ CS : Array Value, CS = #[I id91, S cl1, S su1, .slice va1 sc1.length vc1, S hq1, S ch1, I un1, I st1, I fa1, I id92, S cl2, S su2, .slice va2 sc2.length vc2, S hq2, S ch2, I un2, I st2, I fa2, I id91, S cl1, S su1, .slice va1 sc1.length vc1, S hq1, S ch1, I un1, I st1, I fa1] := ⟨_, rfl⟩
  have HC : Hid (∀ k, k < 3 → ∃ (id9 : Int) (cl : Bs) (su : Bs) (va : Option Addr) (vc : Nat) (sc : List Bs) (hq : Bs) (ch : Bs) (un : Int) (st : Int) (fa : Int), (CS.toList.drop (k * 9)).take 9 = [I id9, S cl, S su, .slice va sc.length vc, S hq, S ch, I un, I st, I fa] ∧ cl.length ≤ 9223372036854775807 ∧ su.length ≤ 9223372036854775807 ∧ Sts w va sc.length sc ∧ sc.length ≤ 8796093022100 ∧ Lns sc ∧ (va = none → vc = 0)) := hide (fun k hk => by
    rw [hCS]
    rcases (by omega : k = 0 ∨ k = 1 ∨ k = 2) with rfl | rfl | rfl
    · exact ⟨id91, cl1, su1, va1, vc1, sc1, hq1, ch1, un1, st1, fa1, rfl, hcl1, hsu1, hsc1, hsl1, hln1, hno1⟩
    · exact ⟨id92, cl2, su2, va2, vc2, sc2, hq2, ch2, un2, st2, fa2, rfl, hcl2, hsu2, hsc2, hsl2, hln2, hno2⟩
    · exact ⟨id91, cl1, su1, va1, vc1, sc1, hq1, ch1, un1, st1, fa1, rfl, hcl1, hsu1, hsc1, hsl1, hln1, hno1⟩)
  clear hcl1 hsu1 hsc1 hsl1 hln1 hno1 hcl2 hsu2 hsc2 hsl2 hln2 hno2
  go_enter Tryz.func5, Tryz.ntmps5
  go_wp2_with fail
  refine (unhide HA).mono ?_
  rintro e w1 ⟨rfl, hb⟩
  have HB1 := hide (btr (unhide HB0) hb)
  have HK1 := hide ((unhide HK0).below hb)
  clear hb HA HB0 HK0 hW0
  have b10 : w1.cell? ⟨w.heap.size, 0, none⟩ = some (I id91) := cellr (unhide HK1).tail.r0 rfl
  have b11 : w1.cell? ⟨w.heap.size, 1, none⟩ = some (S cl1) := cellr (unhide HK1).tail.r0 rfl
  have b12 : w1.cell? ⟨w.heap.size, 2, none⟩ = some (S su1) := cellr (unhide HK1).tail.r0 rfl
  have b13 : w1.cell? ⟨w.heap.size, 3, none⟩ = some (.slice va1 sc1.length vc1) := cellr (unhide HK1).tail.r0 rfl
  have b14 : w1.cell? ⟨w.heap.size, 4, none⟩ = some (S hq1) := cellr (unhide HK1).tail.r0 rfl
  have b15 : w1.cell? ⟨w.heap.size, 5, none⟩ = some (S ch1) := cellr (unhide HK1).tail.r0 rfl
  have b16 : w1.cell? ⟨w.heap.size, 6, none⟩ = some (I un1) := cellr (unhide HK1).tail.r0 rfl
  have b17 : w1.cell? ⟨w.heap.size, 7, none⟩ = some (I st1) := cellr (unhide HK1).tail.r0 rfl
  have b18 : w1.cell? ⟨w.heap.size, 8, none⟩ = some (I fa1) := cellr (unhide HK1).tail.r0 rfl
  have b20 : w1.cell? ⟨w.heap.size + 1, 0, none⟩ = some (I id92) := cellr (unhide HK1).r0 rfl
  have b21 : w1.cell? ⟨w.heap.size + 1, 1, none⟩ = some (S cl2) := cellr (unhide HK1).r0 rfl
  have b22 : w1.cell? ⟨w.heap.size + 1, 2, none⟩ = some (S su2) := cellr (unhide HK1).r0 rfl
  have b23 : w1.cell? ⟨w.heap.size + 1, 3, none⟩ = some (.slice va2 sc2.length vc2) := cellr (unhide HK1).r0 rfl
  have b24 : w1.cell? ⟨w.heap.size + 1, 4, none⟩ = some (S hq2) := cellr (unhide HK1).r0 rfl
  have b25 : w1.cell? ⟨w.heap.size + 1, 5, none⟩ = some (S ch2) := cellr (unhide HK1).r0 rfl
  have b26 : w1.cell? ⟨w.heap.size + 1, 6, none⟩ = some (I un2) := cellr (unhide HK1).r0 rfl
  have b27 : w1.cell? ⟨w.heap.size + 1, 7, none⟩ = some (I st2) := cellr (unhide HK1).r0 rfl
  have b28 : w1.cell? ⟨w.heap.size + 1, 8, none⟩ = some (I fa2) := cellr (unhide HK1).r0 rfl
  have HR := hide (show (w1.alloc (.cells #[I id91, S cl1, S su1, .slice va1 sc1.length vc1, S hq1, S ch1, I un1, I st1, I fa1, I id92, S cl2, S su2, .slice va2 sc2.length vc2, S hq2, S ch2, I un2, I st2, I fa2, I id91, S cl1, S su1, .slice va1 sc1.length vc1, S hq1, S ch1, I un1, I st1, I fa1] 51)).heap[w1.heap.size]? = some (.cells CS 51 (0, 0)) from by rw [hCS]; exact heap_alloc_new _ _)
  have HB2 := hide (bal (unhide HB1) (.cells #[I id91, S cl1, S su1, .slice va1 sc1.length vc1, S hq1, S ch1, I un1, I st1, I fa1, I id92, S cl2, S su2, .slice va2 sc2.length vc2, S hq2, S ch2, I un2, I st2, I fa2, I id91, S cl1, S su1, .slice va1 sc1.length vc1, S hq1, S ch1, I un1, I st1, I fa1] 51))
  go_wp2
  generalize w1.alloc (.cells #[I id91, S cl1, S su1, .slice va1 sc1.length vc1, S hq1, S ch1, I un1, I st1, I fa1, I id92, S cl2, S su2, .slice va2 sc2.length vc2, S hq2, S ch2, I un2, I st2, I fa2, I id91, S cl1, S su1, .slice va1 sc1.length vc1, S hq1, S ch1, I un1, I st1, I fa1] 51) = W1 at *
  generalize w1.heap.size = g at *
  have HCW := hide (Cw.start w W1 (unhide HB2))
  clear hCS HK1 HB1 HB2 b10 b11 b12 b13 b14 b15 b16 b17 b18 b20 b21 b22 b23 b24 b25 b26 b27 b28
  go_loopw [6, 7, 9] (fun l want i wr => ∃ (k : Nat) (L : List (Value × List Bs)) (M : List Value), k ≤ 3 ∧ i = .int .i64 k ∧ L.length = k ∧ M.length = k ∧ Cw w.heap.size w wr l want L M ∧ wr.heap[g]? = some (.cells CS 51 (0, 0))) (fun _ _ i _ => 3 - (Go.RowKit.intOf i).toNat)
  case atStart => exact ⟨0, [], [], by omega, rfl, rfl, rfl, unhide HCW, unhide HR⟩
  case round =>
    clear HCW HR
    obtain ⟨k, L, M, hk, rfl, hL, hM, hC, hrow⟩ := hrel
    by_cases hlt : k < 3
    · have hlt' : (k : Int) < 3 := by omega
      obtain ⟨id9, cl, su, va, vc, sc, hq, ch, un, st, fa, hV, hcl, hsu, hsc0, hsl, hln, hno⟩ := unhide HC k hlt
      have HSC := hide (hsc0.below hC.below)
      have hgl := lt_of_row hrow
      obtain ⟨t0, t1, t2, t4, t5, t6, t7, t8, u, pe, hor, hu8, Y1, Y2⟩ := codQ id9 cl su sc hq ch un st fa
      have HP := hide (fun W la lc (hs : Sts W la sc.length sc) => Print28 id9 cl su la lc sc hq ch un st fa W hcl hsu hs (by omega) hln)
      have HQ := hide (fun W (hs : Sts W va sc.length sc) => rPr29 id9 cl su va vc sc hq ch un st fa W hcl hsu hs (by omega) hln)
      have HY1 := hide Y1
      have HY2 := hide Y2
      have HOR := hide hor
      have HU := hide hu8
      have HLT := hide (fun W (hs : Sts W va sc.length sc) => lent_any va sc.length vc sc W hs hno hsl)
      have HWH := hide (fun W gl (hb : Blk gl (sc ++ [spare, spare]) W) (hs : Sts W va sc.length sc) => whole_any gl va sc.length vc sc W hb hs hsl)
      clear Y1 Y2 hor hu8 hcl hsu hsc0 hln hno
      generalize codP id9 cl su sc hq ch un st fa = PP at *
      obtain ⟨⟨pk, pv⟩, pq⟩ := PP
      dsimp only at HP HQ HY1 HY2 HOR
      have HCw := hide hC
      have HRow := hide hrow
      have HM := hide hM
      have HL := hide hL
      have c0 : wr.cell? ⟨g, k * 9, none⟩ = some (I id9) := cell_part5 hrow hV rfl (j := 0) rfl
      have c1 : wr.cell? ⟨g, k * 9 + 1, none⟩ = some (S cl) := cell_part5 hrow hV rfl (j := 1) rfl
      have c2 : wr.cell? ⟨g, k * 9 + 2, none⟩ = some (S su) := cell_part5 hrow hV rfl (j := 2) rfl
      have c3 : wr.cell? ⟨g, k * 9 + 3, none⟩ = some (.slice va sc.length vc) := cell_part5 hrow hV rfl (j := 3) rfl
      have c4 : wr.cell? ⟨g, k * 9 + 4, none⟩ = some (S hq) := cell_part5 hrow hV rfl (j := 4) rfl
      have c5 : wr.cell? ⟨g, k * 9 + 5, none⟩ = some (S ch) := cell_part5 hrow hV rfl (j := 5) rfl
      have c6 : wr.cell? ⟨g, k * 9 + 6, none⟩ = some (I un) := cell_part5 hrow hV rfl (j := 6) rfl
      have c7 : wr.cell? ⟨g, k * 9 + 7, none⟩ = some (I st) := cell_part5 hrow hV rfl (j := 7) rfl
      have c8 : wr.cell? ⟨g, k * 9 + 8, none⟩ = some (I fa) := cell_part5 hrow hV rfl (j := 8) rfl
      clear hC hrow hM hL
      have HK0 := hide ((show Kpr [] wr from fun y9 hy9 => by cases hy9).add #[I id9, S cl, S su, .slice va sc.length vc, S hq, S ch, I un, I st, I fa] 51)
      have HB0 := hide (show Below wr.heap.size wr (wr.alloc (.cells #[I id9, S cl, S su, .slice va sc.length vc, S hq, S ch, I un, I st, I fa] 51)) from (Below.refl _ wr).alloc (Nat.le_refl _) _)
      have n3 : (wr.alloc (.cells #[I id9, S cl, S su, .slice va sc.length vc, S hq, S ch, I un, I st, I fa] 51)).cell? ⟨wr.heap.size, 3, none⟩ = some (.slice va sc.length vc) := cellr (unhide HK0).r0 rfl
      have HX := hide (unhide HLT (wr.alloc (.cells #[I id9, S cl, S su, .slice va sc.length vc, S hq, S ch, I un, I st, I fa] 51)) ((unhide HSC).below (unhide HB0)))
      have NX := hide (show wr.heap.size < (wr.alloc (.cells #[I id9, S cl, S su, .slice va sc.length vc, S hq, S ch, I un, I st, I fa] 51)).heap.size by simp)
      generalize hW1 : wr.alloc (.cells #[I id9, S cl, S su, .slice va sc.length vc, S hq, S ch, I un, I st, I fa] 51) = V1 at *
      go_wp2_with fail
      refine (unhide HX).mono ?_
      rintro e w2 ⟨rfl, hbk, hb⟩
      have hK2 := (unhide HK0).below hb
      have hB2 := (unhide HB0).trans (hb.mono (unhide HB0).size)
      have NG := hide (show V1.heap.size ≠ wr.heap.size from Nat.ne_of_gt (unhide NX))
      have NL := hide (show wr.heap.size ≤ V1.heap.size from Nat.le_of_lt (unhide NX))
      generalize V1.heap.size = gl at *
      have s1 : w2.cell? ⟨wr.heap.size, 3, none⟩ = some (.slice va sc.length vc) := cellr hK2.r0 rfl
      have s2 := frz hK2.r0 3
      have HK2 : Hid (Kpr [(wr.heap.size, #[I id9, S cl, S su, .slice (some ⟨gl, 0, none⟩) sc.length (sc.length + 2), S hq, S ch, I un, I st, I fa], 51)] (w2.setCell ⟨wr.heap.size, 3, none⟩ (.slice (some ⟨gl, 0, none⟩) sc.length (sc.length + 2)))) := hide (fun y9 hy9 => by rw [List.mem_singleton.1 hy9]; exact heap_setCell_same w2 wr.heap.size 3 #[I id9, S cl, S su, .slice va sc.length vc, S hq, S ch, I un, I st, I fa] 51 (.slice (some ⟨gl, 0, none⟩) sc.length (sc.length + 2)) hK2.r0)
      have HB2 := hide (hB2.setCell (p := ⟨wr.heap.size, 3, none⟩) (Nat.le_refl _) (.slice (some ⟨gl, 0, none⟩) sc.length (sc.length + 2)))
      have HL2 : Hid (Blk gl (sc ++ [spare, spare]) (w2.setCell ⟨wr.heap.size, 3, none⟩ (.slice (some ⟨gl, 0, none⟩) sc.length (sc.length + 2)))) := hide ((setCells_other (unhide NG)).trans hbk)
      clear hb hbk hK2 hB2 HK0 HB0 HX n3 c0 c1 c2 c3 c4 c5 c6 c7 c8 hW1
      generalize hV2 : w2.setCell ⟨wr.heap.size, 3, none⟩ (.slice (some ⟨gl, 0, none⟩) sc.length (sc.length + 2)) = V2 at *
      have x0 : V2.cell? ⟨wr.heap.size, 0, none⟩ = some (I id9) := cellr (unhide HK2).r0 rfl
      have x1 : V2.cell? ⟨wr.heap.size, 1, none⟩ = some (S cl) := cellr (unhide HK2).r0 rfl
      have x2 : V2.cell? ⟨wr.heap.size, 2, none⟩ = some (S su) := cellr (unhide HK2).r0 rfl
      have x3 : V2.cell? ⟨wr.heap.size, 3, none⟩ = some (.slice (some ⟨gl, 0, none⟩) sc.length (sc.length + 2)) := cellr (unhide HK2).r0 rfl
      have x4 : V2.cell? ⟨wr.heap.size, 4, none⟩ = some (S hq) := cellr (unhide HK2).r0 rfl
      have x5 : V2.cell? ⟨wr.heap.size, 5, none⟩ = some (S ch) := cellr (unhide HK2).r0 rfl
      have x6 : V2.cell? ⟨wr.heap.size, 6, none⟩ = some (I un) := cellr (unhide HK2).r0 rfl
      have x7 : V2.cell? ⟨wr.heap.size, 7, none⟩ = some (I st) := cellr (unhide HK2).r0 rfl
      have x8 : V2.cell? ⟨wr.heap.size, 8, none⟩ = some (I fa) := cellr (unhide HK2).r0 rfl
      have HX := hide (unhide HP V2 (some ⟨gl, 0, none⟩) (sc.length + 2) (unhide HL2).part)
      go_wp2_with fail
      refine (unhide HX).mono ?_
      rintro e w3 ⟨rfl, hb⟩
      have HK3 := hide (((unhide HK2).below hb).add #[S pk, S pv] 30)
      have HB3 := hide ((unhide HB2).trans (hb.mono (unhide HB2).size) |>.alloc (Nat.le_trans (unhide HB2).size hb.size) (.cells #[S pk, S pv] 30))
      have HL3 := hide (((unhide HL2).keep hb).keep ((Below.refl _ w3).alloc (Nat.le_refl _) (.cells #[S pk, S pv] 30)))
      clear hb HK2 HB2 HL2 HX s1 s2 hV2 x0 x1 x2 x3 x4 x5 x6 x7 x8
      generalize hV3 : w3.alloc (.cells #[S pk, S pv] 30) = V3 at *
      have hrw : V3.heap[g]? = some (.cells CS 51 (0, 0)) := ((unhide HB3).block g hgl).trans (unhide HRow)
      have c0 : V3.cell? ⟨g, k * 9, none⟩ = some (I id9) := cell_part5 hrw hV rfl (j := 0) rfl
      have c1 : V3.cell? ⟨g, k * 9 + 1, none⟩ = some (S cl) := cell_part5 hrw hV rfl (j := 1) rfl
      have c2 : V3.cell? ⟨g, k * 9 + 2, none⟩ = some (S su) := cell_part5 hrw hV rfl (j := 2) rfl
      have c3 : V3.cell? ⟨g, k * 9 + 3, none⟩ = some (.slice va sc.length vc) := cell_part5 hrw hV rfl (j := 3) rfl
      have c4 : V3.cell? ⟨g, k * 9 + 4, none⟩ = some (S hq) := cell_part5 hrw hV rfl (j := 4) rfl
      have c5 : V3.cell? ⟨g, k * 9 + 5, none⟩ = some (S ch) := cell_part5 hrw hV rfl (j := 5) rfl
      have c6 : V3.cell? ⟨g, k * 9 + 6, none⟩ = some (I un) := cell_part5 hrw hV rfl (j := 6) rfl
      have c7 : V3.cell? ⟨g, k * 9 + 7, none⟩ = some (I st) := cell_part5 hrw hV rfl (j := 7) rfl
      have c8 : V3.cell? ⟨g, k * 9 + 8, none⟩ = some (I fa) := cell_part5 hrw hV rfl (j := 8) rfl
      clear hrw
      have HX := hide (unhide HQ V3 ((unhide HSC).below (unhide HB3)))
      go_wp2_with fail
      refine (unhide HX).mono ?_
      rintro e w4 ⟨rfl, hb⟩
      have HK4 := hide (((unhide HK3).below hb).add #[S pk, S pv] 30)
      have HB4 := hide ((unhide HB3).trans (hb.mono (unhide HB3).size) |>.alloc (Nat.le_trans (unhide HB3).size hb.size) (.cells #[S pk, S pv] 30))
      have HL4 := hide (((unhide HL3).keep hb).keep ((Below.refl _ w4).alloc (Nat.le_refl _) (.cells #[S pk, S pv] 30)))
      clear hb HK3 HB3 HL3 HX hV3 c0 c1 c2 c3 c4 c5 c6 c7 c8
      generalize hV4 : w4.alloc (.cells #[S pk, S pv] 30) = V4 at *
      have x3 : V4.cell? ⟨wr.heap.size, 3, none⟩ = some (.slice (some ⟨gl, 0, none⟩) sc.length (sc.length + 2)) := cellr (unhide HK4).tail.tail.r0 rfl
      have HX := hide (unhide HWH V4 gl (unhide HL4) ((unhide HSC).below (unhide HB4)))
      go_wp2_with fail
      refine (unhide HX).mono ?_
      rintro e w5 ⟨rfl, hb⟩
      have HK5 := hide ((unhide HK4).below hb)
      have HB5 := hide ((unhide HB4).trans (hb.mono (unhide HB4).size))
      clear hb HK4 HB4 HL4 HX hV4 x3 HWH HLT HP HQ NX NG
      have pb0 : w5.cell? ⟨w3.heap.size, 0, none⟩ = some (S pk) := cellr (unhide HK5).tail.r0 rfl
      have pb1 : w5.cell? ⟨w3.heap.size, 1, none⟩ = some (S pv) := cellr (unhide HK5).tail.r0 rfl
      have qb0 : w5.cell? ⟨w4.heap.size, 0, none⟩ = some (S pk) := cellr (unhide HK5).r0 rfl
      have qb1 : w5.cell? ⟨w4.heap.size, 1, none⟩ = some (S pv) := cellr (unhide HK5).r0 rfl
      have f1 := ne30s pk pv
      go_wp2_with fail
      refine (unhide HY1 w5).mono ?_
      rintro e w6 ⟨hb, va6, vc6, rfl, ho6⟩
      have HK6 := hide (((unhide HK5).below hb).add #[I t0, S t1, S t2, .slice va6 u.length vc6, S t4, S t5, I t6, I t7, I t8] 51)
      have HB6 := hide ((unhide HB5).trans (hb.mono (unhide HB5).size) |>.alloc (Nat.le_trans (unhide HB5).size hb.size) (.cells #[I t0, S t1, S t2, .slice va6 u.length vc6, S t4, S t5, I t6, I t7, I t8] 51))
      have HO6 := hide ((ho6.below ((Below.refl _ w6).alloc (Nat.le_refl _) (.cells #[I t0, S t1, S t2, .slice va6 u.length vc6, S t4, S t5, I t6, I t7, I t8] 51)) (Nat.le_refl _)).below (Below.refl _ _) (unhide HB5).size)
      clear hb HK5 HB5 HY1 ho6 pb0 pb1 qb0 qb1 f1
      generalize hV6 : w6.alloc (.cells #[I t0, S t1, S t2, .slice va6 u.length vc6, S t4, S t5, I t6, I t7, I t8] 51) = V6 at *
      have pb0 : V6.cell? ⟨w3.heap.size, 0, none⟩ = some (S pk) := cellr (unhide HK6).tail.tail.r0 rfl
      have pb1 : V6.cell? ⟨w3.heap.size, 1, none⟩ = some (S pv) := cellr (unhide HK6).tail.tail.r0 rfl
      go_wp2_with fail
      refine (unhide HY2 V6).mono ?_
      rintro e w7 ⟨hb, va7, vc7, rfl, ho7⟩
      have HK7 := hide (((unhide HK6).below hb).add #[I t0, S t1, S t2, .slice va7 u.length vc7, S t4, S t5, I t6, I t7, I t8] 51)
      have HB7 := hide ((unhide HB6).trans (hb.mono (unhide HB6).size) |>.alloc (Nat.le_trans (unhide HB6).size hb.size) (.cells #[I t0, S t1, S t2, .slice va7 u.length vc7, S t4, S t5, I t6, I t7, I t8] 51))
      have HO6a := hide (((unhide HO6).below hb (Nat.le_refl _)).below ((Below.refl _ w7).alloc (Nat.le_refl _) (.cells #[I t0, S t1, S t2, .slice va7 u.length vc7, S t4, S t5, I t6, I t7, I t8] 51)) (Nat.le_refl _))
      have HO7 := hide ((ho7.below ((Below.refl _ w7).alloc (Nat.le_refl _) (.cells #[I t0, S t1, S t2, .slice va7 u.length vc7, S t4, S t5, I t6, I t7, I t8] 51)) (Nat.le_refl _)).below (Below.refl _ _) (unhide HB6).size)
      clear hb HK6 HB6 HY2 ho7 pb0 pb1 hV6 HO6
      generalize hV7 : w7.alloc (.cells #[I t0, S t1, S t2, .slice va7 u.length vc7, S t4, S t5, I t6, I t7, I t8] 51) = V7 at *
      have y0 : V7.cell? ⟨w6.heap.size, 0, none⟩ = some (I t0) := cellr (unhide HK7).tail.r0 rfl
      have y1 : V7.cell? ⟨w6.heap.size, 1, none⟩ = some (S t1) := cellr (unhide HK7).tail.r0 rfl
      have y2 : V7.cell? ⟨w6.heap.size, 2, none⟩ = some (S t2) := cellr (unhide HK7).tail.r0 rfl
      have y3 : V7.cell? ⟨w6.heap.size, 3, none⟩ = some (.slice va6 u.length vc6) := cellr (unhide HK7).tail.r0 rfl
      have y4 : V7.cell? ⟨w6.heap.size, 4, none⟩ = some (S t4) := cellr (unhide HK7).tail.r0 rfl
      have y5 : V7.cell? ⟨w6.heap.size, 5, none⟩ = some (S t5) := cellr (unhide HK7).tail.r0 rfl
      have y6 : V7.cell? ⟨w6.heap.size, 6, none⟩ = some (I t6) := cellr (unhide HK7).tail.r0 rfl
      have y7 : V7.cell? ⟨w6.heap.size, 7, none⟩ = some (I t7) := cellr (unhide HK7).tail.r0 rfl
      have y8 : V7.cell? ⟨w6.heap.size, 8, none⟩ = some (I t8) := cellr (unhide HK7).tail.r0 rfl
      have z0 : V7.cell? ⟨w7.heap.size, 0, none⟩ = some (I t0) := cellr (unhide HK7).r0 rfl
      have z1 : V7.cell? ⟨w7.heap.size, 1, none⟩ = some (S t1) := cellr (unhide HK7).r0 rfl
      have z2 : V7.cell? ⟨w7.heap.size, 2, none⟩ = some (S t2) := cellr (unhide HK7).r0 rfl
      have z3 : V7.cell? ⟨w7.heap.size, 3, none⟩ = some (.slice va7 u.length vc7) := cellr (unhide HK7).r0 rfl
      have z4 : V7.cell? ⟨w7.heap.size, 4, none⟩ = some (S t4) := cellr (unhide HK7).r0 rfl
      have z5 : V7.cell? ⟨w7.heap.size, 5, none⟩ = some (S t5) := cellr (unhide HK7).r0 rfl
      have z6 : V7.cell? ⟨w7.heap.size, 6, none⟩ = some (I t6) := cellr (unhide HK7).r0 rfl
      have z7 : V7.cell? ⟨w7.heap.size, 7, none⟩ = some (I t7) := cellr (unhide HK7).r0 rfl
      have z8 : V7.cell? ⟨w7.heap.size, 8, none⟩ = some (I t8) := cellr (unhide HK7).r0 rfl
      have HX := hide (sameCode_same t0 t1 t2 u t4 t5 t6 t7 t8 va6 va7 vc6 vc7 V7 (unhide HO6a).sts (unhide HO7).sts (by have := unhide HU; omega))
      go_wp2_with fail
      refine (unhide HX).mono ?_
      rintro e w8 ⟨rfl, hb⟩
      have HK8 := hide ((unhide HK7).below hb)
      have HB8 := hide ((unhide HB7).trans (hb.mono (unhide HB7).size))
      have HO8 := hide ((unhide HO6a).below hb (Nat.le_refl _))
      have HO9 := hide ((unhide HO7).below hb (Nat.le_refl _))
      clear hb HK7 HB7 HX HO6a HO7 hV7 y0 z0 y1 z1 y2 z2 y3 z3 y4 z4 y5 z5 y6 z6 y7 z7 y8 z8
      rcases unhide HOR with ⟨h0, h1, h2, et0, et1, et2, et4, et5, et6, et7, et8⟩ | ⟨h0, h1⟩
      · subst h0 h1 h2 et0 et1 et2 et4 et5 et6 et7 et8
        clear HOR
        have R6 := hide (unhide HK8).tail.r0
        have RG := hide (((unhide HB8).block g hgl).trans (unhide HRow))
        have GL := hide (show g < w8.heap.size from Nat.lt_of_lt_of_le hgl (unhide HB8).size)
        have HV9 := hide hV
        have HSB := hide ((unhide HSC).below (unhide HB8))
        have HX := hide (fun W (hb : Below w8.heap.size w8 W) => sameCode_same t0 t1 t2 u t4 t5 t6 t7 t8 va6 va vc6 vc W ((unhide HO8).below hb (Nat.le_refl _)).sts ((unhide HSB).below hb) (by have := unhide HU; omega))
        clear hV
        go_upto_region 21 with fail
        refine rzb5 w6.heap.size g (k * 9) k #[I t0, S t1, S t2, .slice va6 u.length vc6, S t4, S t5, I t6, I t7, I t8] #[I t0, S t1, S t2, .slice va u.length vc, S t4, S t5, I t6, I t7, I t8] rfl (by rfl) (by rfl) _ w8 (by simp) rfl rfl rfl (fun _ _ W => Below w8.heap.size w8 W) ⟨(), (Below.refl _ _).drew⟩ (fun _ _ _ _ _ hW => hW)
          (fun c L W hW _ => s_ldr (T := 51) (n := 9) (fun _ => by kernel_rfl) (fun _ => by kernel_rfl) (o := 0) ((hW.block _ (lt_of_row (unhide R6))).trans (unhide R6)) [I t0, S t1, S t2, .slice va6 u.length vc6, S t4, S t5, I t6, I t7, I t8] rfl rfl)
          (fun W => s_ix52 g k hlt)
          (fun c L W hW _ _ => s_ldr (T := 51) (n := 9) (fun _ => by kernel_rfl) (fun _ => by kernel_rfl) (o := k * 9) ((hW.block g (unhide GL)).trans (unhide RG)) [I t0, S t1, S t2, .slice va u.length vc, S t4, S t5, I t6, I t7, I t8] rfl (unhide HV9))
          (fun c L W hW _ _ _ => (unhide HX W hW).mono fun e w' q9 => ⟨c, fun _ _ => rfl, q9.1, hW.trans (q9.2.mono hW.size)⟩) ?_
        intro c L9 W hall hW
        simp only [Act.put, List.setIfInBounds_toArray, List.set_cons_succ, List.set_cons_zero]
        have HBx := hide ((unhide HB8).trans (hW.mono (unhide HB8).size))
        have HKx := hide ((unhide HK8).below hW)
        have HOx := hide ((unhide HO8).below hW (Nat.le_refl _))
        have HOy := hide ((unhide HO9).below hW (Nat.le_refl _))
        clear hW hall HX R6 RG GL HV9 HSB HB8 HK8 HO8 HO9
        have HCn := hide ((unhide HCw).keep (unhide HBx))
        have HRg := hide (((unhide HBx).block g hgl).trans (unhide HRow))
        have yc : W.cell? ⟨w6.heap.size, 3, none⟩ = some (.slice va6 u.length vc6) := cellr (unhide HKx).tail.r0 rfl
        go_wp2_with (first | (at_builtin; refine pushA rfl (.tmp 107) (.tmp 110) rfl _ (L.map (·.1)) rfl W va6 u.length vc6 (unhide HCn).s1 (by rfl) (by have := unhide HL; simp; omega) (unhide HCn).sz ?_; intro l9 w9 hs9 hg9 hat9; have HC1 := hide ((unhide HCn).push1 ((unhide HM).trans (unhide HL).symm) (unhide HCw).old (unhide HOx) (unhide HCw).sz (unhide HU) hs9 hg9 hat9); have zc : w9.cell? ⟨w7.heap.size, 3, none⟩ = some (.slice va7 u.length vc7) := cellr (grown_row (unhide HCn).s1 hg9 (unhide HKx).r0 (show (51 : Nat) ≠ 22 by decide)) rfl; have HO10 := hide (own_grown (unhide HCn).s1 hg9 (unhide HOy)); have HRh := hide (grown_row (unhide HCn).s1 hg9 (unhide HRg) (by decide)); clear hs9 hg9 hat9) | (at_builtin; refine pushA rfl (.tmp 112) (.tmp 115) rfl _ M rfl w9 va7 u.length vc7 (unhide HC1).s2 (by rfl) (by have := unhide HM; omega) (unhide HC1).sz ?_; intro q9 w10 hs10 hg10 hat10))
        refine ⟨⟨k + 1, L ++ [(.slice va6 u.length vc6, u)], M ++ [.slice va7 u.length vc7], by omega, by go_num, by have := unhide HL; simp; omega, by have := unhide HM; simp; omega, (unhide HC1).push2 ((unhide HM).trans (unhide HL).symm) ((unhide HO10).below (Below.refl _ _) (unhide HCw).sz) hs10 hg10 hat10, grown_row (unhide HC1).s2 hg10 (unhide HRh) (by decide)⟩, ?_⟩
        simp [Go.RowKit.intOf]; omega
      · subst h0 h1
        clear HOR
        have HCn := hide ((unhide HCw).keep (unhide HB8))
        have HRg := hide (((unhide HB8).block g hgl).trans (unhide HRow))
        have yc : w8.cell? ⟨w6.heap.size, 3, none⟩ = some (.slice va6 u.length vc6) := cellr (unhide HK8).tail.r0 rfl
        go_wp2_with (first | (at_builtin; refine pushA rfl (.tmp 107) (.tmp 110) rfl _ (L.map (·.1)) rfl w8 va6 u.length vc6 (unhide HCn).s1 (by rfl) (by have := unhide HL; simp; omega) (unhide HCn).sz ?_; intro l9 w9 hs9 hg9 hat9; have HC1 := hide ((unhide HCn).push1 ((unhide HM).trans (unhide HL).symm) (unhide HCw).old (unhide HO8) (unhide HCw).sz (unhide HU) hs9 hg9 hat9); have zc : w9.cell? ⟨w7.heap.size, 3, none⟩ = some (.slice va7 u.length vc7) := cellr (grown_row (unhide HCn).s1 hg9 (unhide HK8).r0 (show (51 : Nat) ≠ 22 by decide)) rfl; have HO10 := hide (own_grown (unhide HCn).s1 hg9 (unhide HO9)); have HRh := hide (grown_row (unhide HCn).s1 hg9 (unhide HRg) (by decide)); clear hs9 hg9 hat9) | (at_builtin; refine pushA rfl (.tmp 112) (.tmp 115) rfl _ M rfl w9 va7 u.length vc7 (unhide HC1).s2 (by rfl) (by have := unhide HM; omega) (unhide HC1).sz ?_; intro q9 w10 hs10 hg10 hat10))
        refine ⟨⟨k + 1, L ++ [(.slice va6 u.length vc6, u)], M ++ [.slice va7 u.length vc7], by omega, by go_num, by have := unhide HL; simp; omega, by have := unhide HM; simp; omega, (unhide HC1).push2 ((unhide HM).trans (unhide HL).symm) ((unhide HO10).below (Below.refl _ _) (unhide HCw).sz) hs10 hg10 hat10, grown_row (unhide HC1).s2 hg10 (unhide HRh) (by decide)⟩, ?_⟩
        simp [Go.RowKit.intOf]; omega
    · have hd : decide (k < 3) = false := by simp; omega
      obtain rfl : k = 3 := by omega
      obtain ⟨G, d1, H, d2, e1, e2, hR, hWn, hl⟩ := hC.rws hL hM
      have HAp := hide (apart_any w.heap.size G H 3 d1 d2 _ _ wr hR hWn (by omega) hl)
      have HBf := hide hC.below
      clear hR hWn hl hC hrow HC hL hM
      subst e1 e2
      go_wp2_with fail
      refine (unhide HAp).mono ?_
      rintro e w9 ⟨rfl, hb⟩
      have HBz := hide ((unhide HBf).trans hb)
      clear hb HAp HBf
      go_wp2
      go_ret
      exact ⟨rfl, unhide HBz⟩
end Go.Proofs.YtpidmpefodnffaaGreatDoor
