import Derived.Test.YtllialbdofklgaaGreatDoorNeg
namespace Go.Proofs.YtllialbdofklgaaGreatDoor
open Go.RowKit
set_option maxHeartbeats 16000000
set_option maxRecDepth 8000
theorem nodeFinds_any (n : Nd) (ka va ia : Option Addr) (kc vc ic : Nat) (key a b : Bs) (w : World) (h : NA n ka va ia w) (z1 : ka = none → kc = 0) (z2 : va = none → vc = 0) (z3 : ia = none → ic = 0)
    (b1 : n.keys.length ≤ 9223372036854775807) (b2 : n.vals.length ≤ 9223372036854775807) (b3 : n.kids.length ≤ 9223372036854775807) (L1 : ∀ j, (n.keys.getD j []).length ≤ 9223372036854775807) (L2 : ∀ j, (n.vals.getD j []).length ≤ 9223372036854775807)
    (hk : key.length ≤ 9223372036854775807) (ha : a.length ≤ 9223372036854775807) (hb : b.length ≤ 9223372036854775807) :
    Calls Tryz.prog 4 #[nda n ka va ia kc vc ic, S key, S a, S b] w fun e w' => e = .returned (.bool true) ∧ Below w.heap.size w w' := by
  have hA := (Below.refl w.heap.size w).alloc (Nat.le_refl _) (.cells #[.bool n.leaf, .slice ka n.keys.length kc, .slice va n.vals.length vc, .slice ia n.kids.length ic] 25)
  have hg := heap_alloc_new w (.cells #[.bool n.leaf, .slice ka n.keys.length kc, .slice va n.vals.length vc, .slice ia n.kids.length ic] 25)
  generalize hW0 : w.alloc (.cells #[.bool n.leaf, .slice ka n.keys.length kc, .slice va n.vals.length vc, .slice ia n.kids.length ic] 25) = W0 at hA hg
  have hN := fun {W : World} (q : Below W0.heap.size W0 W) => (h.below hA).below q
  have hnl := nwe_le n
  have t1l : add3 (nwe n) key.length ≤ 4294967296 := by rcases add3_le (nwe n) key.length with q | q <;> omega
  have t2l : add3 a.length b.length ≤ 4294967296 := by rcases add3_le a.length b.length with q | q <;> omega
  have X0 := hide (nodeWeighs_any n ka va ia kc vc ic W0 (hN (Below.refl _ _)) b1 b2 b3 L1 L2)
  have X1 := hide (fun W => addsUp_any (nwe n) key.length W (by omega) hk)
  have X2 := hide (fun W => addsUp_any a.length b.length W ha hb)
  have X3 := hide (fun W => addsUp_any (add3 (nwe n) key.length) (add3 a.length b.length) W (by omega) (by omega))
  have hnd : nda n ka va ia kc vc ic = .agg #[.bool n.leaf, .slice ka n.keys.length kc, .slice va n.vals.length vc, .slice ia n.kids.length ic] := rfl
  have HA := hide hA
  have HG := hide hg
  have hz := lt_of_row hg
  obtain ⟨c0, c1, c2, c3⟩ := box4 hg (Below.refl _ _) hz
  by_cases hbig : 2147483647 < add3 (add3 (nwe n) key.length) (add3 a.length b.length)
  · rw [hnd] at X0 ⊢
    generalize add3 (add3 (nwe n) key.length) (add3 a.length b.length) = T3 at *
    generalize add3 (nwe n) key.length = T1 at *
    generalize add3 a.length b.length = T2 at *
    generalize nwe n = T0 at *
    have h' : decide ((2147483647 : Int) < (T3 : Int)) = true := by rw [decide_eq_true_eq]; omega
    clear hA hg hN h hnd L1 L2
    generalize n.keys.length = kl at *
    generalize n.vals.length = vl at *
    generalize n.kids.length = il at *
    generalize n.leaf = lf at *
    go_enter Tryz.func4, Tryz.ntmps4
    go_wp2_with fail
    refine (unhide X0).mono ?_
    rintro e w1 ⟨rfl, q1⟩
    have HB := hide ((unhide HA).trans (q1.mono (unhide HA).size))
    clear q1 X0 c0 c1 c2 c3 hW0
    go_wp2_with fail
    refine (unhide X1 _).mono ?_
    rintro e w2 ⟨rfl, rfl⟩
    go_wp2_with fail
    refine (unhide X2 _).mono ?_
    rintro e w2 ⟨rfl, rfl⟩
    go_wp2_with fail
    refine (unhide X3 _).mono ?_
    rintro e w2 ⟨rfl, rfl⟩
    go_wp2
    go_ret
    exact ⟨rfl, unhide HB⟩
  · have hs := add3_sm (show add3 (add3 (nwe n) key.length) (add3 a.length b.length) ≤ 2147483647 by omega)
    have hs1 := add3_sm (show add3 (nwe n) key.length ≤ 2147483647 by omega)
    have hs2 := add3_sm (show add3 a.length b.length ≤ 2147483647 by omega)
    have hNB := nwe_nb (show nwe n ≤ 2147483647 by omega)
    have X4 := hide (fun W => awake_any W)
    have X5 := hide (fun W (q : Below W0.heap.size W0 W) => lentN_any n ka va ia kc vc ic W (hN q) hNB z1 z2 z3)
    have X6 := hide (fun W g1 g2 g3 (q : LN n g1 g2 g3 W) => find_any n (some ⟨g1, 0, none⟩) (some ⟨g2, 0, none⟩) (some ⟨g3, 0, none⟩) (n.keys.length + 4) (n.vals.length + 4) (n.kids.length + 4) key W q.na hNB)
    have X7 := hide (fun W (q : Below W0.heap.size W0 W) => refFind_any n ka va ia kc vc ic key W (hN q) hNB)
    have X8 := hide (fun W g1 g2 g3 (q : Below W0.heap.size W0 W) (l : LN n g1 g2 g3 W) => whole_any n g1 g2 g3 ka va ia kc vc ic W l (hN q) hNB)
    have X9 := hide (fun W => between_any a b W (by omega) (by omega))
    have X10 := hide (fun W => refBetween_any a b W (by omega) (by omega))
    rw [hnd] at X0 X5 X7 X8 ⊢
    generalize hf : fnd n key = F at *
    generalize btw a b = K at *
    generalize add3 (add3 (nwe n) key.length) (add3 a.length b.length) = T3 at *
    generalize add3 (nwe n) key.length = T1 at *
    generalize add3 a.length b.length = T2 at *
    generalize nwe n = T0 at *
    have h' : decide ((2147483647 : Int) < (T3 : Int)) = false := by rw [decide_eq_false_iff_not]; omega
    clear hA hg hN h hnd L1 L2 hNB hs hs1 hs2 hf
    go_enter Tryz.func4, Tryz.ntmps4
    go_wp2_with fail
    refine (unhide X0).mono ?_
    rintro e w1 ⟨rfl, q1⟩
    have B1 := hide q1
    clear q1 X0 c0 c1 c2 c3 hW0
    go_wp2_with fail
    refine (unhide X1 _).mono ?_
    rintro e w2 ⟨rfl, rfl⟩
    go_wp2_with fail
    refine (unhide X2 _).mono ?_
    rintro e w2 ⟨rfl, rfl⟩
    go_wp2_with fail
    refine (unhide X3 _).mono ?_
    rintro e w2 ⟨rfl, rfl⟩
    go_wp2_with fail
    refine (unhide X4 _).mono ?_
    rintro e w3 ⟨rfl, q3⟩
    have b3' := (unhide B1).trans (q3.mono (unhide B1).size)
    obtain ⟨c0, c1, c2, c3⟩ := box4 (unhide HG) b3' hz
    have l3 := Nat.lt_of_lt_of_le hz b3'.size
    have B3 := hide b3'
    have x5 := hide (unhide X5 w3 b3')
    clear q3 b3' X1 X2 X3 X4 X5 B1
    go_wp2_with fail
    refine (unhide x5).mono ?_
    rintro e w4 ⟨g1, g2, g3, rfl, ln4, q4⟩
    clear c0 c1 c2 c3 x5 l3
    have b4 := (unhide B3).trans (q4.mono (unhide B3).size)
    have hq := heap_alloc_new w4 (.cells #[.bool false, .slice none 0 0, .slice none 0 0, .slice none 0 0] 25)
    have hb3 := (Below.refl w4.heap.size w4).alloc (Nat.le_refl _) (.cells #[.bool false, .slice none 0 0, .slice none 0 0, .slice none 0 0] 25)
    have ht := setRow_heap _ _ _ #[.bool n.leaf, .slice (some ⟨g1, 0, none⟩) n.keys.length (n.keys.length + 4), .slice (some ⟨g2, 0, none⟩) n.vals.length (n.vals.length + 4), .slice (some ⟨g3, 0, none⟩) n.kids.length (n.kids.length + 4)] 25 _ hq
    have hb4 := (setRow_only (w4.alloc (.cells #[.bool false, .slice none 0 0, .slice none 0 0, .slice none 0 0] 25)) w4.heap.size #[.bool n.leaf, .slice (some ⟨g1, 0, none⟩) n.keys.length (n.keys.length + 4), .slice (some ⟨g2, 0, none⟩) n.vals.length (n.vals.length + 4), .slice (some ⟨g3, 0, none⟩) n.kids.length (n.kids.length + 4)]).below hb3 hb3.size (fun k e => by omega)
    generalize hW5 : (w4.alloc (.cells #[.bool false, .slice none 0 0, .slice none 0 0, .slice none 0 0] 25)).setRow w4.heap.size #[.bool n.leaf, .slice (some ⟨g1, 0, none⟩) n.keys.length (n.keys.length + 4), .slice (some ⟨g2, 0, none⟩) n.vals.length (n.vals.length + 4), .slice (some ⟨g3, 0, none⟩) n.kids.length (n.kids.length + 4)] = W5 at ht hb4
    have HW5 := hide hW5
    have HQ := hide hq
    have HT5 := hide ht
    have l5 := lt_of_row ht
    have ln5 := ln4.below hb4
    have B5 := hide (b4.trans (hb4.mono b4.size))
    have LN5 := hide ln5
    have x6 := hide (unhide X6 W5 g1 g2 g3 ln5)
    have hlv : nda n (some ⟨g1, 0, none⟩) (some ⟨g2, 0, none⟩) (some ⟨g3, 0, none⟩) (n.keys.length + 4) (n.vals.length + 4) (n.kids.length + 4) = .agg #[.bool n.leaf, .slice (some ⟨g1, 0, none⟩) n.keys.length (n.keys.length + 4), .slice (some ⟨g2, 0, none⟩) n.vals.length (n.vals.length + 4), .slice (some ⟨g3, 0, none⟩) n.kids.length (n.kids.length + 4)] := rfl
    have hlv2 : lnv n g1 g2 g3 = .agg #[.bool n.leaf, .slice (some ⟨g1, 0, none⟩) n.keys.length (n.keys.length + 4), .slice (some ⟨g2, 0, none⟩) n.vals.length (n.vals.length + 4), .slice (some ⟨g3, 0, none⟩) n.kids.length (n.kids.length + 4)] := rfl
    rw [hlv] at x6
    have X8' := hide (fun W (q : Below W5.heap.size W5 W) => unhide X8 W g1 g2 g3 ((unhide B5).trans (q.mono (unhide B5).size)) (ln5.below q))
    rw [hlv2] at X8'
    rw [hlv2]
    obtain ⟨c0, c1, c2, c3⟩ := box4 ht (Below.refl _ _) l5
    clear hq hb3 ht hb4 hW5 ln4 ln5 hlv hlv2 X6 X8 q4 b4
    generalize n.keys.length = kl at *
    generalize n.vals.length = vl at *
    generalize n.kids.length = il at *
    generalize n.leaf = lf at *
    go_wp2_with (first | (refine wp_st25 rfl (.tmp 10) (.tmp 30) rfl w4.heap.size (by rfl) lf (some ⟨g1, 0, none⟩) (some ⟨g2, 0, none⟩) (some ⟨g3, 0, none⟩) kl (kl + 4) vl (vl + 4) il (il + 4) (by rfl) _ rfl (unhide HQ) ?_; rw [unhide HW5]) | fail)
    refine (unhide x6).mono ?_
    rintro e w6 ⟨rfl, q6⟩
    clear c0 c1 c2 c3 HQ HW5 x6
    have B56 := hide q6
    have b6 := (unhide B5).trans (q6.mono (unhide B5).size)
    obtain ⟨c0, c1, c2, c3⟩ := box4 (unhide HG) b6 hz
    have l6 := Nat.lt_of_lt_of_le hz b6.size
    have x7 := hide (unhide X7 w6 b6)
    clear q6 b6 X7
    go_wp2_with fail
    refine (unhide x7).mono ?_
    rintro e w7 ⟨rfl, q7⟩
    clear c0 c1 c2 c3 x7 l6
    have q57 := (unhide B56).trans (q7.mono (unhide B56).size)
    have b7 := (unhide B5).trans (q57.mono (unhide B5).size)
    obtain ⟨c0, c1, c2, c3⟩ := box4 (unhide HG) b7 hz
    obtain ⟨d0, d1, d2, d3⟩ := box4 (unhide HT5) q57 l5
    have l7 := Nat.lt_of_lt_of_le hz b7.size
    have l7' := Nat.lt_of_lt_of_le l5 q57.size
    have x8 := hide (unhide X8' w7 q57)
    have B7 := hide ((unhide HA).trans (b7.mono (unhide HA).size))
    clear q7 q57 b7 X8'
    go_wp2_with fail
    refine (unhide x8).mono ?_
    rintro e w8 ⟨rfl, q8⟩
    clear c0 c1 c2 c3 d0 d1 d2 d3 x8 l7 l7'
    have B8 := hide ((unhide B7).trans (q8.mono (unhide B7).size))
    have x9 := hide (unhide X9 w8)
    clear q8 X9
    go_wp2_with fail
    refine (unhide x9).mono ?_
    rintro e w9 ⟨rfl, q9⟩
    have B9 := hide ((unhide B8).trans (q9.mono (unhide B8).size))
    have x10 := hide (unhide X10 w9)
    clear q9 X10 x9
    go_wp2_with fail
    refine (unhide x10).mono ?_
    rintro e w10 ⟨rfl, rfl⟩
    go_wp2
    go_ret
    exact ⟨by first | rfl | simp, unhide B9⟩
end Go.Proofs.YtllialbdofklgaaGreatDoor
