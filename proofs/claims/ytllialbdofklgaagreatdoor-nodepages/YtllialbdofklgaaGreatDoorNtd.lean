import Derived.Test.YtllialbdofklgaaGreatDoorZnpb
import Derived.Test.YtllialbdofklgaaGreatDoorNtc
import Derived.Test.YtllialbdofklgaaGreatDoorZrgsd
namespace Go.Proofs.YtllialbdofklgaaGreatDoor
open Go.RowKit
set_option linter.unusedVariables false
set_option maxHeartbeats 16000000
set_option maxRecDepth 8000
theorem pages_same2 (k nu bi : Int) (la lb : Option Addr) (ln ca cb : Nat) (L : List Int) (x : Bs) (w : World) (ha : Ins w la ln L) (hb : Ins w lb ln L) (hn : ln ≤ 4294967296) :
    Calls Tryz.prog 21 #[.agg #[I k, I nu, I bi, .slice la ln ca, S x], .agg #[I k, I nu, I bi, .slice lb ln cb, S x]] w fun e w' => e = .returned (.bool true) ∧ Below w.heap.size w w' := by
  have hA := (Below.refl w.heap.size w).alloc (Nat.le_refl _) (.cells #[I k, I nu, I bi, .slice la ln ca, S x] 27)
  have g1 := heap_alloc_new w (.cells #[I k, I nu, I bi, .slice la ln ca, S x] 27)
  generalize hW1 : w.alloc (.cells #[I k, I nu, I bi, .slice la ln ca, S x] 27) = W1 at hA g1
  have hA2 := hA.alloc hA.size (.cells #[I k, I nu, I bi, .slice lb ln cb, S x] 27)
  have g12 := ((Below.refl W1.heap.size W1).alloc (Nat.le_refl _) (.cells #[I k, I nu, I bi, .slice lb ln cb, S x] 27)).block _ (lt_of_row g1) |>.trans g1
  have g2 := heap_alloc_new W1 (.cells #[I k, I nu, I bi, .slice lb ln cb, S x] 27)
  generalize hW2 : W1.alloc (.cells #[I k, I nu, I bi, .slice lb ln cb, S x] 27) = W2 at hA2 g12 g2
  have H := hide (ints_any la lb ln ln ca cb L L W2 (ha.below hA2) (hb.below hA2) hn hn)
  have HA := hide hA2
  obtain ⟨c0, c1, c2, c3, c4⟩ := box5 g12 (Below.refl _ _) (lt_of_row g12)
  obtain ⟨d0, d1, d2, d3, d4⟩ := box5 g2 (Below.refl _ _) (lt_of_row g2)
  have G1 := hide g12
  have G2 := hide g2
  have l1 := lt_of_row g12
  have l2 := lt_of_row g2
  clear hA hA2 g1 g12 g2 ha hb
  rw [decide_eq_true rfl] at H
  go_enter Tryz.func21, Tryz.ntmps21
  go_wp2_with fail
  refine (unhide H).mono ?_
  rintro e w1 ⟨rfl, q, rfl⟩
  have HB := hide (bel_q (unhide HA) q)
  clear c0 c1 c2 c3 c4 d0 d1 d2 d3 d4
  obtain ⟨c0, c1, c2, c3, c4⟩ := box5 (unhide G1) (bel_q (Below.refl W2.heap.size W2) q) l1
  obtain ⟨d0, d1, d2, d3, d4⟩ := box5 (unhide G2) (bel_q (Below.refl W2.heap.size W2) q) l2
  have m1 : w.heap.size < (W2.drewN q).heap.size := l1
  have m2 : W1.heap.size < (W2.drewN q).heap.size := l2
  clear hW1 hW2
  generalize W2.drewN q = W3 at *
  go_wp2
  go_ret
  exact ⟨ret_bool (by simp), unhide HB⟩
theorem owns_lo {B e n m : Nat} {w : World} {v : Value} {xs : List Value} (h : w.ownsRow B e n v m xs) : ∀ i, v.ownBlock = some i → B ≤ i := by
  intro i hi
  rcases h.2 with ⟨e1, _⟩ | ⟨g, cap, cur, e1, e2, _⟩
  · rw [e1] at hi; cases hi
  · rw [e1] at hi; cases hi; exact e2
theorem pvl_nb {n : Nd} (hb : NB n) : (pvl n).length ≤ 4294967296 := by
  unfold pvl
  split
  · split
    · simp
    · exact hb.i
  · simp
/-- Book.laid 15. -/
theorem bookLaid_any (n : Nd) (B b : Nat) (ka va ia kb vb ib : Option Addr) (kc vc ic kd vd jd : Nat) (vT vU vN vM : Value) (tT tU tN tM : List Value) (w : World) (hk : ∀ W, Only (bkt B w) w W → NA n ka va ia W ∧ NA n kb vb ib W) (hb : NB n)
    (z3 : ib = none → jd = 0) (di : n.kids.length ≤ jd) (hjd : jd ≤ 9223372036854775807) (hB : Bx B b vT vU vN vM tT tU tN tM w) (lN : tN.length ≤ 100000) (lM : tM.length ≤ 100000) :
    Calls Tryz.prog 15 #[.pointer (some ⟨b, 0, none⟩), nda n ka va ia kc vc ic, nda n kb vb ib kd vd jd] w fun e w' => e = .returned (.bool true) ∧ ∃ vN' vM' vI cI, Bx B b vT vU vN' vM' tT tU (tN ++ [vI]) (tM ++ [cI]) w' ∧ (w'.ownsRow 0 3 1 vI (pvl n).length ((pvl n).map fun z => I z) ∧ ∀ i, vI.ownBlock = some i → w.heap.size ≤ i) ∧ (w'.ownsRow 0 3 1 cI (pvl n).length ((pvl n).map fun z => I z) ∧ ∀ i, cI.ownBlock = some i → w.heap.size ≤ i) ∧ Only (bkt B w) w w' := by
  obtain ⟨h, g⟩ := hk w (Only.refl _ _)
  have HKK := hide hk
  have tb := two_box w #[.bool n.leaf, .slice ka n.keys.length kc, .slice va n.vals.length vc, .slice ia n.kids.length ic] #[.bool n.leaf, .slice kb n.keys.length kd, .slice vb n.vals.length vd, .slice ib n.kids.length jd]
  have hs2 : ((w.alloc (.cells #[.bool n.leaf, .slice ka n.keys.length kc, .slice va n.vals.length vc, .slice ia n.kids.length ic] 25)).alloc (.cells #[.bool n.leaf, .slice kb n.keys.length kd, .slice vb n.vals.length vd, .slice ib n.kids.length jd] 25)).heap.size = w.heap.size + 1 + 1 := by simp
  generalize hW2 : (w.alloc (.cells #[.bool n.leaf, .slice ka n.keys.length kc, .slice va n.vals.length vc, .slice ia n.kids.length ic] 25)).alloc (.cells #[.bool n.leaf, .slice kb n.keys.length kd, .slice vb n.vals.length vd, .slice ib n.kids.length jd] 25) = W2 at tb hs2
  obtain ⟨hA, k1, k2⟩ := tb
  have X1 := hide (page_any n ka va ia kc vc ic W2 (h.below hA) hb)
  have X2 := hide (fun W (q : Below W2.heap.size W2 W) => refPage_any n kb vb ib kd vd jd W ((g.below hA).below q) hb z3 di hjd)
  have X3 := hide (fun W (q : NA n ka va ia W) => size_any n ka va ia kc vc ic W q hb)
  have X4 := hide (fun W (q : NA n kb vb ib W) => refSize_any n kb vb ib kd vd jd W q hb)
  have HN := hide (And.intro (h.below hA) (g.below hA))
  have HPL := hide (pvl_nb hb)
  have hsz := siz_le hb
  have HA := hide hA
  have HK1 := hide k1
  have HK2 := hide k2
  have HBx := hide (hB.below hA)
  have HL := hide (And.intro lN lM)
  have HS2 := hide hs2
  obtain ⟨c0, c1, c2, c3⟩ := box4 k1 (Below.refl _ _) (lt_of_row k1)
  have e1 := lt_of_row k1
  have e2 := lt_of_row k2
  clear hA k1 k2 h g hk hb z3 di hjd hB lN lM hs2
  have hwl : wrv n ≤ 102 := by unfold wrv; split <;> (try split) <;> (try split) <;> omega
  unfold nda at X1 X2 X3 X4 ⊢
  generalize hpl : pvl n = PL at *
  generalize pvk n = pk at *
  generalize pvb n = pb at *
  generalize wrv n = er at *
  generalize n.siz = sz at *
  clear hpl
  generalize hll : PL.length = pl at *
  have HLL := hide hll
  clear hll
  generalize n.leaf = lf at *
  generalize n.keys.length = kl at *
  generalize n.vals.length = vl at *
  generalize n.kids.length = il at *
  go_enter Tryz.func15, Tryz.ntmps15
  go_wp2_with fail
  refine (unhide X1).mono ?_
  rintro e w3 ⟨p1, y1, rfl, r3, b3⟩
  clear X1 c0 c1 c2 c3 hW2
  have HLo3 := hide (owns_lo r3)
  have r3' := owns_base (Nat.zero_le _) r3
  have HR3 := hide r3'
  have HB3 := hide b3
  have hq5 := heap_alloc_new w3 (.cells #[I 0, I 0, I 0, .slice none 0 0, S []] 27)
  have hb5 := (Below.refl w3.heap.size w3).alloc (Nat.le_refl _) (.cells #[I 0, I 0, I 0, .slice none 0 0, S []] 27)
  have ht5 := setRow_heap _ _ _ #[I pk, I 0, I 0, .slice p1 pl y1, S pb] 27 _ hq5
  have hc5 := (setRow_only (w3.alloc (.cells #[I 0, I 0, I 0, .slice none 0 0, S []] 27)) w3.heap.size #[I pk, I 0, I 0, .slice p1 pl y1, S pb]).below hb5 hb5.size (fun k e => by omega)
  generalize hW5 : (w3.alloc (.cells #[I 0, I 0, I 0, .slice none 0 0, S []] 27)).setRow w3.heap.size #[I pk, I 0, I 0, .slice p1 pl y1, S pb] = W5 at ht5 hc5
  have HW5 := hide hW5
  have HQ5 := hide hq5
  have HT5 := hide ht5
  have HC5 := hide hc5
  have b5 := b3.trans (hc5.mono b3.size)
  have HB5 := hide b5
  obtain ⟨d0, d1, d2, d3⟩ := box4 (unhide HK2) b5 e2
  have e6 := Nat.lt_of_lt_of_le e2 b5.size
  have x2 := hide (unhide X2 W5 b5)
  clear hq5 hb5 ht5 hc5 hW5 b5 X2 r3 r3' b3
  go_wp2_with (first | (refine wp_st27 rfl (.tmp 7) (.tmp 15) rfl w3.heap.size (by rfl) pk 0 0 p1 pl y1 pb (by rfl) _ rfl (unhide HQ5) ?_; rw [unhide HW5]) | fail)
  refine (unhide x2).mono ?_
  rintro e w6 ⟨q1, z1, rfl, r6, b6⟩
  clear x2 d0 d1 d2 d3 e6 HQ5 HW5
  have hq7 := heap_alloc_new w6 (.cells #[I 0, I 0, I 0, .slice none 0 0, S []] 27)
  have hb7 := (Below.refl w6.heap.size w6).alloc (Nat.le_refl _) (.cells #[I 0, I 0, I 0, .slice none 0 0, S []] 27)
  have ht7 := setRow_heap _ _ _ #[I pk, I 0, I 0, .slice q1 pl z1, S pb] 27 _ hq7
  have hc7 := (setRow_only (w6.alloc (.cells #[I 0, I 0, I 0, .slice none 0 0, S []] 27)) w6.heap.size #[I pk, I 0, I 0, .slice q1 pl z1, S pb]).below hb7 hb7.size (fun k e => by omega)
  generalize hW7 : (w6.alloc (.cells #[I 0, I 0, I 0, .slice none 0 0, S []] 27)).setRow w6.heap.size #[I pk, I 0, I 0, .slice q1 pl z1, S pb] = W7 at ht7 hc7
  have HW7 := hide hW7
  have HQ7 := hide hq7
  have b57 := b6.trans (hc7.mono b6.size)
  have b37 := (unhide HC5).trans (b57.mono (unhide HC5).size)
  have b47 := (unhide HB5).trans (b57.mono (unhide HB5).size)
  have hx7 := (b57.block _ (lt_of_row (unhide HT5))).trans (unhide HT5)
  have RR1 := owns_below (unhide HR3) b37
  have RR2 := owns_below r6 hc7
  have fI : ∀ {p : Option Addr} {c : Nat}, W7.ownsRow 0 3 1 (.slice p pl c) pl (PL.map fun z => I z) → Ins W7 p pl PL := fun {p c} q => by
    have q2 := q
    rw [← unhide HLL] at q2
    obtain ⟨p', cap, e, s, -⟩ := Ins.of q2
    injection e with e1 e2 e3
    subst e1
    rw [← unhide HLL]
    exact s
  have x3 := hide (pages_same2 pk 0 0 p1 q1 pl y1 z1 PL pb W7 (fI RR1) (fI RR2) (unhide HPL))
  obtain ⟨c0, c1, c2, c3, c4⟩ := box5 hx7 (Below.refl _ _) (lt_of_row hx7)
  obtain ⟨d0, d1, d2, d3, d4⟩ := box5 ht7 (Below.refl _ _) (lt_of_row ht7)
  have e5 := lt_of_row hx7
  have e6 := lt_of_row ht7
  have HX7 := hide hx7
  have HB47 := hide b47
  have HRR1 := hide RR1
  clear hq7 hb7 ht7 hc7 hW7 b6 r6 RR1 RR2 b57 b37 b47 hx7 fI
  go_wp2_with (first | (refine wp_st27 rfl (.tmp 9) (.tmp 20) rfl w6.heap.size (by rfl) pk 0 0 q1 pl z1 pb (by rfl) _ rfl (unhide HQ7) ?_; rw [unhide HW7]) | fail)
  refine (unhide x3).mono ?_
  rintro e w8 ⟨rfl, b8⟩
  clear x3 c0 c1 c2 c3 c4 d0 d1 d2 d3 d4 e5 e6 HQ7 HW7
  have hx8 := (b8.block _ (lt_of_row (unhide HX7))).trans (unhide HX7)
  obtain ⟨c0, c1, c2, c3, c4⟩ := box5 hx8 (Below.refl _ _) (lt_of_row hx8)
  have e5 := lt_of_row hx8
  have b48 := (unhide HB47).trans (b8.mono (unhide HB47).size)
  have RR1 := owns_below (unhide HRR1) b8
  have hB8 := (unhide HBx).below b48
  have hL := unhide HL
  have x5 := hide (bookPage_any pk 0 0 PL pb B b p1 y1 vT vU vN vM tT tU tN tM w8 (by rw [unhide HLL]; exact RR1) (by rw [unhide HLL]; exact unhide HPL) hB8 (by omega) (by omega))
  rw [unhide HLL] at x5
  have HA8 := hide ((unhide HA).trans (b48.mono (unhide HA).size))
  have HR8 := hide RR1
  have HB48 := hide b48
  clear b8 hx8 b48 RR1 hB8 hL
  go_wp2_with fail
  refine (unhide x5).mono ?_
  rintro e w9 ⟨rfl, vN1, vM1, cI, hB9, r9, o9⟩
  clear x5 c0 c1 c2 c3 c4 e5
  have HB9 := hide hB9
  have HR9 := hide r9
  have HO9 := hide o9
  have hk1 := bkt_box (((unhide HB48).block _ e1).trans (unhide HK1)) o9 (by decide)
  have hk2 := bkt_box (((unhide HB48).block _ e2).trans (unhide HK2)) o9 (by decide)
  have HKK1 := hide hk1
  have HKK2 := hide hk2
  have oA := bkt_trans (Only.of_below (unhide HA8)) o9
  obtain ⟨n1, n2⟩ := unhide HKK w9 oA
  have HOA := hide oA
  have HN1 := hide n1
  have HN2 := hide n2
  clear hB9 r9 o9 hk1 hk2 oA n1 n2
  go_upto_region 5 with fail
  refine rld w.heap.size (w.heap.size + 1) kl kc vl vc il ic kd vd jd er sz ka va ia kb vb ib lf (by kernel_rfl) (by kernel_rfl) (by kernel_rfl) _ _ (by show 41 ≤ Array.size _; simp) rfl rfl rfl rfl rfl (fun _ W => Below w9.heap.size w9 W) ?h0 ?hp ?l7 ?l9 ?c8 ?c10 ?_
  case h0 => exact (Below.refl _ _).drew
  case hp => exact fun _ _ _ _ q => q
  case l7 => exact fun _ W q => box4 (unhide HKK1) q (lt_of_row (unhide HKK1))
  case l9 => exact fun _ W q => box4 (unhide HKK2) q (lt_of_row (unhide HKK2))
  case c8 =>
    intro L W q _
    refine (unhide X3 W ((unhide HN1).below q)).mono ?_
    rintro e w' ⟨rfl, q1⟩
    exact ⟨rfl, q.trans (q1.mono q.size)⟩
  case c10 =>
    intro L W q _
    refine (unhide X4 W ((unhide HN2).below q)).mono ?_
    rintro e w' ⟨rfl, q1⟩
    exact ⟨rfl, q.trans (q1.mono q.size)⟩
  intro L W _ hW
  have HWE := hide hW
  clear hW
  simp only [Act.put, List.setIfInBounds_toArray, List.set_cons_succ, List.set_cons_zero]
  go_wp2
  go_ret
  have hs := unhide HS2
  have h48 := (unhide HB48).size
  have o10 : Only (bkt B w9) w9 W := Only.of_below (unhide HWE)
  have rI : W.ownsRow 0 3 1 (.slice p1 pl y1) pl (PL.map fun z => I z) := bkt_row (bkt_row (unhide HR8) (unhide HO9) (by decide)) o10 (by decide)
  exact ⟨rfl, vN1, vM1, .slice p1 pl y1, cI, (unhide HB9).below (unhide HWE), ⟨rI, fun i hi => by have := unhide HLo3 i hi; omega⟩, ⟨bkt_row (unhide HR9).1 o10 (by decide), fun i hi => by have := (unhide HR9).2 i hi; have := (unhide HA8).size; omega⟩, bkt_trans (unhide HOA) o10⟩
end Go.Proofs.YtllialbdofklgaaGreatDoor
