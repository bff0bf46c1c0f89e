import Derived.Test.YtllialbdofklgaaGreatDoorNsc
import Derived.Test.YtllialbdofklgaaGreatDoorNqe
namespace Go.Proofs.YtllialbdofklgaaGreatDoor
open Go.RowKit
set_option linter.unusedVariables false
set_option maxHeartbeats 16000000
set_option maxRecDepth 8000
theorem zro_nb : NB zro := ⟨by decide, by decide, by decide, by decide, by decide⟩
theorem jrs_nb (m : Nd) (key : Bs) (n : Nd) : NB (jrs m key n) := by
  unfold jrs
  split
  · next h =>
    unfold jer at h
    split at h
    · cases h
    · next h1 =>
      split at h
      · cases h
      · next h2 =>
        simp only [Bool.not_eq_false, Bool.and_eq_true] at h1 h2
        exact jn_nb h1.1 h1.2 (by simpa using h2.2)
  · exact zro_nb
theorem four_box (w : World) (A B C D : Array Value) : Below w.heap.size w ((((w.alloc (.cells A 25)).alloc (.cells B 25)).alloc (.cells C 25)).alloc (.cells D 25)) ∧ ((((w.alloc (.cells A 25)).alloc (.cells B 25)).alloc (.cells C 25)).alloc (.cells D 25)).heap[w.heap.size]? = some (.cells A 25 (0, 0)) ∧ ((((w.alloc (.cells A 25)).alloc (.cells B 25)).alloc (.cells C 25)).alloc (.cells D 25)).heap[w.heap.size + 1]? = some (.cells B 25 (0, 0))
    ∧ ((((w.alloc (.cells A 25)).alloc (.cells B 25)).alloc (.cells C 25)).alloc (.cells D 25)).heap[w.heap.size + 1 + 1]? = some (.cells C 25 (0, 0)) ∧ ((((w.alloc (.cells A 25)).alloc (.cells B 25)).alloc (.cells C 25)).alloc (.cells D 25)).heap[w.heap.size + 1 + 1 + 1]? = some (.cells D 25 (0, 0)) := by
  obtain ⟨a1, a2, a3⟩ := two_box w A B
  have hs : ((w.alloc (.cells A 25)).alloc (.cells B 25)).heap.size = w.heap.size + 1 + 1 := by simp
  generalize (w.alloc (.cells A 25)).alloc (.cells B 25) = W at a1 a2 a3 hs
  obtain ⟨b1, b2, b3⟩ := two_box W C D
  rw [hs] at b2 b3
  exact ⟨a1.trans (b1.mono a1.size), (b1.block _ (lt_of_row a2)).trans a2, (b1.block _ (lt_of_row a3)).trans a3, b2, b3⟩
theorem bookPut_any (x y : Nd) (B b ga oa gb ob gc oc gd od : Nat) (ia ib ja ua ha jb ub hb : Option Addr) (kc vc ic kd vd jd jc uc hc je ue he : Nat) (key : Bs) (vT vU vN vM : Value) (tT tU tN tM : List Value) (w : World)
    (hm : NA x (some ⟨ga, oa, none⟩) (some ⟨gc, oc, none⟩) ia w) (hn : NA y (some ⟨gb, ob, none⟩) (some ⟨gd, od, none⟩) ib w) (hp : NA x ja ua ha w) (hq : NA y jb ub hb w) (bm : NB x) (bn : NB y) (z1 : ja = none → jc = 0) (z2 : ua = none → uc = 0) (z3 : ha = none → hc = 0) (y1 : jb = none → je = 0) (y2 : ub = none → ue = 0) (y3 : hb = none → he = 0)
    (ci : x.kids.length ≤ hc) (hic : hc ≤ 9223372036854775807) (cj : y.kids.length ≤ he) (hjd : he ≤ 9223372036854775807) (hk : key.length ≤ 4294967296)
    (hB : Bx B b vT vU vN vM tT tU tN tM w) (lT : tT.length ≤ 100000) (lU : tU.length ≤ 100000) (lN : tN.length ≤ 100000) (lM : tM.length ≤ 100000) :
    Calls Tryz.prog 30 #[.pointer (some ⟨b, 0, none⟩), nda x (some ⟨ga, oa, none⟩) (some ⟨gc, oc, none⟩) ia kc vc ic, S key, nda y (some ⟨gb, ob, none⟩) (some ⟨gd, od, none⟩) ib kd vd jd, nda x ja ua ha jc uc hc, nda y jb ub hb je ue he] w fun e w' => e = .returned (.bool true) ∧ ∃ vT' vU' vN' vM' vK vV vI cK cV cI, Bx B b vT' vU' vN' vM' (tT ++ [vK, vV]) (tU ++ [cK, cV]) (tN ++ [vI]) (tM ++ [cI]) w' ∧ Rws w.heap.size (jrs x key y) vK vV vI w' ∧ Rws w.heap.size (jrs x key y) cK cV cI w' ∧ Apt vK vV vI ∧ Only (bkt B w) w w' := by
  have fb := four_box w #[.bool x.leaf, .slice (some ⟨ga, oa, none⟩) x.keys.length kc, .slice (some ⟨gc, oc, none⟩) x.vals.length vc, .slice ia x.kids.length ic] #[.bool y.leaf, .slice (some ⟨gb, ob, none⟩) y.keys.length kd, .slice (some ⟨gd, od, none⟩) y.vals.length vd, .slice ib y.kids.length jd] #[.bool x.leaf, .slice ja x.keys.length jc, .slice ua x.vals.length uc, .slice ha x.kids.length hc] #[.bool y.leaf, .slice jb y.keys.length je, .slice ub y.vals.length ue, .slice hb y.kids.length he]
  have hs4 : ((((w.alloc (.cells #[.bool x.leaf, .slice (some ⟨ga, oa, none⟩) x.keys.length kc, .slice (some ⟨gc, oc, none⟩) x.vals.length vc, .slice ia x.kids.length ic] 25)).alloc (.cells #[.bool y.leaf, .slice (some ⟨gb, ob, none⟩) y.keys.length kd, .slice (some ⟨gd, od, none⟩) y.vals.length vd, .slice ib y.kids.length jd] 25)).alloc (.cells #[.bool x.leaf, .slice ja x.keys.length jc, .slice ua x.vals.length uc, .slice ha x.kids.length hc] 25)).alloc (.cells #[.bool y.leaf, .slice jb y.keys.length je, .slice ub y.vals.length ue, .slice hb y.kids.length he] 25)).heap.size = w.heap.size + 1 + 1 + 1 + 1 := by simp
  generalize hW4 : (((w.alloc (.cells #[.bool x.leaf, .slice (some ⟨ga, oa, none⟩) x.keys.length kc, .slice (some ⟨gc, oc, none⟩) x.vals.length vc, .slice ia x.kids.length ic] 25)).alloc (.cells #[.bool y.leaf, .slice (some ⟨gb, ob, none⟩) y.keys.length kd, .slice (some ⟨gd, od, none⟩) y.vals.length vd, .slice ib y.kids.length jd] 25)).alloc (.cells #[.bool x.leaf, .slice ja x.keys.length jc, .slice ua x.vals.length uc, .slice ha x.kids.length hc] 25)).alloc (.cells #[.bool y.leaf, .slice jb y.keys.length je, .slice ub y.vals.length ue, .slice hb y.kids.length he] 25) = W4 at fb hs4
  obtain ⟨hA, k1, k2, k3, k4⟩ := fb
  have X1 := hide (join_b x y ga oa gb ob gc oc gd od ia ib kc vc ic kd vd jd key W4 (hm.below hA) (hn.below hA) bm bn hk)
  have X2 := hide (fun W (q : Below W4.heap.size W4 W) => refJoin_b x y ja ua ha jb ub hb jc uc hc je ue he key W ((hp.below hA).below q) ((hq.below hA).below q) bm bn z1 z2 z3 y1 y2 y3 ci hic cj hjd hk)
  have HNB := hide (jrs_nb x key y)
  have HA := hide hA
  have HK3 := hide k3
  have HK4 := hide k4
  have HBx := hide (hB.below hA)
  have HL := hide (And.intro lT (And.intro lU (And.intro lN lM)))
  have HS4 := hide hs4
  obtain ⟨c0, c1, c2, c3⟩ := box4 k1 (Below.refl _ _) (lt_of_row k1)
  obtain ⟨d0, d1, d2, d3⟩ := box4 k2 (Below.refl _ _) (lt_of_row k2)
  have e1 := lt_of_row k1
  have e2 := lt_of_row k2
  have e3 := lt_of_row k3
  have e4 := lt_of_row k4
  clear hA k1 k2 k3 k4 hm hn hp hq bm bn z1 z2 z3 y1 y2 y3 ci hic cj hjd hB lT lU lN lM hs4
  unfold nda at X1 X2 ⊢
  generalize hr : jrs x key y = r at *
  generalize hj : jer x key y = er at *
  have herl : er ≤ 103 := by rw [← hj]; unfold jer; split <;> (try split) <;> (try split) <;> (try split) <;> omega
  clear hr hj
  generalize x.leaf = lx at *
  generalize x.keys.length = xk at *
  generalize x.vals.length = xv at *
  generalize x.kids.length = xi at *
  generalize y.leaf = ly at *
  generalize y.keys.length = yk at *
  generalize y.vals.length = yv at *
  generalize y.kids.length = yi at *
  go_enter Tryz.func30, Tryz.ntmps30
  go_wp2_with fail
  refine (unhide X1).mono ?_
  rintro e w3 ⟨vK, vV, vI, rfl, r3, ap3, b3⟩
  clear X1 c0 c1 c2 c3 d0 d1 d2 d3 hW4
  obtain ⟨p1, y1, p2, y2, p3, y3, rfl, rfl, rfl⟩ := r3.form
  have HR3 := hide r3
  have HAP := hide ap3
  have HB3 := hide b3
  clear r3 ap3 b3
  generalize hrl : r.leaf = rl at *
  generalize hrk : r.keys.length = rk at *
  generalize hrv : r.vals.length = rv at *
  generalize hri : r.kids.length = ri at *
  have HRE := hide (And.intro hrl (And.intro hrk (And.intro hrv hri)))
  clear hrl hrk hrv hri
  have hq5 := heap_alloc_new w3 (.cells #[.bool false, .slice none 0 0, .slice none 0 0, .slice none 0 0] 25)
  have hb5 := (Below.refl w3.heap.size w3).alloc (Nat.le_refl _) (.cells #[.bool false, .slice none 0 0, .slice none 0 0, .slice none 0 0] 25)
  have ht5 := setRow_heap _ _ _ #[.bool rl, .slice p1 rk y1, .slice p2 rv y2, .slice p3 ri y3] 25 _ hq5
  have hc5 := (setRow_only (w3.alloc (.cells #[.bool false, .slice none 0 0, .slice none 0 0, .slice none 0 0] 25)) w3.heap.size #[.bool rl, .slice p1 rk y1, .slice p2 rv y2, .slice p3 ri y3]).below hb5 hb5.size (fun k e => by omega)
  generalize hW5 : (w3.alloc (.cells #[.bool false, .slice none 0 0, .slice none 0 0, .slice none 0 0] 25)).setRow w3.heap.size #[.bool rl, .slice p1 rk y1, .slice p2 rv y2, .slice p3 ri y3] = W5 at ht5 hc5
  have HW5 := hide hW5
  have HQ5 := hide hq5
  have HT5 := hide ht5
  have HC5 := hide hc5
  have b5 := (unhide HB3).trans (hc5.mono (unhide HB3).size)
  have HB5 := hide b5
  obtain ⟨c0, c1, c2, c3⟩ := box4 (unhide HK3) b5 e3
  obtain ⟨d0, d1, d2, d3⟩ := box4 (unhide HK4) b5 e4
  have e5 := Nat.lt_of_lt_of_le e3 b5.size
  have e6 := Nat.lt_of_lt_of_le e4 b5.size
  have x2 := hide (unhide X2 W5 b5)
  clear hq5 hb5 ht5 hc5 hW5 b5 X2
  go_wp2_with (first | (refine wp_st25 rfl (.tmp 13) (.tmp 23) rfl w3.heap.size (by rfl) rl p1 p2 p3 rk y1 rv y2 ri y3 (by rfl) _ rfl (unhide HQ5) ?_; rw [unhide HW5]) | fail)
  refine (unhide x2).mono ?_
  rintro e w6 ⟨vK, vV, vI, rfl, r6, b6⟩
  clear x2 c0 c1 c2 c3 d0 d1 d2 d3 e5 e6 HQ5 HW5
  obtain ⟨q1, z1, q2, z2, q3, z3, rfl, rfl, rfl⟩ := r6.form
  obtain ⟨hrl, hrk, hrv, hri⟩ := unhide HRE
  rw [hrk, hrv, hri] at r6 ⊢
  have hq7 := heap_alloc_new w6 (.cells #[.bool false, .slice none 0 0, .slice none 0 0, .slice none 0 0] 25)
  have hb7 := (Below.refl w6.heap.size w6).alloc (Nat.le_refl _) (.cells #[.bool false, .slice none 0 0, .slice none 0 0, .slice none 0 0] 25)
  have ht7 := setRow_heap _ _ _ #[.bool rl, .slice q1 rk z1, .slice q2 rv z2, .slice q3 ri z3] 25 _ hq7
  have hc7 := (setRow_only (w6.alloc (.cells #[.bool false, .slice none 0 0, .slice none 0 0, .slice none 0 0] 25)) w6.heap.size #[.bool rl, .slice q1 rk z1, .slice q2 rv z2, .slice q3 ri z3]).below hb7 hb7.size (fun k e => by omega)
  generalize hW7 : (w6.alloc (.cells #[.bool false, .slice none 0 0, .slice none 0 0, .slice none 0 0] 25)).setRow w6.heap.size #[.bool rl, .slice q1 rk z1, .slice q2 rv z2, .slice q3 ri z3] = W7 at ht7 hc7
  have HW7 := hide hW7
  have HQ7 := hide hq7
  have b57 := b6.trans (hc7.mono b6.size)
  have b37 := (unhide HC5).trans (b57.mono (unhide HC5).size)
  have b47 := (unhide HB5).trans (b57.mono (unhide HB5).size)
  have hx7 := (b57.block _ (lt_of_row (unhide HT5))).trans (unhide HT5)
  have RR1 := (unhide HR3).below b37
  have RR2 := r6.below hc7
  have x3 := hide (nodes_any r r p1 p2 p3 q1 q2 q3 y1 y2 y3 z1 z2 z3 W7 (by have q := RR1; rw [← hrk, ← hrv, ← hri] at q; exact q.na') (by have q := RR2; rw [← hrk, ← hrv, ← hri] at q; exact q.na') (unhide HNB) (unhide HNB))
  unfold nda at x3
  rw [hrl, hrk, hrv, hri] at x3
  obtain ⟨c0, c1, c2, c3⟩ := box4 hx7 (Below.refl _ _) (lt_of_row hx7)
  obtain ⟨d0, d1, d2, d3⟩ := box4 ht7 (Below.refl _ _) (lt_of_row ht7)
  have e5 := lt_of_row hx7
  have e6 := lt_of_row ht7
  have HX7 := hide hx7
  have HB47 := hide b47
  have HRR1 := hide RR1
  clear hq7 hb7 ht7 hc7 hW7 b6 r6 RR1 RR2 b57 b37 b47 hx7 hrl hrk hrv hri
  go_wp2_with (first | (refine wp_st25 rfl (.tmp 15) (.tmp 30) rfl w6.heap.size (by rfl) rl q1 q2 q3 rk z1 rv z2 ri z3 (by rfl) _ rfl (unhide HQ7) ?_; rw [unhide HW7]) | fail)
  refine (unhide x3).mono ?_
  rintro e w8 ⟨rfl, b8⟩
  rw [sam_self]
  clear x3 c0 c1 c2 c3 d0 d1 d2 d3 e5 e6 HQ7 HW7
  have hx8 := (b8.block _ (lt_of_row (unhide HX7))).trans (unhide HX7)
  obtain ⟨c0, c1, c2, c3⟩ := box4 hx8 (Below.refl _ _) (lt_of_row hx8)
  have e5 := lt_of_row hx8
  have b48 := (unhide HB47).trans (b8.mono (unhide HB47).size)
  have RR1 := (unhide HRR1).below b8
  have hB8 := (unhide HBx).below b48
  have hL := unhide HL
  obtain ⟨hrl, hrk, hrv, hri⟩ := unhide HRE
  have RR2 := RR1
  rw [← hrk, ← hrv, ← hri] at RR2
  have x5 := hide (bookNode_any r B b p1 p2 p3 y1 y2 y3 vT vU vN vM tT tU tN tM w8 RR2.na' (unhide HNB) (owns_z RR2.rK) (owns_z RR2.rV) (owns_z RR2.rI) hB8 (by omega) (by omega) (by omega) (by omega))
  unfold nda at x5
  rw [hrl, hrk, hrv, hri] at x5
  have HA8 := hide ((unhide HA).trans (b48.mono (unhide HA).size))
  have HR8 := hide RR1
  have HB48 := hide b48
  clear b8 hx8 b48 RR1 RR2 hB8 hL hrl hrk hrv hri
  go_wp2_with fail
  refine (unhide x5).mono ?_
  rintro e w9 ⟨rfl, vT1, vU1, vN1, vM1, cK, cV, cI, hB9, r9, o9⟩
  clear x5 c0 c1 c2 c3 e5
  have HB9 := hide hB9
  have HR9 := hide r9
  have HO9 := hide o9
  clear hB9 r9 o9
  have hii : ((er : Int) == (er : Int)) = true := by simp
  go_wp2
  go_ret
  have hle := (unhide HA8).size
  have hs := unhide HS4
  refine ⟨by first | rfl | simp, vT1, vU1, vN1, vM1, _, _, _, cK, cV, cI, unhide HB9, ((unhide HR8).bkt (unhide HO9)).mono (by omega), (unhide HR9).mono hle, unhide HAP, bkt_trans (Only.of_below (unhide HA8)) (unhide HO9)⟩
end Go.Proofs.YtllialbdofklgaaGreatDoor
