import Derived.Test.YtllialbdofklgaaGreatDoorZnpp
import Derived.Test.YtllialbdofklgaaGreatDoorNpr
namespace Go.Proofs.YtllialbdofklgaaGreatDoor
open Go.RowKit
set_option maxHeartbeats 16000000
set_option maxRecDepth 8000
theorem two_box (w : World) (A B : Array Value) : Below w.heap.size w ((w.alloc (.cells A 25)).alloc (.cells B 25)) ∧ ((w.alloc (.cells A 25)).alloc (.cells B 25)).heap[w.heap.size]? = some (.cells A 25 (0, 0)) ∧ ((w.alloc (.cells A 25)).alloc (.cells B 25)).heap[w.heap.size + 1]? = some (.cells B 25 (0, 0)) := by
  have h1 := (Below.refl w.heap.size w).alloc (Nat.le_refl _) (.cells A 25)
  have h2 := heap_alloc_new w (.cells A 25)
  have h3 := size_alloc w (.cells A 25)
  have h4 := heap_alloc_new (w.alloc (.cells A 25)) (.cells B 25)
  rw [h3] at h4
  exact ⟨h1.alloc h1.size (.cells B 25), (alloc_old _ (.cells B 25) (lt_of_row h2)).trans h2, h4⟩
theorem owns_z {e n m : Nat} {w : World} {p : Option Addr} {c : Nat} {xs : List Value} (h : w.ownsRow 0 e n (.slice p m c) m xs) : p = none → c = 0 := by
  rintro rfl
  rcases h.2 with ⟨q, _⟩ | ⟨g, cap, cur, e1, _⟩
  · cases q; rfl
  · cases e1
theorem Rws.na' {B : Nat} {n : Nd} {p1 p2 p3 : Option Addr} {y1 y2 y3 : Nat} {w : World} (h : Rws B n (.slice p1 n.keys.length y1) (.slice p2 n.vals.length y2) (.slice p3 n.kids.length y3) w) : NA n p1 p2 p3 w := by
  obtain ⟨ka, va, ia, kc, vc, ic, h1, h2, h3, h4⟩ := h.na
  cases h1
  cases h2
  cases h3
  exact h4
theorem bookCut_any (n : Nd) (B b : Nat) (ka va ia ja ua ha : Option Addr) (kc vc ic jc uc hc : Nat) (vT vU vN vM : Value) (tT tU tN tM : List Value) (w : World) (h : NA n ka va ia w) (g : NA n ja ua ha w) (hb : NB n)
    (ck : n.keys.length ≤ kc) (cv : n.vals.length ≤ vc) (ci : n.kids.length ≤ ic) (hic : ic ≤ 9223372036854775807) (dk : n.keys.length ≤ jc) (dv : n.vals.length ≤ uc) (di : n.kids.length ≤ hc) (hhc : hc ≤ 9223372036854775807)
    (hB : Bx B b vT vU vN vM tT tU tN tM w) (lT : tT.length ≤ 100000) (lU : tU.length ≤ 100000) (lN : tN.length ≤ 100000) (lM : tM.length ≤ 100000) :
    Calls Tryz.prog 29 #[.pointer (some ⟨b, 0, none⟩), nda n ka va ia kc vc ic, nda n ja ua ha jc uc hc] w fun e w' => e = .returned (.bool true) ∧ ∃ m1 m2 vT' vU' vN' vM' vK vV vI uK uV uI cK cV cI dK dV dI, Bx B b vT' vU' vN' vM' (tT ++ [vK, vV] ++ [uK, uV]) (tU ++ [cK, cV] ++ [dK, dV]) (tN ++ [vI] ++ [uI]) (tM ++ [cI] ++ [dI]) w' ∧ Rws w.heap.size m1 vK vV vI w' ∧ Rws w.heap.size m2 uK uV uI w' ∧ Rws w.heap.size m1 cK cV cI w' ∧ Rws w.heap.size m2 dK dV dI w' ∧ (Apt vK vV vI ∧ Apt uK uV uI ∧ Ap2 vK vV vI uK uV uI) ∧ NB m1 ∧ NB m2 ∧ Only (bkt B w) w w' := by
  have hA := (Below.refl w.heap.size w).alloc (Nat.le_refl _) (.cells #[.bool n.leaf, .slice ka n.keys.length kc, .slice va n.vals.length vc, .slice ia n.kids.length ic] 25)
  have hg := heap_alloc_new w (.cells #[.bool n.leaf, .slice ka n.keys.length kc, .slice va n.vals.length vc, .slice ia n.kids.length ic] 25)
  have hs1 := size_alloc w (.cells #[.bool n.leaf, .slice ka n.keys.length kc, .slice va n.vals.length vc, .slice ia n.kids.length ic] 25)
  generalize hW1 : w.alloc (.cells #[.bool n.leaf, .slice ka n.keys.length kc, .slice va n.vals.length vc, .slice ia n.kids.length ic] 25) = W1 at hA hg hs1
  have hA2 := hA.alloc hA.size (.cells #[.bool n.leaf, .slice ja n.keys.length jc, .slice ua n.vals.length uc, .slice ha n.kids.length hc] 25)
  have hp := heap_alloc_new W1 (.cells #[.bool n.leaf, .slice ja n.keys.length jc, .slice ua n.vals.length uc, .slice ha n.kids.length hc] 25)
  have hg2 := (alloc_old W1 (.cells #[.bool n.leaf, .slice ja n.keys.length jc, .slice ua n.vals.length uc, .slice ha n.kids.length hc] 25) (lt_of_row hg)).trans hg
  generalize hW2 : W1.alloc (.cells #[.bool n.leaf, .slice ja n.keys.length jc, .slice ua n.vals.length uc, .slice ha n.kids.length hc] 25) = W2 at hA2 hp hg2
  obtain ⟨c0, c1, c2, c3⟩ := box4 hg2 (Below.refl _ _) (lt_of_row hg2)
  have X1 := hide (split_all n ka va ia kc vc ic W2 (h.below hA2) hb ck cv ci hic)
  have X2 := hide (fun W (q : Below w.heap.size w W) => refSplit_all n ja ua ha jc uc hc W (g.below q) hb dk dv di hhc)
  have HNB := hide hb
  have HA2 := hide hA2
  have HG := hide hg2
  have HP := hide hp
  have HBx := hide (hB.below hA2)
  have HS := hide hs1
  have HL := hide (And.intro lT (And.intro lU (And.intro lN lM)))
  clear hA hg hs1 hA2 hp hg2 h g hb ck cv ci hic dk dv di hhc hB lT lU lN lM
  unfold nda at X1 X2 ⊢
  generalize hlf : n.leaf = lf at *
  generalize hkl : n.keys.length = kl at *
  generalize hvl : n.vals.length = vl at *
  generalize hil : n.kids.length = il at *
  have HN := hide (And.intro hlf (And.intro hkl (And.intro hvl hil)))
  clear hlf hkl hvl hil
  go_enter Tryz.func29, Tryz.ntmps29
  go_wp2_with fail
  refine (unhide X1).mono ?_
  rintro e w3 ⟨m1, key, m2, er, vK, vV, vI, uK, uV, uI, hc1, rfl, r1, r2, ap, b3⟩
  clear X1 c0 c1 c2 c3 hW1 hW2
  have r1f := r1.form
  have r2f := r2.form
  obtain ⟨p1, y1, p2, y2, p3, y3, rfl, rfl, rfl⟩ := r1f
  obtain ⟨q1, z1, q2, z2, q3, z3, rfl, rfl, rfl⟩ := r2f
  have HC1 := hide hc1
  have HR1 := hide r1
  have HR2 := hide r2
  have HAP := hide ap
  have HB3 := hide b3
  clear hc1 r1 r2 ap b3
  go_upto_region 2 with fail
  have tb := two_box w3 #[.bool m1.leaf, .slice p1 m1.keys.length y1, .slice p2 m1.vals.length y2, .slice p3 m1.kids.length y3] #[.bool m2.leaf, .slice q1 m2.keys.length z1, .slice q2 m2.vals.length z2, .slice q3 m2.kids.length z3]
  generalize (w3.alloc (.cells #[.bool m1.leaf, .slice p1 m1.keys.length y1, .slice p2 m1.vals.length y2, .slice p3 m1.kids.length y3] 25)).alloc (.cells #[.bool m2.leaf, .slice q1 m2.keys.length z1, .slice q2 m2.vals.length z2, .slice q3 m2.kids.length z3] 25) = W4 at tb ⊢
  have b4 : Below W2.heap.size W2 W4 := (unhide HB3).trans (tb.1.mono (unhide HB3).size)
  have a4 : Below w.heap.size w W4 := (unhide HA2).trans (b4.mono (unhide HA2).size)
  have hP4 := (b4.block _ (lt_of_row (unhide HP))).trans (unhide HP)
  obtain ⟨c0, c1, c2, c3⟩ := box4 hP4 (Below.refl _ _) (lt_of_row hP4)
  have x2 := hide (unhide X2 W4 a4)
  have HT := hide tb
  have HB4 := hide b4
  have HA4 := hide a4
  clear tb b4 a4 hP4 X2
  go_wp2_with fail
  refine (unhide x2).mono ?_
  rintro e w5 ⟨m1', key', m2', er', vK', vV', vI', uK', uV', uI', hc2, rfl, s1, s2, b5⟩
  obtain ⟨rfl, rfl, rfl, rfl⟩ := Cut.uniq (unhide HC1) hc2
  obtain ⟨p1', y1', p2', y2', p3', y3', rfl, rfl, rfl⟩ := s1.form
  obtain ⟨q1', z1', q2', z2', q3', z3', rfl, rfl, rfl⟩ := s2.form
  have HS1 := hide s1
  have HS2 := hide s2
  have HB5 := hide b5
  clear x2 c0 c1 c2 c3 hc2 s1 s2 b5
  go_upto_region 3 with fail
  have tb := two_box w5 #[.bool m1.leaf, .slice p1' m1.keys.length y1', .slice p2' m1.vals.length y2', .slice p3' m1.kids.length y3'] #[.bool m2.leaf, .slice q1' m2.keys.length z1', .slice q2' m2.vals.length z2', .slice q3' m2.kids.length z3']
  generalize (w5.alloc (.cells #[.bool m1.leaf, .slice p1' m1.keys.length y1', .slice p2' m1.vals.length y2', .slice p3' m1.kids.length y3'] 25)).alloc (.cells #[.bool m2.leaf, .slice q1' m2.keys.length z1', .slice q2' m2.vals.length z2', .slice q3' m2.kids.length z3'] 25) = W6 at tb ⊢
  have b46 : Below W4.heap.size W4 W6 := (unhide HB5).trans (tb.1.mono (unhide HB5).size)
  have b36 : Below w3.heap.size w3 W6 := (unhide HT).1.trans (b46.mono (unhide HT).1.size)
  have hx6 := (b46.block _ (lt_of_row (unhide HT).2.1)).trans (unhide HT).2.1
  have hy6 := (b46.block _ (lt_of_row (unhide HT).2.2)).trans (unhide HT).2.2
  have R1 := (unhide HR1).below b36
  have R2 := (unhide HR2).below b36
  have S1 := (unhide HS1).below tb.1
  have S2 := (unhide HS2).below tb.1
  obtain ⟨nb1, nb2⟩ := (unhide HC1).nb (unhide HNB)
  have x3 := hide (nodes_any m1 m1 p1 p2 p3 p1' p2' p3' y1 y2 y3 y1' y2' y3' W6 R1.na' S1.na' nb1 nb1)
  have a6 : Below w.heap.size w W6 := (unhide HA4).trans (b46.mono (unhide HA4).size)
  have hB6 := ((unhide HBx).below (unhide HB4)).below b46
  obtain ⟨c0, c1, c2, c3⟩ := box4 hx6 (Below.refl _ _) (lt_of_row hx6)
  obtain ⟨d0, d1, d2, d3⟩ := box4 tb.2.1 (Below.refl _ _) (lt_of_row tb.2.1)
  have HX6 := hide (And.intro hx6 (And.intro hy6 tb.2.2))
  have HR6 := hide (And.intro R1 (And.intro R2 S2))
  have HNN := hide (And.intro nb1 nb2)
  have HA6 := hide a6
  have HB6 := hide hB6
  clear tb b46 b36 hx6 hy6 R1 R2 S1 S2 nb1 nb2 a6 hB6
  go_wp2_with fail
  unfold nda at x3
  refine (unhide x3).mono ?_
  rintro e w7 ⟨rfl, b7⟩
  rw [sam_self]
  clear x3 c0 c1 c2 c3 d0 d1 d2 d3
  have hx7 := (b7.block _ (lt_of_row (unhide HX6).1)).trans (unhide HX6).1
  have hy7 := (b7.block _ (lt_of_row (unhide HX6).2.1)).trans (unhide HX6).2.1
  have hv7 := (b7.block _ (lt_of_row (unhide HX6).2.2)).trans (unhide HX6).2.2
  obtain ⟨c0, c1, c2, c3⟩ := box4 hy7 (Below.refl _ _) (lt_of_row hy7)
  obtain ⟨d0, d1, d2, d3⟩ := box4 hv7 (Below.refl _ _) (lt_of_row hv7)
  have x4 := hide (nodes_any m2 m2 q1 q2 q3 q1' q2' q3' z1 z2 z3 z1' z2' z3' w7 ((unhide HR6).2.1.below b7).na' ((unhide HR6).2.2.below b7).na' (unhide HNN).2 (unhide HNN).2)
  have HB7 := hide b7
  have HX7 := hide (And.intro hx7 hy7)
  clear b7 hx7 hy7 hv7
  go_wp2_with fail
  unfold nda at x4
  refine (unhide x4).mono ?_
  rintro e w8 ⟨rfl, b8⟩
  rw [sam_self]
  clear x4 c0 c1 c2 c3 d0 d1 d2 d3
  have hx8 := (b8.block _ (lt_of_row (unhide HX7).1)).trans (unhide HX7).1
  have hy8 := (b8.block _ (lt_of_row (unhide HX7).2)).trans (unhide HX7).2
  obtain ⟨c0, c1, c2, c3⟩ := box4 hx8 (Below.refl _ _) (lt_of_row hx8)
  have R1 := ((unhide HR6).1.below (unhide HB7)).below b8
  have R2 := ((unhide HR6).2.1.below (unhide HB7)).below b8
  have hB8 := ((unhide HB6).below (unhide HB7)).below b8
  have hL := unhide HL
  have x5 := hide (bookNode_any m1 B b p1 p2 p3 y1 y2 y3 vT vU vN vM tT tU tN tM w8 R1.na' (unhide HNN).1 (owns_z R1.rK) (owns_z R1.rV) (owns_z R1.rI) hB8 (by omega) (by omega) (by omega) (by omega))
  have a8 : Below w.heap.size w w8 := ((unhide HA6).trans ((unhide HB7).mono (unhide HA6).size)).trans (b8.mono ((unhide HA6).trans ((unhide HB7).mono (unhide HA6).size)).size)
  have HA8 := hide a8
  have HY8 := hide hy8
  have HR8 := hide (And.intro R1 R2)
  clear b8 hx8 hy8 R1 R2 hB8 hL a8
  go_wp2_with fail
  unfold nda at x5
  refine (unhide x5).mono ?_
  rintro e w9 ⟨rfl, vT1, vU1, vN1, vM1, cK, cV, cI, hB9, r9, o9⟩
  clear x5 c0 c1 c2 c3
  have hy9 := bkt_box (unhide HY8) o9 (by decide)
  obtain ⟨c0, c1, c2, c3⟩ := box4 hy9 (Below.refl _ _) (lt_of_row hy9)
  have R2 := (unhide HR8).2.bkt o9
  have hL := unhide HL
  have x6 := hide (bookNode_any m2 B b q1 q2 q3 z1 z2 z3 vT1 vU1 vN1 vM1 _ _ _ _ w9 R2.na' (unhide HNN).2 (owns_z R2.rK) (owns_z R2.rV) (owns_z R2.rI) hB9 (by simp; omega) (by simp; omega) (by simp; omega) (by simp; omega))
  have HR9 := hide (And.intro ((unhide HR8).1.bkt o9) (And.intro R2 (r9.mono (unhide HA8).size)))
  have HO9 := hide o9
  clear hy9 R2 hL hB9 r9 o9
  go_wp2_with fail
  unfold nda at x6
  refine (unhide x6).mono ?_
  rintro e w10 ⟨rfl, vT2, vU2, vN2, vM2, dK, dV, dI, hB10, r10, o10⟩
  clear x6 c0 c1 c2 c3
  have HB10 := hide hB10
  have HR10 := hide r10
  have HO10 := hide o10
  clear hB10 r10 o10
  go_wp2
  go_ret
  obtain ⟨g1, g2, g3⟩ := unhide HR9
  have oA := bkt_trans (Only.of_below (unhide HA8)) (unhide HO9)
  have hle : w.heap.size ≤ w9.heap.size := oA.size
  have hs2 : w.heap.size ≤ W2.heap.size := (unhide HA2).size
  refine ⟨by first | rfl | simp, m1, m2, vT2, vU2, vN2, vM2, _, _, _, _, _, _, cK, cV, cI, dK, dV, dI, unhide HB10, (g1.bkt (unhide HO10)).mono hs2, (g2.bkt (unhide HO10)).mono hs2, g3.bkt (unhide HO10), (unhide HR10).mono hle, unhide HAP, (unhide HNN).1, (unhide HNN).2, bkt_trans oA (unhide HO10)⟩
/-- A book: its lists, what they said, pairwise apart. -/
structure Bok (B b : Nat) (T : List (Value × Value × List Bs)) (N : List (Value × Value × List Int)) (w : World) : Prop where
  bx : ∃ vT vU vN vM, Bx B b vT vU vN vM (T.map (·.1)) (T.map (·.2.1)) (N.map (·.1)) (N.map (·.2.1)) w
  t : ∀ x ∈ T, w.ownsRow 0 9 1 x.1 x.2.2.length (x.2.2.map S) ∧ w.ownsRow 0 9 1 x.2.1 x.2.2.length (x.2.2.map S) ∧ (∀ i, x.1.ownBlock = some i → B ≤ i) ∧ x.2.2.length ≤ 4294967296
  n : ∀ x ∈ N, w.ownsRow 0 3 1 x.1 x.2.2.length (x.2.2.map fun z => I z) ∧ w.ownsRow 0 3 1 x.2.1 x.2.2.length (x.2.2.map fun z => I z) ∧ (∀ i, x.1.ownBlock = some i → B ≤ i) ∧ x.2.2.length ≤ 4294967296
  td : T.Pairwise fun x y => dsj x.1 y.1
  nd : N.Pairwise fun x y => dsj x.1 y.1
theorem bok_cut (n : Nd) (B b : Nat) (ka va ia ja ua ha : Option Addr) (kc vc ic jc uc hc : Nat) (T : List (Value × Value × List Bs)) (N : List (Value × Value × List Int)) (w : World) (h : NA n ka va ia w) (g : NA n ja ua ha w) (hb : NB n)
    (ck : n.keys.length ≤ kc) (cv : n.vals.length ≤ vc) (ci : n.kids.length ≤ ic) (hic : ic ≤ 9223372036854775807) (dk : n.keys.length ≤ jc) (dv : n.vals.length ≤ uc) (di : n.kids.length ≤ hc) (hhc : hc ≤ 9223372036854775807)
    (hB : Bok B b T N w) (lT : T.length ≤ 100000) (lN : N.length ≤ 100000) :
    Calls Tryz.prog 29 #[.pointer (some ⟨b, 0, none⟩), nda n ka va ia kc vc ic, nda n ja ua ha jc uc hc] w fun e w' => e = .returned (.bool true) ∧ ∃ T' N', Bok B b T' N' w' ∧ T'.length = T.length + 4 ∧ N'.length = N.length + 2 ∧ Only (bkt B w) w w' := by
  obtain ⟨vT, vU, vN, vM, hx⟩ := hB.bx
  refine (bookCut_any n B b ka va ia ja ua ha kc vc ic jc uc hc vT vU vN vM _ _ _ _ w h g hb ck cv ci hic dk dv di hhc hx (by simpa using lT) (by simpa using lT) (by simpa using lN) (by simpa using lN)).mono ?_
  rintro e w' ⟨rfl, m1, m2, vT', vU', vN', vM', vK, vV, vI, uK, uV, uI, cK, cV, cI, dK, dV, dI, hx', r1, r2, s1, s2, ⟨a1, a2, a3⟩, n1, n2, o⟩
  have hlo : B ≤ w.heap.size := by have := hx.lo.1; have := lt_of_row hx.box; omega
  refine ⟨rfl, T ++ [(vK, cK, m1.keys), (vV, cV, m1.vals), (uK, dK, m2.keys), (uV, dV, m2.vals)], N ++ [(vI, cI, m1.kids), (uI, dI, m2.kids)], ⟨⟨vT', vU', vN', vM', by simpa using hx'⟩, ?_, ?_, ?_, ?_⟩, by simp, by simp, o⟩
  · intro x hx
    rcases List.mem_append.1 hx with q | q
    · obtain ⟨q1, q2, q3, q4⟩ := hB.t x q
      exact ⟨bkt_row q1 o (by decide), bkt_row q2 o (by decide), q3, q4⟩
    · simp only [List.mem_cons, List.not_mem_nil, or_false] at q
      rcases q with rfl | rfl | rfl | rfl
      · exact ⟨r1.rK, s1.rK, fun i e => Nat.le_trans hlo (r1.bK i e), n1.k⟩
      · exact ⟨r1.rV, s1.rV, fun i e => Nat.le_trans hlo (r1.bV i e), n1.v⟩
      · exact ⟨r2.rK, s2.rK, fun i e => Nat.le_trans hlo (r2.bK i e), n2.k⟩
      · exact ⟨r2.rV, s2.rV, fun i e => Nat.le_trans hlo (r2.bV i e), n2.v⟩
  · intro x hx
    rcases List.mem_append.1 hx with q | q
    · obtain ⟨q1, q2, q3, q4⟩ := hB.n x q
      exact ⟨bkt_row q1 o (by decide), bkt_row q2 o (by decide), q3, q4⟩
    · simp only [List.mem_cons, List.not_mem_nil, or_false] at q
      rcases q with rfl | rfl
      · exact ⟨r1.rI, s1.rI, fun i e => Nat.le_trans hlo (r1.bI i e), n1.i⟩
      · exact ⟨r2.rI, s2.rI, fun i e => Nat.le_trans hlo (r2.bI i e), n2.i⟩
  · refine List.pairwise_append.2 ⟨hB.td, ?_, ?_⟩
    · simp only [List.pairwise_cons, List.mem_cons, List.not_mem_nil, or_false, forall_eq_or_imp, forall_eq, List.Pairwise.nil, and_true, false_implies, implies_true]
      exact ⟨⟨a1.1, a3.1.1, a3.1.2.1⟩, ⟨a3.2.1.1, a3.2.1.2.1⟩, a2.1⟩
    · intro x hx y hy
      have ho := owns_blk (hB.t x hx).1
      simp only [List.mem_cons, List.not_mem_nil, or_false] at hy
      rcases hy with rfl | rfl | rfl | rfl
      · exact (dsj_new ho r1.bK).symm
      · exact (dsj_new ho r1.bV).symm
      · exact (dsj_new ho r2.bK).symm
      · exact (dsj_new ho r2.bV).symm
  · refine List.pairwise_append.2 ⟨hB.nd, ?_, ?_⟩
    · simp only [List.pairwise_cons, List.mem_cons, List.not_mem_nil, or_false, forall_eq, List.Pairwise.nil, and_true, false_implies, implies_true]
      exact a3.2.2.2.2
    · intro x hx y hy
      have ho := owns_blk (hB.n x hx).1
      simp only [List.mem_cons, List.not_mem_nil, or_false] at hy
      rcases hy with rfl | rfl
      · exact (dsj_new ho r1.bI).symm
      · exact (dsj_new ho r2.bI).symm
/-- A new book. -/
theorem bok_new {B b : Nat} {w : World} (h : w.heap[b]? = some (.cells #[.slice none 0 0, .slice none 0 0, .slice none 0 0, .slice none 0 0] 36 (0, 0))) (hb : B ≤ b) : Bok B b [] [] w :=
  ⟨⟨_, _, _, _, h, owns_nil _ _ _, owns_nil _ _ _, owns_nil _ _ _, owns_nil _ _ _, dsj_nil _, dsj_nil _, hb, (fun _ q => nomatch q), (fun _ q => nomatch q), (fun _ q => nomatch q), (fun _ q => nomatch q)⟩, (fun _ q => nomatch q), (fun _ q => nomatch q), List.Pairwise.nil, List.Pairwise.nil⟩
end Go.Proofs.YtllialbdofklgaaGreatDoor
