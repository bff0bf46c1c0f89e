import Derived.Test.YtllialbdofklgaaGreatDoorNdo
namespace Go.Proofs.YtllialbdofklgaaGreatDoor
open Go.RowKit
set_option maxHeartbeats 8000000
set_option maxRecDepth 8000
theorem siz_le {n : Nd} (hb : NB n) : n.siz ≤ 100000000000 := by
  obtain ⟨b1, b2, b3, b4, b5⟩ := hb
  unfold Nd.siz
  split <;> omega
theorem mayJoin_leaf (n : Nd) (ka va ia : Option Addr) (kc vc ic : Nat) (w : World) (h : NA n ka va ia w) (hb : NB n) (hl : n.leaf = true) (h1 : agl n = true) (h2 : n.siz ≤ 480) :
    Calls Tryz.prog 69 #[nda n ka va ia kc vc ic] w fun e w' => e = .returned (.bool true) ∧ Below w.heap.size w w' := by
  have hA := (Below.refl w.heap.size w).alloc (Nat.le_refl _) (.cells #[.bool n.leaf, .slice ka n.keys.length kc, .slice va n.vals.length vc, .slice ia n.kids.length ic] 25)
  have hg := heap_alloc_new w (.cells #[.bool n.leaf, .slice ka n.keys.length kc, .slice va n.vals.length vc, .slice ia n.kids.length ic] 25)
  have hz := lt_of_row hg
  have hna := h.below hA
  have H1 := hide (agrees_leaf n ka va ia kc vc ic _ hna hb hl)
  rw [h1] at H1
  have H3 := hide (fun W (b : Below (w.alloc (.cells #[.bool n.leaf, .slice ka n.keys.length kc, .slice va n.vals.length vc, .slice ia n.kids.length ic] 25)).heap.size (w.alloc (.cells #[.bool n.leaf, .slice ka n.keys.length kc, .slice va n.vals.length vc, .slice ia n.kids.length ic] 25)) W) => size_any n ka va ia kc vc ic W (hna.below b) hb)
  have HA := hide hA
  have HG := hide hg
  generalize n.siz = sz at *
  clear h hA hb hna hg h1
  unfold nda at *
  rw [hl] at *
  generalize n.keys.length = kl at *
  generalize n.vals.length = vl at *
  generalize n.kids.length = il at *
  clear hl n
  go_enter Tryz.func69, Tryz.ntmps69
  go_wp2_with fail
  refine (unhide H1).mono ?_
  rintro e w1 ⟨rfl, b⟩
  have HB1 := hide b
  obtain ⟨d0, d1, d2, d3⟩ := box4 (unhide HG) b hz
  have hz1 : w.heap.size < w1.heap.size := Nat.lt_of_lt_of_le hz b.size
  have h3 := hide (unhide H3 w1 b)
  clear b H3
  go_wp2_with fail
  refine (unhide h3).mono ?_
  rintro e w3 ⟨rfl, b3⟩
  have HB3 := hide ((unhide HA).trans (((unhide HB1).trans (b3.mono (unhide HB1).size)).mono (unhide HA).size))
  have h' : decide ((sz : Int) ≤ 480) = true := by rw [decide_eq_true_eq]; omega
  clear b3
  go_wp2
  go_ret
  exact ⟨ret_bool (by first | rfl | simpa using h'), unhide HB3⟩
theorem goTogether_leaf (m n : Nd) (ka va ia kb vb ib : Option Addr) (kc vc ic kd vd id : Nat) (key : Bs) (w : World) (hm : NA m ka va ia w) (hn : NA n kb vb ib w) (lm : m.leaf = true) (ln : n.leaf = true) (p1 : 0 < m.keys.length) (p2 : 0 < n.keys.length) (b1 : m.keys.length ≤ 4294967296) (b2 : n.keys.length ≤ 4294967296)
    (h1 : m.keys.getD (m.keys.length - 1) [] < key) (h2 : ¬ n.keys.getD 0 [] < key) :
    Calls Tryz.prog 72 #[nda m ka va ia kc vc ic, S key, nda n kb vb ib kd vd id] w fun e w' => e = .returned (.bool true) ∧ Below w.heap.size w w' := by
  have hA := (Below.refl w.heap.size w).alloc (Nat.le_refl _) (.cells #[.bool m.leaf, .slice ka m.keys.length kc, .slice va m.vals.length vc, .slice ia m.kids.length ic] 25)
  have hA2 := hA.alloc hA.size (.cells #[.bool n.leaf, .slice kb n.keys.length kd, .slice vb n.vals.length vd, .slice ib n.kids.length id] 25)
  obtain ⟨g1, o1, e1, q1, c1⟩ := (hm.ks.below hA2).at (show m.keys.length - 1 < m.keys.length by omega)
  obtain ⟨g2, o2, e2, q2, c2⟩ := (hn.ks.below hA2).at p2
  subst e1 e2
  rw [Nat.add_zero] at c2
  have s1 := fun W => run_geq (m.keys.getD (m.keys.length - 1) []) key W
  rw [show decide (¬ m.keys.getD (m.keys.length - 1) [] < key) = false from decide_eq_false (fun q => q h1)] at s1
  have s2 := fun W => run_geq (n.keys.getD 0 []) key W
  rw [show decide (¬ n.keys.getD 0 [] < key) = true from decide_eq_true h2] at s2
  have HA := hide hA2
  clear hA hA2 hm hn h1 h2
  generalize m.keys.getD (m.keys.length - 1) [] = x at *
  generalize n.keys.getD 0 [] = y at *
  unfold nda
  rw [lm, ln] at *
  generalize m.keys.length = kl at *
  generalize m.vals.length = vl at *
  generalize m.kids.length = il at *
  generalize n.keys.length = kl2 at *
  generalize n.vals.length = vl2 at *
  generalize n.kids.length = il2 at *
  clear lm ln m n
  have p1' : (0 : Int) < (kl : Int) := by omega
  have p1'' : decide ((0 : Int) < (kl : Int)) = true := by rw [decide_eq_true_eq]; omega
  have p2' : ((kl2 : Int) == 0) = false := by simp; omega
  have p2'' : (0 : Int) < (kl2 : Int) := by omega
  obtain ⟨kk, rfl⟩ : ∃ kk, kl = kk + 1 := ⟨kl - 1, by omega⟩
  rw [Nat.add_sub_cancel] at c1
  go_enter Tryz.func72, Tryz.ntmps72
  go_wp2
  go_ret
  exact ⟨ret_bool (by first | rfl | simp), unhide HA⟩
/-- What comes of two leaves that go together. -/
def jnd (m n : Nd) : Nd := ⟨true, m.keys ++ n.keys, m.vals ++ n.vals, []⟩
theorem join_leaf (m n : Nd) (ka va kb vb : Option Addr) (kc vc kd vd : Nat) (key : Bs) (w : World) (hm : NA m ka va none w) (hn : NA n kb vb none w) (bm : NB m) (bn : NB n) (bj : NB (jnd m n)) (lm : m.leaf = true) (ln : n.leaf = true) (im : m.kids = []) (inn : n.kids = [])
    (p1 : 0 < m.keys.length) (p2 : 0 < n.keys.length) (p3 : 0 < m.vals.length) (p4 : 0 < n.vals.length) (q1 : m.keys.length ≤ 2147483648) (q2 : n.keys.length ≤ 2147483648) (q3 : m.vals.length ≤ 2147483648) (q4 : n.vals.length ≤ 2147483648)
    (am : agl m = true) (an : agl n = true) (sm : m.siz ≤ 480) (sn : n.siz ≤ 480) (km : kok m.keys = true) (kn : kok n.keys = true) (kk : noKey key = false) (hk : key.length ≤ 4294967296) (h1 : m.keys.getD (m.keys.length - 1) [] < key) (h2 : ¬ n.keys.getD 0 [] < key) (sj : (jnd m n).siz ≤ 718) :
    Calls Tryz.prog 41 #[nda m ka va none kc vc 0, S key, nda n kb vb none kd vd 0] w fun e w' => ∃ vK vV, e = .returned (.tuple #[.agg #[.bool true, vK, vV, .slice none 0 0], I 0]) ∧ w'.ownsRow 0 9 1 vK (jnd m n).keys.length ((jnd m n).keys.map S) ∧ w'.ownsRow 0 9 1 vV (jnd m n).vals.length ((jnd m n).vals.map S) ∧ (∀ i, vK.ownBlock = some i → w.heap.size ≤ i) ∧ (∀ i, vV.ownBlock = some i → w.heap.size ≤ i) ∧ Below w.heap.size w w' := by
  have im' : m.kids.length = 0 := by rw [im]; rfl
  have inn' : n.kids.length = 0 := by rw [inn]; rfl
  have hA := (Below.refl w.heap.size w).alloc (Nat.le_refl _) (.cells #[.bool true, .slice ka m.keys.length kc, .slice va m.vals.length vc, .slice none 0 0] 25)
  have hg := heap_alloc_new w (.cells #[.bool true, .slice ka m.keys.length kc, .slice va m.vals.length vc, .slice none 0 0] 25)
  have hs0 := size_alloc w (.cells #[.bool true, .slice ka m.keys.length kc, .slice va m.vals.length vc, .slice none 0 0] 25)
  generalize hW0 : w.alloc (.cells #[.bool true, .slice ka m.keys.length kc, .slice va m.vals.length vc, .slice none 0 0] 25) = W0 at hA hg hs0
  have hA1 := hA.alloc hA.size (.cells #[.bool true, .slice kb n.keys.length kd, .slice vb n.vals.length vd, .slice none 0 0] 25)
  have hg1 := (heap_alloc_old W0 (.cells #[.bool true, .slice kb n.keys.length kd, .slice vb n.vals.length vd, .slice none 0 0] 25) (lt_of_row hg)).trans hg
  have hk1 := heap_alloc_new W0 (.cells #[.bool true, .slice kb n.keys.length kd, .slice vb n.vals.length vd, .slice none 0 0] 25)
  have hs1 := size_alloc W0 (.cells #[.bool true, .slice kb n.keys.length kd, .slice vb n.vals.length vd, .slice none 0 0] 25)
  generalize hW1 : W0.alloc (.cells #[.bool true, .slice kb n.keys.length kd, .slice vb n.vals.length vd, .slice none 0 0] 25) = W1 at hA1 hg1 hk1 hs1
  have hA2 := hA1.alloc hA1.size (.cells #[.bool false, .slice none 0 0, .slice none 0 0, .slice none 0 0] 25)
  have hp := heap_alloc_new W1 (.cells #[.bool false, .slice none 0 0, .slice none 0 0, .slice none 0 0] 25)
  have hg2 := (heap_alloc_old W1 (.cells #[.bool false, .slice none 0 0, .slice none 0 0, .slice none 0 0] 25) (lt_of_row hg1)).trans hg1
  have hk2 := (heap_alloc_old W1 (.cells #[.bool false, .slice none 0 0, .slice none 0 0, .slice none 0 0] 25) (lt_of_row hk1)).trans hk1
  have hs2 := size_alloc W1 (.cells #[.bool false, .slice none 0 0, .slice none 0 0, .slice none 0 0] 25)
  generalize hW2 : W1.alloc (.cells #[.bool false, .slice none 0 0, .slice none 0 0, .slice none 0 0] 25) = W2 at hA2 hp hg2 hk2 hs2
  have HX := hide (show W0.heap.size = w.heap.size + 1 ∧ W1.heap.size = W0.heap.size + 1 ∧ W2.heap.size = W1.heap.size + 1 from ⟨hs0, hs1, hs2⟩)
  have HM := fun {W : World} (q : Below W2.heap.size W2 W) => (hm.below hA2).below q
  have HN := fun {W : World} (q : Below W2.heap.size W2 W) => (hn.below hA2).below q
  have nm : nda m ka va none kc vc 0 = .agg #[.bool true, .slice ka m.keys.length kc, .slice va m.vals.length vc, .slice none 0 0] := by unfold nda; rw [lm, im']
  have nn : nda n kb vb none kd vd 0 = .agg #[.bool true, .slice kb n.keys.length kd, .slice vb n.vals.length vd, .slice none 0 0] := by unfold nda; rw [ln, inn']
  have X1 := hide (fun W (q : Below W2.heap.size W2 W) => mayJoin_leaf m ka va none kc vc 0 W (HM q) bm lm am sm)
  have X2 := hide (fun W (q : Below W2.heap.size W2 W) => mayJoin_leaf n kb vb none kd vd 0 W (HN q) bn ln an sn)
  have X3 := hide (fun W (q : Below W2.heap.size W2 W) => keysMayBe_any ka _ kc m.keys W (HM q).ks bm.k bm.kt)
  have X4 := hide (fun W (q : Below W2.heap.size W2 W) => keysMayBe_any kb _ kd n.keys W (HN q).ks bn.k bn.kt)
  have X5 := hide (fun W => isNoKey_any key W hk)
  have X6 := hide (fun W (q : Below W2.heap.size W2 W) => goTogether_leaf m n ka va none kb vb none kc vc 0 kd vd 0 key W (HM q) (HN q) lm ln p1 p2 bm.k bn.k h1 h2)
  have X7 := hide (fun W (q : Below W2.heap.size W2 W) => joined_leaf m n ka va kb vb kc vc kd vd key W (HM q) (HN q) bm bn lm im inn p1 p2 p3 p4 q1 q2 q3 q4)
  rw [km] at X3
  rw [kn] at X4
  rw [kk] at X5
  rw [nm] at X1 X6 X7 ⊢
  rw [nn] at X2 X6 X7 ⊢
  have X8 := hide (fun W pk pv ck cv (q : NA (jnd m n) pk pv none W) => size_any (jnd m n) pk pv none ck cv 0 W q bj)
  have X9 := hide (fun W pk pv ck cv (q : NA (jnd m n) pk pv none W) => copied_leaf (jnd m n) pk pv ck cv W q bj rfl)
  have HA2 := hide hA2
  have HP := hide hp
  have HG := hide hg2
  have HK := hide hk2
  have hz2 : w.heap.size < W2.heap.size := by omega
  have hz3 : W0.heap.size < W2.heap.size := by omega
  have hz4 : W1.heap.size < W2.heap.size := by omega
  have hJK : (jnd m n).keys = m.keys ++ n.keys := rfl
  have hJV : (jnd m n).vals = m.vals ++ n.vals := rfl
  rw [← hJK, ← hJV] at X7
  clear HM HN hA hg hA1 hg1 hk1 hA2 hp hg2 hk2 hs0 hs1 hs2 hm hn bm bn bj lm ln im inn im' inn' p1 p2 p3 p4 q1 q2 q3 q4 am an sm sn km kn kk h1 h2 nm nn hJK hJV
  obtain ⟨c0, c1, c2, c3⟩ := box4 (unhide HG) (Below.refl _ _) hz2
  obtain ⟨d0, d1, d2, d3⟩ := box4 (unhide HK) (Below.refl _ _) hz3
  have x1 := hide (unhide X1 W2 (Below.refl _ _))
  generalize hjn : jnd m n = jn at *
  have HJ := hide hjn
  clear hjn
  generalize m.keys.length = k1 at *
  generalize m.vals.length = v1 at *
  generalize n.keys.length = k2 at *
  generalize n.vals.length = v2 at *
  go_enter Tryz.func41, Tryz.ntmps41
  go_wp2_with fail
  refine (unhide x1).mono ?_
  rintro e w1 ⟨rfl, b1⟩
  clear c0 c1 c2 c3 d0 d1 d2 d3 x1 hW0 hW1 hW2
  have B1 := hide b1
  obtain ⟨c0, c1, c2, c3⟩ := box4 (unhide HG) b1 hz2
  obtain ⟨d0, d1, d2, d3⟩ := box4 (unhide HK) b1 hz3
  have l1 := Nat.lt_of_lt_of_le hz2 b1.size
  have l2 := Nat.lt_of_lt_of_le hz3 b1.size
  have x2 := hide (unhide X2 w1 b1)
  clear b1
  go_wp2_with fail
  refine (unhide x2).mono ?_
  rintro e w2 ⟨rfl, b2⟩
  clear c0 c1 c2 c3 d0 d1 d2 d3 x2 l1 l2
  have b2 := (unhide B1).trans (b2.mono (unhide B1).size)
  have B2 := hide b2
  obtain ⟨c0, c1, c2, c3⟩ := box4 (unhide HG) b2 hz2
  obtain ⟨d0, d1, d2, d3⟩ := box4 (unhide HK) b2 hz3
  have l1 := Nat.lt_of_lt_of_le hz2 b2.size
  have l2 := Nat.lt_of_lt_of_le hz3 b2.size
  have x3 := hide (unhide X3 w2 b2)
  clear b2
  go_wp2_with fail
  refine (unhide x3).mono ?_
  rintro e w3 ⟨rfl, nq, rfl⟩
  clear x3
  have B3 := hide (bel_q (unhide B2) nq)
  have x4 := hide (unhide X4 _ (unhide B3))
  go_wp2_with fail
  refine (unhide x4).mono ?_
  rintro e w3 ⟨rfl, nr, rfl⟩
  clear x4
  have B4 : Hid (Below W2.heap.size W2 (w2.drewN (nq + nr))) := by
    have q := bel_q (unhide B3) nr
    rwa [World.drewN_drewN] at q
  have x5 := hide (unhide X5 (w2.drewN (nq + nr)))
  go_wp2_with fail
  refine (unhide x5).mono ?_
  rintro e w3 ⟨rfl, rfl⟩
  clear x5
  have x6 := hide (unhide X6 _ (unhide B4))
  go_wp2_with fail
  refine (unhide x6).mono ?_
  rintro e w4 ⟨rfl, b4⟩
  clear c0 c1 c2 c3 d0 d1 d2 d3 x6 l1 l2
  have b4 := (unhide B4).trans (b4.mono (unhide B4).size)
  have B5 := hide b4
  obtain ⟨c0, c1, c2, c3⟩ := box4 (unhide HG) b4 hz2
  obtain ⟨d0, d1, d2, d3⟩ := box4 (unhide HK) b4 hz3
  have l1 := Nat.lt_of_lt_of_le hz2 b4.size
  have l2 := Nat.lt_of_lt_of_le hz3 b4.size
  have x7 := hide (unhide X7 w4 b4)
  clear b4
  go_wp2_with fail
  refine (unhide x7).mono ?_
  rintro e w5 ⟨vK, vV, rfl, rK, rV, oK, oV, b5⟩
  clear c0 c1 c2 c3 d0 d1 d2 d3 x7 l1 l2
  have b5 := (unhide B5).trans (b5.mono (unhide B5).size)
  obtain ⟨pK, cK, rfl⟩ := owns_form rK
  obtain ⟨pV, cV, rfl⟩ := owns_form rV
  have hq := heap_alloc_new w5 (.cells #[.bool false, .slice none 0 0, .slice none 0 0, .slice none 0 0] 25)
  have hb3 := (Below.refl w5.heap.size w5).alloc (Nat.le_refl _) (.cells #[.bool false, .slice none 0 0, .slice none 0 0, .slice none 0 0] 25)
  have ht := setRow_heap _ _ _ #[.bool true, .slice pK jn.keys.length cK, .slice pV jn.vals.length cV, .slice none 0 0] 25 _ hq
  have hb4 := (setRow_only (w5.alloc (.cells #[.bool false, .slice none 0 0, .slice none 0 0, .slice none 0 0] 25)) w5.heap.size #[.bool true, .slice pK jn.keys.length cK, .slice pV jn.vals.length cV, .slice none 0 0]).below hb3 hb3.size (fun k e => by omega)
  have HQ := hide hq
  clear hq hb3
  generalize hW3 : (w5.alloc (.cells #[.bool false, .slice none 0 0, .slice none 0 0, .slice none 0 0] 25)).setRow w5.heap.size #[.bool true, .slice pK jn.keys.length cK, .slice pV jn.vals.length cV, .slice none 0 0] = W6 at ht hb4
  have HW3 := hide hW3
  have b6 := b5.trans (hb4.mono b5.size)
  have B6 := hide b6
  have rK6 := owns_below rK hb4
  have rV6 := owns_below rV hb4
  have hna : ∀ {W : World}, Below W6.heap.size W6 W → NA jn pK pV none W := fun {W} q => by
    obtain ⟨p, c, e1, s1, _⟩ := Sts.of (owns_below rK6 q)
    obtain ⟨p', c', e2, s2, _⟩ := Sts.of (owns_below rV6 q)
    cases e1
    cases e2
    rw [← unhide HJ] at *
    exact ⟨s1, s2, Ins.nil _ _⟩
  have x8 := hide (unhide X8 W6 pK pV cK cV (hna (Below.refl _ _)))
  have X9' := hide (fun W (q : Below W6.heap.size W6 W) => unhide X9 W pK pV cK cV (hna q))
  obtain ⟨c0, c1, c2, c3⟩ := box4 ht (Below.refl _ _) (lt_of_row ht)
  have hl6 := lt_of_row ht
  have HT6 := hide ht
  have hnd : nda jn pK pV none cK cV 0 = .agg #[.bool true, .slice pK jn.keys.length cK, .slice pV jn.vals.length cV, .slice none 0 0] := by rw [← unhide HJ]; rfl
  have hlf : jn.leaf = true := by rw [← unhide HJ]; rfl
  rw [hnd] at x8 X9'
  rw [hlf] at X9'
  have hl1 : W1.heap.size < W6.heap.size := Nat.lt_of_lt_of_le hz4 b6.size
  have HP6 := hide ((b6.block _ hz4).trans (unhide HP))
  clear rK rV rK6 rV6 oK oV b5 hb4 hW3 hna ht b6 X8 X9 hnd hlf
  generalize hkl : jn.keys.length = kl at *
  generalize hvl : jn.vals.length = vl at *
  have HKL := hide hkl
  have HVL := hide hvl
  clear hkl hvl
  go_wp2_with (first | (refine wp_st25 rfl (.tmp 8) (.tmp 45) rfl w5.heap.size (by rfl) true pK pV none kl cK vl cV 0 0 (by rfl) _ rfl (unhide HQ) ?_; rw [unhide HW3]) | fail)
  refine (unhide x8).mono ?_
  rintro e w7 ⟨rfl, b7⟩
  clear c0 c1 c2 c3 HQ HW3 x8
  obtain ⟨c0, c1, c2, c3⟩ := box4 (unhide HT6) b7 hl6
  have x9 := hide (unhide X9' w7 b7)
  have hl7 := Nat.lt_of_lt_of_le hl6 b7.size
  have HP7 := hide ((b7.block _ hl1).trans (unhide HP6))
  have B7 := hide ((unhide B6).trans (b7.mono (unhide B6).size))
  have h' : decide ((718 : Int) < (jn.siz : Int)) = false := by rw [decide_eq_false_iff_not]; omega
  clear b7 X9'
  go_wp2_with fail
  refine (unhide x9).mono ?_
  rintro e w8 ⟨vK, vV, rfl, rK, rV, oK, oV, b8⟩
  obtain ⟨qK, dK, rfl⟩ := owns_form rK
  obtain ⟨qV, dV, rfl⟩ := owns_form rV
  have hp8 := (b8.block _ (lt_of_row (unhide HP7))).trans (unhide HP7)
  have HP8 := hide hp8
  have RK := hide rK
  have RV := hide rV
  have OK := hide oK
  have OV := hide oV
  have B8 := hide ((unhide B7).trans (b8.mono (unhide B7).size))
  have hS7 := (unhide B7).size
  clear rK rV oK oV b8 hp8 c0 c1 c2 c3 x9
  go_wp2_with (first | (refine wp_st25 rfl (.tmp 6) (.tmp 51) rfl W1.heap.size (by rfl) true qK qV none kl dK vl dV 0 0 (by rfl) _ rfl (unhide HP8) ?_) | fail)
  have h4 := setRow_heap _ _ _ #[.bool true, .slice qK kl dK, .slice qV vl dV, .slice none 0 0] 25 _ (unhide HP8)
  have oF := setRow_only w8 W1.heap.size #[.bool true, .slice qK kl dK, .slice qV vl dV, .slice none 0 0]
  have hX := unhide HX
  have hbb := (unhide HA2).trans ((unhide B8).mono (unhide HA2).size)
  refine outN (p := 6) (q := 7) rfl (by rfl) (by rfl) (by rfl) h4 ⟨_, _, rfl, ?_, ?_, fun i hi => ?_, fun i hi => ?_, oF.below hbb hbb.size (fun i e => by omega)⟩
  · rw [unhide HKL]
    exact owns_only (unhide RK) oF (fun i hi e => by have := unhide OK i hi; omega)
  · rw [unhide HVL]
    exact owns_only (unhide RV) oF (fun i hi e => by have := unhide OV i hi; omega)
  · have := unhide OK i hi; omega
  · have := unhide OV i hi; omega
end Go.Proofs.YtllialbdofklgaaGreatDoor
