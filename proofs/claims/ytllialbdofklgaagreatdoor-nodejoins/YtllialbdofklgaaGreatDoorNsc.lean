import Derived.Test.YtllialbdofklgaaGreatDoorZnra
import Derived.Test.YtllialbdofklgaaGreatDoorNsb
import Derived.Test.YtllialbdofklgaaGreatDoorZnpb
namespace Go.Proofs.YtllialbdofklgaaGreatDoor
open Go.RowKit
set_option linter.unusedVariables false
set_option linter.unusedSimpArgs false
set_option maxHeartbeats 16000000
set_option maxRecDepth 8000
/-- What the document's Join asks of the keys. -/
def gt9 (m : Nd) (key : Bs) (n : Nd) : Bool := (m.leaf == n.leaf) && (decide (m.keys.length = 0) || decide (m.keys.getD (m.keys.length - 1) [] < key)) && (decide (n.keys.length = 0) || (!decide (n.keys.getD 0 [] < key) && (n.leaf || !decide (n.keys.getD 0 [] = key))))
theorem gtv_gt9 {m n : Nd} {key : Bs} (fm : mj m = true) (fn : mj n = true) : gtv m key n = (gt9 m key n && unl (m.kids ++ n.kids)) := by
  unfold gtv gt9
  cases lm : m.leaf <;> cases ln : n.leaf
  · have h1 := (mj_inner fn ln).1
    have h2 : ¬ n.keys.length = 0 := by omega
    have h3 : decide (key < n.keys.getD 0 []) = (!decide (n.keys.getD 0 [] < key) && !decide (n.keys.getD 0 [] = key)) := by
      generalize n.keys.getD 0 [] = y
      by_cases q1 : y < key
      · have : ¬ key < y := fun q => lt_irrefl' _ (lt_trans' q1 q)
        simp only [decide_eq_false this, decide_eq_true q1, Bool.not_true, Bool.false_and]
      · by_cases q2 : y = key
        · subst q2
          rw [decide_eq_false q1]; simp
        · simp only [decide_eq_true (lt_total' q1 q2), decide_eq_false q1, decide_eq_false q2, Bool.not_false, Bool.and_self]
    rw [h3, decide_eq_false h2]
    simp [Bool.and_assoc]
  · simp
  · simp
  · rw [(mj_leaf fm lm).2.1, (mj_leaf fn ln).2.1]
    have : unl ([] ++ [] : List Int) = true := unl_nodup List.nodup_nil
    rw [this]
    simp
theorem refJoin_b (m n : Nd) (ka va ia kb vb ib : Option Addr) (kc vc ic kd vd jd : Nat) (key : Bs) (w : World) (hm : NA m ka va ia w) (hn : NA n kb vb ib w) (bm : NB m) (bn : NB n) (z1 : ka = none → kc = 0) (z2 : va = none → vc = 0) (z3 : ia = none → ic = 0) (y1 : kb = none → kd = 0) (y2 : vb = none → vd = 0) (y3 : ib = none → jd = 0)
    (ci : m.kids.length ≤ ic) (hic : ic ≤ 9223372036854775807) (cj : n.kids.length ≤ jd) (hjd : jd ≤ 9223372036854775807) (hk : key.length ≤ 4294967296) :
    Calls Tryz.prog 57 #[nda m ka va ia kc vc ic, S key, nda n kb vb ib kd vd jd] w fun e w' => ∃ vK vV vI, e = .returned (.tuple #[.agg #[.bool (jrs m key n).leaf, vK, vV, vI], I (jer m key n)]) ∧ Rws w.heap.size (jrs m key n) vK vV vI w' ∧ Below w.heap.size w w' := by
  have hA := (Below.refl w.heap.size w).alloc (Nat.le_refl _) (.cells #[.bool m.leaf, .slice ka m.keys.length kc, .slice va m.vals.length vc, .slice ia m.kids.length ic] 25)
  have hg := heap_alloc_new w (.cells #[.bool m.leaf, .slice ka m.keys.length kc, .slice va m.vals.length vc, .slice ia m.kids.length ic] 25)
  have hs0 := size_alloc w (.cells #[.bool m.leaf, .slice ka m.keys.length kc, .slice va m.vals.length vc, .slice ia m.kids.length ic] 25)
  generalize hW0 : w.alloc (.cells #[.bool m.leaf, .slice ka m.keys.length kc, .slice va m.vals.length vc, .slice ia m.kids.length ic] 25) = W0 at hA hg hs0
  have hA1 := hA.alloc hA.size (.cells #[.bool n.leaf, .slice kb n.keys.length kd, .slice vb n.vals.length vd, .slice ib n.kids.length jd] 25)
  have hg1 := (alloc_old W0 (.cells #[.bool n.leaf, .slice kb n.keys.length kd, .slice vb n.vals.length vd, .slice ib n.kids.length jd] 25) (lt_of_row hg)).trans hg
  have hk1 := heap_alloc_new W0 (.cells #[.bool n.leaf, .slice kb n.keys.length kd, .slice vb n.vals.length vd, .slice ib n.kids.length jd] 25)
  have hs1 := size_alloc W0 (.cells #[.bool n.leaf, .slice kb n.keys.length kd, .slice vb n.vals.length vd, .slice ib n.kids.length jd] 25)
  generalize hW1 : W0.alloc (.cells #[.bool n.leaf, .slice kb n.keys.length kd, .slice vb n.vals.length vd, .slice ib n.kids.length jd] 25) = W1 at hA1 hg1 hk1 hs1
  have hA2 := hA1.alloc hA1.size (.cells #[.bool false, .slice none 0 0, .slice none 0 0, .slice none 0 0] 25)
  have hp := heap_alloc_new W1 (.cells #[.bool false, .slice none 0 0, .slice none 0 0, .slice none 0 0] 25)
  have hg2 := (alloc_old W1 (.cells #[.bool false, .slice none 0 0, .slice none 0 0, .slice none 0 0] 25) (lt_of_row hg1)).trans hg1
  have hk2 := (alloc_old W1 (.cells #[.bool false, .slice none 0 0, .slice none 0 0, .slice none 0 0] 25) (lt_of_row hk1)).trans hk1
  have hs2 := size_alloc W1 (.cells #[.bool false, .slice none 0 0, .slice none 0 0, .slice none 0 0] 25)
  generalize hW2 : W1.alloc (.cells #[.bool false, .slice none 0 0, .slice none 0 0, .slice none 0 0] 25) = W2 at hA2 hp hg2 hk2 hs2
  have HX := hide (show W0.heap.size = w.heap.size + 1 ∧ W1.heap.size = W0.heap.size + 1 ∧ W2.heap.size = W1.heap.size + 1 from ⟨hs0, hs1, hs2⟩)
  have HM := fun {W : World} (q : Below W2.heap.size W2 W) => (hm.below hA2).below q
  have HN := fun {W : World} (q : Below W2.heap.size W2 W) => (hn.below hA2).below q
  have HMM := hide (fun W (q : Below W2.heap.size W2 W) => HM q)
  have HNN := hide (fun W (q : Below W2.heap.size W2 W) => HN q)
  have X1 := hide (fun W (q : Below W2.heap.size W2 W) => refForm_any m true ka va ia kc vc ic W (HM q) bm ci hic)
  have X2 := hide (fun W (q : Below W2.heap.size W2 W) => refForm_any n true kb vb ib kd vd jd W (HN q) bn cj hjd)
  have X3 := hide (fun W (q : Below W2.heap.size W2 W) => refSize_any m ka va ia kc vc ic W (HM q) bm)
  have X4 := hide (fun W (q : Below W2.heap.size W2 W) => refSize_any n kb vb ib kd vd jd W (HN q) bn)
  have X5 := hide (fun W (q : Below W2.heap.size W2 W) => refKeys_any ka _ kc m.keys W (HM q).ks bm.k bm.kt)
  have X6 := hide (fun W (q : Below W2.heap.size W2 W) => refKeys_any kb _ kd n.keys W (HN q).ks bn.k bn.kt)
  have X7 := hide (fun W (q : Below W2.heap.size W2 W) => refTexts_any ka _ kc m.keys W (HM q).ks bm.k z1)
  have X8 := hide (fun W (q : Below W2.heap.size W2 W) => refTexts_any va _ vc m.vals W (HM q).vs bm.v z2)
  have X9 := hide (fun W (q : Below W2.heap.size W2 W) => refNumbers_any ia _ ic m.kids W (HM q).is bm.i z3)
  have hsm := siz_le bm
  have hsn := siz_le bn
  have HY := hide (And.intro y1 (And.intro y2 y3))
  have HBM := hide bm
  have HBN := hide bn
  unfold nda at X1 X2 X3 X4 ⊢
  have HA2 := hide hA2
  have HP := hide hp
  have HG := hide hg2
  have HK := hide hk2
  have hz2 : w.heap.size < W2.heap.size := by omega
  have hz3 : W0.heap.size < W2.heap.size := by omega
  have hz4 : W1.heap.size < W2.heap.size := by omega
  clear HM HN hA hg hA1 hg1 hk1 hA2 hp hg2 hk2 hs0 hs1 hs2 hm hn bm bn z1 z2 z3 y1 y2 y3 ci hic cj hjd
  obtain ⟨c0, c1, c2, c3⟩ := box4 (unhide HG) (Below.refl _ _) hz2
  obtain ⟨d0, d1, d2, d3⟩ := box4 (unhide HK) (Below.refl _ _) hz3
  have x1 := hide (unhide X1 W2 (Below.refl _ _))
  generalize hk1 : m.keys.length = k1 at *
  generalize hv1 : m.vals.length = v1 at *
  generalize hi1 : m.kids.length = i1 at *
  generalize hk2 : n.keys.length = k2 at *
  generalize hv2 : n.vals.length = v2 at *
  generalize hi2 : n.kids.length = i2 at *
  generalize hl1 : m.leaf = lm at *
  generalize hl2 : n.leaf = ln at *
  have HEQ := hide (show (m.keys.length = k1 ∧ m.vals.length = v1 ∧ m.kids.length = i1 ∧ m.leaf = lm) ∧ (n.keys.length = k2 ∧ n.vals.length = v2 ∧ n.kids.length = i2 ∧ n.leaf = ln) from ⟨⟨hk1, hv1, hi1, hl1⟩, ⟨hk2, hv2, hi2, hl2⟩⟩)
  clear hk1 hv1 hi1 hl1 hk2 hv2 hi2 hl2
  generalize hsz1 : m.siz = sz1 at *
  generalize hsz2 : n.siz = sz2 at *
  have HSZ := hide (And.intro hsz1 hsz2)
  clear hsz1 hsz2
  go_enter Tryz.func57, Tryz.ntmps57
  go_wp2_with fail
  refine (unhide x1).mono ?_
  rintro e w1 ⟨rfl, b1⟩
  clear c0 c1 c2 c3 d0 d1 d2 d3 x1 hW0 hW1 hW2
  have B1 := hide b1
  obtain ⟨d0, d1, d2, d3⟩ := box4 (unhide HK) b1 hz3
  have l2 := Nat.lt_of_lt_of_le hz3 b1.size
  have x2 := hide (unhide X2 w1 b1)
  clear b1
  go_wp2_with fail
  refine (unhide x2).mono ?_
  rintro e w2 ⟨rfl, b2⟩
  clear d0 d1 d2 d3 x2 l2
  have b2 := (unhide B1).trans (b2.mono (unhide B1).size)
  have B2 := hide b2
  cases f1 : fmr m true
  · clear b2
    have hjer : jer m key n = 100 := by unfold jer mj; rw [f1]; rfl
    have hjrs : jrs m key n = zro := by unfold jrs; rw [hjer]; rfl
    have hpE := ((unhide B2).block _ hz4).trans (unhide HP)
    have hbbE := (unhide HA2).trans ((unhide B2).mono (unhide HA2).size)
    have HPE := hide hpE
    have HBE := hide hbbE
    have HJE := hide (And.intro hjer hjrs)
    clear hpE hbbE hjer hjrs
    go_wp2_with (first | (refine wp_st25 rfl (.tmp 6) (.tmp 34) rfl W1.heap.size (by rfl) false none none none 0 0 0 0 0 0 (by rfl) _ rfl (unhide HPE) ?_) | fail)
    have h4 := setRow_heap _ _ _ #[.bool false, .slice none 0 0, .slice none 0 0, .slice none 0 0] 25 _ (unhide HPE)
    have oF := setRow_only w2 W1.heap.size #[.bool false, .slice none 0 0, .slice none 0 0, .slice none 0 0]
    have hX := unhide HX
    obtain ⟨hjer, hjrs⟩ := unhide HJE
    rw [hjer, hjrs]
    exact outN (p := 6) (q := 7) (v := I (100 : Nat)) rfl (by rfl) (by rfl) (by rfl) h4 ⟨.slice none 0 0, .slice none 0 0, .slice none 0 0, rfl, Rws.zro _ _, oF.below (unhide HBE) (unhide HBE).size (fun i e => by omega)⟩
  cases f2 : fmr n true
  · clear b2
    have hjer : jer m key n = 100 := by unfold jer mj; rw [f1, f2]; simp
    have hjrs : jrs m key n = zro := by unfold jrs; rw [hjer]; rfl
    have hpE := ((unhide B2).block _ hz4).trans (unhide HP)
    have hbbE := (unhide HA2).trans ((unhide B2).mono (unhide HA2).size)
    have HPE := hide hpE
    have HBE := hide hbbE
    have HJE := hide (And.intro hjer hjrs)
    clear hpE hbbE hjer hjrs
    go_wp2_with (first | (refine wp_st25 rfl (.tmp 6) (.tmp 34) rfl W1.heap.size (by rfl) false none none none 0 0 0 0 0 0 (by rfl) _ rfl (unhide HPE) ?_) | fail)
    have h4 := setRow_heap _ _ _ #[.bool false, .slice none 0 0, .slice none 0 0, .slice none 0 0] 25 _ (unhide HPE)
    have oF := setRow_only w2 W1.heap.size #[.bool false, .slice none 0 0, .slice none 0 0, .slice none 0 0]
    have hX := unhide HX
    obtain ⟨hjer, hjrs⟩ := unhide HJE
    rw [hjer, hjrs]
    exact outN (p := 6) (q := 7) (v := I (100 : Nat)) rfl (by rfl) (by rfl) (by rfl) h4 ⟨.slice none 0 0, .slice none 0 0, .slice none 0 0, rfl, Rws.zro _ _, oF.below (unhide HBE) (unhide HBE).size (fun i e => by omega)⟩
  obtain ⟨c0, c1, c2, c3⟩ := box4 (unhide HG) b2 hz2
  have l1 := Nat.lt_of_lt_of_le hz2 b2.size
  have x3 := hide (unhide X3 w2 b2)
  clear b2
  go_wp2_with fail
  refine (unhide x3).mono ?_
  rintro e w3 ⟨rfl, b3⟩
  clear c0 c1 c2 c3 x3 l1
  have b3 := (unhide B2).trans (b3.mono (unhide B2).size)
  have B3 := hide b3
  by_cases s1 : 480 < sz1
  · have s1' : decide ((480 : Int) < (sz1 : Int)) = true := by rw [decide_eq_true_eq]; omega
    have s1'' : (480 : Int) < (sz1 : Int) := by omega
    clear b3
    have hjer : jer m key n = 100 := by unfold jer mj; rw [f1, (unhide HSZ).1, decide_eq_false (show ¬ sz1 ≤ 480 by omega)]; rfl
    have hjrs : jrs m key n = zro := by unfold jrs; rw [hjer]; rfl
    have hpE := ((unhide B3).block _ hz4).trans (unhide HP)
    have hbbE := (unhide HA2).trans ((unhide B3).mono (unhide HA2).size)
    have HPE := hide hpE
    have HBE := hide hbbE
    have HJE := hide (And.intro hjer hjrs)
    clear hpE hbbE hjer hjrs
    go_wp2_with (first | (refine wp_st25 rfl (.tmp 6) (.tmp 34) rfl W1.heap.size (by rfl) false none none none 0 0 0 0 0 0 (by rfl) _ rfl (unhide HPE) ?_) | fail)
    have h4 := setRow_heap _ _ _ #[.bool false, .slice none 0 0, .slice none 0 0, .slice none 0 0] 25 _ (unhide HPE)
    have oF := setRow_only w3 W1.heap.size #[.bool false, .slice none 0 0, .slice none 0 0, .slice none 0 0]
    have hX := unhide HX
    obtain ⟨hjer, hjrs⟩ := unhide HJE
    rw [hjer, hjrs]
    exact outN (p := 6) (q := 7) (v := I (100 : Nat)) rfl (by rfl) (by rfl) (by rfl) h4 ⟨.slice none 0 0, .slice none 0 0, .slice none 0 0, rfl, Rws.zro _ _, oF.below (unhide HBE) (unhide HBE).size (fun i e => by omega)⟩
  have s1' : decide ((480 : Int) < (sz1 : Int)) = false := by rw [decide_eq_false_iff_not]; omega
  have s1'' : ¬ (480 : Int) < (sz1 : Int) := by omega
  obtain ⟨d0, d1, d2, d3⟩ := box4 (unhide HK) b3 hz3
  have l2 := Nat.lt_of_lt_of_le hz3 b3.size
  have x4 := hide (unhide X4 w3 b3)
  clear b3
  go_wp2_with fail
  refine (unhide x4).mono ?_
  rintro e w4 ⟨rfl, b4⟩
  clear d0 d1 d2 d3 x4 l2
  have b4 := (unhide B3).trans (b4.mono (unhide B3).size)
  have B4 := hide b4
  by_cases s2 : 480 < sz2
  · have s2' : decide ((480 : Int) < (sz2 : Int)) = true := by rw [decide_eq_true_eq]; omega
    have s2'' : (480 : Int) < (sz2 : Int) := by omega
    clear b4
    have hjer : jer m key n = 100 := by unfold jer mj; rw [f1, f2, (unhide HSZ).2, decide_eq_false (show ¬ sz2 ≤ 480 by omega)]; simp
    have hjrs : jrs m key n = zro := by unfold jrs; rw [hjer]; rfl
    have hpE := ((unhide B4).block _ hz4).trans (unhide HP)
    have hbbE := (unhide HA2).trans ((unhide B4).mono (unhide HA2).size)
    have HPE := hide hpE
    have HBE := hide hbbE
    have HJE := hide (And.intro hjer hjrs)
    clear hpE hbbE hjer hjrs
    go_wp2_with (first | (refine wp_st25 rfl (.tmp 6) (.tmp 34) rfl W1.heap.size (by rfl) false none none none 0 0 0 0 0 0 (by rfl) _ rfl (unhide HPE) ?_) | fail)
    have h4 := setRow_heap _ _ _ #[.bool false, .slice none 0 0, .slice none 0 0, .slice none 0 0] 25 _ (unhide HPE)
    have oF := setRow_only w4 W1.heap.size #[.bool false, .slice none 0 0, .slice none 0 0, .slice none 0 0]
    have hX := unhide HX
    obtain ⟨hjer, hjrs⟩ := unhide HJE
    rw [hjer, hjrs]
    exact outN (p := 6) (q := 7) (v := I (100 : Nat)) rfl (by rfl) (by rfl) (by rfl) h4 ⟨.slice none 0 0, .slice none 0 0, .slice none 0 0, rfl, Rws.zro _ _, oF.below (unhide HBE) (unhide HBE).size (fun i e => by omega)⟩
  have s2' : decide ((480 : Int) < (sz2 : Int)) = false := by rw [decide_eq_false_iff_not]; omega
  have s2'' : ¬ (480 : Int) < (sz2 : Int) := by omega
  have g1 : mj m = true := by unfold mj; rw [f1, (unhide HSZ).1, decide_eq_true (show sz1 ≤ 480 by omega)]; rfl
  have g2 : mj n = true := by unfold mj; rw [f2, (unhide HSZ).2, decide_eq_true (show sz2 ≤ 480 by omega)]; rfl
  have G1' := hide g1
  have G2' := hide g2
  have HE0 : Hid (∀ {c : Nat}, (if (kok m.keys && kok n.keys && !noKey key) = false then 101 else if gtv m key n = false then 103 else if 718 < (jn m key n).siz then 102 else 0) = c → jer m key n = c) := fun {c} q => by unfold jer; rw [g1, g2]; exact q
  obtain ⟨c0, c1, c2, c3⟩ := box4 (unhide HG) b4 hz2
  obtain ⟨d0, d1, d2, d3⟩ := box4 (unhide HK) b4 hz3
  have l1 := Nat.lt_of_lt_of_le hz2 b4.size
  have l2 := Nat.lt_of_lt_of_le hz3 b4.size
  have x5 := hide (unhide X5 w4 b4)
  clear b4 f1 f2 g1 g2
  go_wp2_with fail
  refine (unhide x5).mono ?_
  rintro e w5 ⟨rfl, nq, rfl⟩
  clear x5
  have B5 := hide (bel_q (unhide B4) nq)
  have x6 := hide (unhide X6 _ (unhide B5))
  clear s1 s1' s1'' s2 s2' s2''
  go_wp2_with fail
  refine (unhide x6).mono ?_
  rintro e w5 ⟨rfl, nr, rfl⟩
  clear x6
  have B6 : Hid (Below W2.heap.size W2 (w4.drewN (nq + nr))) := by
    have q := bel_q (unhide B5) nr
    rwa [World.drewN_drewN] at q
  cases f3 : kok m.keys
  · clear c0 c1 c2 c3 d0 d1 d2 d3
    have hjer : jer m key n = 101 := by exact unhide HE0 (by rw [f3]; rfl)
    have hjrs : jrs m key n = zro := by unfold jrs; rw [hjer]; rfl
    have hpE := ((unhide B6).block _ hz4).trans (unhide HP)
    have hbbE := (unhide HA2).trans ((unhide B6).mono (unhide HA2).size)
    have HPE := hide hpE
    have HBE := hide hbbE
    have HJE := hide (And.intro hjer hjrs)
    clear hpE hbbE hjer hjrs
    go_wp2_with (first | (refine wp_st25 rfl (.tmp 6) (.tmp 57) rfl W1.heap.size (by rfl) false none none none 0 0 0 0 0 0 (by rfl) _ rfl (unhide HPE) ?_) | fail)
    have h4 := setRow_heap _ _ _ #[.bool false, .slice none 0 0, .slice none 0 0, .slice none 0 0] 25 _ (unhide HPE)
    have oF := setRow_only (w4.drewN (nq + nr)) W1.heap.size #[.bool false, .slice none 0 0, .slice none 0 0, .slice none 0 0]
    have hX := unhide HX
    obtain ⟨hjer, hjrs⟩ := unhide HJE
    rw [hjer, hjrs]
    exact outN (p := 6) (q := 7) (v := I (101 : Nat)) rfl (by rfl) (by rfl) (by rfl) h4 ⟨.slice none 0 0, .slice none 0 0, .slice none 0 0, rfl, Rws.zro _ _, oF.below (unhide HBE) (unhide HBE).size (fun i e => by omega)⟩
  cases f4 : kok n.keys
  · clear c0 c1 c2 c3 d0 d1 d2 d3
    have hjer : jer m key n = 101 := by exact unhide HE0 (by rw [f3, f4]; rfl)
    have hjrs : jrs m key n = zro := by unfold jrs; rw [hjer]; rfl
    have hpE := ((unhide B6).block _ hz4).trans (unhide HP)
    have hbbE := (unhide HA2).trans ((unhide B6).mono (unhide HA2).size)
    have HPE := hide hpE
    have HBE := hide hbbE
    have HJE := hide (And.intro hjer hjrs)
    clear hpE hbbE hjer hjrs
    go_wp2_with (first | (refine wp_st25 rfl (.tmp 6) (.tmp 57) rfl W1.heap.size (by rfl) false none none none 0 0 0 0 0 0 (by rfl) _ rfl (unhide HPE) ?_) | fail)
    have h4 := setRow_heap _ _ _ #[.bool false, .slice none 0 0, .slice none 0 0, .slice none 0 0] 25 _ (unhide HPE)
    have oF := setRow_only (w4.drewN (nq + nr)) W1.heap.size #[.bool false, .slice none 0 0, .slice none 0 0, .slice none 0 0]
    have hX := unhide HX
    obtain ⟨hjer, hjrs⟩ := unhide HJE
    rw [hjer, hjrs]
    exact outN (p := 6) (q := 7) (v := I (101 : Nat)) rfl (by rfl) (by rfl) (by rfl) h4 ⟨.slice none 0 0, .slice none 0 0, .slice none 0 0, rfl, Rws.zro _ _, oF.below (unhide HBE) (unhide HBE).size (fun i e => by omega)⟩
  by_cases q1 : key.length < 1
  · have q1' : decide ((key.length : Int) < 1) = true := by rw [decide_eq_true_eq]; omega
    have q1'' : (key.length : Int) < 1 := by omega
    clear c0 c1 c2 c3 d0 d1 d2 d3
    have hjer : jer m key n = 101 := by exact unhide HE0 (by rw [f3, f4]; unfold noKey; rw [decide_eq_true q1]; rfl)
    have hjrs : jrs m key n = zro := by unfold jrs; rw [hjer]; rfl
    have hpE := ((unhide B6).block _ hz4).trans (unhide HP)
    have hbbE := (unhide HA2).trans ((unhide B6).mono (unhide HA2).size)
    have HPE := hide hpE
    have HBE := hide hbbE
    have HJE := hide (And.intro hjer hjrs)
    clear hpE hbbE hjer hjrs
    go_wp2_with (first | (refine wp_st25 rfl (.tmp 6) (.tmp 57) rfl W1.heap.size (by rfl) false none none none 0 0 0 0 0 0 (by rfl) _ rfl (unhide HPE) ?_) | fail)
    have h4 := setRow_heap _ _ _ #[.bool false, .slice none 0 0, .slice none 0 0, .slice none 0 0] 25 _ (unhide HPE)
    have oF := setRow_only (w4.drewN (nq + nr)) W1.heap.size #[.bool false, .slice none 0 0, .slice none 0 0, .slice none 0 0]
    have hX := unhide HX
    obtain ⟨hjer, hjrs⟩ := unhide HJE
    rw [hjer, hjrs]
    exact outN (p := 6) (q := 7) (v := I (101 : Nat)) rfl (by rfl) (by rfl) (by rfl) h4 ⟨.slice none 0 0, .slice none 0 0, .slice none 0 0, rfl, Rws.zro _ _, oF.below (unhide HBE) (unhide HBE).size (fun i e => by omega)⟩
  have q1' : decide ((key.length : Int) < 1) = false := by rw [decide_eq_false_iff_not]; omega
  have q1'' : ¬ (key.length : Int) < 1 := by omega
  by_cases q2 : 36 < key.length
  · have q2' : decide ((36 : Int) < (key.length : Int)) = true := by rw [decide_eq_true_eq]; omega
    have q2'' : (36 : Int) < (key.length : Int) := by omega
    clear c0 c1 c2 c3 d0 d1 d2 d3
    have hjer : jer m key n = 101 := by exact unhide HE0 (by rw [f3, f4]; unfold noKey; rw [decide_eq_true q2]; simp)
    have hjrs : jrs m key n = zro := by unfold jrs; rw [hjer]; rfl
    have hpE := ((unhide B6).block _ hz4).trans (unhide HP)
    have hbbE := (unhide HA2).trans ((unhide B6).mono (unhide HA2).size)
    have HPE := hide hpE
    have HBE := hide hbbE
    have HJE := hide (And.intro hjer hjrs)
    clear hpE hbbE hjer hjrs
    go_wp2_with (first | (refine wp_st25 rfl (.tmp 6) (.tmp 57) rfl W1.heap.size (by rfl) false none none none 0 0 0 0 0 0 (by rfl) _ rfl (unhide HPE) ?_) | fail)
    have h4 := setRow_heap _ _ _ #[.bool false, .slice none 0 0, .slice none 0 0, .slice none 0 0] 25 _ (unhide HPE)
    have oF := setRow_only (w4.drewN (nq + nr)) W1.heap.size #[.bool false, .slice none 0 0, .slice none 0 0, .slice none 0 0]
    have hX := unhide HX
    obtain ⟨hjer, hjrs⟩ := unhide HJE
    rw [hjer, hjrs]
    exact outN (p := 6) (q := 7) (v := I (101 : Nat)) rfl (by rfl) (by rfl) (by rfl) h4 ⟨.slice none 0 0, .slice none 0 0, .slice none 0 0, rfl, Rws.zro _ _, oF.below (unhide HBE) (unhide HBE).size (fun i e => by omega)⟩
  have q2' : decide ((36 : Int) < (key.length : Int)) = false := by rw [decide_eq_false_iff_not]; omega
  have q2'' : ¬ (36 : Int) < (key.length : Int) := by omega
  have f5 : noKey key = false := by unfold noKey; rw [decide_eq_false q1, decide_eq_false q2]; rfl
  have HE1 : Hid (∀ {c : Nat}, (if gtv m key n = false then 103 else if 718 < (jn m key n).siz then 102 else 0) = c → jer m key n = c) := fun {c} q => unhide HE0 (by rw [f3, f4, f5]; exact q)
  have F5 := hide f5
  clear f3 f4 f5 HE0
  go_upto_region 9 with fail
  clear q1 q1' q1'' q2 q2' q2''
  obtain ⟨⟨ek1, ev1, ei1, el1⟩, ⟨ek2, ev2, ei2, el2⟩⟩ := unhide HEQ
  obtain ⟨x, hx⟩ : ∃ x, x = m.keys.getD (k1 - 1) [] := ⟨_, rfl⟩
  obtain ⟨y, hy⟩ : ∃ y, y = n.keys.getD 0 [] := ⟨_, rfl⟩
  have hg9 : gt9 m key n = ((lm == ln) && (decide (k1 = 0) || decide (x < key)) && (decide (k2 = 0) || (!decide (y < key) && (ln || !decide (y = key))))) := by unfold gt9; rw [ek1, ek2, el1, el2, ← hx, ← hy]
  have HG9 := hide hg9
  have HXY := hide (And.intro hx hy)
  have hkb1 : k1 ≤ 4294967296 := by rw [← ek1]; exact (unhide HBM).k
  have hkb2 : k2 ≤ 4294967296 := by rw [← ek2]; exact (unhide HBN).k
  clear hg9 ek1 ev1 ei1 el1 ek2 ev2 ei2 el2 hx hy
  go_cut [107] from 58 to 107 (fun s wx => s = .bool (!gt9 m key n) ∧ wx = (w4.drewN (nq + nr)))
  case first =>
    have hxc : 0 < k1 → ∃ g o, ka = some ⟨g, o, none⟩ ∧ g < w4.heap.size ∧ w4.cell? ⟨g, o + (k1 - 1), none⟩ = some (S x) := fun p => by
      obtain ⟨g, o, e, q, c⟩ := (unhide HMM w4 (unhide B4)).ks.at (show k1 - 1 < m.keys.length by rw [(unhide HEQ).1.1]; omega)
      rw [← (unhide HXY).1] at c
      exact ⟨g, o, e, q, c⟩
    have hyc : 0 < k2 → ∃ g o, kb = some ⟨g, o, none⟩ ∧ g < w4.heap.size ∧ w4.cell? ⟨g, o, none⟩ = some (S y) := fun p => by
      obtain ⟨g, o, e, q, c⟩ := (unhide HNN w4 (unhide B4)).ks.at (show 0 < n.keys.length by rw [(unhide HEQ).2.1]; exact p)
      rw [← (unhide HXY).2] at c
      exact ⟨g, o, e, q, c⟩
    have HXC := hide hxc
    have HYC := hide hyc
    clear hxc hyc X1 X2 X3 X4 X5 X6 X7 X8 X9 HE1 HP HMM HNN HEQ HSZ HXY HA2 HX HY
    cases lm <;> cases ln
    · by_cases p1 : k1 = 0
      · subst p1
        by_cases p2 : k2 = 0
        · subst p2
          go_wp2
          go_meet
          refine ⟨?_, rfl⟩
          rw [unhide HG9]
          simp
        · by_cases h2 : y < key
          · obtain ⟨g2, o2, rfl, u2, t2⟩ := unhide HYC (by omega)
            have s2 := fun W => run_lss y key W
            rw [show decide (y < key) = true from decide_eq_true h2] at s2
            have sb : Op.bytesLess y key = true := by rw [less_eq]; exact decide_eq_true h2
            have r1' : (0 : Int) < (k2 : Int) := by omega
            have r1'' : decide ((0 : Int) < (k2 : Int)) = true := by rw [decide_eq_true_eq]; omega
            obtain ⟨jj, rfl⟩ : ∃ jj, k2 = jj + 1 := ⟨k2 - 1, by omega⟩
            clear p2
            go_wp2
            go_meet
            refine ⟨?_, rfl⟩
            rw [unhide HG9]
            simp [h2]
          · by_cases h3 : y = key
            · obtain ⟨g2, o2, rfl, u2, t2⟩ := unhide HYC (by omega)
              have s2 := fun W => run_lss y key W
              rw [show decide (y < key) = false from decide_eq_false h2] at s2
              have sb : Op.bytesLess y key = false := by rw [less_eq]; exact decide_eq_false h2
              have r1' : (0 : Int) < (k2 : Int) := by omega
              have r1'' : decide ((0 : Int) < (k2 : Int)) = true := by rw [decide_eq_true_eq]; omega
              obtain ⟨jj, rfl⟩ : ∃ jj, k2 = jj + 1 := ⟨k2 - 1, by omega⟩
              clear p2
              have s3 := fun W => run_eql y key W
              rw [show decide (y = key) = true from decide_eq_true h3] at s3
              have se : (y == key) = true := by simp [h3]
              have sc : Op.bytesLess key key = false := by rw [less_eq]; exact decide_eq_false (lt_irrefl' key)
              go_wp2
              go_meet
              refine ⟨?_, rfl⟩
              rw [unhide HG9, decide_eq_false h2, decide_eq_true h3]
              simp [h2]
            · obtain ⟨g2, o2, rfl, u2, t2⟩ := unhide HYC (by omega)
              have s2 := fun W => run_lss y key W
              rw [show decide (y < key) = false from decide_eq_false h2] at s2
              have sb : Op.bytesLess y key = false := by rw [less_eq]; exact decide_eq_false h2
              have r1' : (0 : Int) < (k2 : Int) := by omega
              have r1'' : decide ((0 : Int) < (k2 : Int)) = true := by rw [decide_eq_true_eq]; omega
              obtain ⟨jj, rfl⟩ : ∃ jj, k2 = jj + 1 := ⟨k2 - 1, by omega⟩
              clear p2
              have s3 := fun W => run_eql y key W
              rw [show decide (y = key) = false from decide_eq_false h3] at s3
              have se : (y == key) = false := by simp [h3]
              have sc : Op.bytesLess key key = false := by rw [less_eq]; exact decide_eq_false (lt_irrefl' key)
              go_wp2
              go_meet
              refine ⟨?_, rfl⟩
              rw [unhide HG9, decide_eq_false h2, decide_eq_false h3]
              simp [h3, h2]
      · by_cases h1 : x < key
        · obtain ⟨g1, o1, rfl, u1, t1⟩ := unhide HXC (by omega)
          have s1 := fun W => run_geq x key W
          rw [show decide (¬ x < key) = false from decide_eq_false (fun q => q h1)] at s1
          have p1' : (0 : Int) < (k1 : Int) := by omega
          have p1'' : decide ((0 : Int) < (k1 : Int)) = true := by rw [decide_eq_true_eq]; omega
          obtain ⟨kk, rfl⟩ : ∃ kk, k1 = kk + 1 := ⟨k1 - 1, by omega⟩
          rw [Nat.add_sub_cancel] at t1
          by_cases p2 : k2 = 0
          · subst p2
            go_wp2
            go_meet
            refine ⟨?_, rfl⟩
            rw [unhide HG9]
            simp [h1]
          · by_cases h2 : y < key
            · obtain ⟨g2, o2, rfl, u2, t2⟩ := unhide HYC (by omega)
              have s2 := fun W => run_lss y key W
              rw [show decide (y < key) = true from decide_eq_true h2] at s2
              have sb : Op.bytesLess y key = true := by rw [less_eq]; exact decide_eq_true h2
              have r1' : (0 : Int) < (k2 : Int) := by omega
              have r1'' : decide ((0 : Int) < (k2 : Int)) = true := by rw [decide_eq_true_eq]; omega
              obtain ⟨jj, rfl⟩ : ∃ jj, k2 = jj + 1 := ⟨k2 - 1, by omega⟩
              clear p2
              go_wp2
              go_meet
              refine ⟨?_, rfl⟩
              rw [unhide HG9]
              simp [h1, h2]
            · by_cases h3 : y = key
              · obtain ⟨g2, o2, rfl, u2, t2⟩ := unhide HYC (by omega)
                have s2 := fun W => run_lss y key W
                rw [show decide (y < key) = false from decide_eq_false h2] at s2
                have sb : Op.bytesLess y key = false := by rw [less_eq]; exact decide_eq_false h2
                have r1' : (0 : Int) < (k2 : Int) := by omega
                have r1'' : decide ((0 : Int) < (k2 : Int)) = true := by rw [decide_eq_true_eq]; omega
                obtain ⟨jj, rfl⟩ : ∃ jj, k2 = jj + 1 := ⟨k2 - 1, by omega⟩
                clear p2
                have s3 := fun W => run_eql y key W
                rw [show decide (y = key) = true from decide_eq_true h3] at s3
                have se : (y == key) = true := by simp [h3]
                have sc : Op.bytesLess key key = false := by rw [less_eq]; exact decide_eq_false (lt_irrefl' key)
                go_wp2
                go_meet
                refine ⟨?_, rfl⟩
                rw [unhide HG9, decide_eq_false h2, decide_eq_true h3]
                simp [h1, h2]
              · obtain ⟨g2, o2, rfl, u2, t2⟩ := unhide HYC (by omega)
                have s2 := fun W => run_lss y key W
                rw [show decide (y < key) = false from decide_eq_false h2] at s2
                have sb : Op.bytesLess y key = false := by rw [less_eq]; exact decide_eq_false h2
                have r1' : (0 : Int) < (k2 : Int) := by omega
                have r1'' : decide ((0 : Int) < (k2 : Int)) = true := by rw [decide_eq_true_eq]; omega
                obtain ⟨jj, rfl⟩ : ∃ jj, k2 = jj + 1 := ⟨k2 - 1, by omega⟩
                clear p2
                have s3 := fun W => run_eql y key W
                rw [show decide (y = key) = false from decide_eq_false h3] at s3
                have se : (y == key) = false := by simp [h3]
                have sc : Op.bytesLess key key = false := by rw [less_eq]; exact decide_eq_false (lt_irrefl' key)
                go_wp2
                go_meet
                refine ⟨?_, rfl⟩
                rw [unhide HG9, decide_eq_false h2, decide_eq_false h3]
                simp [h1, h3, h2]
        · obtain ⟨g1, o1, rfl, u1, t1⟩ := unhide HXC (by omega)
          have s1 := fun W => run_geq x key W
          rw [show decide (¬ x < key) = true from decide_eq_true h1] at s1
          have p1' : (0 : Int) < (k1 : Int) := by omega
          have p1'' : decide ((0 : Int) < (k1 : Int)) = true := by rw [decide_eq_true_eq]; omega
          obtain ⟨kk, rfl⟩ : ∃ kk, k1 = kk + 1 := ⟨k1 - 1, by omega⟩
          rw [Nat.add_sub_cancel] at t1
          go_wp2
          go_meet
          refine ⟨?_, rfl⟩
          rw [unhide HG9]
          simp [h1]
    · go_wp2
      go_meet
      refine ⟨?_, rfl⟩
      rw [unhide HG9]
      simp
    · go_wp2
      go_meet
      refine ⟨?_, rfl⟩
      rw [unhide HG9]
      simp
    · by_cases p1 : k1 = 0
      · subst p1
        by_cases p2 : k2 = 0
        · subst p2
          go_wp2
          go_meet
          refine ⟨?_, rfl⟩
          rw [unhide HG9]
          simp
        · by_cases h2 : y < key
          · obtain ⟨g2, o2, rfl, u2, t2⟩ := unhide HYC (by omega)
            have s2 := fun W => run_lss y key W
            rw [show decide (y < key) = true from decide_eq_true h2] at s2
            have sb : Op.bytesLess y key = true := by rw [less_eq]; exact decide_eq_true h2
            have r1' : (0 : Int) < (k2 : Int) := by omega
            have r1'' : decide ((0 : Int) < (k2 : Int)) = true := by rw [decide_eq_true_eq]; omega
            obtain ⟨jj, rfl⟩ : ∃ jj, k2 = jj + 1 := ⟨k2 - 1, by omega⟩
            clear p2
            go_wp2
            go_meet
            refine ⟨?_, rfl⟩
            rw [unhide HG9]
            simp [h2]
          · obtain ⟨g2, o2, rfl, u2, t2⟩ := unhide HYC (by omega)
            have s2 := fun W => run_lss y key W
            rw [show decide (y < key) = false from decide_eq_false h2] at s2
            have sb : Op.bytesLess y key = false := by rw [less_eq]; exact decide_eq_false h2
            have r1' : (0 : Int) < (k2 : Int) := by omega
            have r1'' : decide ((0 : Int) < (k2 : Int)) = true := by rw [decide_eq_true_eq]; omega
            obtain ⟨jj, rfl⟩ : ∃ jj, k2 = jj + 1 := ⟨k2 - 1, by omega⟩
            clear p2
            go_wp2
            go_meet
            refine ⟨?_, rfl⟩
            rw [unhide HG9]
            simp [h2]
      · by_cases h1 : x < key
        · obtain ⟨g1, o1, rfl, u1, t1⟩ := unhide HXC (by omega)
          have s1 := fun W => run_geq x key W
          rw [show decide (¬ x < key) = false from decide_eq_false (fun q => q h1)] at s1
          have p1' : (0 : Int) < (k1 : Int) := by omega
          have p1'' : decide ((0 : Int) < (k1 : Int)) = true := by rw [decide_eq_true_eq]; omega
          obtain ⟨kk, rfl⟩ : ∃ kk, k1 = kk + 1 := ⟨k1 - 1, by omega⟩
          rw [Nat.add_sub_cancel] at t1
          by_cases p2 : k2 = 0
          · subst p2
            go_wp2
            go_meet
            refine ⟨?_, rfl⟩
            rw [unhide HG9]
            simp [h1]
          · by_cases h2 : y < key
            · obtain ⟨g2, o2, rfl, u2, t2⟩ := unhide HYC (by omega)
              have s2 := fun W => run_lss y key W
              rw [show decide (y < key) = true from decide_eq_true h2] at s2
              have sb : Op.bytesLess y key = true := by rw [less_eq]; exact decide_eq_true h2
              have r1' : (0 : Int) < (k2 : Int) := by omega
              have r1'' : decide ((0 : Int) < (k2 : Int)) = true := by rw [decide_eq_true_eq]; omega
              obtain ⟨jj, rfl⟩ : ∃ jj, k2 = jj + 1 := ⟨k2 - 1, by omega⟩
              clear p2
              go_wp2
              go_meet
              refine ⟨?_, rfl⟩
              rw [unhide HG9]
              simp [h1, h2]
            · obtain ⟨g2, o2, rfl, u2, t2⟩ := unhide HYC (by omega)
              have s2 := fun W => run_lss y key W
              rw [show decide (y < key) = false from decide_eq_false h2] at s2
              have sb : Op.bytesLess y key = false := by rw [less_eq]; exact decide_eq_false h2
              have r1' : (0 : Int) < (k2 : Int) := by omega
              have r1'' : decide ((0 : Int) < (k2 : Int)) = true := by rw [decide_eq_true_eq]; omega
              obtain ⟨jj, rfl⟩ : ∃ jj, k2 = jj + 1 := ⟨k2 - 1, by omega⟩
              clear p2
              go_wp2
              go_meet
              refine ⟨?_, rfl⟩
              rw [unhide HG9]
              simp [h1, h2]
        · obtain ⟨g1, o1, rfl, u1, t1⟩ := unhide HXC (by omega)
          have s1 := fun W => run_geq x key W
          rw [show decide (¬ x < key) = true from decide_eq_true h1] at s1
          have p1' : (0 : Int) < (k1 : Int) := by omega
          have p1'' : decide ((0 : Int) < (k1 : Int)) = true := by rw [decide_eq_true_eq]; omega
          obtain ⟨kk, rfl⟩ : ∃ kk, k1 = kk + 1 := ⟨k1 - 1, by omega⟩
          rw [Nat.add_sub_cancel] at t1
          go_wp2
          go_meet
          refine ⟨?_, rfl⟩
          rw [unhide HG9]
          simp [h1]
  case rest =>
    obtain ⟨rfl, rfl⟩ := hcut
    clear hkb1 hkb2
    cases f6 : gt9 m key n
    · clear c0 c1 c2 c3 d0 d1 d2 d3
      have hjer : jer m key n = 103 := by exact unhide HE1 (by rw [gtv_gt9 (unhide G1') (unhide G2'), f6]; rfl)
      have hjrs : jrs m key n = zro := by unfold jrs; rw [hjer]; rfl
      have hpE := ((unhide B6).block _ hz4).trans (unhide HP)
      have hbbE := (unhide HA2).trans ((unhide B6).mono (unhide HA2).size)
      have HPE := hide hpE
      have HBE := hide hbbE
      have HJE := hide (And.intro hjer hjrs)
      clear hpE hbbE hjer hjrs
      go_wp2_with (first | (refine wp_st25 rfl (.tmp 6) (.tmp 108) rfl W1.heap.size (by rfl) false none none none 0 0 0 0 0 0 (by rfl) _ rfl (unhide HPE) ?_) | fail)
      have h4 := setRow_heap _ _ _ #[.bool false, .slice none 0 0, .slice none 0 0, .slice none 0 0] 25 _ (unhide HPE)
      have oF := setRow_only (w4.drewN (nq + nr)) W1.heap.size #[.bool false, .slice none 0 0, .slice none 0 0, .slice none 0 0]
      have hX := unhide HX
      obtain ⟨hjer, hjrs⟩ := unhide HJE
      rw [hjer, hjrs]
      exact outN (p := 6) (q := 7) (v := I (103 : Nat)) rfl (by rfl) (by rfl) (by rfl) h4 ⟨.slice none 0 0, .slice none 0 0, .slice none 0 0, rfl, Rws.zro _ _, oF.below (unhide HBE) (unhide HBE).size (fun i e => by omega)⟩
    have HE2 : Hid (∀ {c : Nat}, (if unl (m.kids ++ n.kids) = false then 103 else if 718 < (jn m key n).siz then 102 else 0) = c → jer m key n = c) := fun {c} q => unhide HE1 (by rw [gtv_gt9 (unhide G1') (unhide G2'), f6]; exact q)
    have hlml : m.leaf = n.leaf := by
      unfold gt9 at f6
      simp only [Bool.and_eq_true] at f6
      simpa using f6.1.1
    clear f6 HE1 HG9 HXY x y
    obtain ⟨⟨rfl, rfl, rfl, rfl⟩, ⟨ek2, ev2, ei2, el2⟩⟩ := unhide HEQ
    have HEQ2 := hide (show n.keys.length = k2 ∧ n.vals.length = v2 ∧ n.kids.length = i2 ∧ True from ⟨ek2, ev2, ei2, trivial⟩)
    have HKS := hide (fun W (q : Below W2.heap.size W2 W) => show Sts W kb k2 n.keys ∧ Sts W vb v2 n.vals ∧ Ins W ib i2 n.kids from by
      have h := unhide HNN W q
      exact ⟨ek2 ▸ h.ks, ev2 ▸ h.vs, ei2 ▸ h.is⟩)
    have HKB0 : Hid (m.keys.length ≤ 480 ∧ m.vals.length ≤ 480 ∧ m.kids.length ≤ 480 ∧ k2 ≤ 480 ∧ v2 ≤ 480 ∧ i2 ≤ 480) := ⟨(mj_small (unhide G1')).1, (mj_small (unhide G1')).2.1, (mj_small (unhide G1')).2.2, ek2 ▸ (mj_small (unhide G2')).1, ev2 ▸ (mj_small (unhide G2')).2.1, ei2 ▸ (mj_small (unhide G2')).2.2⟩
    have HLL := hide (hlml.trans el2)
    clear ek2 ev2 ei2 el2 hlml HEQ HNN
    clear c0 c1 c2 c3 d0 d1 d2 d3 l1 l2
    go_upto_region 11 with fail
    have B5' := hide (unhide B6)
    generalize w4.drewN (nq + nr) = W5 at B5' ⊢
    clear B6 B5 B4 B3 B2 B1
    have hGX := unhide HG
    refine rjr w.heap.size m.keys.length kc m.vals.length vc m.kids.length ic ka va ia m.leaf (by kernel_rfl) (by kernel_rfl) (by kernel_rfl) _ _ (by show 121 ≤ Array.size _; simp) rfl (Wp3 W5 m.leaf m.keys m.vals m.kids) ?_ ?_ ?_ ?_ ?_ ?_ ?_ ?_ ?_ ?_ ?_ ?_ ?_
    · exact ⟨⟨none, 0, none, 0, none, 0, 0, 0, 0⟩, ⟨(Below.refl _ _).drew, (fun q => nomatch q), (fun q => nomatch q), (fun q => nomatch q), (fun q => nomatch q), (fun q => nomatch q), (fun q => nomatch q), (fun q => nomatch q)⟩⟩
    · intro j hj c L W hW
      simp only [List.mem_cons, List.not_mem_nil, or_false, not_or] at hj
      exact hW.pure j hj.1 hj.2.1 hj.2.2.1 hj.2.2.2.1 hj.2.2.2.2.1 (fun q => absurd q hj.2.2.2.2.2)
    · intro c L W hW
      exact (box4 hGX ((unhide B5').trans (hW.bel.mono (unhide B5').size)) hz2).1
    · intro c L W hW
      exact (box4 hGX ((unhide B5').trans (hW.bel.mono (unhide B5').size)) hz2).2.1
    · intro c L W hW
      exact (box4 hGX ((unhide B5').trans (hW.bel.mono (unhide B5').size)) hz2).2.2.1
    · intro c L W hW
      exact (box4 hGX ((unhide B5').trans (hW.bel.mono (unhide B5').size)) hz2).2.2.2
    · intro c L W hW h1 h2 h3
      exact hW.pure 11 (by decide) (by decide) (by decide) (by decide) (by decide) (fun _ => ⟨h1, h2, h3⟩)
    · intro c L W hW h1
      refine (unhide X7 W ((unhide B5').trans (hW.bel.mono (unhide B5').size))).mono ?_
      rintro e w' ⟨V, rfl, r, o, q⟩
      obtain ⟨p, cp, rfl⟩ := owns_form r
      obtain ⟨hd, hf, hw⟩ := hW.call1 h1 r o q
      refine ⟨_, fun j hj => ?_, rfl, hw⟩
      unfold vjr
      split <;> first | rfl | (rw [h1] at hj; cases hj) | (rw [hd] at hj; cases hj)
    · intro c L W hW h1
      refine (unhide X8 W ((unhide B5').trans (hW.bel.mono (unhide B5').size))).mono ?_
      rintro e w' ⟨V, rfl, r, o, q⟩
      obtain ⟨p, cp, rfl⟩ := owns_form r
      obtain ⟨hd, hf, hw⟩ := hW.call2 h1 r o q
      refine ⟨_, fun j hj => ?_, rfl, hw⟩
      unfold vjr
      split <;> first | rfl | (rw [h1] at hj; cases hj) | (rw [hd] at hj; cases hj)
    · intro c L W hW h1
      refine (unhide X9 W ((unhide B5').trans (hW.bel.mono (unhide B5').size))).mono ?_
      rintro e w' ⟨V, rfl, r, o, q⟩
      obtain ⟨p, cp, rfl⟩ := owns_form r
      obtain ⟨hd, hf, hw⟩ := hW.call3 h1 r o q
      refine ⟨_, fun j hj => ?_, rfl, hw⟩
      unfold vjr
      split <;> first | rfl | (rw [h1] at hj; cases hj) | (rw [hd] at hj; cases hj)
    · intro c L W hW h1
      obtain ⟨hf, hw⟩ := hW.box h1
      refine ⟨_, fun j hj => ?_, rfl, hw⟩
      unfold vjr
      split <;> first | rfl | (rw [h1] at hj; cases hj)
    · intro c L W hW h1 h2 h3
      exact hW.store h1 h2 h3
    intro c L W hall hW
    have ot := hW.ot hall
    obtain ⟨pK, cK, pV, cV, pI, cI, g, e5, e6⟩ := c
    simp only at ot ⊢
    have HOT := hide ot
    have BW := hide ((unhide B5').trans (ot.bel.mono (unhide B5').size))
    clear hW hall ot hGX X7 X8 X9
    simp only [Act.put, List.setIfInBounds_toArray, List.set_cons_succ, List.set_cons_zero]
    obtain ⟨c0, c1, c2, c3⟩ := box4 (unhide HG) (unhide BW) hz2
    have l1 := Nat.lt_of_lt_of_le hz2 (unhide BW).size
    have HV1 := hide (Eq.refl m.vals.length)
    generalize hlf : m.leaf = lf at *
    cases lf
    · obtain ⟨t0, t1, t2, t3⟩ := (unhide HOT).cells
      have tl := lt_of_row (unhide HOT).blk
      obtain ⟨KK, hKK⟩ : ∃ KK, KK = m.keys ++ [key] := ⟨_, rfl⟩
      have HKK := hide hKK
      clear hKK
      go_upto_region 14 with (at_builtin; refine push_own 22 9 _ 1 16 Tryz.underlying22 info9 rfl (by decide) rfl (.tmp 125) (.tmp 127) rfl (.slice pK m.keys.length cK) m.keys.length (m.keys.map S) (by rfl) W (unhide HOT).rK [S key] rfl (by intro u hu; obtain rfl := List.mem_singleton.1 hu; rfl) (by rfl) (by have := unhide HKB0; omega) (by have := unhide HKB0; omega) ?_; intro p13 c13 w13 r13 o13 n13; have hb13 := (unhide HOT).blk1 (not_T (unhide HOT).blk (unhide HOT).rK (by decide)) o13; obtain ⟨tt0, tt1, tt2, tt3⟩ := box4 hb13 (Below.refl _ _) (lt_of_row hb13); have f13 := frz hb13 1; have ttl := lt_of_row hb13; have HO := hide ((unhide HOT).setK (m := m.keys.length + 1) KK (by simp [unhide HKK]) (by rw [unhide HKK, List.map_append]; exact r13) o13 n13); clear r13 o13 n13 hb13)
      clear t0 t1 t2 t3 tl tt0 tt1 tt2 tt3 f13 ttl HOT BW c0 c1 c2 c3 l1
      generalize w13.setCell ⟨g, 1, none⟩ (.slice p13 (m.keys.length + 1) c13) = V13 at HO ⊢
      have HJN : Hid (jn m key n = ⟨false, KK ++ n.keys, m.vals ++ n.vals, m.kids ++ n.kids⟩) := by
        show jn m key n = _
        unfold jn
        rw [hlf, unhide HKK]
        simp
      have HKB : Hid (KK.length ≤ 481 ∧ m.vals.length ≤ 480 ∧ m.kids.length ≤ 480 ∧ k2 ≤ 480 ∧ v2 ≤ 480 ∧ i2 ≤ 480) := by
        have q := unhide HKB0
        refine ⟨?_, q.2⟩
        rw [unhide HKK, List.length_append]
        have := q.1
        simp
        omega
      obtain ⟨t0, t1, t2, t3⟩ := (unhide HO).cells
      have tl := lt_of_row (unhide HO).blk
      have BB := hide ((unhide B5').trans ((unhide HO).bel.mono (unhide B5').size))
      obtain ⟨d0, d1, d2, d3⟩ := box4 (unhide HK) (unhide BB) hz3
      have l2 := Nat.lt_of_lt_of_le hz3 (unhide BB).size
      go_upto_region 15 with (at_builtin; refine wp_anyS rfl (.tmp 131) (.tmp 133) rfl (.slice p13 (m.keys.length + 1) c13) KK.length KK (by rfl) (unhide HO).rK kb k2 kd n.keys (unhide HKS _ (unhide BB)).1 (unhide HY).1 (by rfl) (by have := unhide HKB; omega) ?_; intro p14 c14 w14 r14 o14 n14; have hb14 := (unhide HO).blk1 (not_T (unhide HO).blk (unhide HO).rK (by decide)) o14; obtain ⟨tt0, tt1, tt2, tt3⟩ := box4 hb14 (Below.refl _ _) (lt_of_row hb14); have f14 := frz hb14 1; have ttl := lt_of_row hb14; have HO14 := hide ((unhide HO).setK (KK ++ n.keys) (by rw [List.length_append, (unhide HEQ2).1]) r14 o14 n14); clear r14 o14 n14 hb14)
      clear t0 t1 t2 t3 tl d0 d1 d2 d3 l2 tt0 tt1 tt2 tt3 f14 ttl BB HO
      generalize w14.setCell ⟨g, 1, none⟩ (.slice p14 (KK.length + k2) c14) = V14 at HO14 ⊢
      obtain ⟨t0, t1, t2, t3⟩ := (unhide HO14).cells
      have tl := lt_of_row (unhide HO14).blk
      have BB := hide ((unhide B5').trans ((unhide HO14).bel.mono (unhide B5').size))
      obtain ⟨d0, d1, d2, d3⟩ := box4 (unhide HK) (unhide BB) hz3
      have l2 := Nat.lt_of_lt_of_le hz3 (unhide BB).size
      go_upto_region 16 with (at_builtin; refine wp_anyS rfl (.tmp 137) (.tmp 139) rfl (.slice pV m.vals.length cV) m.vals.length m.vals (by rfl) (unhide HO14).rV vb v2 vd n.vals (unhide HKS _ (unhide BB)).2.1 (unhide HY).2.1 (by rfl) (by have := unhide HKB; omega) ?_; intro p15 c15 w15 r15 o15 n15; have hb15 := (unhide HO14).blk1 (not_T (unhide HO14).blk (unhide HO14).rV (by decide)) o15; obtain ⟨tt0, tt1, tt2, tt3⟩ := box4 hb15 (Below.refl _ _) (lt_of_row hb15); have f15 := frz hb15 2; have ttl := lt_of_row hb15; have HO15 := hide ((unhide HO14).setV (m.vals ++ n.vals) (by rw [List.length_append, (unhide HEQ2).2.1]) r15 o15 n15); clear r15 o15 n15 hb15)
      clear t0 t1 t2 t3 tl d0 d1 d2 d3 l2 tt0 tt1 tt2 tt3 f15 ttl BB HO14
      generalize w15.setCell ⟨g, 2, none⟩ (.slice p15 (m.vals.length + v2) c15) = V15 at HO15 ⊢
      obtain ⟨t0, t1, t2, t3⟩ := (unhide HO15).cells
      have tl := lt_of_row (unhide HO15).blk
      have BB := hide ((unhide B5').trans ((unhide HO15).bel.mono (unhide B5').size))
      obtain ⟨d0, d1, d2, d3⟩ := box4 (unhide HK) (unhide BB) hz3
      have l2 := Nat.lt_of_lt_of_le hz3 (unhide BB).size
      go_upto_region 17 with (at_builtin; refine wp_anyI rfl (.tmp 143) (.tmp 145) rfl (.slice pI m.kids.length cI) m.kids.length m.kids (by rfl) (unhide HO15).rI ib i2 jd n.kids (unhide HKS _ (unhide BB)).2.2 (unhide HY).2.2 (by rfl) (by have := unhide HKB; omega) ?_; intro p16 c16 w16 r16 o16 n16; have hb16 := (unhide HO15).blk1 (not_T (unhide HO15).blk (unhide HO15).rI (by decide)) o16; obtain ⟨tt0, tt1, tt2, tt3⟩ := box4 hb16 (Below.refl _ _) (lt_of_row hb16); have f16 := frz hb16 3; have ttl := lt_of_row hb16; have HO16 := hide ((unhide HO15).setI (m.kids ++ n.kids) (by rw [List.length_append, (unhide HEQ2).2.2.1]) r16 o16 n16); clear r16 o16 n16 hb16)
      clear t0 t1 t2 t3 tl d0 d1 d2 d3 l2 tt0 tt1 tt2 tt3 f16 ttl BB HO15
      generalize w16.setCell ⟨g, 3, none⟩ (.slice p16 (m.kids.length + i2) c16) = V16 at HO16 ⊢
      obtain ⟨t0, t1, t2, t3⟩ := (unhide HO16).cells
      have tl := lt_of_row (unhide HO16).blk
      have BB := hide ((unhide B5').trans ((unhide HO16).bel.mono (unhide B5').size))
      have hcap := owns_capb (unhide HO16).rI
      have hI16 : Ins V16 p16 (m.kids.length + i2) (m.kids ++ n.kids) := by
        obtain ⟨p, cap, ev, hI, -⟩ := Ins.of (unhide HO16).rI
        injection ev with e1 e2 e3
        subst e1
        rw [← e2] at hI
        exact hI
      have x17 := hide (refRepeats_any p16 (m.kids.length + i2) c16 (m.kids ++ n.kids) V16 hI16 (by have := unhide HKB; omega) hcap.1 hcap.2)
      clear hcap hI16
      go_wp2_with fail
      refine (unhide x17).mono ?_
      rintro e w17 ⟨rfl, b17⟩
      clear x17 t0 t1 t2 t3 tl
      have BB17 := hide ((unhide BB).trans (b17.mono (unhide BB).size))
      have HO17 := hide ((unhide HO16).below b17)
      cases f7 : unl (m.kids ++ n.kids)
      · clear b17
        have hjer : jer m key n = 103 := by exact unhide HE2 (by rw [f7]; rfl)
        have hjrs : jrs m key n = zro := by unfold jrs; rw [hjer]; rfl
        have hpE := ((unhide BB17).block _ hz4).trans (unhide HP)
        have hbbE := (unhide HA2).trans ((unhide BB17).mono (unhide HA2).size)
        have HPE := hide hpE
        have HBE := hide hbbE
        have HJE := hide (And.intro hjer hjrs)
        clear hpE hbbE hjer hjrs
        go_wp2_with (first | (refine wp_st25 rfl (.tmp 6) (.tmp 152) rfl W1.heap.size (by rfl) false none none none 0 0 0 0 0 0 (by rfl) _ rfl (unhide HPE) ?_) | fail)
        have h4 := setRow_heap _ _ _ #[.bool false, .slice none 0 0, .slice none 0 0, .slice none 0 0] 25 _ (unhide HPE)
        have oF := setRow_only w17 W1.heap.size #[.bool false, .slice none 0 0, .slice none 0 0, .slice none 0 0]
        have hX := unhide HX
        obtain ⟨hjer, hjrs⟩ := unhide HJE
        rw [hjer, hjrs]
        exact outN (p := 6) (q := 7) (v := I (103 : Nat)) rfl (by rfl) (by rfl) (by rfl) h4 ⟨.slice none 0 0, .slice none 0 0, .slice none 0 0, rfl, Rws.zro _ _, oF.below (unhide HBE) (unhide HBE).size (fun i e => by omega)⟩
      have HE3 : Hid (∀ {c : Nat}, (if 718 < (jn m key n).siz then 102 else 0) = c → jer m key n = c) := fun {c} q => unhide HE2 (by rw [f7]; exact q)
      have hjb : NB (jn m key n) := jn_nb (unhide G1') (unhide G2') (unhide F5)
      have HNJ := hide hjb
      rw [unhide HJN] at hjb
      have hna : NA (⟨false, KK ++ n.keys, m.vals ++ n.vals, m.kids ++ n.kids⟩ : Nd) p14 p15 p16 w17 := by
        obtain ⟨q1, q2, q3, hS, -⟩ := Sts.of (unhide HO17).rK
        obtain ⟨r1, r2, r3, hT, -⟩ := Sts.of (unhide HO17).rV
        obtain ⟨s1, s2, s3, hI, -⟩ := Ins.of (unhide HO17).rI
        injection q3 with e1 e2 e3
        injection r3 with e4 e5 e6
        injection s3 with e7 e8 e9
        subst e1 e4 e7
        exact ⟨hS, hT, hI⟩
      have x20 := hide (refSize_any (⟨false, KK ++ n.keys, m.vals ++ n.vals, m.kids ++ n.kids⟩ : Nd) p14 p15 p16 c14 c15 c16 w17 hna hjb)
      have hszj := siz_le hjb
      rw [← unhide HJN] at hszj
      unfold nda at x20
      simp only [List.length_append, (unhide HEQ2).1, (unhide HEQ2).2.1, (unhide HEQ2).2.2.1] at x20
      rw [← unhide HJN] at x20
      obtain ⟨t0, t1, t2, t3⟩ := (unhide HO17).cells
      have tl := lt_of_row (unhide HO17).blk
      clear hna hjb b17 f7
      generalize hjz : (jn m key n).siz = jz at *
      go_wp2_with fail
      refine (unhide x20).mono ?_
      rintro e w20 ⟨rfl, b20⟩
      clear x20 t0 t1 t2 t3 tl
      have BB20 := hide ((unhide BB17).trans (b20.mono (unhide BB17).size))
      have HO20 := hide ((unhide HO17).below b20)
      by_cases hf : 718 < jz
      · have h' : decide ((718 : Int) < (jz : Int)) = true := by rw [decide_eq_true_eq]; omega
        have h'' : (718 : Int) < (jz : Int) := by omega
        clear b20
        have hjer : jer m key n = 102 := by exact unhide HE3 (if_pos hf)
        have hjrs : jrs m key n = zro := by unfold jrs; rw [hjer]; rfl
        have hpE := ((unhide BB20).block _ hz4).trans (unhide HP)
        have hbbE := (unhide HA2).trans ((unhide BB20).mono (unhide HA2).size)
        have HPE := hide hpE
        have HBE := hide hbbE
        have HJE := hide (And.intro hjer hjrs)
        clear hpE hbbE hjer hjrs
        go_wp2_with (first | (refine wp_st25 rfl (.tmp 6) (.tmp 156) rfl W1.heap.size (by rfl) false none none none 0 0 0 0 0 0 (by rfl) _ rfl (unhide HPE) ?_) | fail)
        have h4 := setRow_heap _ _ _ #[.bool false, .slice none 0 0, .slice none 0 0, .slice none 0 0] 25 _ (unhide HPE)
        have oF := setRow_only w20 W1.heap.size #[.bool false, .slice none 0 0, .slice none 0 0, .slice none 0 0]
        have hX := unhide HX
        obtain ⟨hjer, hjrs⟩ := unhide HJE
        rw [hjer, hjrs]
        exact outN (p := 6) (q := 7) (v := I (102 : Nat)) rfl (by rfl) (by rfl) (by rfl) h4 ⟨.slice none 0 0, .slice none 0 0, .slice none 0 0, rfl, Rws.zro _ _, oF.below (unhide HBE) (unhide HBE).size (fun i e => by omega)⟩
      have h' : decide ((718 : Int) < (jz : Int)) = false := by rw [decide_eq_false_iff_not]; omega
      have h'' : ¬ (718 : Int) < (jz : Int) := by omega
      have HJR : Hid (jer m key n = 0 ∧ jrs m key n = ⟨false, KK ++ n.keys, m.vals ++ n.vals, m.kids ++ n.kids⟩) := by
        have q : jer m key n = 0 := unhide HE3 (if_neg hf)
        exact ⟨q, by unfold jrs; rw [q, unhide HJN]; rfl⟩
      obtain ⟨t0, t1, t2, t3⟩ := (unhide HO20).cells
      have tl := lt_of_row (unhide HO20).blk
      have HP20 := hide (((unhide BB20).block _ hz4).trans (unhide HP))
      have HBE := hide ((unhide HA2).trans ((unhide BB20).mono (unhide HA2).size))
      clear b20
      go_wp2_with (first | (refine wp_st25 rfl (.tmp 6) (.tmp 157) rfl W1.heap.size (by rfl) false p14 p15 p16 (KK.length + k2) c14 (m.vals.length + v2) c15 (m.kids.length + i2) c16 (by rfl) _ rfl (unhide HP20) ?_) | fail)
      have h4 := setRow_heap _ _ _ #[.bool false, .slice p14 (KK.length + k2) c14, .slice p15 (m.vals.length + v2) c15, .slice p16 (m.kids.length + i2) c16] 25 _ (unhide HP20)
      have oF := setRow_only w20 W1.heap.size #[.bool false, .slice p14 (KK.length + k2) c14, .slice p15 (m.vals.length + v2) c15, .slice p16 (m.kids.length + i2) c16]
      have hX := unhide HX
      have hs5 := (unhide B5').size
      have ho := unhide HO20
      rw [(unhide HJR).1, (unhide HJR).2]
      refine outN (p := 6) (q := 7) (v := I (0 : Nat)) rfl (by rfl) (by rfl) (by rfl) h4 ⟨_, _, _, rfl, ⟨?_, ?_, ?_, ?_, ?_, ?_⟩, oF.below (unhide HBE) (unhide HBE).size (fun i e => by omega)⟩
      · exact owns_only ho.rK oF (fun i hi e => by have := ho.hK i hi; omega)
      · exact owns_only ho.rV oF (fun i hi e => by have := ho.hV i hi; omega)
      · exact owns_only ho.rI oF (fun i hi e => by have := ho.hI i hi; omega)
      · exact fun i hi => by have := ho.hK i hi; omega
      · exact fun i hi => by have := ho.hV i hi; omega
      · exact fun i hi => by have := ho.hI i hi; omega
    · obtain ⟨KK, hKK⟩ : ∃ KK, KK = m.keys := ⟨_, rfl⟩
      have HJN : Hid (jn m key n = ⟨true, KK ++ n.keys, m.vals ++ n.vals, m.kids ++ n.kids⟩) := by
        show jn m key n = _
        unfold jn
        rw [hlf, hKK]
        simp
      have HKB : Hid (KK.length ≤ 481 ∧ m.vals.length ≤ 480 ∧ m.kids.length ≤ 480 ∧ k2 ≤ 480 ∧ v2 ≤ 480 ∧ i2 ≤ 480) := by
        have q := unhide HKB0
        refine ⟨?_, q.2⟩
        rw [hKK]
        have := q.1
        omega
      go_upto_region 14 with fail
      have HO := HOT
      rw [← hKK] at HO ⊢
      clear hKK HOT BW c0 c1 c2 c3 l1
      obtain ⟨t0, t1, t2, t3⟩ := (unhide HO).cells
      have tl := lt_of_row (unhide HO).blk
      have BB := hide ((unhide B5').trans ((unhide HO).bel.mono (unhide B5').size))
      obtain ⟨d0, d1, d2, d3⟩ := box4 (unhide HK) (unhide BB) hz3
      have l2 := Nat.lt_of_lt_of_le hz3 (unhide BB).size
      go_upto_region 15 with (at_builtin; refine wp_anyS rfl (.tmp 131) (.tmp 133) rfl (.slice pK KK.length cK) KK.length KK (by rfl) (unhide HO).rK kb k2 kd n.keys (unhide HKS _ (unhide BB)).1 (unhide HY).1 (by rfl) (by have := unhide HKB; omega) ?_; intro p14 c14 w14 r14 o14 n14; have hb14 := (unhide HO).blk1 (not_T (unhide HO).blk (unhide HO).rK (by decide)) o14; obtain ⟨tt0, tt1, tt2, tt3⟩ := box4 hb14 (Below.refl _ _) (lt_of_row hb14); have f14 := frz hb14 1; have ttl := lt_of_row hb14; have HO14 := hide ((unhide HO).setK (KK ++ n.keys) (by rw [List.length_append, (unhide HEQ2).1]) r14 o14 n14); clear r14 o14 n14 hb14)
      clear t0 t1 t2 t3 tl d0 d1 d2 d3 l2 tt0 tt1 tt2 tt3 f14 ttl BB HO
      generalize w14.setCell ⟨g, 1, none⟩ (.slice p14 (KK.length + k2) c14) = V14 at HO14 ⊢
      obtain ⟨t0, t1, t2, t3⟩ := (unhide HO14).cells
      have tl := lt_of_row (unhide HO14).blk
      have BB := hide ((unhide B5').trans ((unhide HO14).bel.mono (unhide B5').size))
      obtain ⟨d0, d1, d2, d3⟩ := box4 (unhide HK) (unhide BB) hz3
      have l2 := Nat.lt_of_lt_of_le hz3 (unhide BB).size
      go_upto_region 16 with (at_builtin; refine wp_anyS rfl (.tmp 137) (.tmp 139) rfl (.slice pV m.vals.length cV) m.vals.length m.vals (by rfl) (unhide HO14).rV vb v2 vd n.vals (unhide HKS _ (unhide BB)).2.1 (unhide HY).2.1 (by rfl) (by have := unhide HKB; omega) ?_; intro p15 c15 w15 r15 o15 n15; have hb15 := (unhide HO14).blk1 (not_T (unhide HO14).blk (unhide HO14).rV (by decide)) o15; obtain ⟨tt0, tt1, tt2, tt3⟩ := box4 hb15 (Below.refl _ _) (lt_of_row hb15); have f15 := frz hb15 2; have ttl := lt_of_row hb15; have HO15 := hide ((unhide HO14).setV (m.vals ++ n.vals) (by rw [List.length_append, (unhide HEQ2).2.1]) r15 o15 n15); clear r15 o15 n15 hb15)
      clear t0 t1 t2 t3 tl d0 d1 d2 d3 l2 tt0 tt1 tt2 tt3 f15 ttl BB HO14
      generalize w15.setCell ⟨g, 2, none⟩ (.slice p15 (m.vals.length + v2) c15) = V15 at HO15 ⊢
      obtain ⟨t0, t1, t2, t3⟩ := (unhide HO15).cells
      have tl := lt_of_row (unhide HO15).blk
      have BB := hide ((unhide B5').trans ((unhide HO15).bel.mono (unhide B5').size))
      obtain ⟨d0, d1, d2, d3⟩ := box4 (unhide HK) (unhide BB) hz3
      have l2 := Nat.lt_of_lt_of_le hz3 (unhide BB).size
      go_upto_region 17 with (at_builtin; refine wp_anyI rfl (.tmp 143) (.tmp 145) rfl (.slice pI m.kids.length cI) m.kids.length m.kids (by rfl) (unhide HO15).rI ib i2 jd n.kids (unhide HKS _ (unhide BB)).2.2 (unhide HY).2.2 (by rfl) (by have := unhide HKB; omega) ?_; intro p16 c16 w16 r16 o16 n16; have hb16 := (unhide HO15).blk1 (not_T (unhide HO15).blk (unhide HO15).rI (by decide)) o16; obtain ⟨tt0, tt1, tt2, tt3⟩ := box4 hb16 (Below.refl _ _) (lt_of_row hb16); have f16 := frz hb16 3; have ttl := lt_of_row hb16; have HO16 := hide ((unhide HO15).setI (m.kids ++ n.kids) (by rw [List.length_append, (unhide HEQ2).2.2.1]) r16 o16 n16); clear r16 o16 n16 hb16)
      clear t0 t1 t2 t3 tl d0 d1 d2 d3 l2 tt0 tt1 tt2 tt3 f16 ttl BB HO15
      generalize w16.setCell ⟨g, 3, none⟩ (.slice p16 (m.kids.length + i2) c16) = V16 at HO16 ⊢
      obtain ⟨t0, t1, t2, t3⟩ := (unhide HO16).cells
      have tl := lt_of_row (unhide HO16).blk
      have BB := hide ((unhide B5').trans ((unhide HO16).bel.mono (unhide B5').size))
      have hcap := owns_capb (unhide HO16).rI
      have hI16 : Ins V16 p16 (m.kids.length + i2) (m.kids ++ n.kids) := by
        obtain ⟨p, cap, ev, hI, -⟩ := Ins.of (unhide HO16).rI
        injection ev with e1 e2 e3
        subst e1
        rw [← e2] at hI
        exact hI
      have x17 := hide (refRepeats_any p16 (m.kids.length + i2) c16 (m.kids ++ n.kids) V16 hI16 (by have := unhide HKB; omega) hcap.1 hcap.2)
      clear hcap hI16
      go_wp2_with fail
      refine (unhide x17).mono ?_
      rintro e w17 ⟨rfl, b17⟩
      clear x17 t0 t1 t2 t3 tl
      have BB17 := hide ((unhide BB).trans (b17.mono (unhide BB).size))
      have HO17 := hide ((unhide HO16).below b17)
      cases f7 : unl (m.kids ++ n.kids)
      · clear b17
        have hjer : jer m key n = 103 := by exact unhide HE2 (by rw [f7]; rfl)
        have hjrs : jrs m key n = zro := by unfold jrs; rw [hjer]; rfl
        have hpE := ((unhide BB17).block _ hz4).trans (unhide HP)
        have hbbE := (unhide HA2).trans ((unhide BB17).mono (unhide HA2).size)
        have HPE := hide hpE
        have HBE := hide hbbE
        have HJE := hide (And.intro hjer hjrs)
        clear hpE hbbE hjer hjrs
        go_wp2_with (first | (refine wp_st25 rfl (.tmp 6) (.tmp 152) rfl W1.heap.size (by rfl) false none none none 0 0 0 0 0 0 (by rfl) _ rfl (unhide HPE) ?_) | fail)
        have h4 := setRow_heap _ _ _ #[.bool false, .slice none 0 0, .slice none 0 0, .slice none 0 0] 25 _ (unhide HPE)
        have oF := setRow_only w17 W1.heap.size #[.bool false, .slice none 0 0, .slice none 0 0, .slice none 0 0]
        have hX := unhide HX
        obtain ⟨hjer, hjrs⟩ := unhide HJE
        rw [hjer, hjrs]
        exact outN (p := 6) (q := 7) (v := I (103 : Nat)) rfl (by rfl) (by rfl) (by rfl) h4 ⟨.slice none 0 0, .slice none 0 0, .slice none 0 0, rfl, Rws.zro _ _, oF.below (unhide HBE) (unhide HBE).size (fun i e => by omega)⟩
      have HE3 : Hid (∀ {c : Nat}, (if 718 < (jn m key n).siz then 102 else 0) = c → jer m key n = c) := fun {c} q => unhide HE2 (by rw [f7]; exact q)
      have hjb : NB (jn m key n) := jn_nb (unhide G1') (unhide G2') (unhide F5)
      have HNJ := hide hjb
      rw [unhide HJN] at hjb
      have hna : NA (⟨true, KK ++ n.keys, m.vals ++ n.vals, m.kids ++ n.kids⟩ : Nd) p14 p15 p16 w17 := by
        obtain ⟨q1, q2, q3, hS, -⟩ := Sts.of (unhide HO17).rK
        obtain ⟨r1, r2, r3, hT, -⟩ := Sts.of (unhide HO17).rV
        obtain ⟨s1, s2, s3, hI, -⟩ := Ins.of (unhide HO17).rI
        injection q3 with e1 e2 e3
        injection r3 with e4 e5 e6
        injection s3 with e7 e8 e9
        subst e1 e4 e7
        exact ⟨hS, hT, hI⟩
      have x20 := hide (refSize_any (⟨true, KK ++ n.keys, m.vals ++ n.vals, m.kids ++ n.kids⟩ : Nd) p14 p15 p16 c14 c15 c16 w17 hna hjb)
      have hszj := siz_le hjb
      rw [← unhide HJN] at hszj
      unfold nda at x20
      simp only [List.length_append, (unhide HEQ2).1, (unhide HEQ2).2.1, (unhide HEQ2).2.2.1] at x20
      rw [← unhide HJN] at x20
      obtain ⟨t0, t1, t2, t3⟩ := (unhide HO17).cells
      have tl := lt_of_row (unhide HO17).blk
      clear hna hjb b17 f7
      generalize hjz : (jn m key n).siz = jz at *
      go_wp2_with fail
      refine (unhide x20).mono ?_
      rintro e w20 ⟨rfl, b20⟩
      clear x20 t0 t1 t2 t3 tl
      have BB20 := hide ((unhide BB17).trans (b20.mono (unhide BB17).size))
      have HO20 := hide ((unhide HO17).below b20)
      by_cases hf : 718 < jz
      · have h' : decide ((718 : Int) < (jz : Int)) = true := by rw [decide_eq_true_eq]; omega
        have h'' : (718 : Int) < (jz : Int) := by omega
        clear b20
        have hjer : jer m key n = 102 := by exact unhide HE3 (if_pos hf)
        have hjrs : jrs m key n = zro := by unfold jrs; rw [hjer]; rfl
        have hpE := ((unhide BB20).block _ hz4).trans (unhide HP)
        have hbbE := (unhide HA2).trans ((unhide BB20).mono (unhide HA2).size)
        have HPE := hide hpE
        have HBE := hide hbbE
        have HJE := hide (And.intro hjer hjrs)
        clear hpE hbbE hjer hjrs
        go_wp2_with (first | (refine wp_st25 rfl (.tmp 6) (.tmp 156) rfl W1.heap.size (by rfl) false none none none 0 0 0 0 0 0 (by rfl) _ rfl (unhide HPE) ?_) | fail)
        have h4 := setRow_heap _ _ _ #[.bool false, .slice none 0 0, .slice none 0 0, .slice none 0 0] 25 _ (unhide HPE)
        have oF := setRow_only w20 W1.heap.size #[.bool false, .slice none 0 0, .slice none 0 0, .slice none 0 0]
        have hX := unhide HX
        obtain ⟨hjer, hjrs⟩ := unhide HJE
        rw [hjer, hjrs]
        exact outN (p := 6) (q := 7) (v := I (102 : Nat)) rfl (by rfl) (by rfl) (by rfl) h4 ⟨.slice none 0 0, .slice none 0 0, .slice none 0 0, rfl, Rws.zro _ _, oF.below (unhide HBE) (unhide HBE).size (fun i e => by omega)⟩
      have h' : decide ((718 : Int) < (jz : Int)) = false := by rw [decide_eq_false_iff_not]; omega
      have h'' : ¬ (718 : Int) < (jz : Int) := by omega
      have HJR : Hid (jer m key n = 0 ∧ jrs m key n = ⟨true, KK ++ n.keys, m.vals ++ n.vals, m.kids ++ n.kids⟩) := by
        have q : jer m key n = 0 := unhide HE3 (if_neg hf)
        exact ⟨q, by unfold jrs; rw [q, unhide HJN]; rfl⟩
      obtain ⟨t0, t1, t2, t3⟩ := (unhide HO20).cells
      have tl := lt_of_row (unhide HO20).blk
      have HP20 := hide (((unhide BB20).block _ hz4).trans (unhide HP))
      have HBE := hide ((unhide HA2).trans ((unhide BB20).mono (unhide HA2).size))
      clear b20
      go_wp2_with (first | (refine wp_st25 rfl (.tmp 6) (.tmp 157) rfl W1.heap.size (by rfl) true p14 p15 p16 (KK.length + k2) c14 (m.vals.length + v2) c15 (m.kids.length + i2) c16 (by rfl) _ rfl (unhide HP20) ?_) | fail)
      have h4 := setRow_heap _ _ _ #[.bool true, .slice p14 (KK.length + k2) c14, .slice p15 (m.vals.length + v2) c15, .slice p16 (m.kids.length + i2) c16] 25 _ (unhide HP20)
      have oF := setRow_only w20 W1.heap.size #[.bool true, .slice p14 (KK.length + k2) c14, .slice p15 (m.vals.length + v2) c15, .slice p16 (m.kids.length + i2) c16]
      have hX := unhide HX
      have hs5 := (unhide B5').size
      have ho := unhide HO20
      rw [(unhide HJR).1, (unhide HJR).2]
      refine outN (p := 6) (q := 7) (v := I (0 : Nat)) rfl (by rfl) (by rfl) (by rfl) h4 ⟨_, _, _, rfl, ⟨?_, ?_, ?_, ?_, ?_, ?_⟩, oF.below (unhide HBE) (unhide HBE).size (fun i e => by omega)⟩
      · exact owns_only ho.rK oF (fun i hi e => by have := ho.hK i hi; omega)
      · exact owns_only ho.rV oF (fun i hi e => by have := ho.hV i hi; omega)
      · exact owns_only ho.rI oF (fun i hi e => by have := ho.hI i hi; omega)
      · exact fun i hi => by have := ho.hK i hi; omega
      · exact fun i hi => by have := ho.hV i hi; omega
      · exact fun i hi => by have := ho.hI i hi; omega
end Go.Proofs.YtllialbdofklgaaGreatDoor
