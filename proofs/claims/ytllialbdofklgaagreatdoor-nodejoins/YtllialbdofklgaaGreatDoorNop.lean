import Derived.Test.YtllialbdofklgaaGreatDoorZnfi
import Derived.Test.YtllialbdofklgaaGreatDoorZnok
import Derived.Test.YtllialbdofklgaaGreatDoorZndn
import Derived.Test.YtllialbdofklgaaGreatDoorZrgsd
namespace Go.Proofs.YtllialbdofklgaaGreatDoor
open Go.RowKit
set_option maxHeartbeats 16000000
set_option maxRecDepth 8000
/-- Between two operations of joined's region for inner nodes: base W2, the box A. -/
structure Wji (W2 : World) (A : Nat) (key : Bs) (e1 e2 f1 f2 : Value) (K : List Bs) (Z : List Int) (c : Ch3) (L : Nat → Bool) (W : World) : Prop where
  only : Only (fun k => k = A) W2 W
  g1 : L 3 = true → W.heap[c.g1]? = some (.cells #[S key] 9 (0, 0)) ∧ W2.heap.size ≤ c.g1
  g2 : L 6 = true → W.heap[c.g2]? = some (.cells #[e1, .slice (some ⟨c.g1, 0, none⟩) 1 1, e2] 22 (0, 0)) ∧ W2.heap.size ≤ c.g2
  g3 : L 12 = true → W.heap[c.g3]? = some (.cells #[f1, f2] 23 (0, 0)) ∧ W2.heap.size ≤ c.g3
  k : L 7 = true → W.ownsRow 0 9 1 (.slice c.p1 K.length c.c1) K.length (K.map S) ∧ ∀ i, (Value.slice c.p1 K.length c.c1).ownBlock = some i → W2.heap.size ≤ i
  z : L 13 = true → W.ownsRow 0 3 1 (.slice c.p3 Z.length c.c3) Z.length (Z.map fun z => I z) ∧ ∀ i, (Value.slice c.p3 Z.length c.c3).ownBlock = some i → W2.heap.size ≤ i
  d6 : L 6 = true → L 3 = true
  d7 : L 7 = true → L 6 = true
  d13 : L 13 = true → L 12 = true
  d : L 14 = true → L 7 = true ∧ L 13 = true
  e : L 15 = true → L 14 = true
  b : W.heap[A]? = some (.cells (if L 15 then #[.bool false, .slice c.p1 K.length c.c1, .slice none 0 0, .slice c.p3 Z.length c.c3] else #[.bool false, .slice none 0 0, .slice none 0 0, .slice none 0 0]) 25 (0, 0))
variable {W2 W W' : World} {A : Nat} {key : Bs} {e1 e2 f1 f2 : Value} {K : List Bs} {Z : List Int} {c : Ch3} {L : Nat → Bool}
theorem Wji.grow (h : Wji W2 A key e1 e2 f1 f2 K Z c L W) (q : Below W.heap.size W W') : Wji W2 A key e1 e2 f1 f2 K Z c L W' :=
  ⟨h.only.trans (Only.of_below q) (fun _ _ e => e), fun e => ⟨(q.block _ (lt_of_row (h.g1 e).1)).trans (h.g1 e).1, (h.g1 e).2⟩, fun e => ⟨(q.block _ (lt_of_row (h.g2 e).1)).trans (h.g2 e).1, (h.g2 e).2⟩, fun e => ⟨(q.block _ (lt_of_row (h.g3 e).1)).trans (h.g3 e).1, (h.g3 e).2⟩, fun e => ⟨owns_below (h.k e).1 q, (h.k e).2⟩, fun e => ⟨owns_below (h.z e).1 q, (h.z e).2⟩, h.d6, h.d7, h.d13, h.d, h.e, (q.block _ (lt_of_row h.b)).trans h.b⟩
theorem Wji.pure (h : Wji W2 A key e1 e2 f1 f2 K Z c L W) (i : Nat) (h3 : i ≠ 3) (h6 : i ≠ 6) (h7 : i ≠ 7) (h12 : i ≠ 12) (h13 : i ≠ 13) (h15 : i ≠ 15) (h14 : i = 14 → L 7 = true ∧ L 13 = true) : Wji W2 A key e1 e2 f1 f2 K Z c (upd L i) W := by
  refine ⟨h.only, fun q => h.g1 (by rwa [upd_ne h3.symm] at q), fun q => h.g2 (by rwa [upd_ne h6.symm] at q), fun q => h.g3 (by rwa [upd_ne h12.symm] at q), fun q => h.k (by rwa [upd_ne h7.symm] at q), fun q => h.z (by rwa [upd_ne h13.symm] at q), fun q => ?_, fun q => ?_, fun q => ?_, fun q => ?_, fun q => ?_, by rw [upd_ne h15.symm]; exact h.b⟩
  · rw [upd_ne h3.symm]; exact h.d6 (by rwa [upd_ne h6.symm] at q)
  · rw [upd_ne h6.symm]; exact h.d7 (by rwa [upd_ne h7.symm] at q)
  · rw [upd_ne h12.symm]; exact h.d13 (by rwa [upd_ne h13.symm] at q)
  · rw [upd_ne h7.symm, upd_ne h13.symm]
    by_cases e : i = 14
    · exact h14 e
    · exact h.d (by rwa [upd_ne (Ne.symm e)] at q)
  · by_cases e : i = 14
    · rw [e]; exact upd_eq _ _
    · rw [upd_ne (Ne.symm e)]
      exact h.e (by rwa [upd_ne h15.symm] at q)
theorem joined_inner (m n : Nd) (ka va ia kb vb ib : Option Addr) (kc vc ic kd vd jd : Nat) (key : Bs) (w : World) (hm : NA m ka va ia w) (hn : NA n kb vb ib w) (lm : m.leaf = false)
    (p1 : 0 < m.keys.length) (p2 : 0 < n.keys.length) (p3 : 0 < m.kids.length) (p4 : 0 < n.kids.length) (q1 : m.keys.length ≤ 1073741824) (q2 : n.keys.length ≤ 1073741824) (q3 : m.kids.length ≤ 1073741824) (q4 : n.kids.length ≤ 1073741824) :
    Calls Tryz.prog 73 #[nda m ka va ia kc vc ic, S key, nda n kb vb ib kd vd jd] w fun e w' => ∃ vK vI, e = .returned (.agg #[.bool false, vK, .slice none 0 0, vI]) ∧ w'.ownsRow 0 9 1 vK (m.keys ++ [key] ++ n.keys).length ((m.keys ++ [key] ++ n.keys).map S) ∧ w'.ownsRow 0 3 1 vI (m.kids ++ n.kids).length ((m.kids ++ n.kids).map fun z => I z) ∧ (∀ i, vK.ownBlock = some i → w.heap.size ≤ i) ∧ (∀ i, vI.ownBlock = some i → w.heap.size ≤ i) ∧ Below w.heap.size w w' := by
  obtain ⟨lf, ks, vs, is⟩ := m
  obtain ⟨lg, ls, us, js⟩ := n
  simp only at lm p1 p2 p3 p4 q1 q2 q3 q4
  subst lm
  obtain ⟨ga, oa, rfl⟩ := hm.ks.some p1
  obtain ⟨gb, ob, rfl⟩ := hn.ks.some p2
  obtain ⟨gc, oc, e3, -⟩ := hm.is.2 p3
  obtain ⟨gd, od, e4, -⟩ := hn.is.2 p4
  subst e3 e4
  unfold nda
  simp only
  have hA := (Below.refl w.heap.size w).alloc (Nat.le_refl _) (.cells #[.bool false, .slice (some ⟨ga, oa, none⟩) ks.length kc, .slice va vs.length vc, .slice (some ⟨gc, oc, none⟩) is.length ic] 25)
  have hg := heap_alloc_new w (.cells #[.bool false, .slice (some ⟨ga, oa, none⟩) ks.length kc, .slice va vs.length vc, .slice (some ⟨gc, oc, none⟩) is.length ic] 25)
  have hs0 := size_alloc w (.cells #[.bool false, .slice (some ⟨ga, oa, none⟩) ks.length kc, .slice va vs.length vc, .slice (some ⟨gc, oc, none⟩) is.length ic] 25)
  generalize hW0 : w.alloc (.cells #[.bool false, .slice (some ⟨ga, oa, none⟩) ks.length kc, .slice va vs.length vc, .slice (some ⟨gc, oc, none⟩) is.length ic] 25) = W0 at hA hg hs0
  have hA1 := hA.alloc hA.size (.cells #[.bool lg, .slice (some ⟨gb, ob, none⟩) ls.length kd, .slice vb us.length vd, .slice (some ⟨gd, od, none⟩) js.length jd] 25)
  have hg1 := (alloc_old W0 (.cells #[.bool lg, .slice (some ⟨gb, ob, none⟩) ls.length kd, .slice vb us.length vd, .slice (some ⟨gd, od, none⟩) js.length jd] 25) (lt_of_row hg)).trans hg
  have hk := heap_alloc_new W0 (.cells #[.bool lg, .slice (some ⟨gb, ob, none⟩) ls.length kd, .slice vb us.length vd, .slice (some ⟨gd, od, none⟩) js.length jd] 25)
  have hs1 := size_alloc W0 (.cells #[.bool lg, .slice (some ⟨gb, ob, none⟩) ls.length kd, .slice vb us.length vd, .slice (some ⟨gd, od, none⟩) js.length jd] 25)
  generalize hW1 : W0.alloc (.cells #[.bool lg, .slice (some ⟨gb, ob, none⟩) ls.length kd, .slice vb us.length vd, .slice (some ⟨gd, od, none⟩) js.length jd] 25) = W1 at hA1 hg1 hk hs1
  have hA2 := hA1.alloc hA1.size (.cells #[.bool false, .slice none 0 0, .slice none 0 0, .slice none 0 0] 25)
  have hp := heap_alloc_new W1 (.cells #[.bool false, .slice none 0 0, .slice none 0 0, .slice none 0 0] 25)
  have hg2 := (alloc_old W1 (.cells #[.bool false, .slice none 0 0, .slice none 0 0, .slice none 0 0] 25) (lt_of_row hg1)).trans hg1
  have hk2 := (alloc_old W1 (.cells #[.bool false, .slice none 0 0, .slice none 0 0, .slice none 0 0] 25) (lt_of_row hk)).trans hk
  have hs2 := size_alloc W1 (.cells #[.bool false, .slice none 0 0, .slice none 0 0, .slice none 0 0] 25)
  generalize hW2 : W1.alloc (.cells #[.bool false, .slice none 0 0, .slice none 0 0, .slice none 0 0] 25) = W2 at hA2 hp hg2 hk2 hs2
  have HX := hide (show W0.heap.size = w.heap.size + 1 ∧ W1.heap.size = W0.heap.size + 1 ∧ W2.heap.size = W1.heap.size + 1 from ⟨hs0, hs1, hs2⟩)
  have HBw := hide (fun (W : World) (q : Only (fun k => k = W1.heap.size) W2 W) => show Below w.heap.size w W from q.below hA2 hA2.size (fun k e => by omega))
  have HM := hide hm
  have HN := hide hn
  have HP := hide hp
  have HG := hide hg2
  have HK := hide hk2
  have hz1 : w.heap.size < W2.heap.size := by omega
  have hz2 : W0.heap.size < W2.heap.size := by omega
  have hz3 : W1.heap.size < W2.heap.size := by omega
  obtain ⟨c0, c1, c2, c3⟩ := box4 hg2 (Below.refl _ _) hz1
  clear hA hg hA1 hg1 hk hA2 hp hg2 hk2 hm hn hs0 hs1 hs2
  go_enter Tryz.func73, Tryz.ntmps73
  go_wp2
  have hX := unhide HX
  have hbX : ∀ W, Only (fun k => k = W1.heap.size) W2 W → W.heap[w.heap.size]? = some (.cells #[.bool false, .slice (some ⟨ga, oa, none⟩) ks.length kc, .slice va vs.length vc, .slice (some ⟨gc, oc, none⟩) is.length ic] 25 (0, 0)) := fun W q => (q.block _ hz1 (fun e => by omega)).trans (unhide HG)
  have hbY : ∀ W, Only (fun k => k = W1.heap.size) W2 W → W.heap[W0.heap.size]? = some (.cells #[.bool lg, .slice (some ⟨gb, ob, none⟩) ls.length kd, .slice vb us.length vd, .slice (some ⟨gd, od, none⟩) js.length jd] 25 (0, 0)) := fun W q => (q.block _ hz2 (fun e => by omega)).trans (unhide HK)
  refine rji w.heap.size W0.heap.size W1.heap.size ks.length ls.length is.length js.length kc kd ic jd (ks ++ [key] ++ ls).length (is ++ js).length (some ⟨ga, oa, none⟩) (some ⟨gb, ob, none⟩) (some ⟨gc, oc, none⟩) (some ⟨gd, od, none⟩) key (by kernel_rfl) (by kernel_rfl) (by kernel_rfl) _ _ (by show 37 ≤ Array.size _; simp) rfl rfl rfl rfl (Wji W2 W1.heap.size key (.slice (some ⟨ga, oa, none⟩) ks.length kc) (.slice (some ⟨gb, ob, none⟩) ls.length kd) (.slice (some ⟨gc, oc, none⟩) is.length ic) (.slice (some ⟨gd, od, none⟩) js.length jd) (ks ++ [key] ++ ls) (is ++ js)) ?_ ?_ ?_ ?_ ?_ ?_ ?_ ?_ ?_ ?_ ?_ ?_ ?_ ?_
  · exact ⟨⟨none, 0, none, 0, none, 0, 0, 0, 0⟩, ⟨⟨rfl, rfl, rfl, Nat.le_refl _, fun _ _ _ => rfl⟩, (fun q => nomatch q), (fun q => nomatch q), (fun q => nomatch q), (fun q => nomatch q), (fun q => nomatch q), (fun q => nomatch q), (fun q => nomatch q), (fun q => nomatch q), (fun q => nomatch q), (fun q => nomatch q), unhide HP⟩⟩
  · intro i hi c L W hW
    simp only [List.mem_cons, List.not_mem_nil, or_false, not_or] at hi
    obtain ⟨i3, i6, i7, i12, i13, i15, i14⟩ := hi
    exact hW.pure i i3 i6 i7 i12 i13 i15 (fun e => absurd e i14)
  · intro c L W hW
    have g := hbX W hW.only
    exact (box4 g (Below.refl _ _) (lt_of_row g)).2.1
  · intro c L W hW
    have g := hbY W hW.only
    exact (box4 g (Below.refl _ _) (lt_of_row g)).2.1
  · intro c L W hW
    have g := hbX W hW.only
    exact (box4 g (Below.refl _ _) (lt_of_row g)).2.2.2
  · intro c L W hW
    have g := hbY W hW.only
    exact (box4 g (Below.refl _ _) (lt_of_row g)).2.2.2
  · intro c L W hW h7 h13
    exact hW.pure 14 (by decide) (by decide) (by decide) (by decide) (by decide) (by decide) (fun _ => ⟨h7, h13⟩)
  · intro c L W hW h3
    have hb := (Below.refl W.heap.size W).alloc (Nat.le_refl _) (.cells #[S key] 9)
    have hg := hW.grow hb
    have h6 : L 6 = false := fls fun q => by rw [hW.d6 q] at h3; cases h3
    have h7 : L 7 = false := fls fun q => by rw [hW.d7 q] at h6; cases h6
    have h14 : L 14 = false := fls fun q => by rw [(hW.d q).1] at h7; cases h7
    have h15 : L 15 = false := fls fun q => by rw [hW.e q] at h14; cases h14
    have hb0 := hg.b
    rw [h15] at hb0
    refine ⟨{ c with g1 := W.heap.size }, fun j hj => ?_, rfl, hg.only, fun _ => ⟨heap_alloc_new _ _, hW.only.size⟩, fun q => ?_, fun q => hg.g3 (by rwa [upd_ne (by decide)] at q), fun q => ?_, fun q => hg.z (by rwa [upd_ne (by decide)] at q), fun _ => upd_eq _ _, fun q => ?_, fun q => ?_, fun q => ?_, fun q => ?_, by rw [upd_ne (by decide), h15]; exact hb0⟩
    · unfold vji
      split <;> first | rfl | (rw [h3] at hj; cases hj) | (rw [h6] at hj; cases hj)
    · rw [upd_ne (by decide), h6] at q; cases q
    · rw [upd_ne (by decide), h7] at q; cases q
    · rw [upd_ne (by decide), h7] at q; cases q
    · rw [upd_ne (by decide)] at q ⊢; exact hW.d13 q
    · rw [upd_ne (by decide), h14] at q; cases q
    · rw [upd_ne (by decide), h15] at q; cases q
  · intro c L W hW h6 h3
    have hb := (Below.refl W.heap.size W).alloc (Nat.le_refl _) (.cells #[.slice (some ⟨ga, oa, none⟩) ks.length kc, .slice (some ⟨c.g1, 0, none⟩) 1 1, .slice (some ⟨gb, ob, none⟩) ls.length kd] 22)
    have hg := hW.grow hb
    have h7 : L 7 = false := fls fun q => by rw [hW.d7 q] at h6; cases h6
    have h14 : L 14 = false := fls fun q => by rw [(hW.d q).1] at h7; cases h7
    have h15 : L 15 = false := fls fun q => by rw [hW.e q] at h14; cases h14
    have hb0 := hg.b
    rw [h15] at hb0
    refine ⟨{ c with g2 := W.heap.size }, fun j hj => ?_, rfl, hg.only, fun q => hg.g1 (by rwa [upd_ne (by decide)] at q), fun _ => ⟨heap_alloc_new _ _, hW.only.size⟩, fun q => hg.g3 (by rwa [upd_ne (by decide)] at q), fun q => ?_, fun q => hg.z (by rwa [upd_ne (by decide)] at q), fun _ => by rw [upd_ne (by decide)]; exact h3, fun _ => upd_eq _ _, fun q => ?_, fun q => ?_, fun q => ?_, by rw [upd_ne (by decide), h15]; exact hb0⟩
    · unfold vji
      split <;> first | rfl | (rw [h6] at hj; cases hj)
    · rw [upd_ne (by decide), h7] at q; cases q
    · rw [upd_ne (by decide)] at q ⊢; exact hW.d13 q
    · rw [upd_ne (by decide), h14] at q; cases q
    · rw [upd_ne (by decide), h15] at q; cases q
  · intro c L W hW h12
    have hb := (Below.refl W.heap.size W).alloc (Nat.le_refl _) (.cells #[.slice (some ⟨gc, oc, none⟩) is.length ic, .slice (some ⟨gd, od, none⟩) js.length jd] 23)
    have hg := hW.grow hb
    have h13 : L 13 = false := fls fun q => by rw [hW.d13 q] at h12; cases h12
    have h14 : L 14 = false := fls fun q => by rw [(hW.d q).2] at h13; cases h13
    have h15 : L 15 = false := fls fun q => by rw [hW.e q] at h14; cases h14
    have hb0 := hg.b
    rw [h15] at hb0
    refine ⟨{ c with g3 := W.heap.size }, fun j hj => ?_, rfl, hg.only, fun q => hg.g1 (by rwa [upd_ne (by decide)] at q), fun q => hg.g2 (by rwa [upd_ne (by decide)] at q), fun _ => ⟨heap_alloc_new _ _, hW.only.size⟩, fun q => hg.k (by rwa [upd_ne (by decide)] at q), fun q => ?_, fun q => ?_, fun q => ?_, fun _ => upd_eq _ _, fun q => ?_, fun q => ?_, by rw [upd_ne (by decide), h15]; exact hb0⟩
    · unfold vji
      split <;> first | rfl | (rw [h12] at hj; cases hj)
    · rw [upd_ne (by decide), h13] at q; cases q
    · rw [upd_ne (by decide)] at q ⊢; exact hW.d6 q
    · rw [upd_ne (by decide)] at q ⊢; exact hW.d7 q
    · rw [upd_ne (by decide), h14] at q; cases q
    · rw [upd_ne (by decide), h15] at q; cases q
  · intro c L W hW h7 h6
    have hbw := unhide HBw W hW.only
    obtain ⟨k1, k1'⟩ := hW.g1 (hW.d6 h6)
    have hc := concat3 c.g2 ga oa ks.length kc c.g1 0 1 1 gb ob ls.length kd ks [key] ls W (hW.g2 h6).1 ((unhide HM).ks.below hbw) ⟨rfl, fun _ => ⟨c.g1, 0, rfl, fun j hj => by
      obtain rfl : j = 0 := by omega
      rw [cell_of_row W c.g1 (0 + 0) _ 9 (0, 0) k1]
      rfl⟩⟩ ((unhide HN).ks.below hbw) q1 (by omega) q2
    refine hc.mono ?_
    rintro e w' ⟨V, rfl, r, o, b⟩
    rw [show ks.length + 1 + ls.length = (ks ++ [key] ++ ls).length by simp; omega] at r
    obtain ⟨p, cp, rfl⟩ := owns_form r
    have hg := hW.grow b
    have h14 : L 14 = false := fls fun q => by rw [(hW.d q).1] at h7; cases h7
    have h15 : L 15 = false := fls fun q => by rw [hW.e q] at h14; cases h14
    have hb0 := hg.b
    rw [h15] at hb0
    refine ⟨{ c with p1 := p, c1 := cp }, fun j hj => ?_, rfl, hg.only, fun q => hg.g1 (by rwa [upd_ne (by decide)] at q), fun q => hg.g2 (by rwa [upd_ne (by decide)] at q), fun q => hg.g3 (by rwa [upd_ne (by decide)] at q), fun _ => ⟨r, fun i hi => Nat.le_trans hW.only.size (o i hi)⟩, fun q => hg.z (by rwa [upd_ne (by decide)] at q), fun q => ?_, fun q => by rw [upd_ne (by decide)]; exact h6, fun q => ?_, fun q => ?_, fun q => ?_, by rw [upd_ne (by decide), h15]; exact hb0⟩
    · unfold vji
      split <;> first | rfl | (rw [h7] at hj; cases hj) | (rw [h14] at hj; cases hj)
    · rw [upd_ne (by decide)] at q ⊢; exact hW.d6 q
    · rw [upd_ne (by decide)] at q ⊢; exact hW.d13 q
    · rw [upd_ne (by decide), h14] at q; cases q
    · rw [upd_ne (by decide), h15] at q; cases q
  · intro c L W hW h13 h12
    have hbw := unhide HBw W hW.only
    have hc := concatI2 c.g3 gc oc is.length ic gd od js.length jd is js W (hW.g3 h12).1 ((unhide HM).is.below hbw) ((unhide HN).is.below hbw) (by omega) (by omega)
    refine hc.mono ?_
    rintro e w' ⟨V, rfl, r, o, b⟩
    rw [← List.length_append] at r
    obtain ⟨p, cp, rfl⟩ := owns_form r
    have hg := hW.grow b
    have h14 : L 14 = false := fls fun q => by rw [(hW.d q).2] at h13; cases h13
    have h15 : L 15 = false := fls fun q => by rw [hW.e q] at h14; cases h14
    have hb0 := hg.b
    rw [h15] at hb0
    refine ⟨{ c with p3 := p, c3 := cp }, fun j hj => ?_, rfl, hg.only, fun q => hg.g1 (by rwa [upd_ne (by decide)] at q), fun q => hg.g2 (by rwa [upd_ne (by decide)] at q), fun q => hg.g3 (by rwa [upd_ne (by decide)] at q), fun q => hg.k (by rwa [upd_ne (by decide)] at q), fun _ => ⟨r, fun i hi => Nat.le_trans hW.only.size (o i hi)⟩, fun q => ?_, fun q => ?_, fun q => by rw [upd_ne (by decide)]; exact h12, fun q => ?_, fun q => ?_, by rw [upd_ne (by decide), h15]; exact hb0⟩
    · unfold vji
      split <;> first | rfl | (rw [h13] at hj; cases hj) | (rw [h14] at hj; cases hj)
    · rw [upd_ne (by decide)] at q ⊢; exact hW.d6 q
    · rw [upd_ne (by decide)] at q ⊢; exact hW.d7 q
    · rw [upd_ne (by decide), h14] at q; cases q
    · rw [upd_ne (by decide), h15] at q; cases q
  · intro c L W hW h15 h14
    have hb0 := hW.b
    rw [h15] at hb0
    have o4 := set4_only W W1.heap.size (.bool false) (.slice c.p1 (ks ++ [key] ++ ls).length c.c1) (.slice none 0 0) (.slice c.p3 (is ++ js).length c.c3)
    have r4 := set4 hb0 rfl (.bool false) (.slice c.p1 (ks ++ [key] ++ ls).length c.c1) (.slice none 0 0) (.slice c.p3 (is ++ js).length c.c3)
    refine ⟨⟨hW.only.trans o4 (fun _ _ e => e), fun q => ?_, fun q => ?_, fun q => ?_, fun q => ?_, fun q => ?_, fun q => ?_, fun q => ?_, fun q => ?_, fun _ => hW.d h14, fun _ => by rw [upd_ne (by decide)]; exact h14, by rw [upd_eq]; exact r4⟩, hb0⟩
    · rw [upd_ne (by decide)] at q
      exact ⟨(o4.block _ (lt_of_row (hW.g1 q).1) (fun e => by have := (hW.g1 q).2; omega)).trans (hW.g1 q).1, (hW.g1 q).2⟩
    · rw [upd_ne (by decide)] at q
      exact ⟨(o4.block _ (lt_of_row (hW.g2 q).1) (fun e => by have := (hW.g2 q).2; omega)).trans (hW.g2 q).1, (hW.g2 q).2⟩
    · rw [upd_ne (by decide)] at q
      exact ⟨(o4.block _ (lt_of_row (hW.g3 q).1) (fun e => by have := (hW.g3 q).2; omega)).trans (hW.g3 q).1, (hW.g3 q).2⟩
    · rw [upd_ne (by decide)] at q
      exact ⟨owns_only (hW.k q).1 o4 (fun i hi e => by have := (hW.k q).2 i hi; omega), (hW.k q).2⟩
    · rw [upd_ne (by decide)] at q
      exact ⟨owns_only (hW.z q).1 o4 (fun i hi e => by have := (hW.z q).2 i hi; omega), (hW.z q).2⟩
    · rw [upd_ne (by decide)] at q ⊢; exact hW.d6 q
    · rw [upd_ne (by decide)] at q ⊢; exact hW.d7 q
    · rw [upd_ne (by decide)] at q ⊢; exact hW.d13 q
  · intro c L W hall hW
    have k := hW.k (hall 7 (by omega))
    have z := hW.z (hall 13 (by omega))
    have hb1 := hW.b
    rw [hall 15 (by omega)] at hb1
    have HKk := hide k
    have HZ := hide z
    have HB := hide (unhide HBw W hW.only)
    have HB1 := hide hb1
    have HX2 := hide hX
    clear k z hb1 hW hall hX hbX hbY c0 c1 c2 c3
    simp only [Act.put, List.setIfInBounds_toArray, List.set_cons_succ, List.set_cons_zero]
    go_wp2
    refine outN1 (p := 6) rfl (by rfl) (by rfl) (unhide HB1) ⟨_, _, rfl, by simpa using (unhide HKk).1, by simpa using (unhide HZ).1, fun i hi => ?_, fun i hi => ?_, unhide HB⟩
    · have := (unhide HKk).2 i hi; have := unhide HX2; omega
    · have := (unhide HZ).2 i hi; have := unhide HX2; omega
end Go.Proofs.YtllialbdofklgaaGreatDoor
