import Derived.Test.YtllialbdofklgaaGreatDoorZzaq
namespace Go.Proofs.YtllialbdofklgaaGreatDoor
open Go.RowKit
set_option maxHeartbeats 16000000
set_option maxRecDepth 8000
/-- Between two operations of joined's region: base W2, the box A, what is put together. -/
structure Wj (W2 : World) (A : Nat) (e1 e2 f1 f2 : Value) (K V : List Bs) (c : Ch2) (L : Nat → Bool) (W : World) : Prop where
  bel : Below A W2 W
  sz : W2.heap.size ≤ W.heap.size
  g1 : L 4 = true → W.heap[c.g1]? = some (.cells #[e1, e2] 22 (0, 0)) ∧ W2.heap.size ≤ c.g1
  g2 : L 10 = true → W.heap[c.g2]? = some (.cells #[f1, f2] 22 (0, 0)) ∧ W2.heap.size ≤ c.g2
  k : L 5 = true → W.ownsRow 0 9 1 (.slice c.p1 K.length c.c1) K.length (K.map S) ∧ ∀ i, (Value.slice c.p1 K.length c.c1).ownBlock = some i → W2.heap.size ≤ i
  v : L 11 = true → W.ownsRow 0 9 1 (.slice c.p2 V.length c.c2) V.length (V.map S) ∧ ∀ i, (Value.slice c.p2 V.length c.c2).ownBlock = some i → W2.heap.size ≤ i
  d1 : L 5 = true → L 4 = true
  d2 : L 11 = true → L 10 = true
  d : L 12 = true → L 5 = true ∧ L 11 = true
  e : L 13 = true → L 12 = true
  b0 : L 13 = false → W.heap[A]? = some (.cells #[.bool false, .slice none 0 0, .slice none 0 0, .slice none 0 0] 25 (0, 0))
  b1 : L 13 = true → W.heap[A]? = some (.cells #[.bool true, .slice c.p1 K.length c.c1, .slice c.p2 V.length c.c2, .slice none 0 0] 25 (0, 0))
variable {W2 : World} {A : Nat} {e1 e2 f1 f2 : Value} {K V : List Bs} {c : Ch2} {L : Nat → Bool} {W W' : World}
theorem Wj.grow (h : Wj W2 A e1 e2 f1 f2 K V c L W) (q : Below W.heap.size W W') (hA : A < W2.heap.size) : Wj W2 A e1 e2 f1 f2 K V c L W' :=
  ⟨h.bel.trans (q.mono (by have := h.sz; omega)), Nat.le_trans h.sz q.size, fun e => ⟨(q.block _ (lt_of_row (h.g1 e).1)).trans (h.g1 e).1, (h.g1 e).2⟩, fun e => ⟨(q.block _ (lt_of_row (h.g2 e).1)).trans (h.g2 e).1, (h.g2 e).2⟩, fun e => ⟨owns_below (h.k e).1 q, (h.k e).2⟩, fun e => ⟨owns_below (h.v e).1 q, (h.v e).2⟩, h.d1, h.d2, h.d, h.e, fun e => (q.block A (by have := h.sz; omega)).trans (h.b0 e), fun e => (q.block A (by have := h.sz; omega)).trans (h.b1 e)⟩
theorem Wj.pure (h : Wj W2 A e1 e2 f1 f2 K V c L W) (i : Nat) (h1 : i ≠ 4) (h2 : i ≠ 5) (h3 : i ≠ 10) (h4 : i ≠ 11) (h5 : i ≠ 13) (h6 : i = 12 → L 5 = true ∧ L 11 = true) : Wj W2 A e1 e2 f1 f2 K V c (upd L i) W := by
  refine ⟨h.bel, h.sz, fun q => h.g1 (by rwa [upd_ne h1.symm] at q), fun q => h.g2 (by rwa [upd_ne h3.symm] at q), fun q => h.k (by rwa [upd_ne h2.symm] at q), fun q => h.v (by rwa [upd_ne h4.symm] at q), fun q => ?_, fun q => ?_, fun q => ?_, fun q => ?_, fun q => h.b0 (by rwa [upd_ne h5.symm] at q), fun q => h.b1 (by rwa [upd_ne h5.symm] at q)⟩
  · rw [upd_ne h1.symm]; exact h.d1 (by rwa [upd_ne h2.symm] at q)
  · rw [upd_ne h3.symm]; exact h.d2 (by rwa [upd_ne h4.symm] at q)
  · rw [upd_ne h2.symm, upd_ne h4.symm]
    by_cases e : i = 12
    · exact h6 e
    · exact h.d (by rwa [upd_ne (Ne.symm e)] at q)
  · by_cases e : i = 12
    · rw [e]; exact upd_eq _ _
    · rw [upd_ne (Ne.symm e)]
      exact h.e (by rwa [upd_ne h5.symm] at q)
theorem fls {b : Bool} (h : b = true → False) : b = false := by cases b; rfl; exact (h rfl).elim
theorem Sts.some {w : World} {a : Option Addr} {n : Nat} {l : List Bs} (h : Sts w a n l) (hn : 0 < n) : ∃ g o, a = some ⟨g, o, none⟩ := by
  obtain ⟨p, o, e, _⟩ := h.2 hn
  exact ⟨p, o, e⟩
theorem joined_leaf (m n : Nd) (ka va kb vb : Option Addr) (kc vc kd vd : Nat) (key : Bs) (w : World) (hm : NA m ka va none w) (hn : NA n kb vb none w) (bm : NB m) (bn : NB n) (lm : m.leaf = true) (im : m.kids = []) (inn : n.kids = [])
    (p1 : 0 < m.keys.length) (p2 : 0 < n.keys.length) (p3 : 0 < m.vals.length) (p4 : 0 < n.vals.length) (q1 : m.keys.length ≤ 2147483648) (q2 : n.keys.length ≤ 2147483648) (q3 : m.vals.length ≤ 2147483648) (q4 : n.vals.length ≤ 2147483648) :
    Calls Tryz.prog 73 #[nda m ka va none kc vc 0, S key, nda n kb vb none kd vd 0] w fun e w' => ∃ vK vV, e = .returned (.agg #[.bool true, vK, vV, .slice none 0 0]) ∧ w'.ownsRow 0 9 1 vK (m.keys ++ n.keys).length ((m.keys ++ n.keys).map S) ∧ w'.ownsRow 0 9 1 vV (m.vals ++ n.vals).length ((m.vals ++ n.vals).map S) ∧ (∀ i, vK.ownBlock = some i → w.heap.size ≤ i) ∧ (∀ i, vV.ownBlock = some i → w.heap.size ≤ i) ∧ Below w.heap.size w w' := by
  obtain ⟨lf, ks, vs, is⟩ := m
  obtain ⟨lg, ls, us, js⟩ := n
  simp only at lm im inn p1 p2 p3 p4 q1 q2 q3 q4
  subst lm im inn
  obtain ⟨ga, oa, rfl⟩ := hm.ks.some p1
  obtain ⟨gb, ob, rfl⟩ := hn.ks.some p2
  obtain ⟨gc, oc, rfl⟩ := hm.vs.some p3
  obtain ⟨gd, od, rfl⟩ := hn.vs.some p4
  unfold nda
  simp only [List.length_nil]
  obtain ⟨E1, hE1⟩ : ∃ E1 : Value, E1 = .slice (some ⟨ga, oa, none⟩) ks.length kc := ⟨_, rfl⟩
  obtain ⟨E2, hE2⟩ : ∃ E2 : Value, E2 = .slice (some ⟨gb, ob, none⟩) ls.length kd := ⟨_, rfl⟩
  obtain ⟨F1, hF1⟩ : ∃ F1 : Value, F1 = .slice (some ⟨gc, oc, none⟩) vs.length vc := ⟨_, rfl⟩
  obtain ⟨F2, hF2⟩ : ∃ F2 : Value, F2 = .slice (some ⟨gd, od, none⟩) us.length vd := ⟨_, rfl⟩
  have hA := (Below.refl w.heap.size w).alloc (Nat.le_refl _) (.cells #[.bool true, .slice (some ⟨ga, oa, none⟩) ks.length kc, .slice (some ⟨gc, oc, none⟩) vs.length vc, .slice none 0 0] 25)
  have hg := heap_alloc_new w (.cells #[.bool true, .slice (some ⟨ga, oa, none⟩) ks.length kc, .slice (some ⟨gc, oc, none⟩) vs.length vc, .slice none 0 0] 25)
  have hs0 := size_alloc w (.cells #[.bool true, .slice (some ⟨ga, oa, none⟩) ks.length kc, .slice (some ⟨gc, oc, none⟩) vs.length vc, .slice none 0 0] 25)
  generalize hW0 : w.alloc (.cells #[.bool true, .slice (some ⟨ga, oa, none⟩) ks.length kc, .slice (some ⟨gc, oc, none⟩) vs.length vc, .slice none 0 0] 25) = W0 at hA hg hs0
  have hz0 := lt_of_row hg
  have hA1 := hA.alloc hA.size (.cells #[.bool lg, .slice (some ⟨gb, ob, none⟩) ls.length kd, .slice (some ⟨gd, od, none⟩) us.length vd, .slice none 0 0] 25)
  have hg1 := (heap_alloc_old W0 (.cells #[.bool lg, .slice (some ⟨gb, ob, none⟩) ls.length kd, .slice (some ⟨gd, od, none⟩) us.length vd, .slice none 0 0] 25) hz0).trans hg
  have hk := heap_alloc_new W0 (.cells #[.bool lg, .slice (some ⟨gb, ob, none⟩) ls.length kd, .slice (some ⟨gd, od, none⟩) us.length vd, .slice none 0 0] 25)
  have hs1 := size_alloc W0 (.cells #[.bool lg, .slice (some ⟨gb, ob, none⟩) ls.length kd, .slice (some ⟨gd, od, none⟩) us.length vd, .slice none 0 0] 25)
  generalize hW1 : W0.alloc (.cells #[.bool lg, .slice (some ⟨gb, ob, none⟩) ls.length kd, .slice (some ⟨gd, od, none⟩) us.length vd, .slice none 0 0] 25) = W1 at hA1 hg1 hk hs1
  have hA2 := hA1.alloc hA1.size (.cells #[.bool false, .slice none 0 0, .slice none 0 0, .slice none 0 0] 25)
  have hp := heap_alloc_new W1 (.cells #[.bool false, .slice none 0 0, .slice none 0 0, .slice none 0 0] 25)
  have hg2 := (heap_alloc_old W1 (.cells #[.bool false, .slice none 0 0, .slice none 0 0, .slice none 0 0] 25) (lt_of_row hg1)).trans hg1
  have hk2 := (heap_alloc_old W1 (.cells #[.bool false, .slice none 0 0, .slice none 0 0, .slice none 0 0] 25) (lt_of_row hk)).trans hk
  have hs2 := size_alloc W1 (.cells #[.bool false, .slice none 0 0, .slice none 0 0, .slice none 0 0] 25)
  have b12 : Below W1.heap.size W1 (W1.alloc (.cells #[.bool false, .slice none 0 0, .slice none 0 0, .slice none 0 0] 25)) := (Below.refl _ _).alloc (Nat.le_refl _) _
  generalize hW2 : W1.alloc (.cells #[.bool false, .slice none 0 0, .slice none 0 0, .slice none 0 0] 25) = W2 at hA2 hp hg2 hk2 hs2 b12
  have HX := hide (show W0.heap.size = w.heap.size + 1 ∧ W1.heap.size = W0.heap.size + 1 ∧ W2.heap.size = W1.heap.size + 1 from ⟨hs0, hs1, hs2⟩)
  have HSt := hide (fun (W : World) (q : Below W1.heap.size W2 W) => show Below w.heap.size w W from hA1.trans ((b12.trans q).mono hA1.size))
  have HM := hide hm
  have HN := hide hn
  have HA2 := hide hA2
  have HP := hide hp
  have HG := hide hg2
  have HK := hide hk2
  obtain ⟨c0, c1, c2, c3⟩ := box4 hg2 (Below.refl _ _) (lt_of_row hg2)
  have hz2 := lt_of_row hg2
  clear hA hg hA1 hg1 hk hA2 hp hg2 hk2 b12 hm hn bm bn hs0 hs1 hs2 hz0
  go_enter Tryz.func73, Tryz.ntmps73
  go_wp2
  have hX := unhide HX
  refine rjn w.heap.size W0.heap.size W1.heap.size ks.length ls.length vs.length us.length kc kd vc vd (ks ++ ls).length (vs ++ us).length (some ⟨ga, oa, none⟩) (some ⟨gb, ob, none⟩) (some ⟨gc, oc, none⟩) (some ⟨gd, od, none⟩) (by kernel_rfl) (by kernel_rfl) (by kernel_rfl) _ _ (by show 22 ≤ Array.size _; simp) rfl rfl rfl (Wj W2 W1.heap.size E1 E2 F1 F2 (ks ++ ls) (vs ++ us)) ?_ ?_ ?_ ?_ ?_ ?_ ?_ ?_ ?_ ?_ ?_ ?_ ?_
  · exact ⟨⟨none, 0, none, 0, 0, 0⟩, ⟨(Below.refl _ _).drew, Nat.le_refl _, (fun q => nomatch q), (fun q => nomatch q), (fun q => nomatch q), (fun q => nomatch q), (fun q => nomatch q), (fun q => nomatch q), (fun q => nomatch q), (fun q => nomatch q), fun _ => unhide HP, (fun q => nomatch q)⟩⟩
  · intro i hi c L W hW
    simp only [List.mem_cons, List.not_mem_nil, or_false, not_or] at hi
    exact hW.pure i hi.1 hi.2.1 hi.2.2.1 hi.2.2.2.1 hi.2.2.2.2.1 (fun e => absurd e hi.2.2.2.2.2)
  · intro c L W hW
    exact (box4 (unhide HG) hW.bel (by omega)).2.1
  · intro c L W hW
    exact (box4 (unhide HK) hW.bel (by omega)).2.1
  · intro c L W hW
    exact (box4 (unhide HG) hW.bel (by omega)).2.2.1
  · intro c L W hW
    exact (box4 (unhide HK) hW.bel (by omega)).2.2.1
  · intro c L W hW h4 h7
    exact hW.pure 12 (by decide) (by decide) (by decide) (by decide) (by decide) (fun _ => ⟨h4, h7⟩)
  · intro c L W hW h4
    have hb := (Below.refl W.heap.size W).alloc (Nat.le_refl _) (.cells #[E1, E2] 22)
    have hg := hW.grow hb (by omega)
    have h5 : L 5 = false := fls fun q => by rw [hW.d1 q] at h4; cases h4
    have h12 : L 12 = false := fls fun q => by rw [(hW.d q).1] at h5; cases h5
    have h13 : L 13 = false := fls fun q => by rw [hW.e q] at h12; cases h12
    subst hE1 hE2
    refine ⟨{ c with g1 := W.heap.size }, fun j hj => ?_, rfl, hg.bel, hg.sz, fun _ => ⟨heap_alloc_new _ _, hW.sz⟩, fun q => hg.g2 (by rwa [upd_ne (by decide)] at q), fun q => ?_, fun q => hg.v (by rwa [upd_ne (by decide)] at q), fun _ => upd_eq _ _, fun q => ?_, fun q => ?_, fun q => ?_, fun q => hg.b0 h13, fun q => ?_⟩
    · unfold vjn
      split <;> first | rfl | (rw [h4] at hj; cases hj)
    · rw [upd_ne (by decide), h5] at q; cases q
    · rw [upd_ne (by decide)] at q ⊢; exact hW.d2 q
    · rw [upd_ne (by decide), h12] at q; cases q
    · rw [upd_ne (by decide), h13] at q; cases q
    · rw [upd_ne (by decide), h13] at q; cases q
  · intro c L W hW h4
    have hb := (Below.refl W.heap.size W).alloc (Nat.le_refl _) (.cells #[F1, F2] 22)
    have hg := hW.grow hb (by omega)
    have h5 : L 11 = false := fls fun q => by rw [hW.d2 q] at h4; cases h4
    have h12 : L 12 = false := fls fun q => by rw [(hW.d q).2] at h5; cases h5
    have h13 : L 13 = false := fls fun q => by rw [hW.e q] at h12; cases h12
    subst hF1 hF2
    refine ⟨{ c with g2 := W.heap.size }, fun j hj => ?_, rfl, hg.bel, hg.sz, fun q => hg.g1 (by rwa [upd_ne (by decide)] at q), fun _ => ⟨heap_alloc_new _ _, hW.sz⟩, fun q => hg.k (by rwa [upd_ne (by decide)] at q), fun q => ?_, fun q => ?_, fun _ => upd_eq _ _, fun q => ?_, fun q => ?_, fun q => hg.b0 h13, fun q => ?_⟩
    · unfold vjn
      split <;> first | rfl | (rw [h4] at hj; cases hj)
    · rw [upd_ne (by decide), h5] at q; cases q
    · rw [upd_ne (by decide)] at q ⊢; exact hW.d1 q
    · rw [upd_ne (by decide), h12] at q; cases q
    · rw [upd_ne (by decide), h13] at q; cases q
    · rw [upd_ne (by decide), h13] at q; cases q
  · intro c L W hW h5 h4
    have hbw := unhide HSt W hW.bel
    have hc := concat2 c.g1 ga oa ks.length kc gb ob ls.length kd ks ls W (by rw [← hE1, ← hE2]; exact (hW.g1 h4).1) ((unhide HM).ks.below hbw) ((unhide HN).ks.below hbw) q1 q2
    refine hc.mono ?_
    rintro e w' ⟨V, rfl, r, o, b⟩
    rw [← List.length_append] at r
    obtain ⟨p, cp, rfl⟩ := owns_form r
    have hg := hW.grow b (by omega)
    have h12 : L 12 = false := fls fun q => by rw [(hW.d q).1] at h5; cases h5
    have h13 : L 13 = false := fls fun q => by rw [hW.e q] at h12; cases h12
    refine ⟨{ c with p1 := p, c1 := cp }, fun j hj => ?_, rfl, hg.bel, hg.sz, fun q => hg.g1 (by rwa [upd_ne (by decide)] at q), fun q => hg.g2 (by rwa [upd_ne (by decide)] at q), fun _ => ⟨r, fun i hi => Nat.le_trans hW.sz (o i hi)⟩, fun q => hg.v (by rwa [upd_ne (by decide)] at q), fun q => by rw [upd_ne (by decide)]; exact h4, fun q => ?_, fun q => ?_, fun q => ?_, fun q => hg.b0 h13, fun q => ?_⟩
    · unfold vjn
      split <;> first | rfl | (rw [h5] at hj; cases hj) | (rw [h12] at hj; cases hj)
    · rw [upd_ne (by decide)] at q ⊢; exact hW.d2 q
    · rw [upd_ne (by decide), h12] at q; cases q
    · rw [upd_ne (by decide), h13] at q; cases q
    · rw [upd_ne (by decide), h13] at q; cases q
  · intro c L W hW h11 h10
    have hbw := unhide HSt W hW.bel
    have hc := concat2 c.g2 gc oc vs.length vc gd od us.length vd vs us W (by rw [← hF1, ← hF2]; exact (hW.g2 h10).1) ((unhide HM).vs.below hbw) ((unhide HN).vs.below hbw) q3 q4
    refine hc.mono ?_
    rintro e w' ⟨V, rfl, r, o, b⟩
    rw [← List.length_append] at r
    obtain ⟨p, cp, rfl⟩ := owns_form r
    have hg := hW.grow b (by omega)
    have h12 : L 12 = false := fls fun q => by rw [(hW.d q).2] at h11; cases h11
    have h13 : L 13 = false := fls fun q => by rw [hW.e q] at h12; cases h12
    refine ⟨{ c with p2 := p, c2 := cp }, fun j hj => ?_, rfl, hg.bel, hg.sz, fun q => hg.g1 (by rwa [upd_ne (by decide)] at q), fun q => hg.g2 (by rwa [upd_ne (by decide)] at q), fun q => hg.k (by rwa [upd_ne (by decide)] at q), fun _ => ⟨r, fun i hi => Nat.le_trans hW.sz (o i hi)⟩, fun q => ?_, fun q => by rw [upd_ne (by decide)]; exact h10, fun q => ?_, fun q => ?_, fun q => hg.b0 h13, fun q => ?_⟩
    · unfold vjn
      split <;> first | rfl | (rw [h11] at hj; cases hj) | (rw [h12] at hj; cases hj)
    · rw [upd_ne (by decide)] at q ⊢; exact hW.d1 q
    · rw [upd_ne (by decide), h12] at q; cases q
    · rw [upd_ne (by decide), h13] at q; cases q
    · rw [upd_ne (by decide), h13] at q; cases q
  · intro c L W hW h13 h12
    have hb0 := hW.b0 h13
    have o4 := set4_only W W1.heap.size (.bool true) (.slice c.p1 (ks ++ ls).length c.c1) (.slice c.p2 (vs ++ us).length c.c2) (.slice none 0 0)
    have r4 := set4 hb0 rfl (.bool true) (.slice c.p1 (ks ++ ls).length c.c1) (.slice c.p2 (vs ++ us).length c.c2) (.slice none 0 0)
    refine ⟨⟨o4.below hW.bel (by have := hW.sz; omega) (fun k e => by omega), Nat.le_trans hW.sz o4.size, fun q => ?_, fun q => ?_, fun q => ?_, fun q => ?_, fun q => ?_, fun q => ?_, fun _ => by rw [upd_ne (by decide), upd_ne (by decide)]; exact hW.d h12, fun _ => by rw [upd_ne (by decide)]; exact h12, fun q => ?_, fun _ => r4⟩, hb0⟩
    · rw [upd_ne (by decide)] at q
      exact ⟨(o4.block _ (lt_of_row (hW.g1 q).1) (fun e => by have := (hW.g1 q).2; omega)).trans (hW.g1 q).1, (hW.g1 q).2⟩
    · rw [upd_ne (by decide)] at q
      exact ⟨(o4.block _ (lt_of_row (hW.g2 q).1) (fun e => by have := (hW.g2 q).2; omega)).trans (hW.g2 q).1, (hW.g2 q).2⟩
    · rw [upd_ne (by decide)] at q
      exact ⟨owns_only (hW.k q).1 o4 (fun i hi e => by have := (hW.k q).2 i hi; omega), (hW.k q).2⟩
    · rw [upd_ne (by decide)] at q
      exact ⟨owns_only (hW.v q).1 o4 (fun i hi e => by have := (hW.v q).2 i hi; omega), (hW.v q).2⟩
    · rw [upd_ne (by decide)] at q ⊢; exact hW.d1 q
    · rw [upd_ne (by decide)] at q ⊢; exact hW.d2 q
    · rw [upd_eq] at q; cases q
  · intro c L W hall hW
    have k := hW.k (hall 5 (by omega))
    have v := hW.v (hall 11 (by omega))
    have hA := unhide HA2
    have bw : Below w.heap.size w W := hA.trans (hW.bel.mono (by omega))
    have hb1 := hW.b1 (hall 13 (by omega))
    have hz := lt_of_row hb1
    have HK' := hide k
    have HV' := hide v
    have HB := hide bw
    have HB1 := hide hb1
    clear k v hA bw hb1 hW hall
    simp only [Act.put, List.setIfInBounds_toArray, List.set_cons_succ, List.set_cons_zero]
    clear c0 c1 c2 c3
    go_wp2
    refine outN1 (p := 6) rfl (by rfl) (by rfl) (unhide HB1) ⟨_, _, rfl, (unhide HK').1, (unhide HV').1, fun i hi => ?_, fun i hi => ?_, unhide HB⟩
    · have := (unhide HK').2 i hi; omega
    · have := (unhide HV').2 i hi; omega
end Go.Proofs.YtllialbdofklgaaGreatDoor
