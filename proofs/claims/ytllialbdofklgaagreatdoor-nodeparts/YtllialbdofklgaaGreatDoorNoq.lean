import Derived.Test.YtllialbdofklgaaGreatDoorNop
import Derived.Test.YtllialbdofklgaaGreatDoorNoc
namespace Go.Proofs.YtllialbdofklgaaGreatDoor
open Go.RowKit
set_option maxHeartbeats 16000000
set_option maxRecDepth 8000
theorem joinedL_any (m n : Nd) (ka va ia kb vb ib : Option Addr) (kc vc ic kd vd id : Nat) (key : Bs) (w : World) (hm : NA m ka va ia w) (hn : NA n kb vb ib w) (lm : m.leaf = true) (im : m.kids = []) (inn : n.kids = [])
    (p1 : 0 < m.keys.length) (p2 : 0 < n.keys.length) (p3 : 0 < m.vals.length) (p4 : 0 < n.vals.length) (q1 : m.keys.length ≤ 2147483648) (q2 : n.keys.length ≤ 2147483648) (q3 : m.vals.length ≤ 2147483648) (q4 : n.vals.length ≤ 2147483648) :
    Calls Tryz.prog 73 #[nda m ka va ia kc vc ic, S key, nda n kb vb ib kd vd id] w fun e w' => ∃ vK vV, e = .returned (.agg #[.bool true, vK, vV, .slice none 0 0]) ∧ w'.ownsRow 0 9 1 vK (m.keys ++ n.keys).length ((m.keys ++ n.keys).map S) ∧ w'.ownsRow 0 9 1 vV (m.vals ++ n.vals).length ((m.vals ++ n.vals).map S) ∧ (∀ i, vK.ownBlock = some i → w.heap.size ≤ i) ∧ (∀ i, vV.ownBlock = some i → w.heap.size ≤ i) ∧ Below w.heap.size w w' := by
  obtain ⟨lf, ks, vs, is⟩ := m
  obtain ⟨lg, ls, us, js⟩ := n
  simp only at lm im inn p1 p2 p3 p4 q1 q2 q3 q4
  subst lm im inn
  obtain ⟨ga, oa, rfl⟩ := hm.ks.some p1
  obtain ⟨gb, ob, rfl⟩ := hn.ks.some p2
  obtain ⟨gc, oc, rfl⟩ := hm.vs.some p3
  obtain ⟨gd, od, rfl⟩ := hn.vs.some p4
  unfold nda
  simp only [List.length_nil]
  obtain ⟨E1, hE1⟩ : ∃ E1 : Value, E1 = .slice (some ⟨ga, oa, none⟩) ks.length kc := ⟨_, rfl⟩
  obtain ⟨E2, hE2⟩ : ∃ E2 : Value, E2 = .slice (some ⟨gb, ob, none⟩) ls.length kd := ⟨_, rfl⟩
  obtain ⟨F1, hF1⟩ : ∃ F1 : Value, F1 = .slice (some ⟨gc, oc, none⟩) vs.length vc := ⟨_, rfl⟩
  obtain ⟨F2, hF2⟩ : ∃ F2 : Value, F2 = .slice (some ⟨gd, od, none⟩) us.length vd := ⟨_, rfl⟩
  have hA := (Below.refl w.heap.size w).alloc (Nat.le_refl _) (.cells #[.bool true, .slice (some ⟨ga, oa, none⟩) ks.length kc, .slice (some ⟨gc, oc, none⟩) vs.length vc, .slice ia 0 ic] 25)
  have hg := heap_alloc_new w (.cells #[.bool true, .slice (some ⟨ga, oa, none⟩) ks.length kc, .slice (some ⟨gc, oc, none⟩) vs.length vc, .slice ia 0 ic] 25)
  have hs0 := size_alloc w (.cells #[.bool true, .slice (some ⟨ga, oa, none⟩) ks.length kc, .slice (some ⟨gc, oc, none⟩) vs.length vc, .slice ia 0 ic] 25)
  generalize hW0 : w.alloc (.cells #[.bool true, .slice (some ⟨ga, oa, none⟩) ks.length kc, .slice (some ⟨gc, oc, none⟩) vs.length vc, .slice ia 0 ic] 25) = W0 at hA hg hs0
  have hz0 := lt_of_row hg
  have hA1 := hA.alloc hA.size (.cells #[.bool lg, .slice (some ⟨gb, ob, none⟩) ls.length kd, .slice (some ⟨gd, od, none⟩) us.length vd, .slice ib 0 id] 25)
  have hg1 := (heap_alloc_old W0 (.cells #[.bool lg, .slice (some ⟨gb, ob, none⟩) ls.length kd, .slice (some ⟨gd, od, none⟩) us.length vd, .slice ib 0 id] 25) hz0).trans hg
  have hk := heap_alloc_new W0 (.cells #[.bool lg, .slice (some ⟨gb, ob, none⟩) ls.length kd, .slice (some ⟨gd, od, none⟩) us.length vd, .slice ib 0 id] 25)
  have hs1 := size_alloc W0 (.cells #[.bool lg, .slice (some ⟨gb, ob, none⟩) ls.length kd, .slice (some ⟨gd, od, none⟩) us.length vd, .slice ib 0 id] 25)
  generalize hW1 : W0.alloc (.cells #[.bool lg, .slice (some ⟨gb, ob, none⟩) ls.length kd, .slice (some ⟨gd, od, none⟩) us.length vd, .slice ib 0 id] 25) = W1 at hA1 hg1 hk hs1
  have hA2 := hA1.alloc hA1.size (.cells #[.bool false, .slice none 0 0, .slice none 0 0, .slice none 0 0] 25)
  have hp := heap_alloc_new W1 (.cells #[.bool false, .slice none 0 0, .slice none 0 0, .slice none 0 0] 25)
  have hg2 := (heap_alloc_old W1 (.cells #[.bool false, .slice none 0 0, .slice none 0 0, .slice none 0 0] 25) (lt_of_row hg1)).trans hg1
  have hk2 := (heap_alloc_old W1 (.cells #[.bool false, .slice none 0 0, .slice none 0 0, .slice none 0 0] 25) (lt_of_row hk)).trans hk
  have hs2 := size_alloc W1 (.cells #[.bool false, .slice none 0 0, .slice none 0 0, .slice none 0 0] 25)
  have b12 : Below W1.heap.size W1 (W1.alloc (.cells #[.bool false, .slice none 0 0, .slice none 0 0, .slice none 0 0] 25)) := (Below.refl _ _).alloc (Nat.le_refl _) _
  generalize hW2 : W1.alloc (.cells #[.bool false, .slice none 0 0, .slice none 0 0, .slice none 0 0] 25) = W2 at hA2 hp hg2 hk2 hs2 b12
  have HX := hide (show W0.heap.size = w.heap.size + 1 ∧ W1.heap.size = W0.heap.size + 1 ∧ W2.heap.size = W1.heap.size + 1 from ⟨hs0, hs1, hs2⟩)
  have HSt := hide (fun (W : World) (q : Below W1.heap.size W2 W) => show Below w.heap.size w W from hA1.trans ((b12.trans q).mono hA1.size))
  have HM := hide hm
  have HN := hide hn
  have HA2 := hide hA2
  have HP := hide hp
  have HG := hide hg2
  have HK := hide hk2
  obtain ⟨c0, c1, c2, c3⟩ := box4 hg2 (Below.refl _ _) (lt_of_row hg2)
  have hz2 := lt_of_row hg2
  clear hA hg hA1 hg1 hk hA2 hp hg2 hk2 b12 hm hn hs0 hs1 hs2 hz0
  go_enter Tryz.func73, Tryz.ntmps73
  go_wp2
  have hX := unhide HX
  refine rjn w.heap.size W0.heap.size W1.heap.size ks.length ls.length vs.length us.length kc kd vc vd (ks ++ ls).length (vs ++ us).length (some ⟨ga, oa, none⟩) (some ⟨gb, ob, none⟩) (some ⟨gc, oc, none⟩) (some ⟨gd, od, none⟩) (by kernel_rfl) (by kernel_rfl) (by kernel_rfl) _ _ (by show 22 ≤ Array.size _; simp) rfl rfl rfl (Wj W2 W1.heap.size E1 E2 F1 F2 (ks ++ ls) (vs ++ us)) ?_ ?_ ?_ ?_ ?_ ?_ ?_ ?_ ?_ ?_ ?_ ?_ ?_
  · exact ⟨⟨none, 0, none, 0, 0, 0⟩, ⟨(Below.refl _ _).drew, Nat.le_refl _, (fun q => nomatch q), (fun q => nomatch q), (fun q => nomatch q), (fun q => nomatch q), (fun q => nomatch q), (fun q => nomatch q), (fun q => nomatch q), (fun q => nomatch q), fun _ => unhide HP, (fun q => nomatch q)⟩⟩
  · intro i hi c L W hW
    simp only [List.mem_cons, List.not_mem_nil, or_false, not_or] at hi
    exact hW.pure i hi.1 hi.2.1 hi.2.2.1 hi.2.2.2.1 hi.2.2.2.2.1 (fun e => absurd e hi.2.2.2.2.2)
  · intro c L W hW
    exact (box4 (unhide HG) hW.bel (by omega)).2.1
  · intro c L W hW
    exact (box4 (unhide HK) hW.bel (by omega)).2.1
  · intro c L W hW
    exact (box4 (unhide HG) hW.bel (by omega)).2.2.1
  · intro c L W hW
    exact (box4 (unhide HK) hW.bel (by omega)).2.2.1
  · intro c L W hW h4 h7
    exact hW.pure 12 (by decide) (by decide) (by decide) (by decide) (by decide) (fun _ => ⟨h4, h7⟩)
  · intro c L W hW h4
    have hb := (Below.refl W.heap.size W).alloc (Nat.le_refl _) (.cells #[E1, E2] 22)
    have hg := hW.grow hb (by omega)
    have h5 : L 5 = false := fls fun q => by rw [hW.d1 q] at h4; cases h4
    have h12 : L 12 = false := fls fun q => by rw [(hW.d q).1] at h5; cases h5
    have h13 : L 13 = false := fls fun q => by rw [hW.e q] at h12; cases h12
    subst hE1 hE2
    refine ⟨{ c with g1 := W.heap.size }, fun j hj => ?_, rfl, hg.bel, hg.sz, fun _ => ⟨heap_alloc_new _ _, hW.sz⟩, fun q => hg.g2 (by rwa [upd_ne (by decide)] at q), fun q => ?_, fun q => hg.v (by rwa [upd_ne (by decide)] at q), fun _ => upd_eq _ _, fun q => ?_, fun q => ?_, fun q => ?_, fun q => hg.b0 h13, fun q => ?_⟩
    · unfold vjn
      split <;> first | rfl | (rw [h4] at hj; cases hj)
    · rw [upd_ne (by decide), h5] at q; cases q
    · rw [upd_ne (by decide)] at q ⊢; exact hW.d2 q
    · rw [upd_ne (by decide), h12] at q; cases q
    · rw [upd_ne (by decide), h13] at q; cases q
    · rw [upd_ne (by decide), h13] at q; cases q
  · intro c L W hW h4
    have hb := (Below.refl W.heap.size W).alloc (Nat.le_refl _) (.cells #[F1, F2] 22)
    have hg := hW.grow hb (by omega)
    have h5 : L 11 = false := fls fun q => by rw [hW.d2 q] at h4; cases h4
    have h12 : L 12 = false := fls fun q => by rw [(hW.d q).2] at h5; cases h5
    have h13 : L 13 = false := fls fun q => by rw [hW.e q] at h12; cases h12
    subst hF1 hF2
    refine ⟨{ c with g2 := W.heap.size }, fun j hj => ?_, rfl, hg.bel, hg.sz, fun q => hg.g1 (by rwa [upd_ne (by decide)] at q), fun _ => ⟨heap_alloc_new _ _, hW.sz⟩, fun q => hg.k (by rwa [upd_ne (by decide)] at q), fun q => ?_, fun q => ?_, fun _ => upd_eq _ _, fun q => ?_, fun q => ?_, fun q => hg.b0 h13, fun q => ?_⟩
    · unfold vjn
      split <;> first | rfl | (rw [h4] at hj; cases hj)
    · rw [upd_ne (by decide), h5] at q; cases q
    · rw [upd_ne (by decide)] at q ⊢; exact hW.d1 q
    · rw [upd_ne (by decide), h12] at q; cases q
    · rw [upd_ne (by decide), h13] at q; cases q
    · rw [upd_ne (by decide), h13] at q; cases q
  · intro c L W hW h5 h4
    have hbw := unhide HSt W hW.bel
    have hc := concat2 c.g1 ga oa ks.length kc gb ob ls.length kd ks ls W (by rw [← hE1, ← hE2]; exact (hW.g1 h4).1) ((unhide HM).ks.below hbw) ((unhide HN).ks.below hbw) q1 q2
    refine hc.mono ?_
    rintro e w' ⟨V, rfl, r, o, b⟩
    rw [← List.length_append] at r
    obtain ⟨p, cp, rfl⟩ := owns_form r
    have hg := hW.grow b (by omega)
    have h12 : L 12 = false := fls fun q => by rw [(hW.d q).1] at h5; cases h5
    have h13 : L 13 = false := fls fun q => by rw [hW.e q] at h12; cases h12
    refine ⟨{ c with p1 := p, c1 := cp }, fun j hj => ?_, rfl, hg.bel, hg.sz, fun q => hg.g1 (by rwa [upd_ne (by decide)] at q), fun q => hg.g2 (by rwa [upd_ne (by decide)] at q), fun _ => ⟨r, fun i hi => Nat.le_trans hW.sz (o i hi)⟩, fun q => hg.v (by rwa [upd_ne (by decide)] at q), fun q => by rw [upd_ne (by decide)]; exact h4, fun q => ?_, fun q => ?_, fun q => ?_, fun q => hg.b0 h13, fun q => ?_⟩
    · unfold vjn
      split <;> first | rfl | (rw [h5] at hj; cases hj) | (rw [h12] at hj; cases hj)
    · rw [upd_ne (by decide)] at q ⊢; exact hW.d2 q
    · rw [upd_ne (by decide), h12] at q; cases q
    · rw [upd_ne (by decide), h13] at q; cases q
    · rw [upd_ne (by decide), h13] at q; cases q
  · intro c L W hW h11 h10
    have hbw := unhide HSt W hW.bel
    have hc := concat2 c.g2 gc oc vs.length vc gd od us.length vd vs us W (by rw [← hF1, ← hF2]; exact (hW.g2 h10).1) ((unhide HM).vs.below hbw) ((unhide HN).vs.below hbw) q3 q4
    refine hc.mono ?_
    rintro e w' ⟨V, rfl, r, o, b⟩
    rw [← List.length_append] at r
    obtain ⟨p, cp, rfl⟩ := owns_form r
    have hg := hW.grow b (by omega)
    have h12 : L 12 = false := fls fun q => by rw [(hW.d q).2] at h11; cases h11
    have h13 : L 13 = false := fls fun q => by rw [hW.e q] at h12; cases h12
    refine ⟨{ c with p2 := p, c2 := cp }, fun j hj => ?_, rfl, hg.bel, hg.sz, fun q => hg.g1 (by rwa [upd_ne (by decide)] at q), fun q => hg.g2 (by rwa [upd_ne (by decide)] at q), fun q => hg.k (by rwa [upd_ne (by decide)] at q), fun _ => ⟨r, fun i hi => Nat.le_trans hW.sz (o i hi)⟩, fun q => ?_, fun q => by rw [upd_ne (by decide)]; exact h10, fun q => ?_, fun q => ?_, fun q => hg.b0 h13, fun q => ?_⟩
    · unfold vjn
      split <;> first | rfl | (rw [h11] at hj; cases hj) | (rw [h12] at hj; cases hj)
    · rw [upd_ne (by decide)] at q ⊢; exact hW.d1 q
    · rw [upd_ne (by decide), h12] at q; cases q
    · rw [upd_ne (by decide), h13] at q; cases q
    · rw [upd_ne (by decide), h13] at q; cases q
  · intro c L W hW h13 h12
    have hb0 := hW.b0 h13
    have o4 := set4_only W W1.heap.size (.bool true) (.slice c.p1 (ks ++ ls).length c.c1) (.slice c.p2 (vs ++ us).length c.c2) (.slice none 0 0)
    have r4 := set4 hb0 rfl (.bool true) (.slice c.p1 (ks ++ ls).length c.c1) (.slice c.p2 (vs ++ us).length c.c2) (.slice none 0 0)
    refine ⟨⟨o4.below hW.bel (by have := hW.sz; omega) (fun k e => by omega), Nat.le_trans hW.sz o4.size, fun q => ?_, fun q => ?_, fun q => ?_, fun q => ?_, fun q => ?_, fun q => ?_, fun _ => by rw [upd_ne (by decide), upd_ne (by decide)]; exact hW.d h12, fun _ => by rw [upd_ne (by decide)]; exact h12, fun q => ?_, fun _ => r4⟩, hb0⟩
    · rw [upd_ne (by decide)] at q
      exact ⟨(o4.block _ (lt_of_row (hW.g1 q).1) (fun e => by have := (hW.g1 q).2; omega)).trans (hW.g1 q).1, (hW.g1 q).2⟩
    · rw [upd_ne (by decide)] at q
      exact ⟨(o4.block _ (lt_of_row (hW.g2 q).1) (fun e => by have := (hW.g2 q).2; omega)).trans (hW.g2 q).1, (hW.g2 q).2⟩
    · rw [upd_ne (by decide)] at q
      exact ⟨owns_only (hW.k q).1 o4 (fun i hi e => by have := (hW.k q).2 i hi; omega), (hW.k q).2⟩
    · rw [upd_ne (by decide)] at q
      exact ⟨owns_only (hW.v q).1 o4 (fun i hi e => by have := (hW.v q).2 i hi; omega), (hW.v q).2⟩
    · rw [upd_ne (by decide)] at q ⊢; exact hW.d1 q
    · rw [upd_ne (by decide)] at q ⊢; exact hW.d2 q
    · rw [upd_eq] at q; cases q
  · intro c L W hall hW
    have k := hW.k (hall 5 (by omega))
    have v := hW.v (hall 11 (by omega))
    have hA := unhide HA2
    have bw : Below w.heap.size w W := hA.trans (hW.bel.mono (by omega))
    have hb1 := hW.b1 (hall 13 (by omega))
    have hz := lt_of_row hb1
    have HK' := hide k
    have HV' := hide v
    have HB := hide bw
    have HB1 := hide hb1
    clear k v hA bw hb1 hW hall
    simp only [Act.put, List.setIfInBounds_toArray, List.set_cons_succ, List.set_cons_zero]
    clear c0 c1 c2 c3
    go_wp2
    refine outN1 (p := 6) rfl (by rfl) (by rfl) (unhide HB1) ⟨_, _, rfl, (unhide HK').1, (unhide HV').1, fun i hi => ?_, fun i hi => ?_, unhide HB⟩
    · have := (unhide HK').2 i hi; omega
    · have := (unhide HV').2 i hi; omega
theorem join_gen (m n jn : Nd) (ka va ia kb vb ib : Option Addr) (kc vc ic kd vd id : Nat) (key : Bs) (w : World) (hm : NA m ka va ia w) (hn : NA n kb vb ib w) (bm : NB m) (bn : NB n) (bj : NB jn)
    (p1 : 0 < m.keys.length) (p2 : 0 < n.keys.length) (am : agv m = true) (an : agv n = true) (sm : m.siz ≤ 480) (sn : n.siz ≤ 480) (km : kok m.keys = true) (kn : kok n.keys = true) (kk : noKey key = false) (hk : key.length ≤ 4294967296) (sj : jn.siz ≤ 718)
    (hT : ∀ W, Below w.heap.size w W → Calls Tryz.prog 72 #[nda m ka va ia kc vc ic, S key, nda n kb vb ib kd vd id] W fun e w' => e = .returned (.bool true) ∧ Below W.heap.size W w')
    (hJ : ∀ W, Below w.heap.size w W → Calls Tryz.prog 73 #[nda m ka va ia kc vc ic, S key, nda n kb vb ib kd vd id] W fun e w' => ∃ vK vV vI, e = .returned (.agg #[.bool jn.leaf, vK, vV, vI]) ∧ Rws W.heap.size jn vK vV vI w' ∧ Below W.heap.size W w') :
    Calls Tryz.prog 41 #[nda m ka va ia kc vc ic, S key, nda n kb vb ib kd vd id] w fun e w' => ∃ vK vV vI, e = .returned (.tuple #[.agg #[.bool jn.leaf, vK, vV, vI], I 0]) ∧ Rws w.heap.size jn vK vV vI w' ∧ Below w.heap.size w w' := by
  have hA := (Below.refl w.heap.size w).alloc (Nat.le_refl _) (.cells #[.bool m.leaf, .slice ka m.keys.length kc, .slice va m.vals.length vc, .slice ia m.kids.length ic] 25)
  have hg := heap_alloc_new w (.cells #[.bool m.leaf, .slice ka m.keys.length kc, .slice va m.vals.length vc, .slice ia m.kids.length ic] 25)
  have hs0 := size_alloc w (.cells #[.bool m.leaf, .slice ka m.keys.length kc, .slice va m.vals.length vc, .slice ia m.kids.length ic] 25)
  generalize hW0 : w.alloc (.cells #[.bool m.leaf, .slice ka m.keys.length kc, .slice va m.vals.length vc, .slice ia m.kids.length ic] 25) = W0 at hA hg hs0
  have hA1 := hA.alloc hA.size (.cells #[.bool n.leaf, .slice kb n.keys.length kd, .slice vb n.vals.length vd, .slice ib n.kids.length id] 25)
  have hg1 := (alloc_old W0 (.cells #[.bool n.leaf, .slice kb n.keys.length kd, .slice vb n.vals.length vd, .slice ib n.kids.length id] 25) (lt_of_row hg)).trans hg
  have hk1 := heap_alloc_new W0 (.cells #[.bool n.leaf, .slice kb n.keys.length kd, .slice vb n.vals.length vd, .slice ib n.kids.length id] 25)
  have hs1 := size_alloc W0 (.cells #[.bool n.leaf, .slice kb n.keys.length kd, .slice vb n.vals.length vd, .slice ib n.kids.length id] 25)
  generalize hW1 : W0.alloc (.cells #[.bool n.leaf, .slice kb n.keys.length kd, .slice vb n.vals.length vd, .slice ib n.kids.length id] 25) = W1 at hA1 hg1 hk1 hs1
  have hA2 := hA1.alloc hA1.size (.cells #[.bool false, .slice none 0 0, .slice none 0 0, .slice none 0 0] 25)
  have hp := heap_alloc_new W1 (.cells #[.bool false, .slice none 0 0, .slice none 0 0, .slice none 0 0] 25)
  have hg2 := (alloc_old W1 (.cells #[.bool false, .slice none 0 0, .slice none 0 0, .slice none 0 0] 25) (lt_of_row hg1)).trans hg1
  have hk2 := (alloc_old W1 (.cells #[.bool false, .slice none 0 0, .slice none 0 0, .slice none 0 0] 25) (lt_of_row hk1)).trans hk1
  have hs2 := size_alloc W1 (.cells #[.bool false, .slice none 0 0, .slice none 0 0, .slice none 0 0] 25)
  generalize hW2 : W1.alloc (.cells #[.bool false, .slice none 0 0, .slice none 0 0, .slice none 0 0] 25) = W2 at hA2 hp hg2 hk2 hs2
  have HX := hide (show W0.heap.size = w.heap.size + 1 ∧ W1.heap.size = W0.heap.size + 1 ∧ W2.heap.size = W1.heap.size + 1 from ⟨hs0, hs1, hs2⟩)
  have HM := fun {W : World} (q : Below W2.heap.size W2 W) => (hm.below hA2).below q
  have HN := fun {W : World} (q : Below W2.heap.size W2 W) => (hn.below hA2).below q
  have X1 := hide (fun W (q : Below W2.heap.size W2 W) => mayJoin_any m ka va ia kc vc ic W (HM q) bm am sm p1)
  have X2 := hide (fun W (q : Below W2.heap.size W2 W) => mayJoin_any n kb vb ib kd vd id W (HN q) bn an sn p2)
  have X3 := hide (fun W (q : Below W2.heap.size W2 W) => keysMayBe_any ka _ kc m.keys W (HM q).ks bm.k bm.kt)
  have X4 := hide (fun W (q : Below W2.heap.size W2 W) => keysMayBe_any kb _ kd n.keys W (HN q).ks bn.k bn.kt)
  have X5 := hide (fun W => isNoKey_any key W hk)
  have X6 := hide (fun W (q : Below W2.heap.size W2 W) => hT W (hA2.trans (q.mono hA2.size)))
  have X7 := hide (fun W (q : Below W2.heap.size W2 W) => hJ W (hA2.trans (q.mono hA2.size)))
  rw [km] at X3
  rw [kn] at X4
  rw [kk] at X5
  unfold nda at X1 X2 X6 X7 ⊢
  have X8 := hide (fun W pk pv pz ck cv cz (q : NA jn pk pv pz W) => size_any jn pk pv pz ck cv cz W q bj)
  have X9 := hide (fun W pk pv pz ck cv cz (q : NA jn pk pv pz W) => copied_any jn pk pv pz ck cv cz W q bj)
  have HA2 := hide hA2
  have HP := hide hp
  have HG := hide hg2
  have HK := hide hk2
  have hz2 : w.heap.size < W2.heap.size := by omega
  have hz3 : W0.heap.size < W2.heap.size := by omega
  have hz4 : W1.heap.size < W2.heap.size := by omega
  clear HM HN hA hg hA1 hg1 hk1 hA2 hp hg2 hk2 hs0 hs1 hs2 hm hn bm bn bj p1 p2 am an sm sn km kn kk hT hJ
  obtain ⟨c0, c1, c2, c3⟩ := box4 (unhide HG) (Below.refl _ _) hz2
  obtain ⟨d0, d1, d2, d3⟩ := box4 (unhide HK) (Below.refl _ _) hz3
  have x1 := hide (unhide X1 W2 (Below.refl _ _))
  generalize m.keys.length = k1 at *
  generalize m.vals.length = v1 at *
  generalize n.keys.length = k2 at *
  generalize n.vals.length = v2 at *
  generalize m.kids.length = z1 at *
  generalize n.kids.length = z2 at *
  generalize m.leaf = lm at *
  generalize n.leaf = ln at *
  go_enter Tryz.func41, Tryz.ntmps41
  go_wp2_with fail
  refine (unhide x1).mono ?_
  rintro e w1 ⟨rfl, b1⟩
  clear c0 c1 c2 c3 d0 d1 d2 d3 x1 hW0 hW1 hW2
  have B1 := hide b1
  obtain ⟨c0, c1, c2, c3⟩ := box4 (unhide HG) b1 hz2
  obtain ⟨d0, d1, d2, d3⟩ := box4 (unhide HK) b1 hz3
  have l1 := Nat.lt_of_lt_of_le hz2 b1.size
  have l2 := Nat.lt_of_lt_of_le hz3 b1.size
  have x2 := hide (unhide X2 w1 b1)
  clear b1
  go_wp2_with fail
  refine (unhide x2).mono ?_
  rintro e w2 ⟨rfl, b2⟩
  clear c0 c1 c2 c3 d0 d1 d2 d3 x2 l1 l2
  have b2 := (unhide B1).trans (b2.mono (unhide B1).size)
  have B2 := hide b2
  obtain ⟨c0, c1, c2, c3⟩ := box4 (unhide HG) b2 hz2
  obtain ⟨d0, d1, d2, d3⟩ := box4 (unhide HK) b2 hz3
  have l1 := Nat.lt_of_lt_of_le hz2 b2.size
  have l2 := Nat.lt_of_lt_of_le hz3 b2.size
  have x3 := hide (unhide X3 w2 b2)
  clear b2
  go_wp2_with fail
  refine (unhide x3).mono ?_
  rintro e w3 ⟨rfl, nq, rfl⟩
  clear x3
  have B3 := hide (bel_q (unhide B2) nq)
  have x4 := hide (unhide X4 _ (unhide B3))
  go_wp2_with fail
  refine (unhide x4).mono ?_
  rintro e w3 ⟨rfl, nr, rfl⟩
  clear x4
  have B4 : Hid (Below W2.heap.size W2 (w2.drewN (nq + nr))) := by
    have q := bel_q (unhide B3) nr
    rwa [World.drewN_drewN] at q
  have x5 := hide (unhide X5 (w2.drewN (nq + nr)))
  go_wp2_with fail
  refine (unhide x5).mono ?_
  rintro e w3 ⟨rfl, rfl⟩
  clear x5
  have x6 := hide (unhide X6 _ (unhide B4))
  go_wp2_with fail
  refine (unhide x6).mono ?_
  rintro e w4 ⟨rfl, b4⟩
  clear c0 c1 c2 c3 d0 d1 d2 d3 x6 l1 l2
  have b4 := (unhide B4).trans (b4.mono (unhide B4).size)
  have B5 := hide b4
  obtain ⟨c0, c1, c2, c3⟩ := box4 (unhide HG) b4 hz2
  obtain ⟨d0, d1, d2, d3⟩ := box4 (unhide HK) b4 hz3
  have l1 := Nat.lt_of_lt_of_le hz2 b4.size
  have l2 := Nat.lt_of_lt_of_le hz3 b4.size
  have x7 := hide (unhide X7 w4 b4)
  clear b4
  go_wp2_with fail
  refine (unhide x7).mono ?_
  rintro e w5 ⟨vK, vV, vI, rfl, r5, b5⟩
  clear c0 c1 c2 c3 d0 d1 d2 d3 x7 l1 l2
  have b5 := (unhide B5).trans (b5.mono (unhide B5).size)
  obtain ⟨pK, pV, pI, cK, cV, cI, rfl, rfl, rfl, -⟩ := r5.na
  have hq := heap_alloc_new w5 (.cells #[.bool false, .slice none 0 0, .slice none 0 0, .slice none 0 0] 25)
  have hb3 := (Below.refl w5.heap.size w5).alloc (Nat.le_refl _) (.cells #[.bool false, .slice none 0 0, .slice none 0 0, .slice none 0 0] 25)
  have ht := setRow_heap _ _ _ #[.bool jn.leaf, .slice pK jn.keys.length cK, .slice pV jn.vals.length cV, .slice pI jn.kids.length cI] 25 _ hq
  have hb4 := (setRow_only (w5.alloc (.cells #[.bool false, .slice none 0 0, .slice none 0 0, .slice none 0 0] 25)) w5.heap.size #[.bool jn.leaf, .slice pK jn.keys.length cK, .slice pV jn.vals.length cV, .slice pI jn.kids.length cI]).below hb3 hb3.size (fun k e => by omega)
  have HQ := hide hq
  clear hq hb3
  generalize hW3 : (w5.alloc (.cells #[.bool false, .slice none 0 0, .slice none 0 0, .slice none 0 0] 25)).setRow w5.heap.size #[.bool jn.leaf, .slice pK jn.keys.length cK, .slice pV jn.vals.length cV, .slice pI jn.kids.length cI] = W6 at ht hb4
  have HW3 := hide hW3
  have b6 := b5.trans (hb4.mono b5.size)
  have B6 := hide b6
  have r6 := r5.below hb4
  have hna : ∀ {W : World}, Below W6.heap.size W6 W → NA jn pK pV pI W := fun {W} q => by
    obtain ⟨p, p', p'', c, c', c'', e1, e2, e3, s⟩ := (r6.below q).na
    cases e1
    cases e2
    cases e3
    exact s
  have x8 := hide (unhide X8 W6 pK pV pI cK cV cI (hna (Below.refl _ _)))
  have X9' := hide (fun W (q : Below W6.heap.size W6 W) => unhide X9 W pK pV pI cK cV cI (hna q))
  obtain ⟨c0, c1, c2, c3⟩ := box4 ht (Below.refl _ _) (lt_of_row ht)
  have hl6 := lt_of_row ht
  have HT6 := hide ht
  unfold nda at x8 X9'
  have hl1 : W1.heap.size < W6.heap.size := Nat.lt_of_lt_of_le hz4 b6.size
  have HP6 := hide ((b6.block _ hz4).trans (unhide HP))
  clear r5 r6 b5 hb4 hW3 hna ht b6 X8 X9
  generalize hkl : jn.keys.length = kl at *
  generalize hvl : jn.vals.length = vl at *
  generalize hil : jn.kids.length = il at *
  generalize hjl : jn.leaf = jl at *
  have HKL := hide (And.intro hkl (And.intro hvl (And.intro hil hjl)))
  clear hkl hvl hil hjl
  go_wp2_with (first | (refine wp_st25 rfl (.tmp 8) (.tmp 45) rfl w5.heap.size (by rfl) jl pK pV pI kl cK vl cV il cI (by rfl) _ rfl (unhide HQ) ?_; rw [unhide HW3]) | fail)
  refine (unhide x8).mono ?_
  rintro e w7 ⟨rfl, b7⟩
  clear c0 c1 c2 c3 HQ HW3 x8
  obtain ⟨c0, c1, c2, c3⟩ := box4 (unhide HT6) b7 hl6
  have x9 := hide (unhide X9' w7 b7)
  have hl7 := Nat.lt_of_lt_of_le hl6 b7.size
  have HP7 := hide ((b7.block _ hl1).trans (unhide HP6))
  have B7 := hide ((unhide B6).trans (b7.mono (unhide B6).size))
  have h' : decide ((718 : Int) < (jn.siz : Int)) = false := by rw [decide_eq_false_iff_not]; omega
  clear b7 X9'
  go_wp2_with fail
  refine (unhide x9).mono ?_
  rintro e w8 ⟨vK, vV, vI, rfl, r8, b8⟩
  obtain ⟨qK, qV, qI, dK, dV, dI, rfl, rfl, rfl, -⟩ := r8.na
  have hp8 := (b8.block _ (lt_of_row (unhide HP7))).trans (unhide HP7)
  have HP8 := hide hp8
  have R8 := hide r8
  have B8 := hide ((unhide B7).trans (b8.mono (unhide B7).size))
  have hS7 := (unhide B7).size
  obtain ⟨hkl, hvl, hil, hjl⟩ := unhide HKL
  rw [hkl, hvl, hil] at *
  clear r8 b8 hp8 c0 c1 c2 c3 x9 hkl hvl hil hjl
  go_wp2_with (first | (refine wp_st25 rfl (.tmp 6) (.tmp 51) rfl W1.heap.size (by rfl) jl qK qV qI kl dK vl dV il dI (by rfl) _ rfl (unhide HP8) ?_) | fail)
  have h4 := setRow_heap _ _ _ #[.bool jl, .slice qK kl dK, .slice qV vl dV, .slice qI il dI] 25 _ (unhide HP8)
  have oF := setRow_only w8 W1.heap.size #[.bool jl, .slice qK kl dK, .slice qV vl dV, .slice qI il dI]
  have hX := unhide HX
  have hbb := (unhide HA2).trans ((unhide B8).mono (unhide HA2).size)
  obtain ⟨rfl, rfl, rfl, rfl⟩ := unhide HKL
  refine outN (p := 6) (q := 7) (v := I 0) rfl (by rfl) (by rfl) (by rfl) h4 ⟨_, _, _, rfl, ((unhide R8).only oF (fun k e => by omega)).mono (by omega), oF.below hbb hbb.size (fun i e => by omega)⟩
end Go.Proofs.YtllialbdofklgaaGreatDoor
