import Derived.Test.YtllialbdofklgaaGreatDoorZnee
import Derived.Deep.CutRange
namespace Go.Proofs.YtllialbdofklgaaGreatDoor
open Go.RowKit
set_option maxHeartbeats 16000000
set_option maxRecDepth 8000
theorem lentN2_any (n : Nd) (ka va ia : Option Addr) (kc vc ic : Nat) (w : World) (h : NA n ka va ia w) (hb : NB n) (z1 : ka = none → kc = 0) (z2 : va = none → vc = 0) (z3 : ia = none → ic = 0) :
    Calls Tryz.prog 14 #[nda n ka va ia kc vc ic] w fun e w' => ∃ g1 g2 g3, e = .returned (lnv n g1 g2 g3) ∧ LN n g1 g2 g3 w' ∧ (w.heap.size ≤ g1 ∧ g1 < g2 ∧ g2 < g3) ∧ Below w.heap.size w w' := by
  obtain ⟨lf, ks, vs, is⟩ := n
  unfold nda
  simp only
  have hA := (Below.refl w.heap.size w).alloc (Nat.le_refl _) (.cells #[.bool lf, .slice ka ks.length kc, .slice va vs.length vc, .slice ia is.length ic] 25)
  have hg := heap_alloc_new w (.cells #[.bool lf, .slice ka ks.length kc, .slice va vs.length vc, .slice ia is.length ic] 25)
  have hs0 := size_alloc w (.cells #[.bool lf, .slice ka ks.length kc, .slice va vs.length vc, .slice ia is.length ic] 25)
  generalize hW0 : w.alloc (.cells #[.bool lf, .slice ka ks.length kc, .slice va vs.length vc, .slice ia is.length ic] 25) = W0 at hA hg hs0
  have hA2 := hA.alloc hA.size (.cells #[.bool false, .slice none 0 0, .slice none 0 0, .slice none 0 0] 25)
  have hp := heap_alloc_new W0 (.cells #[.bool false, .slice none 0 0, .slice none 0 0, .slice none 0 0] 25)
  have hg2 := (heap_alloc_old W0 (.cells #[.bool false, .slice none 0 0, .slice none 0 0, .slice none 0 0] 25) (lt_of_row hg)).trans hg
  have hs1 := size_alloc W0 (.cells #[.bool false, .slice none 0 0, .slice none 0 0, .slice none 0 0] 25)
  generalize hW1 : W0.alloc (.cells #[.bool false, .slice none 0 0, .slice none 0 0, .slice none 0 0] 25) = W1 at hA2 hp hg2 hs1
  have HX := hide (show W0.heap.size = w.heap.size + 1 ∧ W1.heap.size = W0.heap.size + 1 from ⟨hs0, hs1⟩)
  have HN := hide h
  have HNB := hide hb
  have HA2 := hide hA2
  have HP := hide hp
  have HG := hide hg2
  obtain ⟨c0, c1, c2, c3⟩ := box4 hg2 (Below.refl _ _) (lt_of_row hg2)
  have hz2 := lt_of_row hg2
  clear hA hg hs0 hA2 hp hg2 hs1 h hb
  go_enter Tryz.func14, Tryz.ntmps14
  go_wp2
  have hX := unhide HX
  refine rlk w.heap.size W1.heap.size ks.length kc ka (by kernel_rfl) (by kernel_rfl) (by kernel_rfl) _ _ (by show 11 ≤ Array.size _; simp) rfl (fun L W => ∃ V0, Wl W1 w.heap.size 1 (.slice ka ks.length kc) (.slice (some ⟨W1.heap.size, 0, none⟩) ks.length (ks.length + 4)) (fun V => Blk W1.heap.size (mid ks 4) V) L W V0) ?_ ?_ ?_ ?_ (by omega) ?_ ?_ ?_
  · exact ⟨_, Wl.start⟩
  · rintro i hi L W ⟨V0, hW⟩
    simp only [List.mem_cons, List.not_mem_nil, or_false, not_or] at hi
    exact ⟨V0, hW.pure i hi.1 hi.2⟩
  · rintro L W ⟨V0, hW⟩ h1
    exact hW.load (fls fun q => by rw [(hW.d q).1] at h1; cases h1) c1
  · rintro L W ⟨V0, hW⟩ h4
    exact hW.load (fls fun q => by rw [(hW.d q).2.2] at h4; cases h4) c1
  · rintro L W ⟨V0, hW⟩ h2
    have h8 : L 8 = false := fls fun q => by rw [(hW.d q).2.1] at h2; cases h2
    have hw := hW.w0 h8
    subst hw
    have hsz := hW.sz h2
    have hbw := (unhide HA2).trans (hW.bel.mono (by omega))
    have hl := lent_any ka ks.length kc ks W ((unhide HN).ks.below hbw) z1 (by have := (unhide HNB).k; simp only at this; omega)
    rw [hsz] at hl
    refine hl.mono ?_
    rintro e w' ⟨rfl, bk, b⟩
    refine ⟨rfl, w', hW.bel.trans b, fun q => ?_, fun _ => bk, fun q => ?_, fun _ => rfl, fun q => ?_⟩
    · rw [upd_eq] at q; cases q
    · rw [upd_ne (by decide), h8] at q; cases q
    · rw [upd_ne (by decide), h8] at q; cases q
  · rintro L W ⟨V0, hW⟩ h8 h6 h7 h1 h4 h2
    exact ⟨⟨V0, hW.store h8 h1 h4 h2⟩, ⟨_, _, _, rfl⟩, ⟨_, hW.load h8 c1⟩, by rw [hW.w0 h8]; exact frz ((hW.bel.block _ hz2).trans (unhide HG)) _⟩
  rintro L W hall ⟨V0, hW⟩
  have hw := hW.w1 (hall 8 (by omega))
  have bk1 := hW.p (hall 2 (by omega))
  have hG0 := (hW.bel.block _ hz2).trans (unhide HG)
  have hG1 := row_set (j := 0 + 1) (v := .slice (some ⟨W1.heap.size, 0, none⟩) ks.length (ks.length + 4)) hG0
  rw [← hw] at hG1
  have o1 : Only (fun k => k = w.heap.size) V0 W := by rw [hw]; exact Only.setCell V0 ⟨w.heap.size, 0 + 1, none⟩ _
  have BK1 : Blk W1.heap.size (mid ks 4) W := (o1.block _ bk1.lt (by omega)).trans bk1
  have hP1 : W.heap[W0.heap.size]? = some (.cells #[.bool false, .slice none 0 0, .slice none 0 0, .slice none 0 0] 25 (0, 0)) :=
    (o1.block _ (by have := hW.bel.size; omega) (by omega)).trans ((hW.bel.block _ (by omega)).trans (unhide HP))
  have bb : Below w.heap.size w W := by
    have q := (unhide HA2).trans (hW.bel.mono (by omega))
    exact o1.below q q.size (fun k e => by omega)
  have hsz1 : W1.heap.size < W.heap.size := lt_of_row BK1
  have HBK1 := hide BK1
  have HP1 := hide hP1
  have HG1 := hide hG1
  have HB1 := hide bb
  clear hw bk1 hG0 o1 BK1 hP1 hW hall c0 c1 c2 c3 HG HP HA2 hW0 hW1 hG1 bb
  clear hX
  simp only [Act.put, List.setIfInBounds_toArray, List.set_cons_succ, List.set_cons_zero]
  obtain ⟨c0, c1, c2, c3⟩ := box4 (unhide HG1) (Below.refl _ _) (lt_of_row (unhide HG1))
  have hz3 := lt_of_row (unhide HG1)
  go_wp2
  have hX := unhide HX
  refine rlv w.heap.size W.heap.size vs.length vc va (by kernel_rfl) (by kernel_rfl) (by kernel_rfl) _ _ (by show 19 ≤ Array.size _; simp) rfl (fun L U => ∃ V0, Wl W w.heap.size 2 (.slice va vs.length vc) (.slice (some ⟨W.heap.size, 0, none⟩) vs.length (vs.length + 4)) (fun V => Blk W.heap.size (mid vs 4) V) L U V0) ?_ ?_ ?_ ?_ (by omega) ?_ ?_ ?_
  · exact ⟨_, Wl.start⟩
  · rintro i hi L U ⟨V0, hW⟩
    simp only [List.mem_cons, List.not_mem_nil, or_false, not_or] at hi
    exact ⟨V0, hW.pure i hi.1 hi.2⟩
  · rintro L U ⟨V0, hW⟩ h1
    exact hW.load (fls fun q => by rw [(hW.d q).1] at h1; cases h1) c2
  · rintro L U ⟨V0, hW⟩ h4
    exact hW.load (fls fun q => by rw [(hW.d q).2.2] at h4; cases h4) c2
  · rintro L U ⟨V0, hW⟩ h2
    have h8 : L 8 = false := fls fun q => by rw [(hW.d q).2.1] at h2; cases h2
    have hw := hW.w0 h8
    subst hw
    have hsz := hW.sz h2
    have hbw := (unhide HB1).trans (hW.bel.mono (unhide HB1).size)
    have hl := lent_any va vs.length vc vs U ((unhide HN).vs.below hbw) z2 (by have := (unhide HNB).v; simp only at this; omega)
    rw [hsz] at hl
    refine hl.mono ?_
    rintro e w' ⟨rfl, bk, b⟩
    refine ⟨rfl, w', hW.bel.trans b, fun q => ?_, fun _ => bk, fun q => ?_, fun _ => rfl, fun q => ?_⟩
    · rw [upd_eq] at q; cases q
    · rw [upd_ne (by decide), h8] at q; cases q
    · rw [upd_ne (by decide), h8] at q; cases q
  · rintro L U ⟨V0, hW⟩ h8 h6 h7 h1 h4 h2
    exact ⟨⟨V0, hW.store h8 h1 h4 h2⟩, ⟨_, _, _, rfl⟩, ⟨_, hW.load h8 c2⟩, by rw [hW.w0 h8]; exact frz ((hW.bel.block _ hz3).trans (unhide HG1)) _⟩
  rintro L U hall ⟨V0, hW⟩
  have hw := hW.w1 (hall 8 (by omega))
  have bk2 := hW.p (hall 2 (by omega))
  have hG0 := (hW.bel.block _ hz3).trans (unhide HG1)
  have hG2 := row_set (j := 0 + 2) (v := .slice (some ⟨W.heap.size, 0, none⟩) vs.length (vs.length + 4)) hG0
  rw [← hw] at hG2
  have o1 : Only (fun k => k = w.heap.size) V0 U := by rw [hw]; exact Only.setCell V0 ⟨w.heap.size, 0 + 2, none⟩ _
  have BK2 : Blk W.heap.size (mid vs 4) U := (o1.block _ bk2.lt (by omega)).trans bk2
  have BK1' : Blk W1.heap.size (mid ks 4) U := (o1.block _ (by have := hW.bel.size; omega) (by omega)).trans ((hW.bel.block _ hsz1).trans (unhide HBK1))
  have hP2 : U.heap[W0.heap.size]? = some (.cells #[.bool false, .slice none 0 0, .slice none 0 0, .slice none 0 0] 25 (0, 0)) :=
    (o1.block _ (by have := hW.bel.size; omega) (by omega)).trans ((hW.bel.block _ (by omega)).trans (unhide HP1))
  have bb : Below w.heap.size w U := by
    have q := (unhide HB1).trans (hW.bel.mono (unhide HB1).size)
    exact o1.below q q.size (fun k e => by omega)
  have hsz2 : W.heap.size < U.heap.size := lt_of_row BK2
  have HBK1 := hide BK1'
  have HBK2 := hide BK2
  have HP2 := hide hP2
  have HG2 := hide hG2
  have HB2 := hide bb
  clear hw bk2 hG0 o1 BK2 BK1' hP2 hW hall c0 c1 c2 c3 hG2 bb
  clear hX
  simp only [Act.put, List.setIfInBounds_toArray, List.set_cons_succ, List.set_cons_zero]
  obtain ⟨c0, c1, c2, c3⟩ := box4 (unhide HG2) (Below.refl _ _) (lt_of_row (unhide HG2))
  have hz4 := lt_of_row (unhide HG2)
  go_wp2
  have hX := unhide HX
  refine rli w.heap.size U.heap.size is.length ic ia (by kernel_rfl) (by kernel_rfl) (by kernel_rfl) _ _ (by show 27 ≤ Array.size _; simp) rfl (fun L Y => ∃ V0, Wl U w.heap.size 3 (.slice ia is.length ic) (.slice (some ⟨U.heap.size, 0, none⟩) is.length (is.length + 4)) (fun V => BlI U.heap.size (is ++ List.replicate 4 (-77)) V) L Y V0) ?_ ?_ ?_ ?_ (by omega) ?_ ?_ ?_
  · exact ⟨_, Wl.start⟩
  · rintro i hi L Y ⟨V0, hW⟩
    simp only [List.mem_cons, List.not_mem_nil, or_false, not_or] at hi
    exact ⟨V0, hW.pure i hi.1 hi.2⟩
  · rintro L Y ⟨V0, hW⟩ h1
    exact hW.load (fls fun q => by rw [(hW.d q).1] at h1; cases h1) c3
  · rintro L Y ⟨V0, hW⟩ h4
    exact hW.load (fls fun q => by rw [(hW.d q).2.2] at h4; cases h4) c3
  · rintro L Y ⟨V0, hW⟩ h2
    have h8 : L 8 = false := fls fun q => by rw [(hW.d q).2.1] at h2; cases h2
    have hw := hW.w0 h8
    subst hw
    have hsz := hW.sz h2
    have hbw := (unhide HB2).trans (hW.bel.mono (unhide HB2).size)
    have hl := lentI_any ia is.length ic is Y ((unhide HN).is.below hbw) z3 (by have := (unhide HNB).i; simp only at this; omega)
    rw [hsz] at hl
    refine hl.mono ?_
    rintro e w' ⟨rfl, bk, b⟩
    refine ⟨rfl, w', hW.bel.trans b, fun q => ?_, fun _ => bk, fun q => ?_, fun _ => rfl, fun q => ?_⟩
    · rw [upd_eq] at q; cases q
    · rw [upd_ne (by decide), h8] at q; cases q
    · rw [upd_ne (by decide), h8] at q; cases q
  · rintro L Y ⟨V0, hW⟩ h8 h6 h7 h1 h4 h2
    exact ⟨⟨V0, hW.store h8 h1 h4 h2⟩, ⟨_, _, _, rfl⟩, ⟨_, hW.load h8 c3⟩, by rw [hW.w0 h8]; exact frz ((hW.bel.block _ hz4).trans (unhide HG2)) _⟩
  rintro L Y hall ⟨V0, hW⟩
  have hw := hW.w1 (hall 8 (by omega))
  have bk3 := hW.p (hall 2 (by omega))
  have hG0 := (hW.bel.block _ hz4).trans (unhide HG2)
  have hG3 := row_set (j := 0 + 3) (v := .slice (some ⟨U.heap.size, 0, none⟩) is.length (is.length + 4)) hG0
  rw [← hw] at hG3
  have o1 : Only (fun k => k = w.heap.size) V0 Y := by rw [hw]; exact Only.setCell V0 ⟨w.heap.size, 0 + 3, none⟩ _
  have BK3 : BlI U.heap.size (is ++ List.replicate 4 (-77)) Y := (o1.block _ bk3.lt (by omega)).trans bk3
  have BK1' : Blk W1.heap.size (mid ks 4) Y := (o1.block _ (by have := hW.bel.size; omega) (by omega)).trans ((hW.bel.block _ (by omega)).trans (unhide HBK1))
  have BK2' : Blk W.heap.size (mid vs 4) Y := (o1.block _ (by have := hW.bel.size; omega) (by omega)).trans ((hW.bel.block _ hsz2).trans (unhide HBK2))
  have hP3 : Y.heap[W0.heap.size]? = some (.cells #[.bool false, .slice none 0 0, .slice none 0 0, .slice none 0 0] 25 (0, 0)) :=
    (o1.block _ (by have := hW.bel.size; omega) (by omega)).trans ((hW.bel.block _ (by omega)).trans (unhide HP2))
  have bb : Below w.heap.size w Y := by
    have q := (unhide HB2).trans (hW.bel.mono (unhide HB2).size)
    exact o1.below q q.size (fun k e => by omega)
  have HLN := hide (show LN ⟨lf, ks, vs, is⟩ W1.heap.size W.heap.size U.heap.size Y from ⟨BK1', BK2', BK3⟩)
  have HP3 := hide hP3
  have HB3 := hide bb
  obtain ⟨d0, d1, d2, d3⟩ := box4 hG3 (Below.refl _ _) (lt_of_row hG3)
  have hz5 := lt_of_row hG3
  clear hw bk3 hG0 o1 BK3 BK2' BK1' hP3 hW hall c0 c1 c2 c3 hG3 bb
  clear hX
  simp only [Act.put, List.setIfInBounds_toArray, List.set_cons_succ, List.set_cons_zero]
  have hlv : lnv ⟨lf, ks, vs, is⟩ W1.heap.size W.heap.size U.heap.size = .agg #[.bool lf, .slice (some ⟨W1.heap.size, 0, none⟩) ks.length (ks.length + 4), .slice (some ⟨W.heap.size, 0, none⟩) vs.length (vs.length + 4), .slice (some ⟨U.heap.size, 0, none⟩) is.length (is.length + 4)] := rfl
  generalize ks.length = kl at *
  generalize vs.length = vl at *
  generalize is.length = il at *
  have HLV := hide hlv
  clear hlv
  go_wp2_with (first | (refine wp_st25 rfl (.tmp 2) (.tmp 27) rfl W0.heap.size (by rfl) lf (some ⟨W1.heap.size, 0, none⟩) (some ⟨W.heap.size, 0, none⟩) (some ⟨U.heap.size, 0, none⟩) kl (kl + 4) vl (vl + 4) il (il + 4) (by rfl) _ rfl (unhide HP3) ?_) | fail)
  have h4 := setRow_heap _ _ _ #[.bool lf, .slice (some ⟨W1.heap.size, 0, none⟩) kl (kl + 4), .slice (some ⟨W.heap.size, 0, none⟩) vl (vl + 4), .slice (some ⟨U.heap.size, 0, none⟩) il (il + 4)] 25 _ (unhide HP3)
  have oF := setRow_only Y W0.heap.size #[.bool lf, .slice (some ⟨W1.heap.size, 0, none⟩) kl (kl + 4), .slice (some ⟨W.heap.size, 0, none⟩) vl (vl + 4), .slice (some ⟨U.heap.size, 0, none⟩) il (il + 4)]
  have hX := unhide HX
  have hl := unhide HLN
  refine outN1 (p := 2) rfl (by rfl) (by rfl) h4 ⟨W1.heap.size, W.heap.size, U.heap.size, by rw [unhide HLV], ⟨?_, ?_, ?_⟩, ⟨by omega, hsz1, hsz2⟩, oF.below (unhide HB3) (unhide HB3).size (fun k e => by omega)⟩
  · exact (oF.block _ hl.k.lt (by omega)).trans hl.k
  · exact (oF.block _ hl.v.lt (by omega)).trans hl.v
  · exact (oF.block _ hl.i.lt (by omega)).trans hl.i
/-- A list that was written over by another as far as that goes. -/
def ovr {α : Type} (l x : List α) : List α := x.take (min x.length l.length) ++ l.drop (min x.length l.length)
theorem ovr_len {α : Type} (l x : List α) : (ovr l x).length = l.length := by
  unfold ovr
  simp
  omega
def ovn (n m : Nd) : Nd := ⟨n.leaf, ovr n.keys m.keys, ovr n.vals m.vals, ovr n.kids m.kids⟩
theorem ovr_app {α : Type} (l x y : List α) : x.take (min x.length l.length) ++ (l ++ y).drop (min x.length l.length) = ovr l x ++ y := by
  unfold ovr
  rw [List.append_assoc, List.drop_append_of_le_length (Nat.min_le_right _ _)]
theorem ovr_mid (l x : List Bs) : x.take (min x.length l.length) ++ (mid l 4).drop (min x.length l.length) = mid (ovr l x) 4 := by
  unfold mid
  exact ovr_app _ _ _
theorem over_any (n m : Nd) (g1 g2 g3 : Nat) (ka va ia : Option Addr) (kc vc ic : Nat) (w0 w : World) (hl : LN n g1 g2 g3 w) (hm : NA m ka va ia w0) (hbw : Below w0.heap.size w0 w) (hg : w0.heap.size ≤ g1 ∧ g1 < g2 ∧ g2 < g3) (z1 : ka = none → kc = 0) (z2 : va = none → vc = 0) (z3 : ia = none → ic = 0) :
    Calls Tryz.prog 17 #[lnv n g1 g2 g3, nda m ka va ia kc vc ic] w fun e w' => e = .returned (.tuple #[]) ∧ LN (ovn n m) g1 g2 g3 w' ∧ Only (fun k => k = g1 ∨ k = g2 ∨ k = g3) w w' := by
  obtain ⟨lf, ks, vs, is⟩ := n
  obtain ⟨lg, js, us, hs⟩ := m
  unfold nda lnv
  simp only
  have hA := (Below.refl w.heap.size w).alloc (Nat.le_refl _) (.cells #[.bool lf, .slice (some ⟨g1, 0, none⟩) ks.length (ks.length + 4), .slice (some ⟨g2, 0, none⟩) vs.length (vs.length + 4), .slice (some ⟨g3, 0, none⟩) is.length (is.length + 4)] 25)
  have hb := heap_alloc_new w (.cells #[.bool lf, .slice (some ⟨g1, 0, none⟩) ks.length (ks.length + 4), .slice (some ⟨g2, 0, none⟩) vs.length (vs.length + 4), .slice (some ⟨g3, 0, none⟩) is.length (is.length + 4)] 25)
  have hs1 := size_alloc w (.cells #[.bool lf, .slice (some ⟨g1, 0, none⟩) ks.length (ks.length + 4), .slice (some ⟨g2, 0, none⟩) vs.length (vs.length + 4), .slice (some ⟨g3, 0, none⟩) is.length (is.length + 4)] 25)
  generalize hW1 : w.alloc (.cells #[.bool lf, .slice (some ⟨g1, 0, none⟩) ks.length (ks.length + 4), .slice (some ⟨g2, 0, none⟩) vs.length (vs.length + 4), .slice (some ⟨g3, 0, none⟩) is.length (is.length + 4)] 25) = W1 at hA hb hs1
  have hA2 := hA.alloc hA.size (.cells #[.bool lg, .slice ka js.length kc, .slice va us.length vc, .slice ia hs.length ic] 25)
  have hp := heap_alloc_new W1 (.cells #[.bool lg, .slice ka js.length kc, .slice va us.length vc, .slice ia hs.length ic] 25)
  have hb2 := (heap_alloc_old W1 (.cells #[.bool lg, .slice ka js.length kc, .slice va us.length vc, .slice ia hs.length ic] 25) (lt_of_row hb)).trans hb
  have hs2 := size_alloc W1 (.cells #[.bool lg, .slice ka js.length kc, .slice va us.length vc, .slice ia hs.length ic] 25)
  generalize hW2 : W1.alloc (.cells #[.bool lg, .slice ka js.length kc, .slice va us.length vc, .slice ia hs.length ic] 25) = W2 at hA2 hp hb2 hs2
  have hL2 : LN ⟨lf, ks, vs, is⟩ g1 g2 g3 W2 := hl.below hA2
  have k1 : g1 < w.heap.size := hl.k.lt
  have k2 : g2 < w.heap.size := hl.v.lt
  have k3 : g3 < w.heap.size := hl.i.lt
  have hbw2 := hbw.trans (hA2.mono hbw.size)
  have HL := hide hL2
  have HM := hide hm
  have HBW := hide hbw2
  have HA2 := hide hA2
  have HG := hide (And.intro hg (And.intro k1 (And.intro k2 k3)))
  have HB := hide hb2
  have HP := hide hp
  have HX := hide (show W1.heap.size = w.heap.size + 1 from hs1)
  have Z1 := hide z1
  have Z2 := hide z2
  have Z3 := hide z3
  obtain ⟨c0, c1, c2, c3⟩ := box4 hb2 (Below.refl _ _) (lt_of_row hb2)
  obtain ⟨e0, e1, e2, e3⟩ := box4 hp (Below.refl _ _) (lt_of_row hp)
  clear hA hb hs1 hA2 hp hb2 hs2 hl hm hbw hg z1 z2 z3 hL2 k1 k2 k3 hbw2
  go_enter Tryz.func17, Tryz.ntmps17
  go_upto_region 2 with (refine copyS rfl (.tmp 5) (.tmp 7) rfl g1 ks.length (ks.length + 4) ka js.length kc (by rfl) (by rfl) (mid ks 4) js (unhide HL).k ((unhide HM).below (unhide HBW)).ks (unhide Z1) (by rw [mid_len ks 4 (by omega)]; omega) ?_; intro w3 b3 o3; have HB3 := hide b3; have HO3 := hide o3; have HW3 := hide (o3.below (unhide HBW) (unhide HBW).size (fun k e => by have := unhide HG; omega)); have HC3 := hide ((o3.block _ (by have := lt_of_row (unhide HB); omega) (fun e => by have := unhide HG; omega)).trans (unhide HB)); have HD3 := hide ((o3.block _ (by have := lt_of_row (unhide HP); omega) (fun e => by have := unhide HG; have := unhide HX; omega)).trans (unhide HP)); obtain ⟨c03, c13, c23, c33⟩ := box4 (unhide HC3) (Below.refl _ _) (lt_of_row (unhide HC3)); obtain ⟨e03, e13, e23, e33⟩ := box4 (unhide HD3) (Below.refl _ _) (lt_of_row (unhide HD3)); clear b3 o3)
  go_upto_region 3 with (refine copyS rfl (.tmp 10) (.tmp 12) rfl g2 vs.length (vs.length + 4) va us.length vc (by rfl) (by rfl) (mid vs 4) us (((unhide HO3).block _ (unhide HL).v.lt (fun e => by have := unhide HG; omega)).trans (unhide HL).v) ((unhide HM).below (unhide HW3)).vs (unhide Z2) (by rw [mid_len vs 4 (by omega)]; omega) ?_; intro w4 b4 o4; have HB4 := hide b4; have HO4 := hide o4; have HW4 := hide (o4.below (unhide HW3) (unhide HW3).size (fun k e => by have := unhide HG; omega)); have HC4 := hide ((o4.block _ (by have := lt_of_row (unhide HC3); omega) (fun e => by have := unhide HG; omega)).trans (unhide HC3)); have HD4 := hide ((o4.block _ (by have := lt_of_row (unhide HD3); omega) (fun e => by have := unhide HG; have := unhide HX; omega)).trans (unhide HD3)); obtain ⟨c04, c14, c24, c34⟩ := box4 (unhide HC4) (Below.refl _ _) (lt_of_row (unhide HC4)); obtain ⟨e04, e14, e24, e34⟩ := box4 (unhide HD4) (Below.refl _ _) (lt_of_row (unhide HD4)); clear b4 o4)
  go_wp2_with (refine copyI rfl (.tmp 15) (.tmp 17) rfl g3 is.length (is.length + 4) ia hs.length ic (by rfl) (by rfl) (is ++ List.replicate 4 (-77)) hs (((unhide HO4).block _ (by have := (unhide HL).i.lt; have := (unhide HO3).size; omega) (fun e => by have := unhide HG; omega)).trans (((unhide HO3).block _ (unhide HL).i.lt (fun e => by have := unhide HG; omega)).trans (unhide HL).i)) ((unhide HM).below (unhide HW4)).is (unhide Z3) (by simp) ?_; intro w5 b5 o5; have HB5 := hide b5; have HO5 := hide o5; have HW5 := hide (o5.below (unhide HW4) (unhide HW4).size (fun k e => by have := unhide HG; omega)); have HC5 := hide ((o5.block _ (by have := lt_of_row (unhide HC4); omega) (fun e => by have := unhide HG; omega)).trans (unhide HC4)); have HD5 := hide ((o5.block _ (by have := lt_of_row (unhide HD4); omega) (fun e => by have := unhide HG; have := unhide HX; omega)).trans (unhide HD4)); obtain ⟨c05, c15, c25, c35⟩ := box4 (unhide HC5) (Below.refl _ _) (lt_of_row (unhide HC5)); obtain ⟨e05, e15, e25, e35⟩ := box4 (unhide HD5) (Below.refl _ _) (lt_of_row (unhide HD5)); clear b5 o5)
  have hg := unhide HG
  have k1 := unhide HB3
  have k2 := unhide HB4
  have k3 := unhide HB5
  rw [ovr_mid] at k1 k2
  rw [ovr_app] at k3
  have o3 := unhide HO3
  have o4 := unhide HO4
  have o5 := unhide HO5
  refine bodyPost_end (results_none rfl _ _ _) rfl ⟨rfl, ⟨(o5.block _ (by have := k1.lt; have := o4.size; omega) (fun e => by omega)).trans ((o4.block _ k1.lt (fun e => by omega)).trans k1), (o5.block _ k2.lt (fun e => by omega)).trans k2, k3⟩, ?_⟩
  have q1 : Only (fun k => k = g1 ∨ k = g2 ∨ k = g3) W2 w5 := ((o3.mono (fun k _ e => Or.inl e)).trans (o4.mono (fun k _ e => Or.inr (Or.inl e))) (fun k _ e => e)).trans (o5.mono (fun k _ e => Or.inr (Or.inr e))) (fun k _ e => e)
  exact (Only.of_below (unhide HA2)).trans q1 (fun k _ e => e)
end Go.Proofs.YtllialbdofklgaaGreatDoor
