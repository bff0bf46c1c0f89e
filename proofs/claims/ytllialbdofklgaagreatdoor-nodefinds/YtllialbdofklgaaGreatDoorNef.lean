import Derived.Test.YtllialbdofklgaaGreatDoorNee
namespace Go.Proofs.YtllialbdofklgaaGreatDoor
open Go.RowKit
set_option maxHeartbeats 16000000
set_option maxRecDepth 8000
/-- A node whose lists are lent. -/
structure LN (n : Nd) (g1 g2 g3 : Nat) (w : World) : Prop where
  k : Blk g1 (mid n.keys 4) w
  v : Blk g2 (mid n.vals 4) w
  i : BlI g3 (n.kids ++ List.replicate 4 (-77)) w
theorem LN.below {n : Nd} {g1 g2 g3 : Nat} {w w' : World} (h : LN n g1 g2 g3 w) (b : Below w.heap.size w w') : LN n g1 g2 g3 w' := ⟨h.k.keep b, h.v.keep b, h.i.keep b⟩
theorem LN.na {n : Nd} {g1 g2 g3 : Nat} {w : World} (h : LN n g1 g2 g3 w) : NA n (some ⟨g1, 0, none⟩) (some ⟨g2, 0, none⟩) (some ⟨g3, 0, none⟩) w := ⟨h.k.part, h.v.part, h.i.part⟩
def lnv (n : Nd) (g1 g2 g3 : Nat) : Value := .agg #[.bool n.leaf, .slice (some ⟨g1, 0, none⟩) n.keys.length (n.keys.length + 4), .slice (some ⟨g2, 0, none⟩) n.vals.length (n.vals.length + 4), .slice (some ⟨g3, 0, none⟩) n.kids.length (n.kids.length + 4)]
theorem row_set {w : World} {X j : Nat} {cs : Array Value} {v : Value} (h : w.heap[X]? = some (.cells cs 25 (0, 0))) : (w.setCell ⟨X, j, none⟩ v).heap[X]? = some (.cells (cs.setIfInBounds j v) 25 (0, 0)) := by
  rw [heap_setCell_same w X j cs 25 v h]
theorem lentN_any (n : Nd) (ka va ia : Option Addr) (kc vc ic : Nat) (w : World) (h : NA n ka va ia w) (hb : NB n) (z1 : ka = none → kc = 0) (z2 : va = none → vc = 0) (z3 : ia = none → ic = 0) :
    Calls Tryz.prog 14 #[nda n ka va ia kc vc ic] w fun e w' => ∃ g1 g2 g3, e = .returned (lnv n g1 g2 g3) ∧ LN n g1 g2 g3 w' ∧ Below w.heap.size w w' := by
  obtain ⟨lf, ks, vs, is⟩ := n
  unfold nda
  simp only
  have hA := (Below.refl w.heap.size w).alloc (Nat.le_refl _) (.cells #[.bool lf, .slice ka ks.length kc, .slice va vs.length vc, .slice ia is.length ic] 25)
  have hg := heap_alloc_new w (.cells #[.bool lf, .slice ka ks.length kc, .slice va vs.length vc, .slice ia is.length ic] 25)
  have hs0 := size_alloc w (.cells #[.bool lf, .slice ka ks.length kc, .slice va vs.length vc, .slice ia is.length ic] 25)
  generalize hW0 : w.alloc (.cells #[.bool lf, .slice ka ks.length kc, .slice va vs.length vc, .slice ia is.length ic] 25) = W0 at hA hg hs0
  have hA2 := hA.alloc hA.size (.cells #[.bool false, .slice none 0 0, .slice none 0 0, .slice none 0 0] 25)
  have hp := heap_alloc_new W0 (.cells #[.bool false, .slice none 0 0, .slice none 0 0, .slice none 0 0] 25)
  have hg2 := (heap_alloc_old W0 (.cells #[.bool false, .slice none 0 0, .slice none 0 0, .slice none 0 0] 25) (lt_of_row hg)).trans hg
  have hs1 := size_alloc W0 (.cells #[.bool false, .slice none 0 0, .slice none 0 0, .slice none 0 0] 25)
  generalize hW1 : W0.alloc (.cells #[.bool false, .slice none 0 0, .slice none 0 0, .slice none 0 0] 25) = W1 at hA2 hp hg2 hs1
  have HX := hide (show W0.heap.size = w.heap.size + 1 ∧ W1.heap.size = W0.heap.size + 1 from ⟨hs0, hs1⟩)
  have HN := hide h
  have HNB := hide hb
  have HA2 := hide hA2
  have HP := hide hp
  have HG := hide hg2
  obtain ⟨c0, c1, c2, c3⟩ := box4 hg2 (Below.refl _ _) (lt_of_row hg2)
  have hz2 := lt_of_row hg2
  clear hA hg hs0 hA2 hp hg2 hs1 h hb
  go_enter Tryz.func14, Tryz.ntmps14
  go_wp2
  have hX := unhide HX
  refine rlk w.heap.size W1.heap.size ks.length kc ka (by kernel_rfl) (by kernel_rfl) (by kernel_rfl) _ _ (by show 11 ≤ Array.size _; simp) rfl (fun L W => ∃ V0, Wl W1 w.heap.size 1 (.slice ka ks.length kc) (.slice (some ⟨W1.heap.size, 0, none⟩) ks.length (ks.length + 4)) (fun V => Blk W1.heap.size (mid ks 4) V) L W V0) ?_ ?_ ?_ ?_ (by omega) ?_ ?_ ?_
  · exact ⟨_, Wl.start⟩
  · rintro i hi L W ⟨V0, hW⟩
    simp only [List.mem_cons, List.not_mem_nil, or_false, not_or] at hi
    exact ⟨V0, hW.pure i hi.1 hi.2⟩
  · rintro L W ⟨V0, hW⟩ h1
    exact hW.load (fls fun q => by rw [(hW.d q).1] at h1; cases h1) c1
  · rintro L W ⟨V0, hW⟩ h4
    exact hW.load (fls fun q => by rw [(hW.d q).2.2] at h4; cases h4) c1
  · rintro L W ⟨V0, hW⟩ h2
    have h8 : L 8 = false := fls fun q => by rw [(hW.d q).2.1] at h2; cases h2
    have hw := hW.w0 h8
    subst hw
    have hsz := hW.sz h2
    have hbw := (unhide HA2).trans (hW.bel.mono (by omega))
    have hl := lent_any ka ks.length kc ks W ((unhide HN).ks.below hbw) z1 (by have := (unhide HNB).k; simp only at this; omega)
    rw [hsz] at hl
    refine hl.mono ?_
    rintro e w' ⟨rfl, bk, b⟩
    refine ⟨rfl, w', hW.bel.trans b, fun q => ?_, fun _ => bk, fun q => ?_, fun _ => rfl, fun q => ?_⟩
    · rw [upd_eq] at q; cases q
    · rw [upd_ne (by decide), h8] at q; cases q
    · rw [upd_ne (by decide), h8] at q; cases q
  · rintro L W ⟨V0, hW⟩ h8 h6 h7 h1 h4 h2
    exact ⟨⟨V0, hW.store h8 h1 h4 h2⟩, ⟨_, _, _, rfl⟩, ⟨_, hW.load h8 c1⟩, by rw [hW.w0 h8]; exact frz ((hW.bel.block _ hz2).trans (unhide HG)) _⟩
  rintro L W hall ⟨V0, hW⟩
  have hw := hW.w1 (hall 8 (by omega))
  have bk1 := hW.p (hall 2 (by omega))
  have hG0 := (hW.bel.block _ hz2).trans (unhide HG)
  have hG1 := row_set (j := 0 + 1) (v := .slice (some ⟨W1.heap.size, 0, none⟩) ks.length (ks.length + 4)) hG0
  rw [← hw] at hG1
  have o1 : Only (fun k => k = w.heap.size) V0 W := by rw [hw]; exact Only.setCell V0 ⟨w.heap.size, 0 + 1, none⟩ _
  have BK1 : Blk W1.heap.size (mid ks 4) W := (o1.block _ bk1.lt (by omega)).trans bk1
  have hP1 : W.heap[W0.heap.size]? = some (.cells #[.bool false, .slice none 0 0, .slice none 0 0, .slice none 0 0] 25 (0, 0)) :=
    (o1.block _ (by have := hW.bel.size; omega) (by omega)).trans ((hW.bel.block _ (by omega)).trans (unhide HP))
  have bb : Below w.heap.size w W := by
    have q := (unhide HA2).trans (hW.bel.mono (by omega))
    exact o1.below q q.size (fun k e => by omega)
  have hsz1 : W1.heap.size < W.heap.size := lt_of_row BK1
  have HBK1 := hide BK1
  have HP1 := hide hP1
  have HG1 := hide hG1
  have HB1 := hide bb
  clear hw bk1 hG0 o1 BK1 hP1 hW hall c0 c1 c2 c3 HG HP HA2 hW0 hW1 hG1 bb
  clear hX
  simp only [Act.put, List.setIfInBounds_toArray, List.set_cons_succ, List.set_cons_zero]
  obtain ⟨c0, c1, c2, c3⟩ := box4 (unhide HG1) (Below.refl _ _) (lt_of_row (unhide HG1))
  have hz3 := lt_of_row (unhide HG1)
  go_wp2
  have hX := unhide HX
  refine rlv w.heap.size W.heap.size vs.length vc va (by kernel_rfl) (by kernel_rfl) (by kernel_rfl) _ _ (by show 19 ≤ Array.size _; simp) rfl (fun L U => ∃ V0, Wl W w.heap.size 2 (.slice va vs.length vc) (.slice (some ⟨W.heap.size, 0, none⟩) vs.length (vs.length + 4)) (fun V => Blk W.heap.size (mid vs 4) V) L U V0) ?_ ?_ ?_ ?_ (by omega) ?_ ?_ ?_
  · exact ⟨_, Wl.start⟩
  · rintro i hi L U ⟨V0, hW⟩
    simp only [List.mem_cons, List.not_mem_nil, or_false, not_or] at hi
    exact ⟨V0, hW.pure i hi.1 hi.2⟩
  · rintro L U ⟨V0, hW⟩ h1
    exact hW.load (fls fun q => by rw [(hW.d q).1] at h1; cases h1) c2
  · rintro L U ⟨V0, hW⟩ h4
    exact hW.load (fls fun q => by rw [(hW.d q).2.2] at h4; cases h4) c2
  · rintro L U ⟨V0, hW⟩ h2
    have h8 : L 8 = false := fls fun q => by rw [(hW.d q).2.1] at h2; cases h2
    have hw := hW.w0 h8
    subst hw
    have hsz := hW.sz h2
    have hbw := (unhide HB1).trans (hW.bel.mono (unhide HB1).size)
    have hl := lent_any va vs.length vc vs U ((unhide HN).vs.below hbw) z2 (by have := (unhide HNB).v; simp only at this; omega)
    rw [hsz] at hl
    refine hl.mono ?_
    rintro e w' ⟨rfl, bk, b⟩
    refine ⟨rfl, w', hW.bel.trans b, fun q => ?_, fun _ => bk, fun q => ?_, fun _ => rfl, fun q => ?_⟩
    · rw [upd_eq] at q; cases q
    · rw [upd_ne (by decide), h8] at q; cases q
    · rw [upd_ne (by decide), h8] at q; cases q
  · rintro L U ⟨V0, hW⟩ h8 h6 h7 h1 h4 h2
    exact ⟨⟨V0, hW.store h8 h1 h4 h2⟩, ⟨_, _, _, rfl⟩, ⟨_, hW.load h8 c2⟩, by rw [hW.w0 h8]; exact frz ((hW.bel.block _ hz3).trans (unhide HG1)) _⟩
  rintro L U hall ⟨V0, hW⟩
  have hw := hW.w1 (hall 8 (by omega))
  have bk2 := hW.p (hall 2 (by omega))
  have hG0 := (hW.bel.block _ hz3).trans (unhide HG1)
  have hG2 := row_set (j := 0 + 2) (v := .slice (some ⟨W.heap.size, 0, none⟩) vs.length (vs.length + 4)) hG0
  rw [← hw] at hG2
  have o1 : Only (fun k => k = w.heap.size) V0 U := by rw [hw]; exact Only.setCell V0 ⟨w.heap.size, 0 + 2, none⟩ _
  have BK2 : Blk W.heap.size (mid vs 4) U := (o1.block _ bk2.lt (by omega)).trans bk2
  have BK1' : Blk W1.heap.size (mid ks 4) U := (o1.block _ (by have := hW.bel.size; omega) (by omega)).trans ((hW.bel.block _ hsz1).trans (unhide HBK1))
  have hP2 : U.heap[W0.heap.size]? = some (.cells #[.bool false, .slice none 0 0, .slice none 0 0, .slice none 0 0] 25 (0, 0)) :=
    (o1.block _ (by have := hW.bel.size; omega) (by omega)).trans ((hW.bel.block _ (by omega)).trans (unhide HP1))
  have bb : Below w.heap.size w U := by
    have q := (unhide HB1).trans (hW.bel.mono (unhide HB1).size)
    exact o1.below q q.size (fun k e => by omega)
  have hsz2 : W.heap.size < U.heap.size := lt_of_row BK2
  have HBK1 := hide BK1'
  have HBK2 := hide BK2
  have HP2 := hide hP2
  have HG2 := hide hG2
  have HB2 := hide bb
  clear hw bk2 hG0 o1 BK2 BK1' hP2 hW hall c0 c1 c2 c3 hG2 bb
  clear hX
  simp only [Act.put, List.setIfInBounds_toArray, List.set_cons_succ, List.set_cons_zero]
  obtain ⟨c0, c1, c2, c3⟩ := box4 (unhide HG2) (Below.refl _ _) (lt_of_row (unhide HG2))
  have hz4 := lt_of_row (unhide HG2)
  go_wp2
  have hX := unhide HX
  refine rli w.heap.size U.heap.size is.length ic ia (by kernel_rfl) (by kernel_rfl) (by kernel_rfl) _ _ (by show 27 ≤ Array.size _; simp) rfl (fun L Y => ∃ V0, Wl U w.heap.size 3 (.slice ia is.length ic) (.slice (some ⟨U.heap.size, 0, none⟩) is.length (is.length + 4)) (fun V => BlI U.heap.size (is ++ List.replicate 4 (-77)) V) L Y V0) ?_ ?_ ?_ ?_ (by omega) ?_ ?_ ?_
  · exact ⟨_, Wl.start⟩
  · rintro i hi L Y ⟨V0, hW⟩
    simp only [List.mem_cons, List.not_mem_nil, or_false, not_or] at hi
    exact ⟨V0, hW.pure i hi.1 hi.2⟩
  · rintro L Y ⟨V0, hW⟩ h1
    exact hW.load (fls fun q => by rw [(hW.d q).1] at h1; cases h1) c3
  · rintro L Y ⟨V0, hW⟩ h4
    exact hW.load (fls fun q => by rw [(hW.d q).2.2] at h4; cases h4) c3
  · rintro L Y ⟨V0, hW⟩ h2
    have h8 : L 8 = false := fls fun q => by rw [(hW.d q).2.1] at h2; cases h2
    have hw := hW.w0 h8
    subst hw
    have hsz := hW.sz h2
    have hbw := (unhide HB2).trans (hW.bel.mono (unhide HB2).size)
    have hl := lentI_any ia is.length ic is Y ((unhide HN).is.below hbw) z3 (by have := (unhide HNB).i; simp only at this; omega)
    rw [hsz] at hl
    refine hl.mono ?_
    rintro e w' ⟨rfl, bk, b⟩
    refine ⟨rfl, w', hW.bel.trans b, fun q => ?_, fun _ => bk, fun q => ?_, fun _ => rfl, fun q => ?_⟩
    · rw [upd_eq] at q; cases q
    · rw [upd_ne (by decide), h8] at q; cases q
    · rw [upd_ne (by decide), h8] at q; cases q
  · rintro L Y ⟨V0, hW⟩ h8 h6 h7 h1 h4 h2
    exact ⟨⟨V0, hW.store h8 h1 h4 h2⟩, ⟨_, _, _, rfl⟩, ⟨_, hW.load h8 c3⟩, by rw [hW.w0 h8]; exact frz ((hW.bel.block _ hz4).trans (unhide HG2)) _⟩
  rintro L Y hall ⟨V0, hW⟩
  have hw := hW.w1 (hall 8 (by omega))
  have bk3 := hW.p (hall 2 (by omega))
  have hG0 := (hW.bel.block _ hz4).trans (unhide HG2)
  have hG3 := row_set (j := 0 + 3) (v := .slice (some ⟨U.heap.size, 0, none⟩) is.length (is.length + 4)) hG0
  rw [← hw] at hG3
  have o1 : Only (fun k => k = w.heap.size) V0 Y := by rw [hw]; exact Only.setCell V0 ⟨w.heap.size, 0 + 3, none⟩ _
  have BK3 : BlI U.heap.size (is ++ List.replicate 4 (-77)) Y := (o1.block _ bk3.lt (by omega)).trans bk3
  have BK1' : Blk W1.heap.size (mid ks 4) Y := (o1.block _ (by have := hW.bel.size; omega) (by omega)).trans ((hW.bel.block _ (by omega)).trans (unhide HBK1))
  have BK2' : Blk W.heap.size (mid vs 4) Y := (o1.block _ (by have := hW.bel.size; omega) (by omega)).trans ((hW.bel.block _ hsz2).trans (unhide HBK2))
  have hP3 : Y.heap[W0.heap.size]? = some (.cells #[.bool false, .slice none 0 0, .slice none 0 0, .slice none 0 0] 25 (0, 0)) :=
    (o1.block _ (by have := hW.bel.size; omega) (by omega)).trans ((hW.bel.block _ (by omega)).trans (unhide HP2))
  have bb : Below w.heap.size w Y := by
    have q := (unhide HB2).trans (hW.bel.mono (unhide HB2).size)
    exact o1.below q q.size (fun k e => by omega)
  have HLN := hide (show LN ⟨lf, ks, vs, is⟩ W1.heap.size W.heap.size U.heap.size Y from ⟨BK1', BK2', BK3⟩)
  have HP3 := hide hP3
  have HB3 := hide bb
  obtain ⟨d0, d1, d2, d3⟩ := box4 hG3 (Below.refl _ _) (lt_of_row hG3)
  have hz5 := lt_of_row hG3
  clear hw bk3 hG0 o1 BK3 BK2' BK1' hP3 hW hall c0 c1 c2 c3 hG3 bb
  clear hX
  simp only [Act.put, List.setIfInBounds_toArray, List.set_cons_succ, List.set_cons_zero]
  have hlv : lnv ⟨lf, ks, vs, is⟩ W1.heap.size W.heap.size U.heap.size = .agg #[.bool lf, .slice (some ⟨W1.heap.size, 0, none⟩) ks.length (ks.length + 4), .slice (some ⟨W.heap.size, 0, none⟩) vs.length (vs.length + 4), .slice (some ⟨U.heap.size, 0, none⟩) is.length (is.length + 4)] := rfl
  generalize ks.length = kl at *
  generalize vs.length = vl at *
  generalize is.length = il at *
  have HLV := hide hlv
  clear hlv
  go_wp2_with (first | (refine wp_st25 rfl (.tmp 2) (.tmp 27) rfl W0.heap.size (by rfl) lf (some ⟨W1.heap.size, 0, none⟩) (some ⟨W.heap.size, 0, none⟩) (some ⟨U.heap.size, 0, none⟩) kl (kl + 4) vl (vl + 4) il (il + 4) (by rfl) _ rfl (unhide HP3) ?_) | fail)
  have h4 := setRow_heap _ _ _ #[.bool lf, .slice (some ⟨W1.heap.size, 0, none⟩) kl (kl + 4), .slice (some ⟨W.heap.size, 0, none⟩) vl (vl + 4), .slice (some ⟨U.heap.size, 0, none⟩) il (il + 4)] 25 _ (unhide HP3)
  have oF := setRow_only Y W0.heap.size #[.bool lf, .slice (some ⟨W1.heap.size, 0, none⟩) kl (kl + 4), .slice (some ⟨W.heap.size, 0, none⟩) vl (vl + 4), .slice (some ⟨U.heap.size, 0, none⟩) il (il + 4)]
  have hX := unhide HX
  have hl := unhide HLN
  refine outN1 (p := 2) rfl (by rfl) (by rfl) h4 ⟨W1.heap.size, W.heap.size, U.heap.size, by rw [unhide HLV], ⟨?_, ?_, ?_⟩, oF.below (unhide HB3) (unhide HB3).size (fun k e => by omega)⟩
  · exact (oF.block _ hl.k.lt (by omega)).trans hl.k
  · exact (oF.block _ hl.v.lt (by omega)).trans hl.v
  · exact (oF.block _ hl.i.lt (by omega)).trans hl.i
end Go.Proofs.YtllialbdofklgaaGreatDoor
