import Derived.Test.YtllialbdofklgaaGreatDoorNon
import Derived.Test.YtllialbdofklgaaGreatDoorZnok
namespace Go.Proofs.YtllialbdofklgaaGreatDoor
open Go.RowKit
set_option maxHeartbeats 16000000
set_option maxRecDepth 8000
/-- The rows of two nodes lie apart. -/
def Ap2 (a b c d e f : Value) : Prop := (dsj a d ∧ dsj a e ∧ dsj a f) ∧ (dsj b d ∧ dsj b e ∧ dsj b f) ∧ (dsj c d ∧ dsj c e ∧ dsj c f)
theorem Ap2.symm {a b c d e f : Value} (h : Ap2 a b c d e f) : Ap2 d e f a b c :=
  ⟨⟨h.1.1.symm, h.2.1.1.symm, h.2.2.1.symm⟩, ⟨h.1.2.1.symm, h.2.1.2.1.symm, h.2.2.2.1.symm⟩, ⟨h.1.2.2.symm, h.2.1.2.2.symm, h.2.2.2.2.symm⟩⟩
theorem ap2_new {W W' : World} {B : Nat} {m n : Nd} {a b c d e f : Value} (h : Rws W.heap.size m a b c W') (g : Rws B n d e f W) : Ap2 a b c d e f :=
  ⟨⟨dsj_new (owns_blk g.rK) h.bK, dsj_new (owns_blk g.rV) h.bK, dsj_new (owns_blk g.rI) h.bK⟩, ⟨dsj_new (owns_blk g.rK) h.bV, dsj_new (owns_blk g.rV) h.bV, dsj_new (owns_blk g.rI) h.bV⟩, ⟨dsj_new (owns_blk g.rK) h.bI, dsj_new (owns_blk g.rV) h.bI, dsj_new (owns_blk g.rI) h.bI⟩⟩
/-- Between two operations of Split's last region: base Wb, the boxes A and D. -/
structure Wsr (Wb : World) (A D : Nat) (lf : Bool) (m n : Nd) (c : Ch6) (L : Nat → Bool) (W : World) : Prop where
  only : Only (fun k => k = A ∨ k = D) Wb W
  l : L 1 = true → Rws Wb.heap.size m (.slice c.p1 m.keys.length c.c1) (.slice c.p2 m.vals.length c.c2) (.slice c.p3 m.kids.length c.c3) W
  r : L 6 = true → Rws Wb.heap.size n (.slice c.q1 n.keys.length c.d1) (.slice c.q2 n.vals.length c.d2) (.slice c.q3 n.kids.length c.d3) W
  d7 : L 7 = true → L 1 = true
  d9 : L 9 = true → L 6 = true
  x : (L 1 = true → Apt (.slice c.p1 m.keys.length c.c1) (.slice c.p2 m.vals.length c.c2) (.slice c.p3 m.kids.length c.c3)) ∧ (L 6 = true → Apt (.slice c.q1 n.keys.length c.d1) (.slice c.q2 n.vals.length c.d2) (.slice c.q3 n.kids.length c.d3)) ∧ (L 1 = true → L 6 = true → Ap2 (.slice c.p1 m.keys.length c.c1) (.slice c.p2 m.vals.length c.c2) (.slice c.p3 m.kids.length c.c3) (.slice c.q1 n.keys.length c.d1) (.slice c.q2 n.vals.length c.d2) (.slice c.q3 n.kids.length c.d3))
  a : W.heap[A]? = some (.cells (if L 7 then #[.bool lf, .slice c.p1 m.keys.length c.c1, .slice c.p2 m.vals.length c.c2, .slice c.p3 m.kids.length c.c3] else #[.bool false, .slice none 0 0, .slice none 0 0, .slice none 0 0]) 25 (0, 0))
  b : W.heap[D]? = some (.cells (if L 9 then #[.bool lf, .slice c.q1 n.keys.length c.d1, .slice c.q2 n.vals.length c.d2, .slice c.q3 n.kids.length c.d3] else #[.bool false, .slice none 0 0, .slice none 0 0, .slice none 0 0]) 25 (0, 0))
variable {Wb W W' : World} {A D : Nat} {lf : Bool} {m n : Nd} {c : Ch6} {L : Nat → Bool}
theorem Wsr.pure (h : Wsr Wb A D lf m n c L W) (i : Nat) (h1 : i ≠ 1) (h6 : i ≠ 6) (h7 : i ≠ 7) (h9 : i ≠ 9) : Wsr Wb A D lf m n c (upd L i) W :=
  ⟨h.only, fun q => h.l (by rwa [upd_ne h1.symm] at q), fun q => h.r (by rwa [upd_ne h6.symm] at q), fun q => by rw [upd_ne h1.symm]; exact h.d7 (by rwa [upd_ne h7.symm] at q), fun q => by rw [upd_ne h6.symm]; exact h.d9 (by rwa [upd_ne h9.symm] at q), by rw [upd_ne h1.symm, upd_ne h6.symm]; exact h.x, by rw [upd_ne h7.symm]; exact h.a, by rw [upd_ne h9.symm]; exact h.b⟩
theorem Wsr.grow (h : Wsr Wb A D lf m n c L W) (q : Below W.heap.size W W') : Wsr Wb A D lf m n c L W' :=
  ⟨h.only.trans (Only.of_below q) (fun _ _ e => e), fun e => (h.l e).below q, fun e => (h.r e).below q, h.d7, h.d9, h.x, (q.block _ (lt_of_row h.a)).trans h.a, (q.block _ (lt_of_row h.b)).trans h.b⟩
theorem split2_any (n : Nd) (ka va ia : Option Addr) (kc vc ic : Nat) (w : World) (h : NA n ka va ia w) (hb : NB n) (hg : Grt n) (ck : n.keys.length ≤ kc) (cv : n.vals.length ≤ vc) (ci : n.kids.length ≤ ic) (hic : ic ≤ 9223372036854775807) (hl : 1 ≤ las n) :
    Calls Tryz.prog 37 #[nda n ka va ia kc vc ic] w fun r w' => ∃ i vK vV vI uK uV uI, Plc n i ∧ r = .returned (.tuple #[.agg #[.bool n.leaf, vK, vV, vI], S (kbt n i), .agg #[.bool n.leaf, uK, uV, uI], I 0]) ∧ Rws w.heap.size (lft n i) vK vV vI w' ∧ Rws w.heap.size (rgt n i) uK uV uI w' ∧ (Apt vK vV vI ∧ Apt uK uV uI ∧ Ap2 vK vV vI uK uV uI) ∧ Below w.heap.size w w' := by
  have hA := (Below.refl w.heap.size w).alloc (Nat.le_refl _) (.cells #[.bool n.leaf, .slice ka n.keys.length kc, .slice va n.vals.length vc, .slice ia n.kids.length ic] 25)
  have hgr := heap_alloc_new w (.cells #[.bool n.leaf, .slice ka n.keys.length kc, .slice va n.vals.length vc, .slice ia n.kids.length ic] 25)
  have hs0 := size_alloc w (.cells #[.bool n.leaf, .slice ka n.keys.length kc, .slice va n.vals.length vc, .slice ia n.kids.length ic] 25)
  generalize hW0 : w.alloc (.cells #[.bool n.leaf, .slice ka n.keys.length kc, .slice va n.vals.length vc, .slice ia n.kids.length ic] 25) = W0 at hA hgr hs0
  have hA1 := hA.alloc hA.size (.cells #[.bool false, .slice none 0 0, .slice none 0 0, .slice none 0 0] 25)
  have hg1 := (alloc_old W0 (.cells #[.bool false, .slice none 0 0, .slice none 0 0, .slice none 0 0] 25) (lt_of_row hgr)).trans hgr
  have hk1 := heap_alloc_new W0 (.cells #[.bool false, .slice none 0 0, .slice none 0 0, .slice none 0 0] 25)
  have hs1 := size_alloc W0 (.cells #[.bool false, .slice none 0 0, .slice none 0 0, .slice none 0 0] 25)
  generalize hW1 : W0.alloc (.cells #[.bool false, .slice none 0 0, .slice none 0 0, .slice none 0 0] 25) = W1 at hA1 hg1 hk1 hs1
  have hA2 := hA1.alloc hA1.size (.cells #[.bool false, .slice none 0 0, .slice none 0 0, .slice none 0 0] 25)
  have hp := heap_alloc_new W1 (.cells #[.bool false, .slice none 0 0, .slice none 0 0, .slice none 0 0] 25)
  have hg2 := (alloc_old W1 (.cells #[.bool false, .slice none 0 0, .slice none 0 0, .slice none 0 0] 25) (lt_of_row hg1)).trans hg1
  have hk2 := (alloc_old W1 (.cells #[.bool false, .slice none 0 0, .slice none 0 0, .slice none 0 0] 25) (lt_of_row hk1)).trans hk1
  have hs2 := size_alloc W1 (.cells #[.bool false, .slice none 0 0, .slice none 0 0, .slice none 0 0] 25)
  generalize hW2 : W1.alloc (.cells #[.bool false, .slice none 0 0, .slice none 0 0, .slice none 0 0] 25) = W2 at hA2 hp hg2 hk2 hs2
  have HX := hide (show W0.heap.size = w.heap.size + 1 ∧ W1.heap.size = W0.heap.size + 1 ∧ W2.heap.size = W1.heap.size + 1 from ⟨hs0, hs1, hs2⟩)
  obtain ⟨lx, ly, lz, rx, ry, rz, hS, hE, hC⟩ := sides_any n ka va ia kc vc ic w h hb hg ck cv ci hic
  have HN := hide (fun W (q : Below w.heap.size w W) => h.below q)
  have HSd := hide (fun W (q : Below w.heap.size w W) => hS.below q)
  have HP0 := hide (fun i (q : Plc n i) => show i < n.keys.length from q.len.1)
  have hfv : hfv n = true := by
    unfold Go.Proofs.YtllialbdofklgaaGreatDoor.hfv
    rw [hg.ag, Bool.and_true, decide_eq_true_eq]
    unfold las at hl
    split at hl <;> omega
  have X1 := hide (wrongSplit_ok n ka va ia kc vc ic W2 (h.below hA2) hb hfv hg.ko hg.lo hg.hi)
  have X2 := hide (fun W (q : Below w.heap.size w W) => placeN_any n ka va ia kc vc ic W (unhide HN W q) hb hg ck cv ci hic hl)
  have X3 := hide hC
  have X4 := hide (fun W (q : Below w.heap.size w W) i (h1 : 1 ≤ i) (h2 : i < n.keys.length) => keyBetween_any n ka va ia kc vc ic i W (unhide HN W q) hb h1 h2)
  have X5 := hide (fun W (q : Below w.heap.size w W) i (h1 : 1 ≤ i) (h2 : i ≤ las n) => copied2_any (lft n i) (lx i).1 (ly i).1 (lz i).1 (lx i).2.2 (ly i).2.2 (lz i).2.2 W ((unhide HSd W q).l i h1 h2) (hb.lft i))
  have X6 := hide (fun W (q : Below w.heap.size w W) i (h1 : 1 ≤ i) (h2 : i ≤ las n) => copied2_any (rgt n i) (rx i).1 (ry i).1 (rz i).1 (rx i).2.2 (ry i).2.2 (rz i).2.2 W ((unhide HSd W q).r i h1 h2) (hb.rgt i))
  have HE := hide hE
  have HA2 := hide hA2
  have HP := hide hp
  have HK := hide hk2
  have HG := hide hg2
  have hz2 : w.heap.size < W2.heap.size := by omega
  have hz3 : W0.heap.size < W2.heap.size := by omega
  have hz4 : W1.heap.size < W2.heap.size := by omega
  obtain ⟨c0, c1, c2, c3⟩ := box4 hg2 (Below.refl _ _) hz2
  clear hA hgr hA1 hg1 hk1 hA2 hp hg2 hk2 hs0 hs1 hs2 h hb hg hS hE hC hfv hl ck cv ci hic HN HSd
  unfold nda at X1 X2 X3 X4 ⊢
  generalize hlf : n.leaf = lf at *
  generalize n.keys.length = kl at *
  generalize n.vals.length = vl at *
  generalize n.kids.length = il at *
  go_enter Tryz.func37, Tryz.ntmps37
  go_wp2_with fail
  refine (unhide X1).mono ?_
  rintro e w1 ⟨rfl, b1⟩
  clear c0 c1 c2 c3 hW0 hW1 hW2 X1
  obtain ⟨c0, c1, c2, c3⟩ := box4 (unhide HG) b1 hz2
  have l1 := Nat.lt_of_lt_of_le hz2 b1.size
  have x2 := hide (unhide X2 w1 ((unhide HA2).trans (b1.mono (unhide HA2).size)))
  have B1 := hide b1
  clear b1 X2
  go_wp2_with fail
  refine (unhide x2).mono ?_
  rintro e w2 ⟨i, hPl, rfl, b2⟩
  clear c0 c1 c2 c3 l1 x2
  have b2 := (unhide B1).trans (b2.mono (unhide B1).size)
  obtain ⟨c0, c1, c2, c3⟩ := box4 (unhide HG) b2 hz2
  have l1 := Nat.lt_of_lt_of_le hz2 b2.size
  have B2 := hide b2
  have hi1 := hPl.lo
  have hi2 := hPl.hi
  have hi3 := unhide HP0 i hPl
  have HPl := hide hPl
  have x3 := hide (unhide X3 i w2 hi1 hi2)
  have Y4 := hide (fun W q => unhide X4 W q i hi1 hi3)
  have Y5 := hide (fun W q => unhide X5 W q i hi1 hi2)
  have Y6 := hide (fun W q => unhide X6 W q i hi1 hi2)
  have hEi := unhide HE i hi1 hi2
  rw [← hEi.1] at Y5
  rw [← hEi.2] at Y6
  rw [lft_leaf, hlf] at Y5
  rw [rgt_leaf, hlf] at Y6
  have HEL := hide hEi
  clear b2 X3 X4 X5 X6 hPl HP0 hEi HE B1 hi1 hi2 hi3
  have hEL := unhide HEL
  simp only [agv4, nda] at hEL
  have e1 : (lx i).2.1 = (lft n i).keys.length ∧ (ly i).2.1 = (lft n i).vals.length ∧ (lz i).2.1 = (lft n i).kids.length := by
    have := hEL.1
    simp at this
    omega
  have e2 : (rx i).2.1 = (rgt n i).keys.length ∧ (ry i).2.1 = (rgt n i).vals.length ∧ (rz i).2.1 = (rgt n i).kids.length := by
    have := hEL.2
    simp at this
    omega
  clear hEL HEL
  unfold agv4 at *
  generalize lx i = s1 at *
  generalize ly i = s2 at *
  generalize lz i = s3 at *
  generalize rx i = s4 at *
  generalize ry i = s5 at *
  generalize rz i = s6 at *
  obtain ⟨xa, xl, xc⟩ := s1
  obtain ⟨ya, yl, yc⟩ := s2
  obtain ⟨za, zl, zc⟩ := s3
  obtain ⟨xb, xm, xd⟩ := s4
  obtain ⟨yb, ym, yd⟩ := s5
  obtain ⟨zb, zm, zd⟩ := s6
  simp only at *
  obtain ⟨rfl, rfl, rfl⟩ := e1
  obtain ⟨rfl, rfl, rfl⟩ := e2
  generalize hkb : kbt n i = key at *
  generalize hM1 : lft n i = m1 at *
  generalize hM2 : rgt n i = m2 at *
  have HKB := hide (And.intro hkb (And.intro hM1 hM2))
  clear hkb hM1 hM2
  go_wp2_with fail
  refine (unhide x3).mono ?_
  rintro e w4 ⟨rfl, b4⟩
  have B4 := hide ((unhide B2).trans (b4.mono (unhide B2).size))
  clear c0 c1 c2 c3 l1 x3 b4 B2
  go_wp2
  have hy0 := heap_alloc_new w4 (.cells #[.bool lf, .slice xa m1.keys.length xc, .slice ya m1.vals.length yc, .slice za m1.kids.length zc] 25)
  have hsy := size_alloc w4 (.cells #[.bool lf, .slice xa m1.keys.length xc, .slice ya m1.vals.length yc, .slice za m1.kids.length zc] 25)
  have hby := (Below.refl w4.heap.size w4).alloc (Nat.le_refl _) (.cells #[.bool lf, .slice xa m1.keys.length xc, .slice ya m1.vals.length yc, .slice za m1.kids.length zc] 25)
  generalize w4.alloc (.cells #[.bool lf, .slice xa m1.keys.length xc, .slice ya m1.vals.length yc, .slice za m1.kids.length zc] 25) = W6 at hy0 hsy hby ⊢
  have hz0 := heap_alloc_new W6 (.cells #[.bool lf, .slice xb m2.keys.length xd, .slice yb m2.vals.length yd, .slice zb m2.kids.length zd] 25)
  have hy1 := (alloc_old W6 (.cells #[.bool lf, .slice xb m2.keys.length xd, .slice yb m2.vals.length yd, .slice zb m2.kids.length zd] 25) (lt_of_row hy0)).trans hy0
  have hbz := hby.alloc hby.size (.cells #[.bool lf, .slice xb m2.keys.length xd, .slice yb m2.vals.length yd, .slice zb m2.kids.length zd] 25)
  rw [hsy] at hz0
  generalize W6.alloc (.cells #[.bool lf, .slice xb m2.keys.length xd, .slice yb m2.vals.length yd, .slice zb m2.kids.length zd] 25) = Wb at hz0 hy1 hbz ⊢
  have hbb := (unhide B4).trans (hbz.mono (unhide B4).size)
  have HBB := hide hbb
  have hkb := (hbb.block _ hz3).trans (unhide HK)
  have hpb := (hbb.block _ hz4).trans (unhide HP)
  have hgb := (hbb.block _ hz2).trans (unhide HG)
  have hX := unhide HX
  have h4s : W2.heap.size ≤ w4.heap.size := (unhide B4).size
  have HKb := hide hkb
  have HPb := hide hpb
  have HGb := hide hgb
  have HY := hide hy1
  have HZ := hide hz0
  have hWb := lt_of_row hz0
  have hne : ¬ W0.heap.size = W1.heap.size := by omega
  have h5 : ∀ W, Only (fun k => k = W0.heap.size ∨ k = W1.heap.size) Wb W → Below w.heap.size w W := fun W q => q.below ((unhide HA2).trans (hbb.mono (unhide HA2).size)) (by omega) (fun k e => by omega)
  clear hy0 hsy hby hz0 hy1 hbz hbb hkb hpb hgb
  refine rsp w.heap.size w4.heap.size (w4.heap.size + 1) W0.heap.size W1.heap.size kl kc vl vc il ic m1.keys.length xc m1.vals.length yc m1.kids.length zc m2.keys.length xd m2.vals.length yd m2.kids.length zd i ka va ia xa ya za xb yb zb lf key (by kernel_rfl) (by kernel_rfl) (by kernel_rfl) _ _ (by show 32 ≤ Array.size _; simp) rfl rfl rfl rfl rfl rfl (Wsr Wb W0.heap.size W1.heap.size lf m1 m2) ?_ ?_ ?_ ?_ ?_ ?_ ?_ ?_ ?_ ?_ ?_
  · exact ⟨⟨none, 0, none, 0, none, 0, none, 0, none, 0, none, 0⟩, ⟨⟨rfl, rfl, rfl, Nat.le_refl _, fun _ _ _ => rfl⟩, (fun q => nomatch q), (fun q => nomatch q), (fun q => nomatch q), (fun q => nomatch q), ⟨(fun q => nomatch q), (fun q => nomatch q), (fun q => nomatch q)⟩, unhide HKb, unhide HPb⟩⟩
  · intro j hj c L W hW
    simp only [List.mem_cons, List.not_mem_nil, or_false, not_or] at hj
    exact hW.pure j hj.1 hj.2.2.1 hj.2.2.2.1 hj.2.2.2.2
  · intro c L W hW
    have g := (hW.only.block _ (lt_of_row (unhide HY)) (fun q => by omega)).trans (unhide HY)
    exact box4 g (Below.refl _ _) (lt_of_row g)
  · intro c L W hW
    have g := (hW.only.block _ (lt_of_row (unhide HGb)) (fun q => by omega)).trans (unhide HGb)
    exact box4 g (Below.refl _ _) (lt_of_row g)
  · intro c L W hW
    have g := (hW.only.block _ (lt_of_row (unhide HZ)) (fun q => by omega)).trans (unhide HZ)
    exact box4 g (Below.refl _ _) (lt_of_row g)
  · intro c L W hW h1
    refine (unhide Y5 W (h5 W hW.only)).mono ?_
    rintro e w' ⟨vK, vV, vI, rfl, r, ap, b⟩
    obtain ⟨p1, c1, p2, c2, p3, c3, rfl, rfl, rfl⟩ := r.form
    have hg := hW.grow b
    have h7 : L 7 = false := fls fun q => by rw [hW.d7 q] at h1; cases h1
    have ha := hg.a
    rw [h7] at ha
    refine ⟨{ c with p1 := p1, c1 := c1, p2 := p2, c2 := c2, p3 := p3, c3 := c3 }, fun j hj => ?_, rfl, hg.only, fun _ => r.mono hW.only.size, fun q => hg.r (by rwa [upd_ne (by decide)] at q), fun q => ?_, fun q => by rw [upd_ne (by decide)]; exact hg.d9 (by rwa [upd_ne (by decide)] at q), ⟨fun _ => ap, by rw [upd_ne (by decide)]; exact hW.x.2.1, fun _ q => ap2_new r (hW.r (by rwa [upd_ne (by decide)] at q))⟩, by rw [upd_ne (by decide), h7]; exact ha, by rw [upd_ne (by decide)]; exact hg.b⟩
    · unfold vsp
      split <;> first | rfl | (rw [h1] at hj; cases hj)
    · rw [upd_ne (by decide), h7] at q; cases q
  · intro c L W hW _
    refine (unhide Y4 W (h5 W hW.only)).mono ?_
    rintro e w' ⟨rfl, b⟩
    exact ⟨rfl, (hW.grow b).pure 4 (by decide) (by decide) (by decide) (by decide)⟩
  · intro c L W hW h6
    refine (unhide Y6 W (h5 W hW.only)).mono ?_
    rintro e w' ⟨vK, vV, vI, rfl, r, ap, b⟩
    obtain ⟨p1, c1, p2, c2, p3, c3, rfl, rfl, rfl⟩ := r.form
    have hg := hW.grow b
    have h9 : L 9 = false := fls fun q => by rw [hW.d9 q] at h6; cases h6
    have hb := hg.b
    rw [h9] at hb
    refine ⟨{ c with q1 := p1, d1 := c1, q2 := p2, d2 := c2, q3 := p3, d3 := c3 }, fun j hj => ?_, rfl, hg.only, fun q => hg.l (by rwa [upd_ne (by decide)] at q), fun _ => r.mono hW.only.size, fun q => by rw [upd_ne (by decide)]; exact hg.d7 (by rwa [upd_ne (by decide)] at q), fun q => ?_, ⟨by rw [upd_ne (by decide)]; exact hW.x.1, fun _ => ap, fun q _ => (ap2_new r (hW.l (by rwa [upd_ne (by decide)] at q))).symm⟩, by rw [upd_ne (by decide)]; exact hg.a, by rw [upd_ne (by decide), h9]; exact hb⟩
    · unfold vsp
      split <;> first | rfl | (rw [h6] at hj; cases hj)
    · rw [upd_ne (by decide), h9] at q; cases q
  · intro c L W hW h7 h1
    have ha := hW.a
    rw [h7] at ha
    have o := set4_only W W0.heap.size (.bool lf) (.slice c.p1 m1.keys.length c.c1) (.slice c.p2 m1.vals.length c.c2) (.slice c.p3 m1.kids.length c.c3)
    refine ⟨⟨hW.only.trans o (fun k _ e => .inl e), fun q => (hW.l (by rwa [upd_ne (by decide)] at q)).only o (fun k e => by omega), fun q => (hW.r (by rwa [upd_ne (by decide)] at q)).only o (fun k e => by omega), fun _ => by rw [upd_ne (by decide)]; exact h1, fun q => by rw [upd_ne (by decide)]; exact hW.d9 (by rwa [upd_ne (by decide)] at q), by rw [upd_ne (by decide), upd_ne (by decide)]; exact hW.x, by rw [upd_eq]; exact set4 ha rfl _ _ _ _, ?_⟩, ha⟩
    rw [upd_ne (by decide)]
    exact (o.block _ (lt_of_row hW.b) (fun e => hne e.symm)).trans hW.b
  · intro c L W hW h9 h6
    have hb := hW.b
    rw [h9] at hb
    have o := set4_only W W1.heap.size (.bool lf) (.slice c.q1 m2.keys.length c.d1) (.slice c.q2 m2.vals.length c.d2) (.slice c.q3 m2.kids.length c.d3)
    refine ⟨⟨hW.only.trans o (fun k _ e => .inr e), fun q => (hW.l (by rwa [upd_ne (by decide)] at q)).only o (fun k e => by omega), fun q => (hW.r (by rwa [upd_ne (by decide)] at q)).only o (fun k e => by omega), fun q => by rw [upd_ne (by decide)]; exact hW.d7 (by rwa [upd_ne (by decide)] at q), fun _ => by rw [upd_ne (by decide)]; exact h6, by rw [upd_ne (by decide), upd_ne (by decide)]; exact hW.x, ?_, by rw [upd_eq]; exact set4 hb rfl _ _ _ _⟩, hb⟩
    rw [upd_ne (by decide)]
    exact (o.block _ (lt_of_row hW.a) hne).trans hW.a
  · intro c L W hall hW
    have ha := hW.a
    have hb := hW.b
    rw [hall 7 (by omega)] at ha
    rw [hall 9 (by omega)] at hb
    have HAa := hide ha
    have HBb := hide hb
    have HL := hide ((hW.l (hall 1 (by omega))).mono (show w.heap.size ≤ Wb.heap.size by omega))
    have HR := hide ((hW.r (hall 6 (by omega))).mono (show w.heap.size ≤ Wb.heap.size by omega))
    have HW := hide (h5 W hW.only)
    have HY := hide (And.intro (hW.x.1 (hall 1 (by omega))) (And.intro (hW.x.2.1 (hall 6 (by omega))) (hW.x.2.2 (hall 1 (by omega)) (hall 6 (by omega)))))
    clear ha hb hW hall Y4 Y5 Y6 h5 hX
    simp only [Act.put, List.setIfInBounds_toArray, List.set_cons_succ, List.set_cons_zero]
    go_wp2
    obtain ⟨e0, e1, e2, e3⟩ := box4 (unhide HAa) (Below.refl _ _) (lt_of_row (unhide HAa))
    obtain ⟨f0, f1, f2, f3⟩ := box4 (unhide HBb) (Below.refl _ _) (lt_of_row (unhide HBb))
    refine bodyPost_ret (results_n4 (p := 2) (q := 3) (r := 4) (s := 5) rfl _ _ W0.heap.size W1.heap.size _ _ _ _ _ _ _ _ rfl rfl e0 e1 e2 e3 f0 f1 f2 f3) rfl ?_
    obtain ⟨k1, k2, k3⟩ := unhide HKB
    refine ⟨i, unhide HPl, .slice c.p1 m1.keys.length c.c1, .slice c.p2 m1.vals.length c.c2, .slice c.p3 m1.kids.length c.c3, .slice c.q1 m2.keys.length c.d1, .slice c.q2 m2.vals.length c.d2, .slice c.q3 m2.kids.length c.d3, ?_, ?_, ?_, unhide HY, unhide HW⟩
    · rw [k1]; rfl
    · rw [k2]; exact unhide HL
    · rw [k3]; exact unhide HR
end Go.Proofs.YtllialbdofklgaaGreatDoor
