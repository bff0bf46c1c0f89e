import Derived.Test.YtllialbdofklgaaGreatDoorNfd
import Derived.Test.YtllialbdofklgaaGreatDoorZndn
import Derived.Test.YtllialbdofklgaaGreatDoorZrgsd
namespace Go.Proofs.YtllialbdofklgaaGreatDoor
open Go.RowKit
set_option maxHeartbeats 16000000
set_option maxRecDepth 8000
/-- Rows of one's own that lie above a bound. -/
structure Rws (B : Nat) (n : Nd) (vK vV vI : Value) (w : World) : Prop where
  rK : w.ownsRow 0 9 1 vK n.keys.length (n.keys.map S)
  rV : w.ownsRow 0 9 1 vV n.vals.length (n.vals.map S)
  rI : w.ownsRow 0 3 1 vI n.kids.length (n.kids.map fun z => I z)
  bK : ∀ i, vK.ownBlock = some i → B ≤ i
  bV : ∀ i, vV.ownBlock = some i → B ≤ i
  bI : ∀ i, vI.ownBlock = some i → B ≤ i
theorem Rws.below {B : Nat} {n : Nd} {vK vV vI : Value} {w w' : World} (h : Rws B n vK vV vI w) (hb : Below w.heap.size w w') : Rws B n vK vV vI w' := ⟨owns_below h.rK hb, owns_below h.rV hb, owns_below h.rI hb, h.bK, h.bV, h.bI⟩
theorem Rws.only {P : Nat → Prop} {B : Nat} {n : Nd} {vK vV vI : Value} {w w' : World} (h : Rws B n vK vV vI w) (o : Only P w w') (hp : ∀ k, P k → k < B) : Rws B n vK vV vI w' :=
  ⟨owns_only h.rK o (fun i hi e => by have := h.bK i hi; have := hp i e; omega), owns_only h.rV o (fun i hi e => by have := h.bV i hi; have := hp i e; omega), owns_only h.rI o (fun i hi e => by have := h.bI i hi; have := hp i e; omega), h.bK, h.bV, h.bI⟩
theorem Rws.mono {B B' : Nat} {n : Nd} {vK vV vI : Value} {w : World} (h : Rws B n vK vV vI w) (hB : B' ≤ B) : Rws B' n vK vV vI w := ⟨h.rK, h.rV, h.rI, fun i q => Nat.le_trans hB (h.bK i q), fun i q => Nat.le_trans hB (h.bV i q), fun i q => Nat.le_trans hB (h.bI i q)⟩
theorem Rws.na {B : Nat} {n : Nd} {vK vV vI : Value} {w : World} (h : Rws B n vK vV vI w) : ∃ ka va ia kc vc ic, vK = .slice ka n.keys.length kc ∧ vV = .slice va n.vals.length vc ∧ vI = .slice ia n.kids.length ic ∧ NA n ka va ia w := by
  obtain ⟨p, c, e1, s1, _⟩ := Sts.of h.rK
  obtain ⟨p', c', e2, s2, _⟩ := Sts.of h.rV
  obtain ⟨p'', c'', e3, s3, _⟩ := Ins.of h.rI
  exact ⟨p, p', p'', c, c', c'', e1, e2, e3, s1, s2, s3⟩
variable {W2 W W' : World} {A : Nat} {lf : Bool} {ks vs : List Bs} {zs : List Int} {c : Ch3} {L : Nat → Bool}
end Go.Proofs.YtllialbdofklgaaGreatDoor
namespace Go.Proofs.YtllialbdofklgaaGreatDoor
open Go.RowKit
set_option maxHeartbeats 16000000
set_option maxRecDepth 8000
/-- Two slices share no block. -/
def dsj (u v : Value) : Prop := ∀ i, u.ownBlock = some i → v.ownBlock = some i → False
theorem dsj.symm {u v : Value} (h : dsj u v) : dsj v u := fun i a b => h i b a
/-- The first is new, the other was there. -/
theorem dsj_new {u v : Value} {B : Nat} (hv : ∀ i, v.ownBlock = some i → i < B) (hu : ∀ i, u.ownBlock = some i → B ≤ i) : dsj u v := fun i a b => by
  have := hv i b
  have := hu i a
  omega
/-- The three rows of a node lie apart. -/
def Apt (a b c : Value) : Prop := dsj a b ∧ dsj a c ∧ dsj b c
/-- Between two operations of copied's region: base W2, the box A. -/
structure Wcs (W2 : World) (A : Nat) (lf : Bool) (ks vs : List Bs) (zs : List Int) (c : Ch3) (L : Nat → Bool) (W : World) : Prop where
  only : Only (fun k => k = A) W2 W
  k : L 4 = true → W.ownsRow 0 9 1 (.slice c.p1 ks.length c.c1) ks.length (ks.map S) ∧ ∀ i, (Value.slice c.p1 ks.length c.c1).ownBlock = some i → W2.heap.size ≤ i
  v : L 7 = true → W.ownsRow 0 9 1 (.slice c.p2 vs.length c.c2) vs.length (vs.map S) ∧ ∀ i, (Value.slice c.p2 vs.length c.c2).ownBlock = some i → W2.heap.size ≤ i
  z : L 10 = true → W.ownsRow 0 3 1 (.slice c.p3 zs.length c.c3) zs.length (zs.map fun z => I z) ∧ ∀ i, (Value.slice c.p3 zs.length c.c3).ownBlock = some i → W2.heap.size ≤ i
  d : L 11 = true → L 4 = true ∧ L 7 = true ∧ L 10 = true
  e : L 12 = true → L 11 = true
  x : (L 4 = true → L 7 = true → dsj (.slice c.p1 ks.length c.c1) (.slice c.p2 vs.length c.c2)) ∧ (L 4 = true → L 10 = true → dsj (.slice c.p1 ks.length c.c1) (.slice c.p3 zs.length c.c3)) ∧ (L 7 = true → L 10 = true → dsj (.slice c.p2 vs.length c.c2) (.slice c.p3 zs.length c.c3))
  b : W.heap[A]? = some (.cells (if L 12 then #[.bool lf, .slice c.p1 ks.length c.c1, .slice c.p2 vs.length c.c2, .slice c.p3 zs.length c.c3] else #[.bool false, .slice none 0 0, .slice none 0 0, .slice none 0 0]) 25 (0, 0))
variable {W2 W W' : World} {A : Nat} {lf : Bool} {ks vs : List Bs} {zs : List Int} {c : Ch3} {L : Nat → Bool}
theorem Wcs.pure (h : Wcs W2 A lf ks vs zs c L W) (i : Nat) (h1 : i ≠ 4) (h2 : i ≠ 7) (h3 : i ≠ 10) (h5 : i ≠ 12) (h4 : i = 11 → L 4 = true ∧ L 7 = true ∧ L 10 = true) : Wcs W2 A lf ks vs zs c (upd L i) W := by
  refine ⟨h.only, fun q => h.k (by rwa [upd_ne h1.symm] at q), fun q => h.v (by rwa [upd_ne h2.symm] at q), fun q => h.z (by rwa [upd_ne h3.symm] at q), fun q => ?_, fun q => ?_, by rw [upd_ne h1.symm, upd_ne h2.symm, upd_ne h3.symm]; exact h.x, by rw [upd_ne h5.symm]; exact h.b⟩
  · rw [upd_ne h1.symm, upd_ne h2.symm, upd_ne h3.symm]
    by_cases e : i = 11
    · exact h4 e
    · exact h.d (by rwa [upd_ne (Ne.symm e)] at q)
  · by_cases e : i = 11
    · rw [e]; exact upd_eq _ _
    · rw [upd_ne (Ne.symm e)]
      exact h.e (by rwa [upd_ne h5.symm] at q)
theorem Wcs.grow (h : Wcs W2 A lf ks vs zs c L W) (q : Below W.heap.size W W') : Wcs W2 A lf ks vs zs c L W' :=
  ⟨h.only.trans (Only.of_below q) (fun _ _ e => e), fun e => ⟨owns_below (h.k e).1 q, (h.k e).2⟩, fun e => ⟨owns_below (h.v e).1 q, (h.v e).2⟩, fun e => ⟨owns_below (h.z e).1 q, (h.z e).2⟩, h.d, h.e, h.x, (q.block _ (lt_of_row h.b)).trans h.b⟩
theorem copied2_any (n : Nd) (ka va ia : Option Addr) (kc vc ic : Nat) (w : World) (h : NA n ka va ia w) (hb : NB n) :
    Calls Tryz.prog 67 #[nda n ka va ia kc vc ic] w fun e w' => ∃ vK vV vI, e = .returned (.agg #[.bool n.leaf, vK, vV, vI]) ∧ Rws w.heap.size n vK vV vI w' ∧ Apt vK vV vI ∧ Below w.heap.size w w' := by
  obtain ⟨lf, ks, vs, is⟩ := n
  unfold nda
  simp only
  have hA := (Below.refl w.heap.size w).alloc (Nat.le_refl _) (.cells #[.bool lf, .slice ka ks.length kc, .slice va vs.length vc, .slice ia is.length ic] 25)
  have hg := heap_alloc_new w (.cells #[.bool lf, .slice ka ks.length kc, .slice va vs.length vc, .slice ia is.length ic] 25)
  have hs1 := size_alloc w (.cells #[.bool lf, .slice ka ks.length kc, .slice va vs.length vc, .slice ia is.length ic] 25)
  generalize hW1 : w.alloc (.cells #[.bool lf, .slice ka ks.length kc, .slice va vs.length vc, .slice ia is.length ic] 25) = W1 at hA hg hs1
  have hA2 := hA.alloc hA.size (.cells #[.bool false, .slice none 0 0, .slice none 0 0, .slice none 0 0] 25)
  have hp := heap_alloc_new W1 (.cells #[.bool false, .slice none 0 0, .slice none 0 0, .slice none 0 0] 25)
  have hg2 := (alloc_old W1 (.cells #[.bool false, .slice none 0 0, .slice none 0 0, .slice none 0 0] 25) (lt_of_row hg)).trans hg
  have hs2 := size_alloc W1 (.cells #[.bool false, .slice none 0 0, .slice none 0 0, .slice none 0 0] 25)
  generalize hW2 : W1.alloc (.cells #[.bool false, .slice none 0 0, .slice none 0 0, .slice none 0 0] 25) = W2 at hA2 hp hg2 hs2
  have HX := hide (show W1.heap.size = w.heap.size + 1 ∧ W2.heap.size = W1.heap.size + 1 from ⟨hs1, hs2⟩)
  have HSt : ∀ {W : World}, Only (fun k => k = W1.heap.size) W2 W → NA ⟨lf, ks, vs, is⟩ ka va ia W := fun {W} q => h.below (q.below hA2 hA2.size (fun k e => by omega))
  have H1 := hide (fun W (q : Only (fun k => k = W1.heap.size) W2 W) => copiedTexts_any ka ks.length kc ks W (HSt q).ks hb.k hb.kt)
  have H2 := hide (fun W (q : Only (fun k => k = W1.heap.size) W2 W) => copiedTexts_any va vs.length vc vs W (HSt q).vs hb.v hb.vt)
  have H3 := hide (fun W (q : Only (fun k => k = W1.heap.size) W2 W) => cloneI_any ia is.length ic is W (HSt q).is hb.i)
  have HA2 := hide hA2
  have HP := hide hp
  have HG := hide hg2
  have hz2 : w.heap.size < W2.heap.size := by omega
  have hbx : ∀ W : World, Only (fun k => k = W1.heap.size) W2 W → W.heap[w.heap.size]? = some (.cells #[.bool lf, .slice ka ks.length kc, .slice va vs.length vc, .slice ia is.length ic] 25 (0, 0)) := fun W q => (q.block _ hz2 (fun e => by omega)).trans hg2
  have HBX := hide hbx
  clear hA hg hs1 hs2 hA2 hp hg2 h hb HSt hbx
  go_enter Tryz.func67, Tryz.ntmps67
  go_wp2
  have hX := unhide HX
  refine rcq w.heap.size W1.heap.size ks.length kc vs.length vc is.length ic ka va ia lf (by kernel_rfl) (by kernel_rfl) (by kernel_rfl) _ _ (by show 15 ≤ Array.size _; simp) rfl rfl (Wcs W2 W1.heap.size lf ks vs is) ?_ ?_ ?_ ?_ ?_ ?_ ?_ ?_ ?_ ?_ ?_ ?_
  · exact ⟨⟨none, 0, none, 0, none, 0, 0, 0, 0⟩, ⟨⟨rfl, rfl, rfl, Nat.le_refl _, fun _ _ _ => rfl⟩, (fun q => nomatch q), (fun q => nomatch q), (fun q => nomatch q), (fun q => nomatch q), (fun q => nomatch q), ⟨(fun q => nomatch q), (fun q => nomatch q), (fun q => nomatch q)⟩, unhide HP⟩⟩
  · intro i hi c L W hW
    simp only [List.mem_cons, List.not_mem_nil, or_false, not_or] at hi
    exact hW.pure i hi.1 hi.2.1 hi.2.2.1 hi.2.2.2.1 (fun e => absurd e hi.2.2.2.2)
  · intro c L W hW
    have := unhide HBX W hW.only
    exact (box4 this (Below.refl _ _) (lt_of_row this)).1
  · intro c L W hW
    have := unhide HBX W hW.only
    exact (box4 this (Below.refl _ _) (lt_of_row this)).2.1
  · intro c L W hW
    have := unhide HBX W hW.only
    exact (box4 this (Below.refl _ _) (lt_of_row this)).2.2.1
  · intro c L W hW
    have := unhide HBX W hW.only
    exact (box4 this (Below.refl _ _) (lt_of_row this)).2.2.2
  · intro c L W hW h4 h7 h10
    exact hW.pure 11 (by decide) (by decide) (by decide) (by decide) (fun _ => ⟨h4, h7, h10⟩)
  · intro c L W hW h4
    refine (unhide H1 W hW.only).mono ?_
    rintro e w' ⟨V, rfl, r, o, b⟩
    obtain ⟨p, cp, rfl⟩ := owns_form r
    have hg := hW.grow b
    have h11 : L 11 = false := fls fun q => by rw [(hW.d q).1] at h4; cases h4
    have h12 : L 12 = false := fls fun q => by rw [hW.e q] at h11; cases h11
    have hb := hg.b
    rw [h12] at hb
    refine ⟨{ c with p1 := p, c1 := cp }, fun j hj => ?_, rfl, hg.only, fun _ => ⟨r, fun i hi => Nat.le_trans hW.only.size (o i hi)⟩, fun q => hg.v (by rwa [upd_ne (by decide)] at q), fun q => hg.z (by rwa [upd_ne (by decide)] at q), fun q => ?_, fun q => ?_, ⟨fun _ q => dsj_new (owns_blk (hW.v (by rwa [upd_ne (by decide)] at q)).1) o, fun _ q => dsj_new (owns_blk (hW.z (by rwa [upd_ne (by decide)] at q)).1) o, by rw [upd_ne (by decide), upd_ne (by decide)]; exact hW.x.2.2⟩, by rw [upd_ne (by decide), h12]; exact hb⟩
    · unfold vcq
      split <;> first | rfl | (rw [h4] at hj; cases hj) | (rw [h11] at hj; cases hj)
    · rw [upd_ne (by decide), h11] at q; cases q
    · rw [upd_ne (by decide), h12] at q; cases q
  · intro c L W hW h7
    refine (unhide H2 W hW.only).mono ?_
    rintro e w' ⟨V, rfl, r, o, b⟩
    obtain ⟨p, cp, rfl⟩ := owns_form r
    have hg := hW.grow b
    have h11 : L 11 = false := fls fun q => by rw [(hW.d q).2.1] at h7; cases h7
    have h12 : L 12 = false := fls fun q => by rw [hW.e q] at h11; cases h11
    have hb := hg.b
    rw [h12] at hb
    refine ⟨{ c with p2 := p, c2 := cp }, fun j hj => ?_, rfl, hg.only, fun q => hg.k (by rwa [upd_ne (by decide)] at q), fun _ => ⟨r, fun i hi => Nat.le_trans hW.only.size (o i hi)⟩, fun q => hg.z (by rwa [upd_ne (by decide)] at q), fun q => ?_, fun q => ?_, ⟨fun q _ => (dsj_new (owns_blk (hW.k (by rwa [upd_ne (by decide)] at q)).1) o).symm, by rw [upd_ne (by decide), upd_ne (by decide)]; exact hW.x.2.1, fun _ q => dsj_new (owns_blk (hW.z (by rwa [upd_ne (by decide)] at q)).1) o⟩, by rw [upd_ne (by decide), h12]; exact hb⟩
    · unfold vcq
      split <;> first | rfl | (rw [h7] at hj; cases hj) | (rw [h11] at hj; cases hj)
    · rw [upd_ne (by decide), h11] at q; cases q
    · rw [upd_ne (by decide), h12] at q; cases q
  · intro c L W hW h10
    refine (unhide H3 W hW.only).mono ?_
    rintro e w' ⟨V, rfl, r, b⟩
    have o := owns_ge r
    have r := owns_base (Nat.zero_le _) r
    obtain ⟨p, cp, rfl⟩ := owns_form r
    have hg := hW.grow b
    have h11 : L 11 = false := fls fun q => by rw [(hW.d q).2.2] at h10; cases h10
    have h12 : L 12 = false := fls fun q => by rw [hW.e q] at h11; cases h11
    have hb := hg.b
    rw [h12] at hb
    refine ⟨{ c with p3 := p, c3 := cp }, fun j hj => ?_, rfl, hg.only, fun q => hg.k (by rwa [upd_ne (by decide)] at q), fun q => hg.v (by rwa [upd_ne (by decide)] at q), fun _ => ⟨r, fun i hi => Nat.le_trans hW.only.size (o i hi)⟩, fun q => ?_, fun q => ?_, ⟨by rw [upd_ne (by decide), upd_ne (by decide)]; exact hW.x.1, fun q _ => (dsj_new (owns_blk (hW.k (by rwa [upd_ne (by decide)] at q)).1) o).symm, fun q _ => (dsj_new (owns_blk (hW.v (by rwa [upd_ne (by decide)] at q)).1) o).symm⟩, by rw [upd_ne (by decide), h12]; exact hb⟩
    · unfold vcq
      split <;> first | rfl | (rw [h10] at hj; cases hj) | (rw [h11] at hj; cases hj)
    · rw [upd_ne (by decide), h11] at q; cases q
    · rw [upd_ne (by decide), h12] at q; cases q
  · intro c L W hW h12 h11
    have hb0 := hW.b
    rw [h12] at hb0
    have o4 := set4_only W W1.heap.size (.bool lf) (.slice c.p1 ks.length c.c1) (.slice c.p2 vs.length c.c2) (.slice c.p3 is.length c.c3)
    have r4 := set4 hb0 rfl (.bool lf) (.slice c.p1 ks.length c.c1) (.slice c.p2 vs.length c.c2) (.slice c.p3 is.length c.c3)
    refine ⟨⟨hW.only.trans o4 (fun _ _ e => e), fun q => ?_, fun q => ?_, fun q => ?_, fun _ => hW.d h11, fun _ => by rw [upd_ne (by decide)]; exact h11, by rw [upd_ne (by decide), upd_ne (by decide), upd_ne (by decide)]; exact hW.x, by rw [upd_eq]; exact r4⟩, hb0⟩
    · rw [upd_ne (by decide)] at q
      exact ⟨owns_only (hW.k q).1 o4 (fun i hi e => by have := (hW.k q).2 i hi; omega), (hW.k q).2⟩
    · rw [upd_ne (by decide)] at q
      exact ⟨owns_only (hW.v q).1 o4 (fun i hi e => by have := (hW.v q).2 i hi; omega), (hW.v q).2⟩
    · rw [upd_ne (by decide)] at q
      exact ⟨owns_only (hW.z q).1 o4 (fun i hi e => by have := (hW.z q).2 i hi; omega), (hW.z q).2⟩
  · intro c L W hall hW
    have k := hW.k (hall 4 (by omega))
    have v := hW.v (hall 7 (by omega))
    have z := hW.z (hall 10 (by omega))
    have bw : Below w.heap.size w W := hW.only.below (unhide HA2) (unhide HA2).size (fun k e => by omega)
    have hb1 := hW.b
    rw [hall 12 (by omega)] at hb1
    have HK := hide k
    have HV := hide v
    have HZ := hide z
    have HY := hide (show Apt _ _ _ from ⟨hW.x.1 (hall 4 (by omega)) (hall 7 (by omega)), hW.x.2.1 (hall 4 (by omega)) (hall 10 (by omega)), hW.x.2.2 (hall 7 (by omega)) (hall 10 (by omega))⟩)
    have HB := hide bw
    have HB1 := hide hb1
    clear k v z bw hb1 hW hall H1 H2 H3 hX
    simp only [Act.put, List.setIfInBounds_toArray, List.set_cons_succ, List.set_cons_zero]
    go_wp2
    refine outN1 (p := 2) rfl (by rfl) (by rfl) (unhide HB1) ⟨_, _, _, rfl, ⟨(unhide HK).1, (unhide HV).1, (unhide HZ).1, fun i hi => ?_, fun i hi => ?_, fun i hi => ?_⟩, unhide HY, unhide HB⟩
    · have := (unhide HK).2 i hi; have := unhide HX; omega
    · have := (unhide HV).2 i hi; have := unhide HX; omega
    · have := (unhide HZ).2 i hi; have := unhide HX; omega
end Go.Proofs.YtllialbdofklgaaGreatDoor
