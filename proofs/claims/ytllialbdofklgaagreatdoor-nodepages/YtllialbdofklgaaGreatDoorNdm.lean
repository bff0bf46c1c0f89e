import Derived.Test.YtllialbdofklgaaGreatDoorZndg
import Derived.Test.YtllialbdofklgaaGreatDoorZrgnd
namespace Go.Proofs.YtllialbdofklgaaGreatDoor
open Go.RowKit
set_option maxHeartbeats 16000000
set_option maxRecDepth 8000
/-- A node comes out. -/
theorem outN1 {fn : Func} {p : Tmp} {W : World} {a : Act} {Z : Nat} {v0 v1 v2 v3 : Value} {Post : Ending → World → Prop} (hf : fn.results = #[.cell p 25]) (hd : a.defers = []) (ht : a.tmps.getD p undef = .pointer (some ⟨Z, 0, none⟩)) (h : W.heap[Z]? = some (.cells #[v0, v1, v2, v3] 25 (0, 0))) (hp : Post (.returned (.agg #[v0, v1, v2, v3])) W) : bodyPost Tryz.prog fn Post .ret a W := by
  obtain ⟨e0, e1, e2, e3⟩ := box4 h (Below.refl _ _) (lt_of_row h)
  exact bodyPost_ret (results_n1 hf _ _ Z _ _ _ _ ht e0 e1 e2 e3) hd hp
/-- Between two operations of copied's region: base W2, the box A. -/
structure Wc (W2 : World) (A : Nat) (lf : Bool) (ks vs : List Bs) (c : Ch2) (L : Nat → Bool) (W : World) : Prop where
  bel : Below A W2 W
  sz : W2.heap.size ≤ W.heap.size
  k : L 4 = true → W.ownsRow 0 9 1 (.slice c.p1 ks.length c.c1) ks.length (ks.map S) ∧ ∀ i, (Value.slice c.p1 ks.length c.c1).ownBlock = some i → W2.heap.size ≤ i
  v : L 7 = true → W.ownsRow 0 9 1 (.slice c.p2 vs.length c.c2) vs.length (vs.map S) ∧ ∀ i, (Value.slice c.p2 vs.length c.c2).ownBlock = some i → W2.heap.size ≤ i
  d : L 11 = true → L 4 = true ∧ L 7 = true
  e : L 12 = true → L 11 = true
  b0 : L 12 = false → W.heap[A]? = some (.cells #[.bool false, .slice none 0 0, .slice none 0 0, .slice none 0 0] 25 (0, 0))
  b1 : L 12 = true → W.heap[A]? = some (.cells #[.bool lf, .slice c.p1 ks.length c.c1, .slice c.p2 vs.length c.c2, .slice none 0 0] 25 (0, 0))
theorem upd_ne {L : Nat → Bool} {i j : Nat} (h : j ≠ i) : upd L i j = L j := by simp [upd, h]
theorem upd_eq (L : Nat → Bool) (i : Nat) : upd L i i = true := by simp [upd]
theorem Wc.pure {W2 : World} {A : Nat} {lf : Bool} {ks vs : List Bs} {c : Ch2} {L : Nat → Bool} {W : World} (h : Wc W2 A lf ks vs c L W) (i : Nat) (h1 : i ≠ 4) (h2 : i ≠ 7) (h3 : i ≠ 12) (h4 : i = 11 → L 4 = true ∧ L 7 = true) : Wc W2 A lf ks vs c (upd L i) W := by
  refine ⟨h.bel, h.sz, fun q => h.k (by rwa [upd_ne h1.symm] at q), fun q => h.v (by rwa [upd_ne h2.symm] at q), fun q => ?_, fun q => ?_, fun q => h.b0 (by rwa [upd_ne h3.symm] at q), fun q => h.b1 (by rwa [upd_ne h3.symm] at q)⟩
  · rw [upd_ne h1.symm, upd_ne h2.symm]
    by_cases e : i = 11
    · exact h4 e
    · exact h.d (by rwa [upd_ne (Ne.symm e)] at q)
  · by_cases e : i = 11
    · rw [e]; exact upd_eq _ _
    · rw [upd_ne (Ne.symm e)]
      exact h.e (by rwa [upd_ne h3.symm] at q)
theorem Wc.grow {W2 : World} {A : Nat} {lf : Bool} {ks vs : List Bs} {c : Ch2} {L : Nat → Bool} {W W' : World} (h : Wc W2 A lf ks vs c L W) (q : Below W.heap.size W W') (hA : A < W2.heap.size) : Wc W2 A lf ks vs c L W' :=
  ⟨h.bel.trans (q.mono (by have := h.sz; omega)), Nat.le_trans h.sz q.size, fun e => ⟨owns_below (h.k e).1 q, (h.k e).2⟩, fun e => ⟨owns_below (h.v e).1 q, (h.v e).2⟩, h.d, h.e, fun e => (q.block A (by have := h.sz; omega)).trans (h.b0 e), fun e => (q.block A (by have := h.sz; omega)).trans (h.b1 e)⟩
theorem copied_leaf (n : Nd) (ka va : Option Addr) (kc vc : Nat) (w : World) (h : NA n ka va none w) (hb : NB n) (hi : n.kids = []) :
    Calls Tryz.prog 67 #[nda n ka va none kc vc 0] w fun e w' => ∃ vK vV, e = .returned (.agg #[.bool n.leaf, vK, vV, .slice none 0 0]) ∧ w'.ownsRow 0 9 1 vK n.keys.length (n.keys.map S) ∧ w'.ownsRow 0 9 1 vV n.vals.length (n.vals.map S) ∧ (∀ i, vK.ownBlock = some i → w.heap.size ≤ i) ∧ (∀ i, vV.ownBlock = some i → w.heap.size ≤ i) ∧ Below w.heap.size w w' := by
  obtain ⟨lf, ks, vs, is⟩ := n
  simp only at hi
  subst hi
  unfold nda
  simp only [List.length_nil]
  have hA := (Below.refl w.heap.size w).alloc (Nat.le_refl _) (.cells #[.bool lf, .slice ka ks.length kc, .slice va vs.length vc, .slice none 0 0] 25)
  have hg := heap_alloc_new w (.cells #[.bool lf, .slice ka ks.length kc, .slice va vs.length vc, .slice none 0 0] 25)
  have hz := lt_of_row hg
  have hs1 := size_alloc w (.cells #[.bool lf, .slice ka ks.length kc, .slice va vs.length vc, .slice none 0 0] 25)
  generalize hW1 : w.alloc (.cells #[.bool lf, .slice ka ks.length kc, .slice va vs.length vc, .slice none 0 0] 25) = W1 at hA hg hz hs1
  have hA2 := hA.alloc hA.size (.cells #[.bool false, .slice none 0 0, .slice none 0 0, .slice none 0 0] 25)
  have hp := heap_alloc_new W1 (.cells #[.bool false, .slice none 0 0, .slice none 0 0, .slice none 0 0] 25)
  have hg2 := (heap_alloc_old W1 (.cells #[.bool false, .slice none 0 0, .slice none 0 0, .slice none 0 0] 25) hz).trans hg
  have hs2 := size_alloc W1 (.cells #[.bool false, .slice none 0 0, .slice none 0 0, .slice none 0 0] 25)
  generalize hW2 : W1.alloc (.cells #[.bool false, .slice none 0 0, .slice none 0 0, .slice none 0 0] 25) = W2 at hA2 hp hg2 hs2
  have HX := hide (show W1.heap.size = w.heap.size + 1 ∧ W2.heap.size = W1.heap.size + 1 from ⟨hs1, hs2⟩)
  have hna := h.below hA2
  have HSt : ∀ {W : World}, Below W1.heap.size W2 W → Sts W ka ks.length ks ∧ Sts W va vs.length vs := fun {W} q => by
    have b1 : Below W1.heap.size W1 W2 := by rw [← hW2]; exact (Below.refl _ _).alloc (Nat.le_refl _) _
    have b2 := (hA.trans ((b1.trans q).mono (by omega)))
    exact ⟨h.ks.below b2, h.vs.below b2⟩
  have H1 := hide (fun W (q : Below W1.heap.size W2 W) => copiedTexts_any ka ks.length kc ks W (HSt q).1 hb.k hb.kt)
  have H2 := hide (fun W (q : Below W1.heap.size W2 W) => copiedTexts_any va vs.length vc vs W (HSt q).2 hb.v hb.vt)
  have HA2 := hide hA2
  have HP := hide hp
  have HG := hide hg2
  have hz2 : w.heap.size < W2.heap.size := by omega
  obtain ⟨c0, c1, c2, c3⟩ := box4 hg2 (Below.refl _ _) hz2
  clear hA hg hz hs1 hs2 hA2 hp hg2 h hb hna HSt
  go_enter Tryz.func67, Tryz.ntmps67
  go_wp2
  have hX := unhide HX
  refine rcp w.heap.size W1.heap.size ks.length kc vs.length vc ka va lf (by kernel_rfl) (by kernel_rfl) (by kernel_rfl) _ _ (by show 15 ≤ Array.size _; simp) rfl rfl (Wc W2 W1.heap.size lf ks vs) ?_ ?_ ?_ ?_ ?_ ?_ ?_ ?_ ?_ ?_ ?_ ?_
  · exact ⟨⟨none, 0, none, 0, 0, 0⟩, ⟨(Below.refl _ _).drew, Nat.le_refl _, (fun q => nomatch q), (fun q => nomatch q), (fun q => nomatch q), (fun q => nomatch q), fun _ => unhide HP, (fun q => nomatch q)⟩⟩
  · intro i hi c L W hW
    simp only [List.mem_cons, List.not_mem_nil, or_false, not_or] at hi
    exact hW.pure i hi.1 hi.2.1 hi.2.2.2.1 (fun e => absurd e hi.2.2.2.2)
  · intro c L W hW
    exact (box4 (unhide HG) hW.bel (by omega)).1
  · intro c L W hW
    exact (box4 (unhide HG) hW.bel (by omega)).2.1
  · intro c L W hW
    exact (box4 (unhide HG) hW.bel (by omega)).2.2.1
  · intro c L W hW
    exact (box4 (unhide HG) hW.bel (by omega)).2.2.2
  · intro c L W hW h4 h7
    exact hW.pure 11 (by decide) (by decide) (by decide) (fun _ => ⟨h4, h7⟩)
  · intro c L W hW h4
    refine (unhide H1 W hW.bel).mono ?_
    rintro e w' ⟨V, rfl, r, o, b⟩
    obtain ⟨p, cp, rfl⟩ := owns_form r
    have hg := hW.grow b (by omega)
    have h11 : L 11 = false := Bool.eq_false_iff.2 fun q => by rw [(hW.d q).1] at h4; cases h4
    have h12 : L 12 = false := Bool.eq_false_iff.2 fun q => by rw [hW.e q] at h11; cases h11
    refine ⟨{ c with p1 := p, c1 := cp }, fun j hj => ?_, rfl, hg.bel, hg.sz, fun _ => ⟨r, fun i hi => Nat.le_trans hW.sz (o i hi)⟩, fun q => hg.v (by rwa [upd_ne (by decide)] at q), fun q => ?_, fun q => ?_, fun q => hg.b0 h12, fun q => ?_⟩
    · unfold vcp
      split <;> first | rfl | (rw [h4] at hj; cases hj) | (rw [h11] at hj; cases hj)
    · rw [upd_ne (by decide), h11] at q; cases q
    · rw [upd_ne (by decide), h12] at q; cases q
    · rw [upd_ne (by decide), h12] at q; cases q
  · intro c L W hW h7
    refine (unhide H2 W hW.bel).mono ?_
    rintro e w' ⟨V, rfl, r, o, b⟩
    obtain ⟨p, cp, rfl⟩ := owns_form r
    have hg := hW.grow b (by omega)
    have h11 : L 11 = false := Bool.eq_false_iff.2 fun q => by rw [(hW.d q).2] at h7; cases h7
    have h12 : L 12 = false := Bool.eq_false_iff.2 fun q => by rw [hW.e q] at h11; cases h11
    refine ⟨{ c with p2 := p, c2 := cp }, fun j hj => ?_, rfl, hg.bel, hg.sz, fun q => hg.k (by rwa [upd_ne (by decide)] at q), fun _ => ⟨r, fun i hi => Nat.le_trans hW.sz (o i hi)⟩, fun q => ?_, fun q => ?_, fun q => hg.b0 h12, fun q => ?_⟩
    · unfold vcp
      split <;> first | rfl | (rw [h7] at hj; cases hj) | (rw [h11] at hj; cases hj)
    · rw [upd_ne (by decide), h11] at q; cases q
    · rw [upd_ne (by decide), h12] at q; cases q
    · rw [upd_ne (by decide), h12] at q; cases q
  · intro c L W hW h10
    refine (cloneI_nil W).mono ?_
    rintro e w' ⟨rfl, rfl⟩
    exact ⟨rfl, hW.pure 10 (by decide) (by decide) (by decide) (fun e => nomatch e)⟩
  · intro c L W hW h12 h11
    have hb0 := hW.b0 h12
    have o4 := set4_only W W1.heap.size (.bool lf) (.slice c.p1 ks.length c.c1) (.slice c.p2 vs.length c.c2) (.slice none 0 0)
    have r4 := set4 hb0 rfl (.bool lf) (.slice c.p1 ks.length c.c1) (.slice c.p2 vs.length c.c2) (.slice none 0 0)
    refine ⟨⟨o4.below hW.bel (by have := hW.sz; omega) (fun k e => by omega), Nat.le_trans hW.sz o4.size, fun q => ?_, fun q => ?_, fun _ => hW.d h11, fun _ => by rw [upd_ne (by decide)]; exact h11, fun q => ?_, fun _ => r4⟩, hb0⟩
    · rw [upd_ne (by decide)] at q
      exact ⟨owns_only (hW.k q).1 o4 (fun i hi e => by have := (hW.k q).2 i hi; omega), (hW.k q).2⟩
    · rw [upd_ne (by decide)] at q
      exact ⟨owns_only (hW.v q).1 o4 (fun i hi e => by have := (hW.v q).2 i hi; omega), (hW.v q).2⟩
    · rw [upd_eq] at q; cases q
  · intro c L W hall hW
    have k := hW.k (hall 4 (by omega))
    have v := hW.v (hall 7 (by omega))
    have hA := unhide HA2
    have bw : Below w.heap.size w W := hA.trans (hW.bel.mono (by omega))
    have hb1 := hW.b1 (hall 12 (by omega))
    have hz := lt_of_row hb1
    have HK := hide k
    have HV := hide v
    have HB := hide bw
    have HB1 := hide hb1
    clear k v hA bw hb1 hW hall
    simp only [Act.put, List.setIfInBounds_toArray, List.set_cons_succ, List.set_cons_zero]
    clear H1 H2 c0 c1 c2 c3
    go_wp2
    refine outN1 (p := 2) rfl (by rfl) (by rfl) (unhide HB1) ⟨_, _, rfl, (unhide HK).1, (unhide HV).1, fun i hi => ?_, fun i hi => ?_, unhide HB⟩
    · have := (unhide HK).2 i hi; omega
    · have := (unhide HV).2 i hi; omega
end Go.Proofs.YtllialbdofklgaaGreatDoor
