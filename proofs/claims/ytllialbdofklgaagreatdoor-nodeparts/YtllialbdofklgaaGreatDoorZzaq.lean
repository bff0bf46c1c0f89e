import Derived.Test.YtllialbdofklgaaGreatDoorZzao
import Derived.Test.YtllialbdofklgaaGreatDoorRgnd
import Derived.Lib.AppendZerosOnto
namespace Go.Proofs.YtllialbdofklgaaGreatDoor
open Go.RowKit
set_option maxHeartbeats 16000000
set_option maxRecDepth 8000
/-- A node comes out. -/
theorem outN1 {fn : Func} {p : Tmp} {W : World} {a : Act} {Z : Nat} {v0 v1 v2 v3 : Value} {Post : Ending → World → Prop} (hf : fn.results = #[.cell p 25]) (hd : a.defers = []) (ht : a.tmps.getD p undef = .pointer (some ⟨Z, 0, none⟩)) (h : W.heap[Z]? = some (.cells #[v0, v1, v2, v3] 25 (0, 0))) (hp : Post (.returned (.agg #[v0, v1, v2, v3])) W) : bodyPost Tryz.prog fn Post .ret a W := by
  obtain ⟨e0, e1, e2, e3⟩ := box4 h (Below.refl _ _) (lt_of_row h)
  exact bodyPost_ret (results_n1 hf _ _ Z _ _ _ _ ht e0 e1 e2 e3) hd hp
/-- Between two operations of copied's region: base W2, the box A. -/
structure Wc (W2 : World) (A : Nat) (lf : Bool) (ks vs : List Bs) (c : Ch2) (L : Nat → Bool) (W : World) : Prop where
  bel : Below A W2 W
  sz : W2.heap.size ≤ W.heap.size
  k : L 4 = true → W.ownsRow 0 9 1 (.slice c.p1 ks.length c.c1) ks.length (ks.map S) ∧ ∀ i, (Value.slice c.p1 ks.length c.c1).ownBlock = some i → W2.heap.size ≤ i
  v : L 7 = true → W.ownsRow 0 9 1 (.slice c.p2 vs.length c.c2) vs.length (vs.map S) ∧ ∀ i, (Value.slice c.p2 vs.length c.c2).ownBlock = some i → W2.heap.size ≤ i
  d : L 11 = true → L 4 = true ∧ L 7 = true
  e : L 12 = true → L 11 = true
  b0 : L 12 = false → W.heap[A]? = some (.cells #[.bool false, .slice none 0 0, .slice none 0 0, .slice none 0 0] 25 (0, 0))
  b1 : L 12 = true → W.heap[A]? = some (.cells #[.bool lf, .slice c.p1 ks.length c.c1, .slice c.p2 vs.length c.c2, .slice none 0 0] 25 (0, 0))
theorem upd_ne {L : Nat → Bool} {i j : Nat} (h : j ≠ i) : upd L i j = L j := by simp [upd, h]
theorem upd_eq (L : Nat → Bool) (i : Nat) : upd L i i = true := by simp [upd]
theorem Wc.pure {W2 : World} {A : Nat} {lf : Bool} {ks vs : List Bs} {c : Ch2} {L : Nat → Bool} {W : World} (h : Wc W2 A lf ks vs c L W) (i : Nat) (h1 : i ≠ 4) (h2 : i ≠ 7) (h3 : i ≠ 12) (h4 : i = 11 → L 4 = true ∧ L 7 = true) : Wc W2 A lf ks vs c (upd L i) W := by
  refine ⟨h.bel, h.sz, fun q => h.k (by rwa [upd_ne h1.symm] at q), fun q => h.v (by rwa [upd_ne h2.symm] at q), fun q => ?_, fun q => ?_, fun q => h.b0 (by rwa [upd_ne h3.symm] at q), fun q => h.b1 (by rwa [upd_ne h3.symm] at q)⟩
  · rw [upd_ne h1.symm, upd_ne h2.symm]
    by_cases e : i = 11
    · exact h4 e
    · exact h.d (by rwa [upd_ne (Ne.symm e)] at q)
  · by_cases e : i = 11
    · rw [e]; exact upd_eq _ _
    · rw [upd_ne (Ne.symm e)]
      exact h.e (by rwa [upd_ne h3.symm] at q)
theorem Wc.grow {W2 : World} {A : Nat} {lf : Bool} {ks vs : List Bs} {c : Ch2} {L : Nat → Bool} {W W' : World} (h : Wc W2 A lf ks vs c L W) (q : Below W.heap.size W W') (hA : A < W2.heap.size) : Wc W2 A lf ks vs c L W' :=
  ⟨h.bel.trans (q.mono (by have := h.sz; omega)), Nat.le_trans h.sz q.size, fun e => ⟨owns_below (h.k e).1 q, (h.k e).2⟩, fun e => ⟨owns_below (h.v e).1 q, (h.v e).2⟩, h.d, h.e, fun e => (q.block A (by have := h.sz; omega)).trans (h.b0 e), fun e => (q.block A (by have := h.sz; omega)).trans (h.b1 e)⟩
theorem copied_leaf (n : Nd) (ka va : Option Addr) (kc vc : Nat) (w : World) (h : NA n ka va none w) (hb : NB n) (hi : n.kids = []) :
    Calls Tryz.prog 67 #[nda n ka va none kc vc 0] w fun e w' => ∃ vK vV, e = .returned (.agg #[.bool n.leaf, vK, vV, .slice none 0 0]) ∧ w'.ownsRow 0 9 1 vK n.keys.length (n.keys.map S) ∧ w'.ownsRow 0 9 1 vV n.vals.length (n.vals.map S) ∧ (∀ i, vK.ownBlock = some i → w.heap.size ≤ i) ∧ (∀ i, vV.ownBlock = some i → w.heap.size ≤ i) ∧ Below w.heap.size w w' := by
  obtain ⟨lf, ks, vs, is⟩ := n
  simp only at hi
  subst hi
  unfold nda
  simp only [List.length_nil]
  have hA := (Below.refl w.heap.size w).alloc (Nat.le_refl _) (.cells #[.bool lf, .slice ka ks.length kc, .slice va vs.length vc, .slice none 0 0] 25)
  have hg := heap_alloc_new w (.cells #[.bool lf, .slice ka ks.length kc, .slice va vs.length vc, .slice none 0 0] 25)
  have hz := lt_of_row hg
  have hs1 := size_alloc w (.cells #[.bool lf, .slice ka ks.length kc, .slice va vs.length vc, .slice none 0 0] 25)
  generalize hW1 : w.alloc (.cells #[.bool lf, .slice ka ks.length kc, .slice va vs.length vc, .slice none 0 0] 25) = W1 at hA hg hz hs1
  have hA2 := hA.alloc hA.size (.cells #[.bool false, .slice none 0 0, .slice none 0 0, .slice none 0 0] 25)
  have hp := heap_alloc_new W1 (.cells #[.bool false, .slice none 0 0, .slice none 0 0, .slice none 0 0] 25)
  have hg2 := (heap_alloc_old W1 (.cells #[.bool false, .slice none 0 0, .slice none 0 0, .slice none 0 0] 25) hz).trans hg
  have hs2 := size_alloc W1 (.cells #[.bool false, .slice none 0 0, .slice none 0 0, .slice none 0 0] 25)
  generalize hW2 : W1.alloc (.cells #[.bool false, .slice none 0 0, .slice none 0 0, .slice none 0 0] 25) = W2 at hA2 hp hg2 hs2
  have HX := hide (show W1.heap.size = w.heap.size + 1 ∧ W2.heap.size = W1.heap.size + 1 from ⟨hs1, hs2⟩)
  have hna := h.below hA2
  have HSt : ∀ {W : World}, Below W1.heap.size W2 W → Sts W ka ks.length ks ∧ Sts W va vs.length vs := fun {W} q => by
    have b1 : Below W1.heap.size W1 W2 := by rw [← hW2]; exact (Below.refl _ _).alloc (Nat.le_refl _) _
    have b2 := (hA.trans ((b1.trans q).mono (by omega)))
    exact ⟨h.ks.below b2, h.vs.below b2⟩
  have H1 := hide (fun W (q : Below W1.heap.size W2 W) => copiedTexts_any ka ks.length kc ks W (HSt q).1 hb.k hb.kt)
  have H2 := hide (fun W (q : Below W1.heap.size W2 W) => copiedTexts_any va vs.length vc vs W (HSt q).2 hb.v hb.vt)
  have HA2 := hide hA2
  have HP := hide hp
  have HG := hide hg2
  have hz2 : w.heap.size < W2.heap.size := by omega
  obtain ⟨c0, c1, c2, c3⟩ := box4 hg2 (Below.refl _ _) hz2
  clear hA hg hz hs1 hs2 hA2 hp hg2 h hb hna HSt
  go_enter Tryz.func67, Tryz.ntmps67
  go_wp2
  have hX := unhide HX
  refine rcp w.heap.size W1.heap.size ks.length kc vs.length vc ka va lf (by kernel_rfl) (by kernel_rfl) (by kernel_rfl) _ _ (by show 15 ≤ Array.size _; simp) rfl rfl (Wc W2 W1.heap.size lf ks vs) ?_ ?_ ?_ ?_ ?_ ?_ ?_ ?_ ?_ ?_ ?_ ?_
  · exact ⟨⟨none, 0, none, 0, 0, 0⟩, ⟨(Below.refl _ _).drew, Nat.le_refl _, (fun q => nomatch q), (fun q => nomatch q), (fun q => nomatch q), (fun q => nomatch q), fun _ => unhide HP, (fun q => nomatch q)⟩⟩
  · intro i hi c L W hW
    simp only [List.mem_cons, List.not_mem_nil, or_false, not_or] at hi
    exact hW.pure i hi.1 hi.2.1 hi.2.2.2.1 (fun e => absurd e hi.2.2.2.2)
  · intro c L W hW
    exact (box4 (unhide HG) hW.bel (by omega)).1
  · intro c L W hW
    exact (box4 (unhide HG) hW.bel (by omega)).2.1
  · intro c L W hW
    exact (box4 (unhide HG) hW.bel (by omega)).2.2.1
  · intro c L W hW
    exact (box4 (unhide HG) hW.bel (by omega)).2.2.2
  · intro c L W hW h4 h7
    exact hW.pure 11 (by decide) (by decide) (by decide) (fun _ => ⟨h4, h7⟩)
  · intro c L W hW h4
    refine (unhide H1 W hW.bel).mono ?_
    rintro e w' ⟨V, rfl, r, o, b⟩
    obtain ⟨p, cp, rfl⟩ := owns_form r
    have hg := hW.grow b (by omega)
    have h11 : L 11 = false := Bool.eq_false_iff.2 fun q => by rw [(hW.d q).1] at h4; cases h4
    have h12 : L 12 = false := Bool.eq_false_iff.2 fun q => by rw [hW.e q] at h11; cases h11
    refine ⟨{ c with p1 := p, c1 := cp }, fun j hj => ?_, rfl, hg.bel, hg.sz, fun _ => ⟨r, fun i hi => Nat.le_trans hW.sz (o i hi)⟩, fun q => hg.v (by rwa [upd_ne (by decide)] at q), fun q => ?_, fun q => ?_, fun q => hg.b0 h12, fun q => ?_⟩
    · unfold vcp
      split <;> first | rfl | (rw [h4] at hj; cases hj) | (rw [h11] at hj; cases hj)
    · rw [upd_ne (by decide), h11] at q; cases q
    · rw [upd_ne (by decide), h12] at q; cases q
    · rw [upd_ne (by decide), h12] at q; cases q
  · intro c L W hW h7
    refine (unhide H2 W hW.bel).mono ?_
    rintro e w' ⟨V, rfl, r, o, b⟩
    obtain ⟨p, cp, rfl⟩ := owns_form r
    have hg := hW.grow b (by omega)
    have h11 : L 11 = false := Bool.eq_false_iff.2 fun q => by rw [(hW.d q).2] at h7; cases h7
    have h12 : L 12 = false := Bool.eq_false_iff.2 fun q => by rw [hW.e q] at h11; cases h11
    refine ⟨{ c with p2 := p, c2 := cp }, fun j hj => ?_, rfl, hg.bel, hg.sz, fun q => hg.k (by rwa [upd_ne (by decide)] at q), fun _ => ⟨r, fun i hi => Nat.le_trans hW.sz (o i hi)⟩, fun q => ?_, fun q => ?_, fun q => hg.b0 h12, fun q => ?_⟩
    · unfold vcp
      split <;> first | rfl | (rw [h7] at hj; cases hj) | (rw [h11] at hj; cases hj)
    · rw [upd_ne (by decide), h11] at q; cases q
    · rw [upd_ne (by decide), h12] at q; cases q
    · rw [upd_ne (by decide), h12] at q; cases q
  · intro c L W hW h10
    refine (cloneI_nil W).mono ?_
    rintro e w' ⟨rfl, rfl⟩
    exact ⟨rfl, hW.pure 10 (by decide) (by decide) (by decide) (fun e => nomatch e)⟩
  · intro c L W hW h12 h11
    have hb0 := hW.b0 h12
    have o4 := set4_only W W1.heap.size (.bool lf) (.slice c.p1 ks.length c.c1) (.slice c.p2 vs.length c.c2) (.slice none 0 0)
    have r4 := set4 hb0 rfl (.bool lf) (.slice c.p1 ks.length c.c1) (.slice c.p2 vs.length c.c2) (.slice none 0 0)
    refine ⟨⟨o4.below hW.bel (by have := hW.sz; omega) (fun k e => by omega), Nat.le_trans hW.sz o4.size, fun q => ?_, fun q => ?_, fun _ => hW.d h11, fun _ => by rw [upd_ne (by decide)]; exact h11, fun q => ?_, fun _ => r4⟩, hb0⟩
    · rw [upd_ne (by decide)] at q
      exact ⟨owns_only (hW.k q).1 o4 (fun i hi e => by have := (hW.k q).2 i hi; omega), (hW.k q).2⟩
    · rw [upd_ne (by decide)] at q
      exact ⟨owns_only (hW.v q).1 o4 (fun i hi e => by have := (hW.v q).2 i hi; omega), (hW.v q).2⟩
    · rw [upd_eq] at q; cases q
  · intro c L W hall hW
    have k := hW.k (hall 4 (by omega))
    have v := hW.v (hall 7 (by omega))
    have hA := unhide HA2
    have bw : Below w.heap.size w W := hA.trans (hW.bel.mono (by omega))
    have hb1 := hW.b1 (hall 12 (by omega))
    have hz := lt_of_row hb1
    have HK := hide k
    have HV := hide v
    have HB := hide bw
    have HB1 := hide hb1
    clear k v hA bw hb1 hW hall
    simp only [Act.put, List.setIfInBounds_toArray, List.set_cons_succ, List.set_cons_zero]
    clear H1 H2 c0 c1 c2 c3
    go_wp2
    refine outN1 (p := 2) rfl (by rfl) (by rfl) (unhide HB1) ⟨_, _, rfl, (unhide HK).1, (unhide HV).1, fun i hi => ?_, fun i hi => ?_, unhide HB⟩
    · have := (unhide HK).2 i hi; omega
    · have := (unhide HV).2 i hi; omega
end Go.Proofs.YtllialbdofklgaaGreatDoor
namespace Go.Proofs.YtllialbdofklgaaGreatDoor
open Go.RowKit
set_option maxHeartbeats 8000000
set_option maxRecDepth 8000
theorem zero9 (k : Nat) : (Builtin.zeroCells (Value.string ⟨#[]⟩).cells k).size = k := by
  simp [Builtin.zeroCells, Value.cells]
theorem wp_gz {ops : Array Oper} {rest : List Oper} {o : Oper} {a : Act} {Q : Exit → Act → World → Prop} {w w1 : World} {v : Value} {n : Nat} (hgd : o.guard = none) (s x : Operand) (ho : o.op = .call { callee := .builtin .append, args := #[s, x], argTypes := #[22, 3] })
    (hs : a.eval s = .slice none 0 0) (hx : a.eval x = I n) (hr : ∀ ty, (Builtin.append_ #[22, 3] ty #[.slice none 0 0, I n]).run Tryz.prog w = .ok v w1) (h : wpList Tryz.prog ops Q rest (a.put o.dst v) w1) : wpList Tryz.prog ops Q (o :: rest) a w := by
  refine wpList_plain hgd fun K hK => ?_
  unfold Oper.wp execOp
  simp only [ho, resolve, invoke, builtin, Sem.run_bind, Sem.run_pure, Result.andThen_ok, List.map_toArray, List.map_cons, List.map_nil, hs, hx, hr]
  exact hK _ _ h
/-- slices.Grow of nil. -/
theorem grow_nil (n : Nat) (w : World) (hn : n ≤ 4294967296) :
    Calls Tryz.prog 126 #[.slice none 0 0, I n] w fun e w' => ∃ V, e = .returned V ∧ w'.ownsRow 0 9 1 V 0 [] ∧ (∀ k, V.ownBlock = some k → w.heap.size ≤ k) ∧ Below w.heap.size w w' := by
  by_cases h0 : n = 0
  · subst h0
    go_enter Tryz.func126, Tryz.ntmps126
    go_wp2
    go_ret
    exact ⟨_, rfl, owns_nil _ _ _, (fun k hk => nomatch hk), Below.refl _ _⟩
  · obtain ⟨i0, hi0, hz0, hz1, hz2⟩ := info_parts info9
    have hold : (Builtin.firstCells i0.size 0 (.slice none 0 0)).run Tryz.prog w.drew = .ok ([] : List Value).toArray w.drew := by
      simp [Builtin.firstCells]
    have hr0 := fun ty => Lib.run_append_grow_zeros w 22 3 ty 9 i0 _ .i64 .i64 Tryz.underlying22 Tryz.underlying3 hi0 hz0 none 0 0 [] hold n (by omega) (by rw [hz1]; omega) (by omega) (by omega) (by rw [hz2]; omega) (by rw [hz2, Nat.zero_add, nextslicecap_zero (by omega)]; omega)
    simp only [Nat.zero_add] at hr0
    have hG1 := grownCap_ge w n 0 9
    have hG2 := grownCap_le_maxLen w n 0 9 (by unfold maxLen; omega)
    generalize grownCap w n 0 9 = G at *
    have hG3 : G ≤ 9223372036854775807 := by unfold maxLen at hG2; omega
    obtain ⟨ROW, hROW⟩ : ∃ ROW : Array Value, ROW = ([] : List Value).toArray ++ Builtin.zeroCells (Value.string ⟨#[]⟩).cells n ++ Builtin.zeroCells (Value.string ⟨#[]⟩).cells (G - n) := ⟨_, rfl⟩
    simp only [← hROW] at hr0
    have hRs : ROW.size = G * 1 := by
      rw [hROW]
      simp only [Array.size_append, zero9, List.size_toArray, List.length_nil]
      omega
    obtain ⟨w1, e1⟩ : ∃ w1, w1 = w.drew.alloc (.cells ROW 9) := ⟨_, rfl⟩
    simp only [← e1] at hr0
    have HR0 := hide hr0
    clear hr0
    have B1 : Below w.heap.size w w1 := by rw [e1]; exact (Below.refl _ _).drew.alloc (Nat.le_refl _) _
    have hg1 : w1.heap[w.heap.size]? = some (.cells ROW 9 (0, 0)) := by rw [e1]; exact heap_alloc_new w.drew _
    have HO : Hid (w1.ownsRow 0 9 1 (.slice (some ⟨w.heap.size, 0, none⟩) 0 G) 0 []) := ⟨rfl, .inr ⟨w.heap.size, G, ROW, rfl, Nat.zero_le _, hg1, Nat.zero_le _, hG2, hRs, rfl⟩⟩
    have HB := hide B1
    have hn' : (0 : Int) < (n : Int) := by omega
    clear hold hROW hRs e1 B1 hg1 hG2
    go_enter Tryz.func126, Tryz.ntmps126
    go_wp2_with (at_builtin; refine wp_gz (n := n) rfl (.tmp 20) (.tmp 21) rfl (by rfl) (by rfl) (unhide HR0) ?_)
    go_ret
    exact ⟨_, rfl, unhide HO, fun k hk => by cases hk; exact Nat.le_refl _, unhide HB⟩
/-- Texts behind a row of one's own. -/
theorem wp_appS {ops : Array Oper} {rest : List Oper} {o : Oper} {a : Act} {Q : Exit → Act → World → Prop} {w : World} (hgd : o.guard = none) (s x : Operand) (ho : o.op = .call { callee := .builtin .append, args := #[s, x], argTypes := #[22, 22] })
    (v : Value) (n : Nat) (l : List Bs) (hs : a.eval s = v) (hown : w.ownsRow 0 9 1 v n (l.map S)) (g q m c : Nat) (u : List Bs) (hu : Sts w (some ⟨g, q, none⟩) m u) (hx : a.eval x = .slice (some ⟨g, q, none⟩) m c) (hl : n + m ≤ 8589934592) 
    (h : ∀ p cap w', w'.ownsRow 0 9 1 (.slice p (n + m) cap) (n + m) ((l ++ u).map S) → Only (fun k => v.ownBlock = some k) w w' → (∀ k, (Value.slice p (n + m) cap).ownBlock = some k → v.ownBlock = some k ∨ w.heap.size ≤ k) → wpList Tryz.prog ops Q rest (a.put o.dst (.slice p (n + m) cap)) w') :
    wpList Tryz.prog ops Q (o :: rest) a w := by
  obtain ⟨i0, hi, hz0, hz1, hz2⟩ := info_parts info9
  obtain ⟨v', w', hr, h2, h3, _, h5⟩ := run_append_own_at (P := Tryz.prog) w 0 22 o.type 9 i0 (.string ⟨#[]⟩) 1 16 Tryz.underlying22 hi hz0 hz1 hz2 rfl (by decide) v n (l.map S) hown ⟨g, q, none⟩ m c (u.map S) (by rw [List.length_map, ← hu.1]; omega) (fun j z hj => by
      rw [add_off]
      obtain ⟨hj1, hj2⟩ := List.getElem?_eq_some_iff.1 hj
      rw [List.length_map] at hj1
      obtain ⟨p, o, e, hcs⟩ := hu.2 (by rw [hu.1]; omega)
      cases e
      rw [hcs j (by rw [hu.1]; exact hj1), ← hj2, List.getElem_map, List.getD_eq_getElem?_getD, List.getElem?_eq_getElem hj1]
      rfl) (by intro z hz; obtain ⟨y, _, rfl⟩ := List.mem_map.1 hz; rfl) (by unfold maxLen; omega) (by omega) (Nat.zero_le _)
  rw [← List.map_append] at h2
  obtain ⟨p, cap, rfl⟩ := owns_form h2
  refine wpList_plain hgd fun K hK => ?_
  unfold Oper.wp execOp
  simp only [ho, resolve, invoke, builtin, Sem.run_bind, Sem.run_pure, Result.andThen_ok, List.map_toArray, List.map_cons, List.map_nil, hs, hx, hr]
  refine hK _ _ (h p cap w' h2 (Only.of_grown h3) ?_)
  intro k hk
  rcases h5 with h5 | h5
  · left; rw [← h5]; exact hk
  · right; rw [hk] at h5; have := Option.some.inj h5; omega
/-- slices.Concat of two rows of texts. -/
theorem concat2 (g g1 o1 n1 c1 g2 o2 n2 c2 : Nat) (l1 l2 : List Bs) (w : World) (hg : w.heap[g]? = some (.cells #[.slice (some ⟨g1, o1, none⟩) n1 c1, .slice (some ⟨g2, o2, none⟩) n2 c2] 22 (0, 0)))
    (h1 : Sts w (some ⟨g1, o1, none⟩) n1 l1) (h2 : Sts w (some ⟨g2, o2, none⟩) n2 l2) (b1 : n1 ≤ 2147483648) (b2 : n2 ≤ 2147483648) :
    Calls Tryz.prog 105 #[.slice (some ⟨g, 0, none⟩) 2 2] w fun e w' => ∃ V, e = .returned V ∧ w'.ownsRow 0 9 1 V (n1 + n2) ((l1 ++ l2).map S) ∧ (∀ k, V.ownBlock = some k → w.heap.size ≤ k) ∧ Below w.heap.size w w' := by
  have k0 : w.cell? ⟨g, 0, none⟩ = some (.slice (some ⟨g1, o1, none⟩) n1 c1) := by rw [cell_of_row w g 0 _ 22 (0, 0) hg]; rfl
  have k1 : w.cell? ⟨g, 1, none⟩ = some (.slice (some ⟨g2, o2, none⟩) n2 c2) := by rw [cell_of_row w g 1 _ 22 (0, 0) hg]; rfl
  have hgl := lt_of_row hg
  have HG := hide hg
  have S1 := hide h1
  have S2 := hide h2
  have H0 := hide (grow_nil (n1 + n2) w (by omega))
  clear h1 h2 hg
  go_enter Tryz.func105, Tryz.ntmps105
  go_wp2
  go_loopw [3, 11] (fun s i wr => ∃ k : Nat, k ≤ 2 ∧ i = .int .i64 k ∧ s = .int .i64 ((if k = 0 then 0 else if k = 1 then n1 else n1 + n2 : Nat) : Int) ∧ wr = w) (fun _ i _ => 2 - (Go.RowKit.intOf i).toNat)
  case atStart => exact ⟨0, by omega, rfl, rfl, rfl⟩
  case round =>
    obtain ⟨k, hk, rfl, rfl, rfl⟩ := hrel
    match k, hk with
    | 0, _ =>
      simp only [if_true]
      go_wp2
      go_round
      case measure => simp [Go.RowKit.intOf]
      case rel => exact ⟨1, by omega, by simp, by simp, by first | trivial | rfl⟩
    | 1, _ =>
      simp only [if_true, Nat.one_ne_zero, if_false]
      go_wp2
      go_round
      case measure => simp [Go.RowKit.intOf]
      case rel => exact ⟨2, by omega, by simp, by simp, by first | trivial | rfl⟩
    | 2, _ =>
      simp only [show (2 : Nat) = 0 ↔ False by decide, show (2 : Nat) = 1 ↔ False by decide, if_false]
      go_wp2_with fail
      refine (unhide H0).mono ?_
      rintro e w2 ⟨V, rfl, r2, o2', b2'⟩
      have HR := hide r2
      have HV := hide o2'
      have HB := hide b2'
      clear r2 o2' b2' H0
      go_wp2
      go_loopw [6, 27] (fun v i W => ∃ k : Nat, k ≤ 2 ∧ i = .int .i64 k ∧ W.ownsRow 0 9 1 v (if k = 0 then 0 else if k = 1 then n1 else n1 + n2) ((if k = 0 then [] else if k = 1 then l1 else l1 ++ l2 : List Bs).map S) ∧ (∀ j, v.ownBlock = some j → wr.heap.size ≤ j) ∧ Below wr.heap.size wr W) (fun _ i _ => 2 - (Go.RowKit.intOf i).toNat)
      case atStart => exact ⟨0, by omega, rfl, unhide HR, unhide HV, unhide HB⟩
      case round =>
        clear HR HV HB
        obtain ⟨k, hk, rfl, hr, hv, hb⟩ := hrel
        have HB := hide hb
        have HV := hide hv
        match k, hk with
        | 0, _ =>
          simp only [if_true] at hr
          obtain ⟨p, c, rfl⟩ := owns_form hr
          have HR := hide hr
          have k0' := (hb.cell hgl).trans k0
          have T1 := hide ((unhide S1).below hb)
          have hgl' := Nat.lt_of_lt_of_le hgl hb.size
          clear hr hv hb
          go_wp2_with (at_builtin; refine wp_appS rfl (.tmp 31) (.tmp 32) rfl (.slice p 0 c) 0 [] (by rfl) (unhide HR) g1 o1 n1 c1 l1 (unhide T1) (by rfl) (by omega) ?_; intro p3 c3 w3 r3 o3 n3; have HR3 := hide r3; have HO3 := hide o3; have HN3 := hide n3; clear r3 o3 n3)
          go_round
          case measure => simp [Go.RowKit.intOf]
          case rel =>
            refine ⟨1, by omega, by simp, by simpa using unhide HR3, fun j hj => ?_, (unhide HO3).below (unhide HB) (unhide HB).size (fun j hj => unhide HV j hj)⟩
            rcases unhide HN3 j (by rw [Nat.zero_add]; exact hj) with q | q
            · exact unhide HV j q
            · exact Nat.le_trans (unhide HB).size q
        | 1, _ =>
          simp only [if_true, Nat.one_ne_zero, if_false] at hr
          obtain ⟨p, c, rfl⟩ := owns_form hr
          have HR := hide hr
          have k1' := (hb.cell hgl).trans k1
          have T1 := hide ((unhide S2).below hb)
          have hgl' := Nat.lt_of_lt_of_le hgl hb.size
          clear hr hv hb
          go_wp2_with (at_builtin; refine wp_appS rfl (.tmp 31) (.tmp 32) rfl (.slice p n1 c) n1 l1 (by rfl) (unhide HR) g2 o2 n2 c2 l2 (unhide T1) (by rfl) (by omega) ?_; intro p3 c3 w3 r3 o3 n3; have HR3 := hide r3; have HO3 := hide o3; have HN3 := hide n3; clear r3 o3 n3)
          go_round
          case measure => simp [Go.RowKit.intOf]
          case rel =>
            refine ⟨2, by omega, by simp, unhide HR3, fun j hj => ?_, (unhide HO3).below (unhide HB) (unhide HB).size (fun j hj => unhide HV j hj)⟩
            rcases unhide HN3 j hj with q | q
            · exact unhide HV j q
            · exact Nat.le_trans (unhide HB).size q
        | 2, _ =>
          simp only [show (2 : Nat) = 0 ↔ False by decide, show (2 : Nat) = 1 ↔ False by decide, if_false] at hr
          have HR := hide hr
          clear hr hv hb
          go_wp2
          go_ret
          exact ⟨_, rfl, unhide HR, unhide HV, unhide HB⟩
end Go.Proofs.YtllialbdofklgaaGreatDoor
