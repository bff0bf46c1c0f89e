import Derived.Test.YtjopnhhdemfniaaGreatDoorZqbe
import Derived.Test.YtjopnhhdemfniaaGreatDoorZrgpn
import Derived.Deep.CutRange
import Derived.Deep.CutBlock
/- One page out of a list in its place, in a drawn region. -/
namespace Go.Proofs.YtjopnhhdemfniaaGreatDoor
open Go.RowKit
set_option maxHeartbeats 4000000
theorem upd_tr {L : Nat → Bool} {j : Nat} (i : Nat) (h : L j = true) : upd L i j = true := by
  by_cases e : j = i
  · rw [e]; exact upd_self _ _
  · rw [upd_ne e]; exact h
structure Dl7 (w0 : World) (g n cap : Nat) (E : List Pv) (c : Value) (L : Nat → Bool) (W : World) : Prop where
  p0 : L 2 = true → L 0 = true
  p3 : L 6 = true → L 3 = true
  p7 : L 7 = true → L 2 = true ∧ L 6 = true ∧ c = .slice (some ⟨g, 0, none⟩) (n - 1) cap ∧ W.ownsRow 0 24 5 c (n - 1) (pvs E) ∧ Only (fun q => q = g) w0 W
  p8 : L 8 = true → L 7 = true
  pn : L 7 = false → W = w0.drew
variable {w0 : World} {g n cap : Nat} {E : List Pv} {c : Value} {L : Nat → Bool} {W : World}
theorem Dl7.start (w0 : World) (g n cap : Nat) (E : List Pv) : Dl7 w0 g n cap E undef (fun _ => false) w0.drew :=
  ⟨(fun q => nomatch q), (fun q => nomatch q), (fun q => nomatch q), (fun q => nomatch q), fun _ => rfl⟩
theorem Dl7.pure (h : Dl7 w0 g n cap E c L W) {i : Nat} (h2 : i ≠ 2) (h6 : i ≠ 6) (h7 : i ≠ 7) (h8 : i ≠ 8) : Dl7 w0 g n cap E c (upd L i) W := by
  refine ⟨?_, ?_, ?_, ?_, ?_⟩
  · rw [upd_ne (Ne.symm h2)]; exact fun q => upd_tr i (h.p0 q)
  · rw [upd_ne (Ne.symm h6)]; exact fun q => upd_tr i (h.p3 q)
  · rw [upd_ne (Ne.symm h7), upd_ne (Ne.symm h2), upd_ne (Ne.symm h6)]; exact h.p7
  · rw [upd_ne (Ne.symm h7), upd_ne (Ne.symm h8)]; exact h.p8
  · rw [upd_ne (Ne.symm h7)]; exact h.pn
theorem Dl7.two (h : Dl7 w0 g n cap E c L W) (hl : L 0 = true) : Dl7 w0 g n cap E c (upd L 2) W := by
  refine ⟨fun _ => upd_tr 2 hl, ?_, ?_, ?_, ?_⟩
  · rw [upd_ne (by decide), upd_ne (by decide)]; exact h.p3
  · rw [upd_ne (by decide), upd_self, upd_ne (by decide)]; exact fun q => ⟨rfl, (h.p7 q).2⟩
  · rw [upd_ne (by decide), upd_ne (by decide)]; exact h.p8
  · rw [upd_ne (by decide)]; exact h.pn
theorem Dl7.six (h : Dl7 w0 g n cap E c L W) (hl : L 3 = true) : Dl7 w0 g n cap E c (upd L 6) W := by
  refine ⟨?_, fun _ => upd_tr 6 hl, ?_, ?_, ?_⟩
  · rw [upd_ne (by decide), upd_ne (by decide)]; exact h.p0
  · rw [upd_ne (by decide), upd_self, upd_ne (by decide)]; exact fun q => ⟨(h.p7 q).1, rfl, (h.p7 q).2.2⟩
  · rw [upd_ne (by decide), upd_ne (by decide)]; exact h.p8
  · rw [upd_ne (by decide)]; exact h.pn
theorem Dl7.seven {c' : Value} {W' : World} (h : Dl7 w0 g n cap E c L W) (h2 : L 2 = true) (h6 : L 6 = true) (hc : c' = .slice (some ⟨g, 0, none⟩) (n - 1) cap) (hr : W'.ownsRow 0 24 5 c' (n - 1) (pvs E)) (ho : Only (fun q => q = g) w0 W') : Dl7 w0 g n cap E c' (upd L 7) W' := by
  refine ⟨?_, ?_, fun _ => ⟨upd_tr 7 h2, upd_tr 7 h6, hc, hr, ho⟩, ?_, ?_⟩
  · rw [upd_ne (by decide), upd_ne (by decide)]; exact h.p0
  · rw [upd_ne (by decide), upd_ne (by decide)]; exact h.p3
  · exact fun _ => upd_self _ _
  · rw [upd_self]; exact fun q => nomatch q
theorem Dl7.eight (h : Dl7 w0 g n cap E c L W) (h7 : L 7 = true) : Dl7 w0 g n cap E c (upd L 8) W := by
  refine ⟨?_, ?_, ?_, ?_, ?_⟩
  · rw [upd_ne (by decide), upd_ne (by decide)]; exact h.p0
  · rw [upd_ne (by decide), upd_ne (by decide)]; exact h.p3
  · rw [upd_ne (by decide), upd_ne (by decide), upd_ne (by decide)]; exact h.p7
  · exact fun _ => upd_tr 8 h7
  · rw [upd_ne (by decide)]; exact h.pn
theorem Dl7.e0 (h : Dl7 w0 g n cap E c L W) (h0 : L 0 = false) : L 8 = false := by
  cases q : L 8
  · rfl
  · have := h.p0 (h.p7 (h.p8 q)).1
    rw [h0] at this
    cases this
theorem Dl7.e3 (h : Dl7 w0 g n cap E c L W) (h0 : L 3 = false) : L 8 = false := by
  cases q : L 8
  · rfl
  · have := h.p3 (h.p7 (h.p8 q)).2.1
    rw [h0] at this
    cases this
theorem s_sl27c (g n cap k : Nat) (hk : k < n) (hn : n ≤ cap) : ∃ a2 c2, (0 < n - (k + 1) → a2 = ⟨g, (k + 1) * 5, none⟩) ∧ ∀ w : World, (Instr.sliceAt 27 (.slice (some ⟨g, 0, none⟩) n cap) (some (.int .i64 ((k : Int) + 1))) none none).run Tryz.prog w = .ok (.slice (some a2) (n - (k + 1)) c2) w := by
  have h1 : (k : Int) + 1 ≤ (n : Int) := by omega
  have h0 : (0 : Int) ≤ (k : Int) + 1 := by omega
  have u := Tryz.underlying27
  have z := Tryz.sizeOf24
  have e : ((k : Int) + 1).toNat = k + 1 := by omega
  by_cases hc : cap = k + 1
  · refine ⟨⟨g, 0, none⟩, cap - (k + 1), fun q => by omega, fun w => ?_⟩
    simp [Instr.sliceAt, go_sem, u, z, h0, h1, e, hc]
  · refine ⟨⟨g, (k + 1) * 5, none⟩, cap - (k + 1), fun _ => rfl, fun w => ?_⟩
    simp [Instr.sliceAt, go_sem, u, z, h0, h1, e, hc]
end Go.Proofs.YtjopnhhdemfniaaGreatDoor
namespace Go.Proofs.YtjopnhhdemfniaaGreatDoor
open Go.RowKit
set_option maxHeartbeats 16000000
set_option maxRecDepth 8000
theorem NxM.gone {w : World} {X : Nat} {gen : Int} {nc : Bs} {rt : Int} {Lf : List Pv} {G0 G : List Int} {vf vg v : Value} {W W' : World} (h : NxM w X gen nc rt Lf G0 vf vg W) (b : Below W.heap.size W W') (rG : W'.ownsRow 0 3 1 v G.length (G.map fun z => I z)) (nG : ∀ k, v.ownBlock = some k → w.heap.size + 3 ≤ k) : NxM w X gen nc rt Lf G vf v W' :=
  ⟨(b.block _ (lt_of_row h.xb)).trans h.xb, h.xn, owns_below h.rf b, h.nf, rG, nG, fun x hx => (h.lk x hx).imp id (fun q => ⟨owns_below q.1 b, q.2⟩)⟩
theorem s_xp27 (g n cap k : Nat) (hk : k < n) {w : World} : (Instr.indexAt 27 (.slice (some ⟨g, 0, none⟩) n cap) (.int .i64 (k : Int))).run Tryz.prog w = .ok (.pointer (some ⟨g, k * 5, none⟩)) w := by
  have h1 : (k : Int) < (n : Int) := by omega
  have u := Tryz.underlying27
  have z := Tryz.sizeOf24
  simp [go_sem, u, z, h1]
theorem imn_mini (l : List Pv) (n i : Nat) (hn : l.length = n) (h0 : 0 < n) (hi : imn (l.map (·.1)) (n - 1) = i) : ∃ h : i < l.length, ∀ y ∈ l, l[i].1.number ≤ y.1.number := by
  subst hn
  subst hi
  have := imn_le (l.map (·.1)) (l.length - 1)
  exact ⟨by omega, imn_min l h0 (by omega)⟩
theorem lnext_any (gen root how many cc : Int) (nt : Bs) (q : Option Addr) (qc : Nat) (Lp : List Pv) (fa : Option Addr) (fc : Nat) (fr : List Int) (w : World) (hS : Sps w q Lp) (hF : Ins w fa fr.length fr) (h1 : 0 < fr.length) (hn : fr.length ≤ 1000000) (hpl : Lp.length ≤ 1000000) (hg : 0 ≤ gen ∧ gen ≤ 4611686018427387903) (hc : 0 ≤ cc ∧ cc ≤ 8000000000000000000) (hh : -9223372036854775808 ≤ how ∧ how ≤ 9223372036854775807) (hone : ∀ x ∈ Lp, x.2.oneCell' = true) :
    Calls Tryz.prog 50 #[.agg #[I gen, I root, S nt, .slice q Lp.length qc], .agg #[I how, I many], .slice fa fr.length fc, I cc] w fun e w' => ∃ rt Lf Ln G vf vn vg, e = .returned (.tuple #[.agg #[I (gen + 1), I rt, S (nte cc), vn], vf, vg]) ∧ NxOut w gen root how cc fr Lp rt Lf Ln G vf vn vg w' := by
  have HLO := hide hone
  clear hone
  have hg0 := heap_alloc_new w (.cells #[I gen, I root, S nt, .slice q Lp.length qc] 83)
  have b1 := (Below.refl w.heap.size w).alloc (Nat.le_refl _) (.cells #[I gen, I root, S nt, .slice q Lp.length qc] 83)
  have s1 : (w.alloc (.cells #[I gen, I root, S nt, .slice q Lp.length qc] 83)).heap.size = w.heap.size + 1 := by simp
  have hg1 := heap_alloc_new (w.alloc (.cells #[I gen, I root, S nt, .slice q Lp.length qc] 83)) (.cells #[I how, I many] 92)
  have hg01 := (heap_alloc_old (w.alloc (.cells #[I gen, I root, S nt, .slice q Lp.length qc] 83)) (.cells #[I how, I many] 92) (lt_of_row hg0)).trans hg0
  have b2 := b1.alloc (by omega) (.cells #[I how, I many] 92)
  have s2 : ((w.alloc (.cells #[I gen, I root, S nt, .slice q Lp.length qc] 83)).alloc (.cells #[I how, I many] 92)).heap.size = w.heap.size + 2 := by simp
  rw [s1] at hg1
  have hg2 := heap_alloc_new ((w.alloc (.cells #[I gen, I root, S nt, .slice q Lp.length qc] 83)).alloc (.cells #[I how, I many] 92)) (.cells #[I 0, I 0, .string ⟨#[]⟩, .slice none 0 0] 83)
  have b3 := b2.alloc (by omega) (.cells #[I 0, I 0, .string ⟨#[]⟩, .slice none 0 0] 83)
  have hg02 := (heap_alloc_old _ (.cells #[I 0, I 0, .string ⟨#[]⟩, .slice none 0 0] 83) (lt_of_row hg01)).trans hg01
  have hg12 := (heap_alloc_old _ (.cells #[I 0, I 0, .string ⟨#[]⟩, .slice none 0 0] 83) (lt_of_row hg1)).trans hg1
  rw [s2] at hg2
  have HX := hide hg02
  have HT := hide hg12
  have HR := hide hg2
  have HB3 := hide b3
  have HS3 := hide (show (((w.alloc (.cells #[I gen, I root, S nt, .slice q Lp.length qc] 83)).alloc (.cells #[I how, I many] 92)).alloc (.cells #[I 0, I 0, .string ⟨#[]⟩, .slice none 0 0] 83)).heap.size = w.heap.size + 3 by simp)
  have HSP := hide (hS.below b3)
  have HFI := hide (hF.below b3)
  have HN := hide (fun W => note9_any cc W)
  have HPK := hide (fun W => pick_any how 5 W (by omega) (by omega) hh.1 hh.2)
  have HTR := hide (fun W (rr : Int) (i : Ins W fa fr.length fr) => tree_any fa fc fr rr cc W i h1 hn hc.1 hc.2)
  have HNU := hide (fun W (i : Pgs W q Lp.length (Lp.map (·.1))) => numbers_any q Lp.length qc (Lp.map (·.1)) W i (by omega))
  clear hg0 b1 s1 hg1 hg01 b2 s2 hg2 b3 hg02 hg12 hS hF
  generalize nte cc = nc at *
  go_enter Tryz.func50, Tryz.ntmps50
  go_upto_region 1 with fail
  generalize hWA : ((w.alloc (.cells #[I gen, I root, S nt, .slice q Lp.length qc] 83)).alloc (.cells #[I how, I many] 92)).alloc (.cells #[I 0, I 0, .string ⟨#[]⟩, .slice none 0 0] 83) = WA at *
  clear hWA
  refine rnx1 w.heap.size gen root cc nc (by kernel_rfl) (by kernel_rfl) (by kernel_rfl) _ _ (by show 26 ≤ Array.size _; simp) rfl rfl (Mk1 WA 83 8 9 #[I 0, I 0, .string ⟨#[]⟩, .slice none 0 0] #[I (gen + 1), I root, S nc, .slice none 0 0]) ⟨0, Mk1.start _ _ _ _ _ _ _⟩ ?_ ?_ ?_ ?_ ?_ ?_ ?_ ?_ ?_
  · intro i hi c L W hW
    simp only [List.mem_cons, List.not_mem_nil, or_false, not_or] at hi
    exact hW.pure hi.2.1 hi.2.2
  · exact fun c L W hW _ _ => s_ld Tryz.isAgg3 (cell_of_row _ _ 0 _ 83 (0, 0) ((hW.bel.block _ (lt_of_row (unhide HX))).trans (unhide HX)))
  · exact fun W => s_add _ _ _ _ (by omega) (by omega)
  · exact fun c L W hW _ _ => s_ld Tryz.isAgg3 (cell_of_row _ _ 1 _ 83 (0, 0) ((hW.bel.block _ (lt_of_row (unhide HX))).trans (unhide HX)))
  · intro c L W hW _ _
    refine (unhide HN W).mono ?_
    rintro e w' ⟨rfl, hw⟩
    exact ⟨c, fun _ _ => rfl, rfl, hW.call hw (by decide) (by decide)⟩
  · intro W
    simp [go_sem, Tryz.zeroValue83]
  · intro c L W hW hL
    refine ⟨W.heap.size, _, fun j hj => ?_, s_al Tryz.zeroValue83, hW.alloc hL (by decide)⟩
    unfold vrnx1
    split <;> first | rfl | (rw [hL] at hj; cases hj)
  · intro c L W hW hL h7 h8
    exact ⟨_, hW.runs h8 hL Tryz.sizeOf83 _ rfl rfl rfl (by simp [Value.oneCell']), hW.fill h8 (by decide)⟩
  intro X L W4 hall hW
  obtain ⟨hc0, hc1⟩ := hW.done (hall 8 (by omega)) (hall 9 (by omega))
  have HB4 := hide hW.bel
  have HX0 := hide hc0
  have HXN := hide hc1
  have hx4 := (hW.bel.block _ (lt_of_row (unhide HX))).trans (unhide HX)
  have ht4 := (hW.bel.block _ (lt_of_row (unhide HT))).trans (unhide HT)
  have t0 := cell_of_row _ _ 0 _ 92 (0, 0) ht4
  have tl := lt_of_row ht4
  have x1 := cell_of_row _ _ 1 _ 83 (0, 0) hx4
  have xl := lt_of_row hx4
  clear hc0 hc1 hW hall HN hx4 ht4
  simp only [Act.put, List.setIfInBounds_toArray, List.set_cons_succ, List.set_cons_zero]
  go_upto_block 0 with (refine (unhide HPK _).mono ?_; rintro e wa ⟨rfl, hwa⟩; rw [hwa]; clear hwa)
  clear HPK
  have hp5 : pkv how 5 < 5 := pkv_lt how 5 (by omega)
  generalize hP5 : pkv how 5 = p5 at *
  have HP5 := hide hP5
  clear hP5
  go_cut [12, 13] from 29 to 53 (fun f g wc => ∃ rt Lf G, NxM w X gen nc rt Lf G f g wc ∧ Lf.map (fun x => { x.1 with birth := gen + 1 }) = frs how fr root cc (gen + 1) ∧ (rt = if pkv how 5 ≤ 3 then fr.getD (fr.length - 1) 0 else root) ∧ G = gns how (Lp.map (·.1)) ∧ Lf.length ≤ fr.length ∧ Below WA.heap.size WA wc ∧ (Lf = [] → f = .slice none 0 0))
  case first =>
    have tre : ∀ (rr : Int) (W5 : World) (V u : Value), Below W4.heap.size W4 W5 → W5.ownsRow 0 24 5 V fr.length (pvs (lvs fr cc (fr.length - 1) ++ [(rootv fr rr cc, u)])) → (∀ k, V.ownBlock = some k → W4.heap.size ≤ k) → W5.ownsRow 0 3 1 u (rootv fr rr cc).links.length ((rootv fr rr cc).links.map fun z => I z) → (∀ k, u.ownBlock = some k → W4.heap.size ≤ k) →
        NxM w X gen nc (fr.getD (fr.length - 1) 0) (lvs fr cc (fr.length - 1) ++ [(rootv fr rr cc, u)]) [] V (.slice none 0 0) (W5.setCell ⟨X, 1, none⟩ (I (fr.getD (fr.length - 1) 0))) ∧ (lvs fr cc (fr.length - 1) ++ [(rootv fr rr cc, u)]).length = fr.length ∧ Below WA.heap.size WA (W5.setCell ⟨X, 1, none⟩ (I (fr.getD (fr.length - 1) 0))) ∧ W5.heap[X]? = some (.cells #[I (gen + 1), I root, S nc, .slice none 0 0] 83 (0, 0)) := by
      intro rr W5 V u b5 rV nV rU nU
      have hx5 := (b5.block _ (lt_of_row (unhide HXN))).trans (unhide HXN)
      have hx6 := heap_setCell_same W5 X 1 _ 83 (I (fr.getD (fr.length - 1) 0)) hx5
      have o6 := Only.setCell W5 ⟨X, 1, none⟩ (I (fr.getD (fr.length - 1) 0))
      have hs3 := unhide HS3
      have hX0 := unhide HX0
      have hb4 := (unhide HB4).size
      have hX4 := lt_of_row (unhide HXN)
      have hlen : (lvs fr cc (fr.length - 1) ++ [(rootv fr rr cc, u)]).length = fr.length := by rw [List.length_append, lvs_len, List.length_singleton]; omega
      refine ⟨⟨hx6, by omega, ?_, fun k hk => by have := nV k hk; omega, owns_nil _ _ _, (fun k hk => nomatch hk), fun x hx => ?_⟩, hlen, o6.below ((unhide HB4).trans (b5.mono hb4)) (Nat.le_trans hb4 b5.size) (fun k hk => by rw [show k = X from hk]; exact hX0), hx5⟩
      · rw [hlen]
        exact owns_only rV o6 (fun k hk e => by have := nV k hk; have e' : k = X := e; omega)
      · rcases List.mem_append.1 hx with q | q
        · left
          unfold lvs at q
          obtain ⟨i, _, rfl⟩ := List.mem_map.1 q
          exact ⟨rfl, rfl⟩
        · right
          rw [List.mem_singleton.1 q]
          exact ⟨owns_only rU o6 (fun k hk e => by have := nU k hk; have e' : k = X := e; omega), fun k hk => by have := nU k hk; omega⟩
    have HTE := hide @tre
    clear tre
    rcases (show p5 = 0 ∨ p5 = 1 ∨ p5 = 2 ∨ p5 = 3 ∨ p5 = 4 by omega) with rfl | rfl | rfl | rfl | rfl
    · go_wp2_with fail
      refine (unhide HTR _ root ((unhide HFI).below (unhide HB4))).mono ?_
      rintro e w5 ⟨V, u, rfl, rV, nV, rU, nU, b5⟩
      obtain ⟨m1, m2, m3, m4⟩ := unhide HTE root w5 V u b5 rV nV rU nU
      have c1 := cell_of_row _ _ 1 _ 83 (0, 0) m4
      have f1 := frz m4 1
      have HM := hide (And.intro m1 (And.intro m2 m3))
      clear rV nV rU nU b5 m1 m2 m3 m4
      go_wp2_with fail
      go_meet
      obtain ⟨m1, m2, m3⟩ := unhide HM
      have e5 := unhide HP5
      exact ⟨_, _, [], m1, by unfold frs; rw [e5, if_pos (by omega)]; simp, by rw [e5, if_pos (by omega)], by unfold gns; rw [e5]; simp, by omega, m3, fun e => by rw [e] at m2; simp at m2; omega⟩
    · go_wp2_with fail
      refine (unhide HTR _ root ((unhide HFI).below (unhide HB4))).mono ?_
      rintro e w5 ⟨V, u, rfl, rV, nV, rU, nU, b5⟩
      obtain ⟨m1, m2, m3, m4⟩ := unhide HTE root w5 V u b5 rV nV rU nU
      have c1 := cell_of_row _ _ 1 _ 83 (0, 0) m4
      have f1 := frz m4 1
      have HM := hide (And.intro m1 (And.intro m2 m3))
      clear rV nV rU nU b5 m1 m2 m3 m4
      go_wp2_with fail
      go_meet
      obtain ⟨m1, m2, m3⟩ := unhide HM
      have e5 := unhide HP5
      exact ⟨_, _, [], m1, by unfold frs; rw [e5, if_pos (by omega)]; simp, by rw [e5, if_pos (by omega)], by unfold gns; rw [e5]; simp, by omega, m3, fun e => by rw [e] at m2; simp at m2; omega⟩
    · go_wp2_with fail
      refine (unhide HTR _ 0 ((unhide HFI).below (unhide HB4))).mono ?_
      rintro e w5 ⟨V, u, rfl, rV, nV, rU, nU, b5⟩
      obtain ⟨m1, m2, m3, m4⟩ := unhide HTE 0 w5 V u b5 rV nV rU nU
      have c1 := cell_of_row _ _ 1 _ 83 (0, 0) m4
      have f1 := frz m4 1
      have hx6 := (m3.block _ (lt_of_row (unhide HX))).trans (unhide HX)
      have hS6 := (unhide HSP).below m3
      have d3 := cell_of_row _ _ 3 _ 83 (0, 0) hx6
      have HM := hide (And.intro m1 (And.intro m2 m3))
      have HN6 := hide (unhide HNU _ hS6.2)
      clear rV nV rU nU b5 m1 m2 m3 m4 hx6 hS6
      generalize hrt0 : fr.getD (fr.length - 1) 0 = rt at *
      have HRT := hide hrt0
      clear hrt0
      obtain ⟨W6, hW6⟩ : ∃ W6, W6 = w5.setCell ⟨X, 1, none⟩ (I rt) := ⟨_, rfl⟩
      rw [← hW6] at HM HN6 d3
      have HW6 := hide hW6
      have d3' := d3
      rw [hW6] at d3
      clear hW6
      go_wp2_with fail
      rw [← unhide HW6]
      refine (unhide HN6).mono ?_
      rintro e w7 ⟨Vg, rfl, rG, nG, b7⟩
      obtain ⟨m1, m2, m3⟩ := unhide HM
      have hz6 : w.heap.size + 3 ≤ W6.heap.size := by have := m3.size; have := unhide HS3; omega
      have hM7 := m1.gone (G := (Lp.map (·.1)).map Pg.number) b7 (by rw [List.length_map, List.length_map]; exact rG) (fun k hk => Nat.le_trans hz6 (nG k hk))
      have HM7 := hide (And.intro hM7 (And.intro m2 (m3.trans (b7.mono m3.size))))
      clear rG nG b7 m1 m2 m3 hM7 HM HN6 HW6 c1 f1 d3 d3'
      go_wp2_with fail
      go_meet
      obtain ⟨m1, m2, m3⟩ := unhide HM7
      have e5 := unhide HP5
      exact ⟨_, _, _, m1, by unfold frs; rw [e5, if_neg (by omega), if_pos (by omega)]; simp, by rw [e5, if_pos (by omega)], by unfold gns; rw [e5, if_pos (by omega)], by omega, m3, fun e => by rw [e] at m2; simp at m2; omega⟩
    · go_wp2_with fail
      refine (unhide HTR _ 0 ((unhide HFI).below (unhide HB4))).mono ?_
      rintro e w5 ⟨V, u, rfl, rV, nV, rU, nU, b5⟩
      obtain ⟨m1, m2, m3, m4⟩ := unhide HTE 0 w5 V u b5 rV nV rU nU
      have c1 := cell_of_row _ _ 1 _ 83 (0, 0) m4
      have f1 := frz m4 1
      have hx6 := (m3.block _ (lt_of_row (unhide HX))).trans (unhide HX)
      have hS6 := (unhide HSP).below m3
      have d3 := cell_of_row _ _ 3 _ 83 (0, 0) hx6
      have HM := hide (And.intro m1 (And.intro m2 m3))
      have HN6 := hide (unhide HNU _ hS6.2)
      clear rV nV rU nU b5 m1 m2 m3 m4 hx6 hS6
      generalize hrt0 : fr.getD (fr.length - 1) 0 = rt at *
      have HRT := hide hrt0
      clear hrt0
      obtain ⟨W6, hW6⟩ : ∃ W6, W6 = w5.setCell ⟨X, 1, none⟩ (I rt) := ⟨_, rfl⟩
      rw [← hW6] at HM HN6 d3
      have HW6 := hide hW6
      have d3' := d3
      rw [hW6] at d3
      clear hW6
      go_wp2_with fail
      rw [← unhide HW6]
      refine (unhide HN6).mono ?_
      rintro e w7 ⟨Vg, rfl, rG, nG, b7⟩
      obtain ⟨m1, m2, m3⟩ := unhide HM
      have hz6 : w.heap.size + 3 ≤ W6.heap.size := by have := m3.size; have := unhide HS3; omega
      have hM7 := m1.gone (G := (Lp.map (·.1)).map Pg.number) b7 (by rw [List.length_map, List.length_map]; exact rG) (fun k hk => Nat.le_trans hz6 (nG k hk))
      have HM7 := hide (And.intro hM7 (And.intro m2 (m3.trans (b7.mono m3.size))))
      clear rG nG b7 m1 m2 m3 hM7 HM HN6 HW6 c1 f1 d3 d3'
      go_wp2_with fail
      go_meet
      obtain ⟨m1, m2, m3⟩ := unhide HM7
      have e5 := unhide HP5
      exact ⟨_, _, _, m1, by unfold frs; rw [e5, if_neg (by omega), if_pos (by omega)]; simp, by rw [e5, if_pos (by omega)], by unfold gns; rw [e5, if_pos (by omega)], by omega, m3, fun e => by rw [e] at m2; simp at m2; omega⟩
    · go_wp2_with fail
      go_meet
      have e5 := unhide HP5
      have hs3 := unhide HS3
      have hX0 := unhide HX0
      exact ⟨root, [], [], ⟨unhide HXN, by omega, owns_nil _ _ _, (fun k hk => nomatch hk), owns_nil _ _ _, (fun k hk => nomatch hk), (fun x hx => nomatch hx)⟩, by unfold frs; rw [e5, if_neg (by omega), if_neg (by omega)]; rfl, by rw [e5, if_neg (by omega)], by unfold gns; rw [e5]; simp, by simp, unhide HB4, fun _ => rfl⟩
  case rest =>
    obtain ⟨rt, Lf, G, hM, hfr, hrt, hG, hLn, hB, hnil⟩ := hcut
    obtain ⟨pf, cf, ef⟩ := owns_form hM.rf
    obtain ⟨pg, cg, eg⟩ := owns_form hM.rg
    subst ef eg
    obtain ⟨nf, hnf⟩ : ∃ nf, Lf.length = nf := ⟨_, rfl⟩
    obtain ⟨ng, hng⟩ : ∃ ng, G.length = ng := ⟨_, rfl⟩
    have hnf6 : nf ≤ 1000000 := by omega
    have hng6 : ng ≤ 1000000 := by
      rw [← hng, hG]
      unfold gns
      split
      · simp; omega
      · simp
    have HM := hide hM
    have HFR := hide (And.intro hfr (And.intro hrt (And.intro hG (And.intro hB hnil))))
    have HNF := hide hnf
    have HNG := hide hng
    rw [hnf, hng] at HM
    rw [hnf] at HFR
    clear hM hfr hrt hG hLn hB hnil HTR HNU
    rw [hnf, hng]
    clear hnf hng t0 tl x1 xl
    go_wp2
    go_loopw [14] (fun i wr => ∃ k : Nat, k ≤ nf ∧ i = .int .i64 k ∧ wr.ownsRow 0 24 5 (.slice pf nf cf) nf (pvs (bkl Lf (gen + 1) k)) ∧ Only (fun q => (Value.slice pf nf cf).ownBlock = some q) wc wr) (fun i _ => nf - (Go.RowKit.intOf i).toNat)
    case atStart => exact ⟨0, by omega, rfl, by rw [bkl_zero]; have := (unhide HM).rf; rwa [unhide HNF] at this, Only.of_below (Below.refl _ _)⟩
    case round =>
      obtain ⟨k, hk, rfl, hv, ho⟩ := hrel
      have hgX : ¬ (Value.slice pf nf cf).ownBlock = some X := fun e => row_ne (unhide HM).rf (unhide HM).xb (by decide) X e rfl
      have hxr := (ho.block X (lt_of_row (unhide HM).xb) hgX).trans (unhide HM).xb
      by_cases hkl : k < nf
      · have hkl' : (k : Int) < (nf : Int) := by omega
        obtain ⟨gV, cV, cur, ee, hh', _⟩ := owns_at hv (by omega)
        injection ee with e1 e2 e3
        subst e1 e3
        have x0 := cell_of_row _ _ 0 _ 83 (0, 0) hxr
        have xl := lt_of_row hxr
        have hbl : (bkl Lf (gen + 1) k).length = nf := by rw [bkl_len]; exact unhide HNF
        obtain ⟨u0, hu0⟩ := pvs_at2 (bkl Lf (gen + 1) k) k (by omega)
        have hc0 := pvs_cells hv (k * 5 + 2) u0 hu0
        rw [add_at] at hc0
        have hst := owns_set hv (k * 5 + 2) (I (gen + 1))
        rw [pvs_born, bkl_next _ _ _ (by rw [unhide HNF]; exact hkl)] at hst
        have hfz := frz hh' (k * 5 + 2)
        have hgl := lt_of_row hh'
        have HST := hide hst
        have HO := hide (ho.put ⟨gV, k * 5 + 2, none⟩ (I (gen + 1)) (.inl rfl))
        clear hst hv ho hxr hh' hu0 hbl
        go_wp2
        go_round
        case measure => simp [Go.RowKit.intOf] <;> omega
        case rel => exact ⟨k + 1, by omega, by simp, unhide HST, unhide HO⟩
      · have hd : decide (k < nf) = false := by simp; omega
        have hkn : k = nf := by omega
        subst hkn
        obtain ⟨M, hMM⟩ : ∃ M, M = Lf.map (born (gen + 1)) := ⟨_, rfl⟩
        have hMb : bkl Lf (gen + 1) k = M := by rw [hMM, ← bkl_all, unhide HNF]
        have hML : M.length = k := by rw [hMM, List.length_map]; exact unhide HNF
        rw [hMb] at hv
        have hvM : wr.ownsRow 0 24 5 (.slice pf k cf) M.length (pvs M) := by rw [hML]; exact hv
        have HMO := hide (show ∀ x ∈ M, x.2.oneCell' = true from fun x hx => by
          rw [hMM] at hx
          obtain ⟨y, hy, rfl⟩ := List.mem_map.1 hx
          rcases (unhide HM).lk y hy with q | q
          · show y.2.oneCell' = true
            rw [q.1]; rfl
          · obtain ⟨pu, cu, eu⟩ := owns_form q.1
            show y.2.oneCell' = true
            rw [eu]; rfl)
        have HV := hide hvM
        have HMC := hide (row_cells rfl hvM)
        have HO := hide ho
        have HXR := hide hxr
        have HML := hide hML
        have HMM := hide hMM
        obtain ⟨hfr, hrt, hG, hB, _⟩ := unhide HFR
        have hBr : Below WA.heap.size WA wr := ho.below hB hB.size (fun j hj => by
          have h3 := unhide HS3
          have := (unhide HM).nf j hj
          omega)
        have hS7 := (unhide HSP).below hBr
        have hx7 := (hBr.block _ (lt_of_row (unhide HX))).trans (unhide HX)
        have d3 := cell_of_row _ _ 3 _ 83 (0, 0) hx7
        have HS7 := hide hS7
        have HBR := hide hBr
        clear hv ho hxr hMM hMb hML hvM hfr hrt hG hB hBr hS7 hx7 hd hkl hk
        have hp1 : ∀ u ∈ pvs M, u.oneCell' = true := pvs_one M (unhide HMO)
        have HP1 := hide hp1
        have HP2 := hide (pvs_one Lp (unhide HLO))
        clear hp1
        have hnn := unhide HML
        go_upto_if 70 with (at_builtin; refine wp_appA rfl (.const (.slice none 0 0)) (.tmp 66) rfl (.slice none 0 0) [] M wr (by rfl) (owns_nil _ _ _) pf cf k (by rfl) (unhide HML) (unhide HMC) (unhide HP1) (by simp; omega) ?_)
        intro v7 w7 r7 o7 n7
        have b7 : Below wr.heap.size wr w7 := o7.below (Below.refl wr.heap.size wr) (Nat.le_refl _) (fun k hk => nomatch hk)
        have n7' : ∀ j, v7.ownBlock = some j → wr.heap.size ≤ j := fun j hj => (n7 j hj).elim (fun r => nomatch r) id
        obtain ⟨p7, c7, e7⟩ := owns_form r7
        subst e7
        have HR7 := hide r7
        have HB7 := hide b7
        have HN7 := hide n7'
        have d37 := (World.cell?_of_block (b7.block _ (blk_lt d3))).trans d3
        have hl7 := Nat.lt_of_lt_of_le (blk_lt d3) b7.size
        clear r7 o7 n7 b7 n7' hnn
        go_upto_if 70 with fail
        go_cut [15] from 71 to 74 (fun a wc2 => ∃ La, (La = if G = [] then M ++ Lp else M) ∧ wc2.ownsRow 0 24 5 a La.length (pvs La) ∧ (∀ j, a.ownBlock = some j → wr.heap.size ≤ j) ∧ Below wr.heap.size wr wc2)
        case first =>
          by_cases hG0 : ng = 0
          · have hG1 : G = [] := List.length_eq_zero_iff.1 ((unhide HNG).trans hG0)
            have HG1 := hide hG1
            clear hG1
            subst hG0
            have HMC2 := hide ((unhide HS7).below (unhide HB7)).1
            go_wp2_with (at_builtin; refine wp_appA rfl (.tmp 71) (.tmp 73) rfl (.slice p7 k c7) M Lp w7 (by rfl) (by rw [unhide HML]; exact unhide HR7) q qc Lp.length (by rfl) rfl (unhide HMC2) (unhide HP2) (by have := unhide HML; omega) ?_)
            intro v8 w8 r8 o8 n8
            have HF := hide (show v8 = v8 ∧ w8.ownsRow 0 24 5 v8 (M ++ Lp).length (pvs (M ++ Lp)) ∧ (∀ j, v8.ownBlock = some j → wr.heap.size ≤ j) ∧ Below wr.heap.size wr w8 from ⟨rfl, by rw [List.length_append]; exact r8, fun j hj => (n8 j hj).elim (unhide HN7 j) (fun r => Nat.le_trans (unhide HB7).size r), o8.below (unhide HB7) (unhide HB7).size (fun j hj => unhide HN7 j hj)⟩)
            clear r8 o8 n8
            go_wp2_with fail
            go_meet
            obtain ⟨_, f1, f2, f3⟩ := unhide HF
            exact ⟨M ++ Lp, by rw [if_pos (unhide HG1)], f1, f2, f3⟩
          · have hG2 : ((ng : Int) == 0) = false := by simp; omega
            have hG3 : ¬ (ng : Int) = 0 := by omega
            have HG1 := hide (show ¬ G = [] from fun e => hG0 (by rw [← unhide HNG, e]; rfl))
            clear hG0
            go_wp2_with fail
            go_meet
            exact ⟨M, by rw [if_neg (unhide HG1)], by rw [unhide HML]; exact unhide HR7, unhide HN7, unhide HB7⟩
        case rest =>
          obtain ⟨La, hLa, ha, hna, hba⟩ := hcut
          obtain ⟨pa, ca, ea⟩ := owns_form ha
          subst ea
          have hxw := (hba.block _ (lt_of_row (unhide HXR))).trans (unhide HXR)
          have HI0 := hide (NxI.start (A := I (gen + 1)) (B := I rt) (C := S nc) hxw ha hna hba)
          have hL6 : La.length ≤ 2000000 := by
            have := unhide HML
            rw [hLa]
            split
            · rw [List.length_append]; omega
            · omega
          have HLA := hide hLa
          have HON := hide (show ∀ x ∈ La, x.2.oneCell' = true from fun x hx => by
            rw [unhide HLA] at hx
            split at hx
            · rcases List.mem_append.1 hx with q | q
              · exact unhide HMO x q
              · exact unhide HLO x q
            · exact unhide HMO x hx)
          clear hLa ha hna hba hxw d3 HR7 HB7 HN7 d37 hl7 HP1 HP2 HMC
          obtain ⟨wb, hwb⟩ : ∃ wb, wb = wr := ⟨_, rfl⟩
          subst hwb
          go_wp2
          go_loopw [15] (fun v wv => ∃ L Ln vn, NxI wb X (I (gen + 1)) (I rt) (S nc) La v vn L Ln wv) (fun v _ => lenv v)
          case atStart => exact ⟨La, [], _, unhide HI0⟩
          case round =>
            obtain ⟨L, Ln, vn, hI⟩ := hrel
            obtain ⟨p1, c1, e1⟩ := owns_form hI.ra
            subst e1
            obtain ⟨n, hLn⟩ : ∃ n, L.length = n := ⟨_, rfl⟩
            rw [hLn] at hI ⊢
            have hn2 : n ≤ 2000000 ∧ Ln.length ≤ 2000000 := by
              have := hI.pm.length_eq
              rw [List.length_append] at this
              omega
            by_cases hz : 0 < n
            · obtain ⟨g, cap, cur, e, hg9, hcap, _, _, _⟩ := owns_at hI.ra (by omega)
              injection e with e1 e2 e3
              subst e1 e3
              have HI := hide hI
              have HLN := hide hLn
              have hz' : (0 : Int) < (n : Int) := by omega
              clear hI hLn e2 hg9
              go_wp2
              go_loopw [16, 17] (fun x y wu => ∃ j : Nat, 1 ≤ j ∧ j ≤ n ∧ y = .int .i64 j ∧ x = .int .i64 (imn (L.map (·.1)) (j - 1) : Nat) ∧ NxI wb X (I (gen + 1)) (I rt) (S nc) La (.slice (some ⟨g, 0, none⟩) n c1) vn L Ln wu) (fun _ y _ => n - (Go.RowKit.intOf y).toNat)
              case atStart => exact ⟨1, Nat.le_refl _, hz, rfl, rfl, unhide HI⟩
              case round =>
                obtain ⟨j, hj1, hjn, rfl, rfl, hJ⟩ := hrel
                by_cases hjl : j < n
                · have hj' : (j : Int) < (n : Int) := by omega
                  have HJ := hide hJ
                  have hi := imn_le (L.map (·.1)) (j - 1)
                  generalize hI9 : imn (L.map (·.1)) (j - 1) = i at *
                  have HI9 := hide hI9
                  clear hJ hI9 HI
                  have hLj : i < L.length ∧ j < L.length := by have := unhide HLN; omega
                  go_upto_region 24 with fail
                  refine rnx24 g n c1 j i (j * 5) (i * 5) L[j].1.number L[i].1.number (decide (L[j].1.number < L[i].1.number)) (by kernel_rfl) (by kernel_rfl) (by kernel_rfl) _ _ (by show 95 ≤ Array.size _; simp) rfl rfl rfl (fun _ _ W => Below wr.heap.size wr W) ⟨(), (Below.refl _ _).drew⟩ ?_ ?_ ?_ ?_ ?_ ?_ ?_
                  · exact fun _ _ _ _ _ h => h
                  · exact fun W => s_xp27 g n c1 j hjl
                  · intro _ _ W hW _ _
                    exact s_ld Tryz.isAgg3 (num_cell (owns_below (unhide HJ).ra hW) hLj.2)
                  · exact fun W => s_xp27 g n c1 i (by omega)
                  · intro _ _ W hW _ _
                    exact s_ld Tryz.isAgg3 (num_cell (owns_below (unhide HJ).ra hW) hLj.1)
                  · exact fun W => s_lss _ _ _ _
                  intro _ _ W _ hW
                  have HJW := hide ((unhide HJ).below hW)
                  clear HJ hW
                  simp only [Act.put, List.setIfInBounds_toArray, List.set_cons_succ, List.set_cons_zero]
                  have himn : imn (L.map (·.1)) j = if L[j].1.number < L[i].1.number then j else i := by
                    have e1 := unhide HI9
                    obtain ⟨j', rfl⟩ : ∃ j', j = j' + 1 := ⟨j - 1, by omega⟩
                    rw [Nat.add_sub_cancel] at e1
                    rw [imn, e1, imn_at L _ hLj.2, imn_at L _ hLj.1]
                  by_cases hlt : L[j].1.number < L[i].1.number
                  · rw [if_pos hlt] at himn
                    have hdl : decide (L[j].1.number < L[i].1.number) = true := by simpa using hlt
                    rw [hdl]
                    clear hdl hlt
                    generalize L[j].1.number = z1 at *
                    generalize L[i].1.number = z2 at *
                    go_wp2
                    go_round
                    case measure => simp [Go.RowKit.intOf] <;> omega
                    case rel => exact ⟨j + 1, by omega, by omega, by simp, by rw [Nat.add_sub_cancel, himn], unhide HJW⟩
                  · rw [if_neg hlt] at himn
                    have hdl : decide (L[j].1.number < L[i].1.number) = false := by simpa using hlt
                    rw [hdl]
                    clear hdl hlt
                    generalize L[j].1.number = z1 at *
                    generalize L[i].1.number = z2 at *
                    go_wp2
                    go_round
                    case measure => simp [Go.RowKit.intOf] <;> omega
                    case rel => exact ⟨j + 1, by omega, by omega, by simp, by rw [Nat.add_sub_cancel, himn], unhide HJW⟩
                · obtain rfl : j = n := by omega
                  obtain ⟨i, hI9⟩ : ∃ i, imn (L.map (·.1)) (j - 1) = i := ⟨_, rfl⟩
                  obtain ⟨hiL, hmi⟩ := imn_mini L j i (unhide HLN) hz hI9
                  rw [hI9]
                  obtain ⟨P, hP⟩ : ∃ P, P = L[i] := ⟨_, rfl⟩
                  have hij : i < j := by have := unhide HLN; omega
                  have HIL := hide hiL
                  have HJ := hide hJ
                  have HMI := hide hmi
                  have HPP := hide hP
                  have HJR := hide (pg_row hJ.ra hiL)
                  have hpone : P.2.oneCell' = true := by
                    rw [hP]
                    exact unhide HON _ (hJ.pm.mem_iff.1 (List.mem_append.2 (.inr (List.getElem_mem hiL))))
                  have HPO := hide hpone
                  have hgX : g ≠ X := row_ne hJ.ra hJ.xb (by decide) g rfl
                  have hgn : vn.ownBlock ≠ some g := hJ.ne g rfl
                  obtain ⟨pn, cn, en⟩ := owns_form hJ.rn
                  have HX26 := hide hJ.xb
                  have HRN := hide hJ.rn
                  have HGX := hide hgX
                  have HGN := hide hgn
                  have HEN := hide en
                  have hnl := hn2.2
                  clear hJ hmi hI9 hP hpone hgX hgn
                  subst en
                  go_upto_region 26 with fail
                  refine rnx26 X g j c1 i (i * 5) Ln.length cn pn (pvc P).toArray (by kernel_rfl) (by kernel_rfl) (by kernel_rfl) _ _ (by show 105 ≤ Array.size _; simp) rfl rfl rfl (Ap5 wr X (fun v => #[I (gen + 1), I rt, S nc, v]) (.slice pn Ln.length cn) Ln.length (pvs Ln) (pvc P) 1 6 7 9) ⟨_, Ap5.start _ _ _ _ _ _ _ _ _ _ _⟩ ?_ ?_ ?_ ?_ ?_ ?_ ?_ ?_
                  · intro i' hi' c L' W hW
                    simp only [List.mem_cons, List.not_mem_nil, or_false, not_or] at hi'
                    exact hW.pure hi'.1 hi'.2.1 hi'.2.2
                  · intro c L' W hW h1' _
                    exact s_ld Tryz.isAgg27 (cell_of_row _ _ 3 _ 83 (0, 0) ((hW.old h1' (lt_of_row (unhide HX26))).trans (unhide HX26)))
                  · exact fun W => s_xp27 g j c1 i hij
                  · intro c L' W hW _ _
                    obtain ⟨cur9, hr9, ht9⟩ := unhide HJR
                    rw [← unhide HPP] at ht9
                    exact s_ldr Tryz.isAgg24 Tryz.sizeOf24 ((hW.off (lt_of_row hr9) (unhide HGN) (unhide HGX)).trans hr9) (pvc P) rfl ht9
                  · intro c L' W hW h6 _
                    obtain ⟨e6, w6⟩ := hW.build h6 (by decide) (by decide)
                    subst e6
                    refine ⟨⟨wr.heap.size, c.v⟩, _, fun j' hj' => ?_, s_bs271 (I P.1.kind) (I P.1.number) (I P.1.birth) P.2 (S P.1.body) wr.drew, w6⟩
                    unfold vrnx26
                    split <;> first | rfl | (rw [h6] at hj'; cases hj')
                  · intro T c L' W hW h7 h1' h6
                    obtain ⟨c', W', k1, k2, k3⟩ := hW.app h1' h6 h7 (unhide HRN) (unhide HX26) (by omega) rfl (by have := unhide HPO; unfold pvc; intro u hu; simp only [List.mem_cons, List.not_mem_nil, or_false] at hu; rcases hu with rfl | rfl | rfl | rfl | rfl <;> first | rfl | exact this) T (by decide) (by decide)
                    refine ⟨c', W', fun j' hj' => ?_, k2, k3⟩
                    unfold vrnx26
                    split <;> first | rfl | rw [k1] | (rw [h7] at hj'; cases hj')
                  · intro c L' W hW h9 h7 _
                    exact ⟨_, hW.store h7 h9 (by decide) (by decide) (by decide) rfl (by simp)⟩
                  intro c L' W hall hW
                  obtain ⟨_, _, p5', cap5, ec, rc, oc, nc5, xc⟩ := hW.post (hall 7 (by omega))
                  rw [if_pos (hall 9 (by omega))] at xc
                  have hst := (unhide HJ).step (unhide HIL) (unhide HMI) (by rw [← unhide HPP]; exact rc) oc nc5 xc
                  have HRA := hide hst.1
                  have HSTP := hide hst.2
                  clear hW hall rc oc nc5 xc hst ec
                  generalize c.v = cv at *
                  simp only [Act.put, List.setIfInBounds_toArray, List.set_cons_succ, List.set_cons_zero]
                  go_upto_region 27 with fail
                  obtain ⟨a2, c2, ha2, hs2⟩ := s_sl27c g j c1 i hij (by have := unhide HLN; omega)
                  have HA2 := hide ha2
                  have HS2 := hide hs2
                  have HONL := hide (pvs_one L (fun x hx => unhide HON x ((unhide HJ).pm.mem_iff.1 (List.mem_append.2 (.inr hx)))))
                  clear ha2 hs2
                  refine rny27 g j c1 i i c1 (j - (i + 1)) c2 (some ⟨g, 0, none⟩) (some a2) (by kernel_rfl) (by kernel_rfl) (by kernel_rfl) _ _ (by show 113 ≤ Array.size _; simp) rfl rfl (Dl7 W g j c1 (L.eraseIdx i)) ⟨_, Dl7.start _ _ _ _ _⟩ ?_ ?_ ?_ ?_ ?_ ?_ ?_ ?_ ?_ ?_ ?_
                  · intro i' hi' c' L'' W' hW'
                    simp only [List.mem_cons, List.not_mem_nil, or_false, not_or] at hi'
                    exact hW'.pure hi'.1 hi'.2.1 hi'.2.2.1 hi'.2.2.2
                  · exact fun c' L'' W' hW' h => hW'.e0 h
                  · exact fun W' => s_sl27a g j c1 i (by omega) (by have := unhide HLN; omega)
                  · exact fun c' L'' W' hW' _ h _ => hW'.two h
                  · exact fun c' L'' W' hW' h => hW'.e3 h
                  · exact fun W' => s_add _ _ _ _ (by omega) (by omega)
                  · exact fun W' => unhide HS2 W'
                  · exact fun c' L'' W' hW' _ h _ => hW'.six h
                  · intro T c' L'' W' hW' h7 h2 h6
                    have hra := unhide HRA
                    rw [unhide HLN] at hra
                    obtain ⟨W'', k1, k2, k3⟩ := del_run T g j c1 i c1 c2 L W.drew (owns_below hra (Below.refl _ _).drew) (unhide HLN) hij a2 (unhide HA2) (unhide HONL) rfl
                    rw [← hW'.pn h7] at k1
                    refine ⟨_, W'', fun j' hj' => ?_, k1, hW'.seven h2 h6 rfl k2 ((Only.of_below (Below.refl _ _).drew).trans k3 (fun _ _ q => q))⟩
                    unfold vrny27
                    split <;> first | rfl | (rw [h7] at hj'; cases hj') | (rw [hW'.p8 hj'] at h7; cases h7)
                  · exact fun c' L'' W' hW' _ h => hW'.eight h
                  intro c' L'' W' hall hW'
                  obtain ⟨_, _, ec', rc', oc'⟩ := hW'.p7 (hall 7 (by omega))
                  subst ec'
                  have HNEW := hide (unhide HSTP W' (by rw [unhide HLN]; exact rc') oc')
                  clear hW' hall rc' oc'
                  simp only [Act.put, List.setIfInBounds_toArray, List.set_cons_succ, List.set_cons_zero]
                  go_wp2
                  go_round
                  case measure => simp [lenv] <;> omega
                  case rel => exact ⟨_, _, _, unhide HNEW⟩
            · obtain rfl : n = 0 := by omega
              have hL0 : L = [] := List.length_eq_zero_iff.1 hLn
              subst hL0
              have hB9 : Below WA.heap.size WA wr := hI.on.below (unhide HBR) (unhide HBR).size (fun k hk => by rw [show k = X from hk]; exact unhide HX0)
              have hr8 := (hB9.block _ (lt_of_row (unhide HR))).trans (unhide HR)
              have d0 := cell_of_row _ _ 0 _ 83 (0, 0) hI.xb
              have d1 := cell_of_row _ _ 1 _ 83 (0, 0) hI.xb
              have d2 := cell_of_row _ _ 2 _ 83 (0, 0) hI.xb
              have d3 := cell_of_row _ _ 3 _ 83 (0, 0) hI.xb
              have xl := lt_of_row hI.xb
              have hvo : vn.oneCell' = true := by
                obtain ⟨p9, c9, e9⟩ := owns_form hI.rn
                rw [e9]; rfl
              have HI := hide hI
              have HR8 := hide hr8
              have HB9 := hide hB9
              have HVO := hide hvo
              clear hI hr8 hB9 hLn hz hvo
              go_wp2_with (refine wp_st83 rfl (.tmp 8) (.tmp 113) rfl (w.heap.size + 2) (by rfl) (gen + 1) rt nc vn (unhide HVO) (by rfl) _ rfl (unhide HR8) ?_)
              refine out3c Tryz.isAgg83 Tryz.sizeOf83 (p := 8) (q := 9) (r := 10) Tryz.results50 rfl (by rfl) (by rfl) (by rfl) (setRow_row (unhide HR8)) rfl ?_
              have hI := unhide HI
              obtain ⟨hfr, hrt, hG, _, _⟩ := unhide HFR
              have hs3 := unhide HS3
              have hM := unhide HM
              have hbs := (unhide HBR).size
              have o9 := setRow_Only wr (w.heap.size + 2) #[I (gen + 1), I rt, S nc, vn]
              have pass : ∀ {e n m : Nat} {v : Value} {xs : List Value}, wb.ownsRow 0 e n v m xs → e ≠ 83 → (∀ k, v.ownBlock = some k → w.heap.size + 3 ≤ k) → (wr.setRow (w.heap.size + 2) #[I (gen + 1), I rt, S nc, vn]).ownsRow 0 e n v m xs := fun h he hk => owns_only (owns_only h hI.on (row_ne h (unhide HXR) he)) o9 (fun k q e => by have := hk k q; have e' : k = w.heap.size + 2 := e; omega)
              have pass0 : ∀ {n m : Nat} {v : Value} {xs : List Value}, World.ownsRow _ 0 3 n v m xs → (∀ k, v.ownBlock = some k → w.heap.size + 3 ≤ k) → (wr.setRow (w.heap.size + 2) #[I (gen + 1), I rt, S nc, vn]).ownsRow 0 3 n v m xs := fun h hk => pass (owns_only h (unhide HO) (fun k q e => rows_ne h hM.rf (by decide) k q e)) (by decide) hk
              refine ⟨rt, M, Ln, G, _, _, _, rfl, ?_, hrt, hG, ?_, hI.so, ?_, ?_, ?_, ?_, ?_, ?_, ?_, ?_⟩
              · rw [unhide HMM, List.map_map, ← hfr]
                rfl
              · have := hI.pm
                rw [List.append_nil] at this
                rw [← unhide HLA]
                exact this
              · exact pass (unhide HV) (by decide) (fun k q => hM.nf k q)
              · exact fun k q => by have := hM.nf k q; omega
              · exact owns_only hI.rn o9 (fun k q e => by have := hI.nn k q; have e' : k = w.heap.size + 2 := e; omega)
              · exact fun k q => by have := hI.nn k q; omega
              · have := pass0 hM.rg hM.ng
                rw [unhide HNG] at this ⊢
                exact this
              · exact fun k q => by have := hM.ng k q; omega
              · intro x hx
                rw [unhide HMM] at hx
                obtain ⟨y, hy, rfl⟩ := List.mem_map.1 hx
                rcases hM.lk y hy with q | q
                · exact .inl q
                · exact .inr ⟨pass0 q.1 q.2, fun k hk => by have := q.2 k hk; omega⟩
              · exact belowR ((unhide HB3).trans ((unhide HB9).mono (by omega))) (by omega) _
end Go.Proofs.YtjopnhhdemfniaaGreatDoor
