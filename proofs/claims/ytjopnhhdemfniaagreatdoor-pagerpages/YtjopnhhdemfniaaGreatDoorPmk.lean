import Derived.Test.YtjopnhhdemfniaaGreatDoorPmj
namespace Go.Proofs.YtjopnhhdemfniaaGreatDoor
open Go.RowKit
set_option maxHeartbeats 8000000
set_option maxRecDepth 8000
variable {B b : Nat} {E : List En} {vF vW : Value} {w w' w0 : World}
def zE : En := (.slice none 0 0, .slice none 0 0, [])
theorem getE (j : Nat) (h : j < E.length) : E.getD j zE ∈ E ∧ (E.map (·.1))[j]? = some (E.getD j zE).1 ∧ (E.map (·.2.1))[j]? = some (E.getD j zE).2.1 := by
  refine ⟨?_, ?_, ?_⟩
  · rw [List.getD_eq_getElem?_getD, List.getElem?_eq_getElem h]
    exact List.getElem_mem h
  · simp [h]
  · simp [h]
theorem s_ix30 (g o n cap k : Nat) (hk : k < n) {w : World} : (Instr.indexAt 30 (.slice (some ⟨g, o, none⟩) n cap) (.int .i64 (k : Int))).run Tryz.prog w = .ok (.pointer (some ⟨g, o + k, none⟩)) w := by
  have h1 : (k : Int) < (n : Int) := by omega
  have u := Tryz.underlying30
  have z := Tryz.sizeOf22
  simp [go_sem, u, z, h1]
theorem cell_keep {W W' : World} {g o : Nat} {u : Value} (h : W.cell? ⟨g, o, none⟩ = some u) (q : Below W.heap.size W W') : W'.cell? ⟨g, o, none⟩ = some u := (World.cell?_of_block (q.block g (blk_lt h))).trans h
theorem zN_run (T : TypeId) (W : World) (g n c : Nat) (xs : List Value) (h : W.ownsRow 0 22 1 (.slice (some ⟨g, 0, none⟩) n c) n xs) (h0 : 0 < n) (hn : n ≤ 1000) (hone : ∀ u ∈ xs, u.oneCell' = true) : ∃ cap W', (Builtin.append_ #[30, 30] T #[.slice none 0 0, .slice (some ⟨g, 0, none⟩) n c]).run Tryz.prog W = .ok (.slice (some ⟨W.heap.size, 0, none⟩) n cap) W' ∧ W'.ownsRow 0 22 1 (.slice (some ⟨W.heap.size, 0, none⟩) n cap) n xs ∧ Below W.heap.size W W' := by
  obtain ⟨i0, hi, hz0, hz1, hz2⟩ := info_parts info22
  have hxl : xs.length = n := by have := h.1; omega
  have hr := run_append_nil (P := Tryz.prog) W 30 T 22 i0 _ Tryz.underlying30 hi hz0 ⟨g, 0, none⟩ n c xs (by rw [hz1, Nat.mul_one]; exact hxl) (World.ownsRow.cells h (g := g) rfl) h0 (by omega) (by rw [hz2]; omega)
  obtain ⟨v', w', hr2, ho, _⟩ := run_append_own (P := Tryz.prog) W 0 30 T 22 i0 _ 1 24 Tryz.underlying30 hi hz0 hz1 hz2 rfl (by decide) (.slice none 0 0) 0 [] (owns_nil _ _ _) ⟨g, 0, none⟩ n c xs (by omega) (World.ownsRow.cells h (g := g) rfl) hone (by unfold maxLen; omega) (by omega) (Nat.zero_le _)
  rw [hr] at hr2
  injection hr2 with e1 e2
  subst e1 e2
  refine ⟨_, _, hr, ?_, (Below.refl _ _).drew.alloc (Nat.le_refl _) _⟩
  simpa using ho
theorem s_sub (x y : Operand) (a b : Int) (h0 : -9223372036854775808 ≤ a - b) (h1 : a - b ≤ 9223372036854775807) {w : World} : (do eqGuard .sub 3 x y (I a) (I b); binOp .sub 3 (I a) (I b) : Sem Value).run Tryz.prog w = .ok (I (a - b)) w := by
  have q : IntKind.i64.wrap (a - b) = a - b := by rw [IntKind.wrap_i64]; omega
  simp [go_sem, eqGuard, q]
theorem getD_at {α : Type} (l : List α) (d : α) (t : Nat) (h : t < l.length) : l[t]? = some (l.getD t d) := by
  rw [List.getD_eq_getElem?_getD, List.getElem?_eq_getElem h]
  rfl
theorem getD_in {α : Type} (l : List α) (d : α) (t : Nat) (h : t < l.length) : l.getD t d ∈ l := by
  rw [List.getD_eq_getElem?_getD, List.getElem?_eq_getElem h]
  exact List.getElem_mem h
theorem range_getE (E : List En) : (List.range E.length).map (fun m => (E.getD m zE).1) = E.map (·.1) := by
  apply List.ext_getElem
  · simp
  · intro i h1 h2
    have : i < E.length := by simpa using h1
    simp [this]
theorem bok_one (h : Bok B b E vF vW w) : ∀ u ∈ E.map (·.1), u.oneCell' = true := fun u hu => by
  obtain ⟨x, hx, rfl⟩ := List.mem_map.1 hu
  obtain ⟨p, c, e⟩ := owns_form (h.fr x hx)
  rw [e]
  rfl
theorem bok_mk (h : Bok B b E vF vW w) {vL : Value} {W : World} (hw0 : Below B w0 w) (hb : W.heap[b]? = some (.cells #[.slice none 0 0, .slice none 0 0, vL, .slice none 0 0, .slice none 0 0] 32 (0, 0))) (o : Only (fun k => k = b) w W) (hl : W.ownsRow 0 22 1 vL E.length (E.map (·.1))) (hn : ∀ k, vL.ownBlock = some k → w.heap.size ≤ k) : MK w0 B b E.length (fun m => (E.getD m zE).1) (fun m => (E.getD m zE).2.2.length) (fun m => (E.getD m zE).2.2) vL 0 0 W := by
  have nb : ∀ x ∈ E, ∀ k, x.1.ownBlock = some k → ¬ k = b := fun x hx k hk e => by
    obtain ⟨cs, q⟩ := owns_lt (h.fr x hx) k hk
    rw [e, h.blk] at q
    cases q
  refine ⟨hb, by rw [range_getE]; exact hl, fun m hm => ?_, fun m m' k hm hm' hne h1 h2 => ?_, fun _ => rfl, fun m => ?_, ⟨h.lb.1, Nat.le_trans h.lb.2 o.size⟩, fun k hk => Nat.le_trans h.lb.2 (hn k hk), fun m hm k hk => h.le _ (getE m hm).1 k hk, ?_⟩
  · rw [ctn_zero]
    exact owns_only (h.fr _ (getE m hm).1) o (nb _ (getE m hm).1)
  · have hp := List.pairwise_iff_getElem.1 h.ap
    have g1 : E.getD m zE = E[m] := by simp [hm]
    have g2 : E.getD m' zE = E[m'] := by simp [hm']
    simp only [g1, g2] at h1 h2
    rcases Nat.lt_or_gt_of_ne hne with q | q
    · exact hp m m' hm hm' q k h1 h2
    · exact hp m' m hm' hm q k h2 h1
  · by_cases hm : m < E.length
    · exact h.few _ (getE m hm).1
    · show (E.getD m zE).2.2.length ≤ 1000
      rw [List.getD_eq_getElem?_getD, List.getElem?_eq_none (by omega)]
      show (0 : Nat) ≤ 1000
      omega
  · exact o.below hw0 h.lb.2 (fun k hk => by rw [show k = b from hk]; exact h.lb.1)
theorem MK.at {N : Nat} {v : Nat → Value} {n : Nat → Nat} {l : Nat → List Int} {gL cL i k m : Nat} {W : World} (h : MK w0 B b N v n l (.slice (some ⟨gL, 0, none⟩) N cL) i k W) (hm : m < N) : W.cell? ⟨gL, m, none⟩ = some (v m) := owns_cell h.lr m _ (by simp [hm])
theorem still_any (h : Bok B b E vF vW w) (h0 : 0 < E.length) (hE : E.length ≤ 1000) : Calls Tryz.prog 19 #[ptr b] w fun e w' => e = .returned (.bool true) ∧ Below B w w' := by
  obtain ⟨gF, cF, curF, eF, _⟩ := owns_at h.f h0
  obtain ⟨gW, cW, curW, eW, _⟩ := owns_at h.s h0
  subst eF eW
  have HH := hide h
  have HE := hide hE
  have H0 := hide h0
  generalize hN : E.length = N at *
  have HN := hide hN
  have hN0 : (0 : Int) < (N : Int) := by omega
  have hN1 : N ≤ 1000 := hE
  clear h h0 hE hN
  go_enter Tryz.func19, Tryz.ntmps19
  go_wp2
  go_loopw [3] (fun i wr => ∃ j : Nat, j ≤ N ∧ i = .int .i64 j ∧ Below w.heap.size w wr) (fun i _ => N - (Go.RowKit.intOf i).toNat)
  case atStart => exact ⟨0, by omega, rfl, Below.refl _ _⟩
  case round =>
    obtain ⟨j, hj, rfl, hb⟩ := hrel
    have hB := (unhide HH).below hb
    have hbl := lt_of_row hB.blk
    have c0 : wr.cell? ⟨b, 0, none⟩ = some (.slice (some ⟨gF, 0, none⟩) N cF) := cell_of_row _ _ 0 _ 32 (0, 0) hB.blk
    have c1 : wr.cell? ⟨b, 1, none⟩ = some (.slice (some ⟨gW, 0, none⟩) N cW) := cell_of_row _ _ 1 _ 32 (0, 0) hB.blk
    have c2 : wr.cell? ⟨b, 2, none⟩ = some (.slice none 0 0) := cell_of_row _ _ 2 _ 32 (0, 0) hB.blk
    by_cases hlt : j < N
    · have hlt' : (j : Int) < (N : Int) := by omega
      obtain ⟨m1, m2, m3⟩ := getE (E := E) j (by have := unhide HN; omega)
      have e1 := hB.fr _ m1
      have e2 := hB.wa _ m1
      have e3 := hB.few _ m1
      generalize E.getD j zE = x at *
      obtain ⟨x1, x2, lx⟩ := x
      simp only at m2 m3 e1 e2 e3
      obtain ⟨p1, d1, rfl⟩ := owns_form e1
      obtain ⟨p2, d2, rfl⟩ := owns_form e2
      have i1 := ins_of e1
      have i2 := ins_of e2
      have hFc := owns_cell (show wr.ownsRow 0 22 1 (.slice (some ⟨gF, 0, none⟩) N cF) N (E.map (·.1)) by have q := hB.f; rw [unhide HN] at q; exact q) j _ m2
      have hWc := owns_cell (show wr.ownsRow 0 22 1 (.slice (some ⟨gW, 0, none⟩) N cW) N (E.map (·.2.1)) by have q := hB.s; rw [unhide HN] at q; exact q) j _ m3
      have HI := hide (fun W (q : Below wr.heap.size wr W) => ints_any p1 p2 lx.length lx.length d1 d2 lx lx W (i1.below q) (i2.below q) (by omega) (by omega))
      rw [show decide (lx = lx) = true by simp] at HI
      have HC := hide (And.intro c0 (And.intro c1 (And.intro hFc hWc)))
      have HB := hide hb
      clear c2 hB e1 e2 e3 i1 i2 hFc hWc m1 m2 m3 hb
      go_upto_region 4 with fail
      refine rst4 b gF N cF gW N cW j lx.length d1 lx.length d2 p1 p2 (by kernel_rfl) (by kernel_rfl) (by kernel_rfl) _ _ (by show 39 ≤ Array.size _; simp) rfl rfl (fun _ _ W => Below wr.heap.size wr W) ⟨(), (Below.refl _ _).drew⟩ (fun _ _ _ _ _ q => q) ?_ ?_ ?_ ?_ ?_ ?_ ?_ ?_
      · exact fun _ _ W q _ _ => s_ld Tryz.isAgg30 (cell_keep (unhide HC).1 q)
      · exact fun W => s_ix30 gF 0 N cF j hlt
      · exact fun _ _ W q _ _ => s_ld Tryz.isAgg22 (by rw [Nat.zero_add]; exact cell_keep (unhide HC).2.2.1 q)
      · exact fun _ _ W q _ _ => s_ld Tryz.isAgg30 (cell_keep (unhide HC).2.1 q)
      · exact fun W => s_ix30 gW 0 N cW j hlt
      · exact fun _ _ W q _ _ => s_ld Tryz.isAgg22 (by rw [Nat.zero_add]; exact cell_keep (unhide HC).2.2.2 q)
      · intro _ L W q _ _ _
        refine (unhide HI W q).mono ?_
        rintro e w' ⟨rfl, q1⟩
        exact ⟨(), fun _ _ => rfl, rfl, q.trans (q1.mono q.size)⟩
      intro _ L W _ hW
      have HW := hide ((unhide HB).trans (hW.mono (unhide HB).size))
      clear hW HI HC
      simp only [Act.put, List.setIfInBounds_toArray, List.set_cons_succ, List.set_cons_zero]
      go_wp2
      go_round
      case measure => simp [Go.RowKit.intOf] <;> omega
      case rel => exact ⟨j + 1, by omega, by simp, unhide HW⟩
    · have hlt' : ¬ (j : Int) < (N : Int) := by omega
      obtain rfl : j = N := by omega
      have HB := hide hb
      have HBK := hide hB
      clear hB hb
      obtain ⟨w1, hw1⟩ : ∃ w1, w1 = wr := ⟨_, rfl⟩
      subst hw1
      go_upto_region 8 with fail
      refine rst8 b j cF (some ⟨gF, 0, none⟩) (by kernel_rfl) (by kernel_rfl) (by kernel_rfl) _ _ (by show 58 ≤ Array.size _; simp) rfl (fun c L W => Only (fun k => k = b) w1 W ∧ (L 12 = false → W.heap[b]? = some (.cells #[.slice (some ⟨gF, 0, none⟩) j cF, .slice (some ⟨gW, 0, none⟩) j cW, .slice none 0 0, .slice none 0 0, .slice none 0 0] 32 (0, 0))) ∧ (L 9 = true → L 4 = true ∧ L 8 = true ∧ (∃ p c2, c = .slice p j c2) ∧ W.ownsRow 0 22 1 c j (E.map (·.1)) ∧ (∀ k, c.ownBlock = some k → w1.heap.size ≤ k)) ∧ (L 12 = true → L 9 = true ∧ W.heap[b]? = some (.cells #[.slice (some ⟨gF, 0, none⟩) j cF, .slice (some ⟨gW, 0, none⟩) j cW, c, .slice none 0 0, .slice none 0 0] 32 (0, 0)))) ⟨.slice none 0 0, Only.of_below (Below.refl _ _).drew, fun _ => (unhide HBK).blk, (fun q => nomatch q), (fun q => nomatch q)⟩ ?_ ?_ ?_ ?_ ?_ ?_
      · intro i hi c L W hW
        simp only [List.mem_cons, List.not_mem_nil, or_false, not_or] at hi
        rw [upd_ne (Ne.symm hi.1), upd_ne (Ne.symm hi.2)]
        refine ⟨hW.1, hW.2.1, fun q => ?_, hW.2.2.2⟩
        obtain ⟨q1, q2, q3⟩ := hW.2.2.1 q
        refine ⟨?_, ?_, q3⟩
        · by_cases e : 4 = i
          · rw [← e]; exact upd_self _ _
          · rw [upd_ne e]; exact q1
        · by_cases e : 8 = i
          · rw [← e]; exact upd_self _ _
          · rw [upd_ne e]; exact q2
      · intro c L W hW hL _
        have h12 : L 12 = false := by
          cases q : L 12
          · rfl
          · rw [(hW.2.2.1 (hW.2.2.2 q).1).1] at hL; cases hL
        exact s_ld Tryz.isAgg30 (cell_of_row _ _ 2 _ 32 (0, 0) (hW.2.1 h12))
      · intro c L W hW hL _
        have h12 : L 12 = false := by
          cases q : L 12
          · rfl
          · rw [(hW.2.2.1 (hW.2.2.2 q).1).2.1] at hL; cases hL
        exact s_ld Tryz.isAgg30 (cell_of_row _ _ 0 _ 32 (0, 0) (hW.2.1 h12))
      · intro T c L W hW hL h4 h8
        have h12 : L 12 = false := by
          cases q : L 12
          · rfl
          · rw [(hW.2.2.2 q).1] at hL; cases hL
        have hf : w1.ownsRow 0 22 1 (.slice (some ⟨gF, 0, none⟩) j cF) j (E.map (·.1)) := by have q := (unhide HBK).f; rw [unhide HN] at q; exact q
        have hfW := owns_only hf hW.1 (fun k hk e => by
          obtain ⟨cs, q⟩ := owns_lt hf k hk
          rw [show k = b from e, (unhide HBK).blk] at q
          cases q)
        obtain ⟨cp, W', q1, q2, q3⟩ := zN_run T W gF j cF (E.map (·.1)) hfW (unhide H0) hN1 (bok_one (unhide HBK))
        refine ⟨_, W', fun i hi => ?_, q1, hW.1.trans (Only.of_below (P := fun k => k = b) q3) (fun _ _ r => r), fun _ => ?_, fun _ => ⟨?_, ?_, ⟨_, _, rfl⟩, q2, fun k hk => ?_⟩, fun q => ?_⟩
        · unfold vrst8
          split <;> first | rfl | (rw [hL] at hi; cases hi)
        · exact (q3.block b (lt_of_row (hW.2.1 h12))).trans (hW.2.1 h12)
        · rw [upd_ne (by decide)]; exact h4
        · rw [upd_ne (by decide)]; exact h8
        · have : k = W.heap.size := by simpa [Value.ownBlock, eq_comm] using hk
          have := hW.1.size
          omega
        · rw [upd_ne (by decide), h12] at q
          cases q
      · intro c L W hW hL h9 _
        obtain ⟨q1, q2, ⟨p, c2, rfl⟩, q4, q5⟩ := hW.2.2.1 h9
        have hrow := hW.2.1 hL
        refine ⟨_, s_sta Tryz.sizeOf30 (o := 0 + 2) hrow (.slice p j c2) rfl (by simp) (by show ∀ y ∈ [Value.slice p j c2], y.oneCell' = true; simp [Value.oneCell']), hW.1.trans (setRow_Only _ _ _) (fun _ _ q => q), fun q => ?_, fun _ => ⟨?_, ?_, ⟨_, _, rfl⟩, owns_only q4 (setRow_Only _ _ _) (fun k hk e => ?_), q5⟩, fun _ => ⟨?_, setRow_row hrow⟩⟩
        · rw [upd_self] at q; cases q
        · rw [upd_ne (by decide)]; exact q1
        · rw [upd_ne (by decide)]; exact q2
        · obtain ⟨cs, q⟩ := owns_lt q4 k hk
          rw [show k = b from e, hrow] at q
          cases q
        · rw [upd_ne (by decide)]; exact h9
      intro vL L W2 hall hW
      obtain ⟨_, _, ⟨pL, cL, rfl⟩, hlr, hln⟩ := hW.2.2.1 (hall 9 (by omega))
      have hrow := (hW.2.2.2 (hall 12 (by omega))).2
      have o2 := hW.1
      have r3 := heap_setCell_same W2 b 0 _ 32 (.slice none 0 0) hrow
      have r4 := heap_setCell_same _ b 1 _ 32 (.slice none 0 0) r3
      have o4 := (o2.put ⟨b, 0, none⟩ (.slice none 0 0) (.inl rfl)).put ⟨b, 1, none⟩ (.slice none 0 0) (.inl rfl)
      have nbl : ∀ k, (Value.slice pL j cL).ownBlock = some k → ¬ k = b := fun k hk e => by
        obtain ⟨cs, q⟩ := owns_lt hlr k hk
        rw [e, hrow] at q
        cases q
      have hl4 := owns_only (owns_only hlr (Only.setCell W2 ⟨b, 0, none⟩ (.slice none 0 0)) nbl) (Only.setCell _ ⟨b, 1, none⟩ (.slice none 0 0)) nbl
      have hmk := bok_mk (w0 := w) (unhide HBK) (vL := .slice pL j cL) ((unhide HB).mono (unhide HH).lb.2) r4 o4 (by rw [unhide HN]; exact hl4) hln
      rw [unhide HN] at hmk
      have HMK := hide hmk
      have x0 := cell_of_row _ _ 0 _ 32 (0, 0) hrow
      have y0 := frz hrow 0
      have x1 := cell_of_row _ _ 1 _ 32 (0, 0) r3
      have y1 := frz r3 1
      have hb2 := lt_of_row hrow
      have hb3 := lt_of_row r3
      clear hmk hW hall hlr hln hrow o2 r3 r4 o4 nbl hl4 c0 c1 c2
      simp only [Act.put, List.setIfInBounds_toArray, List.set_cons_succ, List.set_cons_zero]
      generalize hW4 : (W2.setCell ⟨b, 0, none⟩ (.slice none 0 0)).setCell ⟨b, 1, none⟩ (.slice none 0 0) = W4 at *
      have HW4 := hide hW4
      clear hW4
      go_upto_region 11 with fail
      rw [unhide HW4]
      clear x0 y0 x1 y1 hb2 hb3 HW4 HBK HB
      generalize hvv : (fun m => (E.getD m zE).1) = v at *
      generalize hnn : (fun m => (E.getD m zE).2.2.length) = n at *
      generalize hll : (fun m => (E.getD m zE).2.2) = l at *
      clear hvv hnn hll
      obtain ⟨gL, cL', curL, eL, _⟩ := owns_at (unhide HMK).lr (unhide H0)
      cases eL
      go_wp2
      go_loopw [6] (fun i wr => ∃ i9 : Nat, i9 ≤ j ∧ i = .int .i64 i9 ∧ MK w B b j v n l (.slice (some ⟨gL, 0, none⟩) j cL) i9 0 wr) (fun i _ => j - (Go.RowKit.intOf i).toNat)
      case atStart => exact ⟨0, by omega, rfl, unhide HMK⟩
      case round =>
        obtain ⟨i9, hi9, rfl, hm⟩ := hrel
        have c2 : wr.cell? ⟨b, 2, none⟩ = some (.slice (some ⟨gL, 0, none⟩) j cL) := cell_of_row _ _ 2 _ 32 (0, 0) hm.blk
        have hbl := lt_of_row hm.blk
        by_cases hlt : i9 < j
        · have hlt' : (i9 : Int) < (j : Int) := by omega
          have HM := hide hm
          have hfew := hm.few i9
          clear hm
          obtain ⟨w5, hw5⟩ : ∃ w5, w5 = wr := ⟨_, rfl⟩
          subst hw5
          go_wp2
          go_loopw [7] (fun k wr => ∃ k9 : Nat, k9 ≤ n i9 ∧ k = .int .i64 k9 ∧ MK w B b j v n l (.slice (some ⟨gL, 0, none⟩) j cL) i9 k9 wr) (fun k _ => n i9 - (Go.RowKit.intOf k).toNat)
          case atStart => exact ⟨0, by omega, rfl, unhide HM⟩
          case round =>
            obtain ⟨k9, hk9, rfl, hm⟩ := hrel
            have c2 : wr.cell? ⟨b, 2, none⟩ = some (.slice (some ⟨gL, 0, none⟩) j cL) := cell_of_row _ _ 2 _ 32 (0, 0) hm.blk
            have hbl := lt_of_row hm.blk
            have cL9 := hm.at hlt
            have hgl := blk_lt cL9
            have how := hm.ow i9 hlt
            by_cases hk : k9 < n i9
            · have hk' : (k9 : Int) < (n i9 : Int) := by omega
              obtain ⟨g, cap, cur, eg, hgr, _⟩ := owns_at how (by omega)
              have HS := hide (hm.mark hlt hk eg)
              rw [eg] at cL9 how
              have hln : (ctn n l i9 k9 i9).length = n i9 := by have q := how.1; simpa using q
              have hcc := owns_cell how k9 _ (show ((ctn n l i9 k9 i9).map fun z => I z)[k9]? = some (I ((ctn n l i9 k9 i9).getD k9 0)) by simp [hln, hk])
              generalize (ctn n l i9 k9 i9).getD k9 0 = old at *
              have hfz := frz hgr k9
              have hgg := lt_of_row hgr
              have HNI := hide (rfl : n i9 = n i9)
              generalize n i9 = ni at *
              have hmk : (-100 : Int) - (i9 : Int) = mk9 i9 := rfl
              have HMK9 := hide hmk
              clear hm how hln hmk hgr eg
              unfold mk9 at HS
              go_wp2
              go_round
              case measure => simp [Go.RowKit.intOf] <;> omega
              case rel => exact ⟨k9 + 1, by omega, by simp, unhide HS⟩
            · have hk' : ¬ (k9 : Int) < (n i9 : Int) := by omega
              obtain rfl : k9 = n i9 := by omega
              obtain ⟨pv, cv, ev⟩ := owns_form how
              rw [ev] at cL9
              have HS := hide hm.next
              clear hm how ev
              generalize n i9 = ni at *
              go_wp2
              exact ⟨⟨i9 + 1, by omega, by simp, unhide HS⟩, by simp [Go.RowKit.intOf] <;> omega⟩
        · have hlt' : ¬ (i9 : Int) < (j : Int) := by omega
          obtain rfl : j = i9 := by omega
          have HSG := hide hm.done
          clear hm hlt HMK
          obtain ⟨w5, hw5⟩ : ∃ w5, w5 = wr := ⟨_, rfl⟩
          subst hw5
          go_upto_region 18 with fail
          clear c2
          go_wp2
          go_loopw [8] (fun i wr => ∃ (i9 : Nat) (vG vH : Value) (G : List Value) (H : List Nat) (tag : Tgs) (used : Nat → Nat), i9 ≤ j ∧ i = .int .i64 i9 ∧ G.length = H.length ∧ H.length ≤ 12 * i9 ∧ (∀ x ∈ H, x ≤ 1000) ∧ SG w B b j v n (.slice (some ⟨gL, 0, none⟩) j cL) vG vH G H tag used i9 wr) (fun i _ => j - (Go.RowKit.intOf i).toNat)
          case atStart => exact ⟨0, _, _, [], [], _, _, by omega, rfl, rfl, by simp, by simp, unhide HSG⟩
          case round =>
            obtain ⟨i9, vG, vH, G, H, tag, used, hi9, rfl, hGH, hH12, hle, hs⟩ := hrel
            have HLE := hide hle
            clear hle
            have c2 : wr.cell? ⟨b, 2, none⟩ = some (.slice (some ⟨gL, 0, none⟩) j cL) := cell_of_row _ _ 2 _ 32 (0, 0) hs.blk
            have hbl := lt_of_row hs.blk
            by_cases hlt : i9 < j
            · have hlt' : (i9 : Int) < (j : Int) := by omega
              have cL9 : wr.cell? ⟨gL, i9, none⟩ = some (v i9) := owns_cell hs.l i9 _ (by simp [hlt])
              have hgl := blk_lt cL9
              obtain ⟨hx0, hx1⟩ := hs.ow i9 (Nat.le_refl _) hlt
              obtain ⟨pv, cv, ev⟩ := owns_form hx0
              have HS := hide hs.take
              rw [ev] at cL9 hx0 hx1
              have HX0 := hide hx0
              have HX1 := hide hx1
              have HGH := hide hGH
              have HH12 := hide hH12
              have hfew := hs.few i9
              clear hs hx0 hx1 ev hGH hH12
              generalize n i9 = ni at *
              obtain ⟨w6, hw6⟩ : ∃ w6, w6 = wr := ⟨_, rfl⟩
              subst hw6
              go_wp2
              go_loopw [9, 10] (fun x k wr => ∃ (k9 : Nat) (vG vH : Value) (G : List Value) (H : List Nat) (tag : Tgs) (used : Nat → Nat), k9 ≤ 12 ∧ k = .int .i64 k9 ∧ G.length = H.length ∧ H.length ≤ 12 * i9 + k9 ∧ (∀ x ∈ H, x ≤ 1000) ∧ SG w B b j v n (.slice (some ⟨gL, 0, none⟩) j cL) vG vH G H tag used (i9 + 1) wr ∧ wr.ownsRow 0 3 1 x (ni + k9) (List.replicate (ni + k9) (I (mk9 i9))) ∧ (∀ q, x.ownBlock = some q → tag q = some i9 ∧ used q = ni + k9)) (fun _ k _ => 12 - (Go.RowKit.intOf k).toNat)
              case atStart => exact ⟨0, vG, vH, G, H, tag, used, by omega, rfl, unhide HGH, by have := unhide HH12; omega, unhide HLE, unhide HS, unhide HX0, unhide HX1⟩
              case round =>
                obtain ⟨k9, vG, vH, G, H, tag, used, hk9, rfl, hGH, hHk, hle, hs, hx, hxt⟩ := hrel
                have HLE := hide hle
                clear hle
                by_cases hk : k9 < 12
                · have hk' : (k9 : Int) < 12 := by omega
                  obtain ⟨px, cx, rfl⟩ := owns_form hx
                  have hGn : G.length ≤ 20000 := by omega
                  have hw7b := lt_of_row hs.blk
                  have HS := hide hs
                  have HX := hide hx
                  have HXT := hide hxt
                  have HGH := hide hGH
                  have HHK := hide hHk
                  clear hs hx hxt hGH hHk c2 cL9 hgl hbl HX0 HX1 HH12
                  obtain ⟨w7, hw7⟩ : ∃ w7, w7 = wr := ⟨_, rfl⟩
                  subst hw7
                  go_wp2_with (at_builtin; refine wp_gr 22 3 _ 1 8 Tryz.underlying22 info3 rfl (by decide) (by decide) rfl (.tmp 118) (.tmp 121) rfl (.slice px (ni + k9) cx) (ni + k9) _ [I (-100 - (i9 : Int))] (by rfl) w7 (unhide HX) rfl (by simp [Value.oneCell']) (by rfl) (by omega) ?_)
                  intro p8 c8 w8 r8 g8 o8
                  have r8' : w8.ownsRow 0 3 1 (.slice p8 (ni + k9 + 1) c8) (ni + k9 + 1) (List.replicate (ni + k9 + 1) (I (mk9 i9))) := by
                    rw [List.replicate_succ']
                    exact r8
                  have hs8 := ((unhide HS).below ((Below.refl w7.heap.size w7).alloc (Nat.le_refl _) (.cells [I (-100 - (i9 : Int))].toArray 3))).grow (i := i9) (by omega) (unhide HXT) g8 r8' (fun k hk => by
                    rcases o8 with ⟨g, q1, q2⟩ | q
                    · left
                      rw [q2] at hk
                      cases hk
                      exact q1
                    · right
                      rw [q] at hk
                      cases hk
                      simp)
                  generalize tgx tag (.slice p8 (ni + k9 + 1) c8) i9 = tag8 at hs8
                  generalize usx used (.slice p8 (ni + k9 + 1) c8) (ni + k9 + 1) = used8 at hs8
                  obtain ⟨hs8, ht8⟩ := hs8
                  obtain ⟨pG, cG, rfl⟩ := owns_form hs8.g
                  have c3 : w8.cell? ⟨b, 3, none⟩ = some (.slice pG G.length cG) := cell_of_row _ _ 3 _ 32 (0, 0) hs8.blk
                  have hw8b := lt_of_row hs8.blk
                  have HS8 := hide hs8
                  have HT8 := hide ht8
                  have HR8 := hide r8'
                  clear hs8 ht8 r8 r8' g8 o8 HS HX HXT
                  go_wp2_with (at_builtin; refine push_own 30 22 _ 1 24 Tryz.underlying30 info22 rfl (by decide) rfl (.tmp 127) (.tmp 129) rfl (.slice pG G.length cG) G.length G (by rfl) w8 (unhide HS8).g [.slice p8 (ni + k9 + 1) c8] rfl (by simp [Value.oneCell']) (by rfl) (by omega) (by omega) ?_)
                  intro p9 c9 w9 r9 o9 n9
                  obtain ⟨hb9, hs9⟩ := (unhide HS8).pushG r9 o9 n9 (by have := unhide HGH; omega)
                  have hx9 := owns_only (owns_only (unhide HR8) o9 (fun k hk e => by have t := unhide HT8 k hk; rw [(unhide HS8).t22 (unhide HS8).g k e] at t; cases t.1)) (Only.setCell w9 ⟨b, 3, none⟩ (.slice p9 (G.length + 1) c9)) (fun k hk e => by have t := unhide HT8 k hk; rw [show k = b from e, (unhide HS8).b0] at t; cases t.1)
                  have x3 := cell_of_row _ _ 3 _ 32 (0, 0) hb9
                  have y3 := frz hb9 3
                  have hw9b := lt_of_row hb9
                  have HS9 := hide hs9
                  have HX9 := hide hx9
                  clear hs9 hx9 hb9 r9 o9 n9 c3 hw8b
                  generalize hW9 : w9.setCell ⟨b, 3, none⟩ (.slice p9 (G.length + 1) c9) = W9 at *
                  have HW9 := hide hW9
                  clear hW9
                  go_upto_region 27 with fail
                  rw [unhide HW9]
                  clear x3 y3 hw9b HW9
                  have hs9 := unhide HS9
                  obtain ⟨pH, cH, rfl⟩ := owns_form hs9.h
                  have c4 : W9.cell? ⟨b, 4, none⟩ = some (.slice pH H.length cH) := cell_of_row _ _ 4 _ 32 (0, 0) hs9.blk
                  have hw9b := lt_of_row hs9.blk
                  clear hs9
                  have hHn : H.length ≤ 20000 := by have := unhide HGH; omega
                  go_wp2_with (at_builtin; refine push_own 22 3 _ 1 8 Tryz.underlying22 info3 rfl (by decide) rfl (.tmp 137) (.tmp 139) rfl (.slice pH H.length cH) H.length _ (by rfl) W9 (unhide HS9).h [I (i9 : Int)] rfl (by simp [Value.oneCell']) (by rfl) (by omega) (by omega) ?_)
                  intro p5 c5 w5' r5 o5 n5
                  obtain ⟨hb5, hs5⟩ := (unhide HS9).pushH (i := i9) (len := ni + k9 + 1) r5 o5 n5 (by omega) (by
                    rw [show (G ++ [Value.slice p8 (ni + k9 + 1) c8]).getD H.length undef = .slice p8 (ni + k9 + 1) c8 by rw [← unhide HGH]; simp]
                    refine ⟨p8, c8, rfl, fun _ => ?_⟩
                    obtain ⟨g, cap, cur, e, _⟩ := owns_at (unhide HR8) (by omega)
                    cases e
                    have t := unhide HT8 g rfl
                    exact ⟨g, rfl, t.1, by rw [t.2]; exact Nat.le_refl _⟩)
                  have hx5 := owns_only (owns_only (unhide HX9) o5 (fun k hk e => by have t := unhide HT8 k hk; rw [(unhide HS9).ht k e] at t; cases t.1)) (Only.setCell w5' ⟨b, 4, none⟩ (.slice p5 (H.length + 1) c5)) (fun k hk e => by have t := unhide HT8 k hk; rw [show k = b from e, (unhide HS8).b0] at t; cases t.1)
                  have x4 := cell_of_row _ _ 4 _ 32 (0, 0) hb5
                  have y4 := frz hb5 4
                  have hw5b := lt_of_row hb5
                  have HS5 := hide hs5
                  have HX5 := hide hx5
                  clear hs5 hx5 hb5 r5 o5 n5 c4 hw9b
                  go_wp2
                  go_round
                  case measure => simp [Go.RowKit.intOf] <;> omega
                  case rel => exact ⟨k9 + 1, _, _, _, _, tag8, used8, by omega, by simp, by simp [unhide HGH], by have := unhide HHK; simp; omega, (fun x hx => by
                    rcases List.mem_append.1 hx with q | q
                    · exact unhide HLE x q
                    · rw [List.mem_singleton.1 q]; omega), unhide HS5, unhide HX5, unhide HT8⟩
                · have hk' : ¬ (k9 : Int) < 12 := by omega
                  have HS := hide hs
                  have HGH := hide hGH
                  clear hs hx hxt
                  go_wp2
                  exact ⟨⟨i9 + 1, vG, vH, G, H, tag, used, by omega, by simp, unhide HGH, by omega, unhide HLE, unhide HS⟩, by simp [Go.RowKit.intOf] <;> omega⟩
            · have hlt' : ¬ (i9 : Int) < (j : Int) := by omega
              obtain rfl : j = i9 := by omega
              obtain ⟨w6, hw6⟩ : ∃ w6, w6 = wr := ⟨_, rfl⟩
              subst hw6
              have HS := hide hs
              have HGH := hide hGH
              have HH12 := hide hH12
              clear hs hlt HSG hGH hH12
              go_wp2
              go_loopw [11] (fun i wr => ∃ t9 : Nat, t9 ≤ j ∧ i = .int .i64 t9 ∧ wr = w6) (fun i _ => j - (Go.RowKit.intOf i).toNat)
              case atStart => exact ⟨0, by omega, rfl, rfl⟩
              case round =>
                obtain ⟨t9, ht9, rfl, rfl⟩ := hrel
                by_cases hlt : t9 < j
                · have hlt' : (t9 : Int) < (j : Int) := by omega
                  have cL9 : wr.cell? ⟨gL, t9, none⟩ = some (v t9) := owns_cell (unhide HS).l t9 _ (by simp [hlt])
                  have hgl := blk_lt cL9
                  obtain ⟨pv, cv, ev, hin⟩ := ((unhide HS).vw t9 hlt).ins (unhide HS).mg
                  have hfew := (unhide HS).few t9
                  have HK := hide (reads_any pv (n t9) cv (mk9 t9) wr hin (by omega))
                  rw [ev] at cL9
                  clear ev hin
                  generalize n t9 = nt at *
                  unfold mk9 at HK
                  go_wp2_with fail
                  refine (unhide HK).mono ?_
                  rintro e w8 ⟨rfl, rfl⟩
                  go_wp2
                  go_round
                  case measure => simp [Go.RowKit.intOf] <;> omega
                  case rel => exact ⟨t9 + 1, by omega, by simp, trivial⟩
                · have hlt' : ¬ (t9 : Int) < (j : Int) := by omega
                  obtain rfl : j = t9 := by omega
                  obtain ⟨w6, hw6⟩ : ∃ w6, w6 = wr := ⟨_, rfl⟩
                  subst hw6
                  have hs := unhide HS
                  obtain ⟨pG, cG, rfl⟩ := owns_form hs.g
                  obtain ⟨pH, cH, rfl⟩ := owns_form hs.h
                  have hHn : H.length ≤ 12000 := by have := unhide HH12; omega
                  rw [unhide HGH] at hs HS
                  have c3 : w6.cell? ⟨b, 3, none⟩ = some (.slice pG H.length cG) := cell_of_row _ _ 3 _ 32 (0, 0) hs.blk
                  have c4 : w6.cell? ⟨b, 4, none⟩ = some (.slice pH H.length cH) := cell_of_row _ _ 4 _ 32 (0, 0) hs.blk
                  have HC := hide (And.intro c3 c4)
                  clear hs c3 c4
                  generalize hh : H.length = hn at *
                  have HHH := hide hh
                  clear hh
                  have hb0 := lt_of_row (unhide HS).blk
                  go_wp2
                  go_loopw [13] (fun i wr => ∃ t9 : Nat, t9 ≤ hn ∧ i = .int .i64 t9 ∧ Below w6.heap.size w6 wr) (fun i _ => hn - (Go.RowKit.intOf i).toNat)
                  case atStart => exact ⟨0, by omega, rfl, Below.refl _ _⟩
                  case round =>
                    obtain ⟨t9, ht9, rfl, hb9⟩ := hrel
                    have hs := (unhide HS).below hb9
                    have c3 := cell_keep (unhide HC).1 hb9
                    have c4 := cell_keep (unhide HC).2 hb9
                    have hb1 := lt_of_row hs.blk
                    by_cases hlt : t9 < hn
                    · have hlt' : (t9 : Int) < (hn : Int) := by omega
                      have hlH : t9 < H.length := by rw [unhide HHH]; exact hlt
                      have hlG : t9 < G.length := by have := unhide HGH; omega
                      obtain ⟨gG, cG', cuG, eG, _⟩ := owns_at hs.g (by omega)
                      injection eG with e1 e2 e3
                      subst e1 e3
                      obtain ⟨gH, cH', cuH, eH, _⟩ := owns_at hs.h (by omega)
                      injection eH with e1 e2 e3
                      subst e1 e3
                      have hgr := hs.g
                      rw [show G.length = hn from (unhide HGH)] at hgr
                      have hhr := hs.h
                      rw [unhide HHH] at hhr
                      have hg := owns_cell hgr t9 (G.getD t9 undef) (getD_at G undef t9 hlG)
                      have hh := owns_cell hhr t9 (I ((H.getD t9 0 : Nat) : Int)) (by rw [List.getElem?_map, getD_at H 0 t9 hlH]; rfl)
                      obtain ⟨ln, hl9, hv9⟩ := hs.gw t9 hlH
                      have HV := hide hv9
                      obtain ⟨pv, cv, ev, _⟩ := hv9.ins hs.mg
                      rw [ev] at hg
                      have HK := hide (fun W (q : Below wr.heap.size wr W) => by
                        obtain ⟨pv', cv', ev', hin⟩ := (unhide HV).ins (hs.mg.below q)
                        rw [ev] at ev'
                        cases ev'
                        exact reads_any pv ln cv (mk9 (H.getD t9 0)) W hin (by omega))
                      have HCC := hide (And.intro c3 (And.intro c4 (And.intro hg hh)))
                      have HB9 := hide hb9
                      have hz : H.getD t9 0 ≤ 1000 := unhide HLE _ (getD_in H 0 t9 hlH)
                      generalize H.getD t9 0 = z at *
                      clear hg hh HV ev hs hb9 hgr hhr
                      unfold mk9 at HK
                      go_upto_region 37 with fail
                      refine rst37 b gG hn cG gH hn cH t9 ln cv pv (z : Int) (by kernel_rfl) (by kernel_rfl) (by kernel_rfl) _ _ (by show 189 ≤ Array.size _; simp) rfl rfl (fun _ _ W => Below wr.heap.size wr W) ⟨(), (Below.refl _ _).drew⟩ (fun _ _ _ _ _ q => q) ?_ ?_ ?_ ?_ ?_ ?_ ?_ ?_ ?_
                      · exact fun _ _ W q _ _ => s_ld Tryz.isAgg30 (cell_keep (unhide HCC).1 q)
                      · exact fun W => s_ix30 gG 0 hn cG t9 hlt
                      · exact fun _ _ W q _ _ => s_ld Tryz.isAgg22 (by rw [Nat.zero_add]; exact cell_keep (unhide HCC).2.2.1 q)
                      · exact fun _ _ W q _ _ => s_ld Tryz.isAgg22 (cell_keep (unhide HCC).2.1 q)
                      · exact fun W => s_ix22 gH 0 hn cH t9 hlt
                      · exact fun _ _ W q _ _ => s_ld Tryz.isAgg3 (by rw [Nat.zero_add]; exact cell_keep (unhide HCC).2.2.2 q)
                      · exact fun W => s_sub _ _ _ _ (by omega) (by omega)
                      · intro _ L W q _ _ _
                        refine (unhide HK W q).mono ?_
                        rintro e w' ⟨rfl, rfl⟩
                        exact ⟨(), fun _ _ => rfl, rfl, q⟩
                      intro _ L W _ hW
                      have HW := hide ((unhide HB9).trans (hW.mono (unhide HB9).size))
                      clear hW HK HCC
                      simp only [Act.put, List.setIfInBounds_toArray, List.set_cons_succ, List.set_cons_zero]
                      go_wp2
                      go_round
                      case measure => simp [Go.RowKit.intOf] <;> omega
                      case rel => exact ⟨t9 + 1, by omega, by simp, unhide HW⟩
                    · have hlt' : ¬ (t9 : Int) < (hn : Int) := by omega
                      have HR := hide hs.bel
                      clear hs
                      go_wp2
                      go_ret
                      exact ⟨rfl, unhide HR⟩
end Go.Proofs.YtjopnhhdemfniaaGreatDoor
