import Derived.Test.YtfaahjbkdlkmjaaDoorJen
/- Jot: slices.Insert of one thing. -/
namespace Go.Proofs.YtfaahjbkdlkmjaaDoor
open Go Go.RowKit Go.Lib
set_option linter.unusedVariables false
set_option linter.unusedSimpArgs false
set_option maxHeartbeats 4000000
set_option maxRecDepth 8000
theorem info9 : (Tryd.prog.info? 9).map (fun i => (i.zero, i.size, i.bytes)) = some (some (.string ⟨#[]⟩), 1, 16) := by kernel_rfl
def encS (x : Bs) : List Value := [S x]
theorem encS_len (x : Bs) : (encS x).length = 1 := rfl
theorem encS_one (x : Bs) : ∀ u ∈ encS x, u.oneCell' = true := by
  intro u hu
  unfold encS at hu
  rw [List.mem_singleton] at hu
  subst hu
  rfl
/-- What an Insert leaves. -/
def InsdS (B : Nat) (w : World) (v : Value) (l : List Bs) (V : Value) (w' : World) : Prop := w'.ownsRow B 9 1 V l.length (List.flatMap encS l) ∧ Only (fun k => v.ownBlock = some k) w w' ∧ (∀ k, V.ownBlock = some k → v.ownBlock = some k ∨ w.heap.size ≤ k)
theorem insertS_end (v : Value) (l : List Bs) (x : Bs) (vb : Nat) (w : World) {B : Nat} (hBw : B ≤ w.heap.size) (hown : w.ownsRow B 9 1 v l.length (List.flatMap encS l)) (hv : w.heap[vb]? = some (.cells (encS x).toArray 9 (0, 0))) (hl : l.length ≤ 1000000) :
    Calls Tryd.prog 56 #[v, I l.length, .slice (some ⟨vb, 0, none⟩) 1 1] w fun e w' => ∃ V, e = .returned V ∧ InsdS B w v (insAt l l.length x) V w' := by
  have hX : (encS x).length = 1 := encS_len x
  obtain ⟨i0, hi, hz0, hz1, hz2⟩ := info_all info9
  have hnew : ∀ j u, (encS x)[j]? = some u → w.cell? ((⟨vb, 0, none⟩ : Addr).add j) = some u := by
    intro j u hj
    rw [add_at, cell_at hv j]
    simpa using hj
  obtain ⟨v', w', hr, h2, h3, _, h5⟩ := run_append_own_at (P := Tryd.prog) w B 22 22 9 i0 _ 1 16 Tryd.underlying22 hi hz0 hz1 hz2 rfl (by decide) v l.length (List.flatMap encS l) hown ⟨vb, 0, none⟩ 1 1 (encS x) (by rw [hX]) hnew (encS_one x) (by unfold maxLen; omega) (by omega) hBw
  have HI := hide (show InsdS B w v (insAt l l.length x) v' w' from ⟨by
      rw [len_insAt, en_ins, List.take_of_length_le (Nat.le_refl _), List.drop_of_length_le (Nat.le_refl _)]
      simpa using h2, Only.of_grown h3, fun k hk => by
      rcases h5 with h5 | h5
      · left; rw [← h5]; exact hk
      · right; rw [hk] at h5; exact Nat.le_of_eq (Option.some.inj h5).symm⟩)
  obtain ⟨p', c', rfl⟩ := owns_form h2
  rcases hown.2 with ⟨rfl, q2⟩ | ⟨g, c, cur, rfl, _, _, hlc, hcm, _⟩
  · clear h2 h3 h5 hnew hown hi hz0 hz1 hz2 hv
    generalize insAt l l.length x = L at *
    generalize l.length = n at *
    subst q2
    go_enter Tryd.func56, Tryd.ntmps56
    go_wp2_with (at_builtin; refine Lib.wpList_append_run _ rfl _ _ _ _ rfl _ _ rfl rfl _ _ hr ?_)
    go_ret
    exact ⟨_, rfl, unhide HI⟩
  · have hcm' : c ≤ 9223372036854775807 := by unfold maxLen at hcm; omega
    clear h2 h3 h5 hnew hown hi hz0 hz1 hz2 hv hcm
    generalize insAt l l.length x = L at *
    generalize l.length = n at *
    go_enter Tryd.func56, Tryd.ntmps56
    go_wp2_with (at_builtin; refine Lib.wpList_append_run _ rfl _ _ _ _ rfl _ _ rfl rfl _ _ hr ?_)
    all_goals go_ret
    all_goals exact ⟨_, rfl, unhide HI⟩
theorem insertS_shift (g c : Nat) (l : List Bs) (i : Nat) (x : Bs) (vb : Nat) (w : World) {B : Nat} (hBw : B ≤ w.heap.size) (hown : w.ownsRow B 9 1 (.slice (some ⟨g, 0, none⟩) l.length c) l.length (List.flatMap encS l)) (hv : w.heap[vb]? = some (.cells (encS x).toArray 9 (0, 0))) (hl : l.length ≤ 1000000) (hi : i < l.length) (hroom : l.length + 1 ≤ c) (hne : vb ≠ g) :
    Calls Tryd.prog 56 #[.slice (some ⟨g, 0, none⟩) l.length c, I i, .slice (some ⟨vb, 0, none⟩) 1 1] w fun e w' => ∃ V, e = .returned V ∧ InsdS B w (.slice (some ⟨g, 0, none⟩) l.length c) (insAt l i x) V w' := by
  have hX : (encS x).length = 1 := encS_len x
  obtain ⟨cur, hBg, hg, hlc, hcm, hsz, htk⟩ : ∃ cur, B ≤ g ∧ w.heap[g]? = some (.cells cur 9 (0, 0)) ∧ l.length ≤ c ∧ c ≤ maxLen ∧ cur.size = c * 1 ∧ cur.toList.take (l.length * 1) = List.flatMap encS l := by
    obtain ⟨g', cap, cur, e, q⟩ := owns_at hown (by omega)
    cases e
    exact ⟨cur, q⟩
  have hcm' : c ≤ 9223372036854775807 := by unfold maxLen at hcm; omega
  have hY : ((List.flatMap encS (l.drop i))).length = (l.length - i) * 1 := by rw [en_len encS 1 encS_len, List.length_drop]
  have hr1 := run_copyk w.drew 22 9 3 _ 1 16 Tryd.underlying22 info9 g ((i + 1) * 1) (l.length - i) (c - (i + 1)) ⟨g, i * 1, none⟩ (l.length + 1 - i) (c - i) cur ((List.flatMap encS (l.drop i))) (l.length - i) (by show _ = min _ _; omega) hg hY (by
      intro j u hj
      rw [add_off]
      show w.cell? _ = _
      rw [cell_at hg]
      rw [← en_drop encS 1 encS_len, List.getElem?_drop, ← htk] at hj
      have := List.getElem?_take ▸ hj
      split at this
      · simpa using this
      · cases this) (by rw [hY, hsz]; omega) (en_one encS encS_one _)
  have hcell : ∀ j u, (encS x)[j]? = some u → w.cell? ((⟨vb, 0, none⟩ : Addr).add j) = some u := by
    intro j u hj
    rw [add_at, cell_at hv j]
    simpa using hj
  have hL := lay_shift (R := cur.toList) (P := (List.flatMap encS (l.take i))) (X := (encS x)) (Y := (List.flatMap encS (l.drop i))) (a := i * 1) (b := (i + 1) * 1) (by rw [hY, hX, show cur.toList.length = c * 1 by simp [hsz]]; omega) (by rw [← en_take encS 1 encS_len, ← htk, List.take_take, Nat.min_eq_left (by omega)]) (by rw [hX]; omega)
  generalize hR1 : cur.toList.take ((i + 1) * 1) ++ (List.flatMap encS (l.drop i)) ++ cur.toList.drop ((i + 1) * 1 + ((List.flatMap encS (l.drop i))).length) = R1 at *
  have hg1 := setRow_heap w.drew g cur R1.toArray 9 _ hg
  have hl1 : R1.length = c * 1 := by rw [← hR1]; simp only [List.length_append, List.length_take, List.length_drop, hY]; simp [hsz]; omega
  obtain ⟨w1, e1⟩ : ∃ w1, w1 = w.drew.setRow g R1.toArray := ⟨_, rfl⟩
  rw [← e1] at hr1 hg1
  have O1 : Only (fun k => (Value.slice (some ⟨g, 0, none⟩) l.length c).ownBlock = some k) w w1 := by
    rw [e1]
    exact ((Only.drewN _ w 1).trans (setRow_only w.drew g _) (fun k _ q => by subst q; rfl))
  have hc1 : ∀ j u, (encS x)[j]? = some u → w1.cell? ((⟨vb, 0, none⟩ : Addr).add j) = some u := by
    intro j u hj
    rw [← hcell j u hj, add_at]
    refine World.cell?_of_block (O1.block vb (lt_of_row hv) (fun q => ?_))
    cases q
    exact hne rfl
  have hr2 := run_copyk w1 22 9 3 _ 1 16 Tryd.underlying22 info9 g (i * 1) (l.length + 1 - i) (c - i) ⟨vb, 0, none⟩ 1 1 R1.toArray (encS x) 1 (by show _ = min _ _; omega) hg1 (by rw [hX]) hc1 (by rw [hX, List.size_toArray, hl1]; omega) (encS_one x)
  obtain ⟨w2, e2⟩ : ∃ w2, w2 = w1.setRow g (R1.toArray.toList.take (i * 1) ++ (encS x) ++ R1.toArray.toList.drop (i * 1 + (encS x).length)).toArray := ⟨_, rfl⟩
  rw [← e2] at hr2
  have HI := hide (show InsdS B w (.slice (some ⟨g, 0, none⟩) l.length c) (insAt l i x) (.slice (some ⟨g, 0, none⟩) (l.length + 1) c) w2 from by
    refine ⟨⟨en_len encS 1 encS_len _, .inr ⟨g, c, _, by rw [len_insAt], (by omega), by rw [e2, setRow_heap w1 g _ _ 9 _ hg1], by rw [len_insAt]; omega, hcm, ?_, ?_⟩⟩, ?_, fun k hk => .inl hk⟩
    · have := hL.1
      simp at this ⊢
      omega
    · rw [len_insAt, en_ins]
      have := hL.2
      rw [hY, show (i + 1) * 1 + (l.length - i) * 1 = (l.length + 1) * 1 by omega] at this
      simpa using this
    · rw [e2]
      exact O1.trans (setRow_only w1 g _) (fun k _ q => by subst q; rfl))
  have hov : ∀ lb cb, (callFunc 70 #[.slice (some ⟨vb, 0, none⟩) 1 1, .slice (some ⟨g, (i + 1) * 1, none⟩) lb cb]).run Tryd.prog w = .ok (.value (.bool false)) w := fun lb cb => by
    rw [run_callFunc_extern Tryd.func70 (by kernel_rfl) (by kernel_rfl) (by kernel_rfl) (e := Extern.SlicesOverlaps.overlaps #[22, 22] #[4]) (by kernel_rfl),
      Lib.run_overlaps_apart w 22 4 9 Tryd.underlying22 1 Tryd.sizeOf9 ⟨vb, 0, none⟩ ⟨g, (i + 1) * 1, none⟩ 1 1 lb cb hne 9 9 1 (c * 1) (by simp [World.shape?, hv, hX]) (by simp [World.shape?, hg, hsz]) (by omega) (frz hv _) (frz hv _)]
    rfl
  clear hL hcell hc1 hg1 hl1 e1 e2 O1 htk hsz hR1 hY
  generalize insAt l i x = L at *
  generalize hn : l.length = n at *
  simp only [Nat.mul_one] at hov hr1 hr2
  go_enter Tryd.func56, Tryd.ntmps56
  go_wp2_with (simp only [hov])
  go_region
  go_wp2
  go_ret
  exact ⟨_, rfl, unhide HI⟩
theorem insertS_grow (g c : Nat) (l : List Bs) (i : Nat) (x : Bs) (vb : Nat) (w : World) {B : Nat} (hBw : B ≤ w.heap.size) (hown : w.ownsRow B 9 1 (.slice (some ⟨g, 0, none⟩) l.length c) l.length (List.flatMap encS l)) (hv : w.heap[vb]? = some (.cells (encS x).toArray 9 (0, 0))) (hl : l.length ≤ 1000000) (hi : i < l.length) (hroom : c < l.length + 1) :
    Calls Tryd.prog 56 #[.slice (some ⟨g, 0, none⟩) l.length c, I i, .slice (some ⟨vb, 0, none⟩) 1 1] w fun e w' => ∃ V, e = .returned V ∧ InsdS B w (.slice (some ⟨g, 0, none⟩) l.length c) (insAt l i x) V w' := by
  have hX : (encS x).length = 1 := encS_len x
  obtain ⟨cur, hBg, hg, hlc, hcm, hsz, htk⟩ : ∃ cur, B ≤ g ∧ w.heap[g]? = some (.cells cur 9 (0, 0)) ∧ l.length ≤ c ∧ c ≤ maxLen ∧ cur.size = c * 1 ∧ cur.toList.take (l.length * 1) = List.flatMap encS l := by
    obtain ⟨g', cap, cur, e, q⟩ := owns_at hown (by omega)
    cases e
    exact ⟨cur, q⟩
  have hcc : c = l.length := by omega
  obtain ⟨i0, hi0, hz0, hz1, hz2⟩ := info_all info9
  have hT : ((List.flatMap encS (l.take i))).length = i * 1 := by rw [en_len encS 1 encS_len, List.length_take]; omega
  have hY : ((List.flatMap encS (l.drop i))).length = (l.length - i) * 1 := by rw [en_len encS 1 encS_len, List.length_drop]
  have hcs : ∀ j u, (List.flatMap encS l)[j]? = some u → w.cell? ⟨g, j, none⟩ = some u := fun j u hj => owns_cell hown j u hj
  have hold : (Builtin.firstCells i0.size i (.slice (some ⟨g, 0, none⟩) i c)).run Tryd.prog w.drew = .ok ((List.flatMap encS (l.take i))).toArray w.drew := by
    rw [hz1]
    refine run_firstCells_some w.drew 1 i ⟨g, 0, none⟩ i c ((List.flatMap encS (l.take i))) hT (fun j u hj => ?_)
    rw [add_at]
    refine hcs j u ?_
    rw [← en_take encS 1 encS_len, List.getElem?_take] at hj
    split at hj
    · exact hj
    · cases hj
  have hr0 := Lib.run_append_grow_zeros w 22 3 22 9 i0 _ .i64 .i64 Tryd.underlying22 Tryd.underlying3 hi0 hz0 (some ⟨g, 0, none⟩) i c ((List.flatMap encS (l.take i))) hold (l.length + 1 - i) (by omega) (by rw [hz1]; omega) (by omega) (by omega) (by rw [hz2]; omega) (by rw [hz2]; exact growslice_fits (by omega) (by omega))
  rw [show i + (l.length + 1 - i) = l.length + 1 by omega] at hr0
  have hG1 := grownCap_ge w (l.length + 1) c 9
  have hG2 := grownCap_le_maxLen w (l.length + 1) c 9 (by unfold maxLen; omega)
  generalize grownCap w (l.length + 1) c 9 = G at *
  have hG3 : G ≤ 9223372036854775807 := by unfold maxLen at hG2; omega
  obtain ⟨ROW, hROW⟩ : ∃ ROW : Array Value, ROW = ((List.flatMap encS (l.take i))).toArray ++ Builtin.zeroCells (Value.string ⟨#[]⟩).cells (l.length + 1 - i) ++ Builtin.zeroCells (Value.string ⟨#[]⟩).cells (G - (l.length + 1)) := ⟨_, rfl⟩
  rw [← hROW] at hr0
  have hRs : ROW.size = G * 1 := by
    rw [hROW]
    have hz : (Value.string ⟨#[]⟩).cells.size = 1 := rfl
    simp only [Array.size_append, zero_size, hz, List.size_toArray, hT]
    omega
  have hRt : ROW.toList.take (i * 1) = (List.flatMap encS (l.take i)) := by
    rw [hROW]
    simp only [Array.toList_append]
    rw [List.append_assoc, List.take_append_of_le_length (by simp [hT]), List.take_of_length_le (by simp [hT])]
  obtain ⟨w1, e1⟩ : ∃ w1, w1 = w.drew.alloc (.cells ROW 9) := ⟨_, rfl⟩
  rw [← e1] at hr0
  have B1 : Below w.heap.size w w1 := by rw [e1]; exact (below_drew (Below.refl _ _)).alloc (Nat.le_refl _) _
  have hg1 : w1.heap[w.heap.size]? = some (.cells ROW 9 (0, 0)) := by rw [e1]; exact heap_alloc_new w.drew _
  have hr1 := run_copyk w1 22 9 3 _ 1 16 Tryd.underlying22 info9 w.heap.size (i * 1) (l.length + 1 - i) (G - i) ⟨vb, 0, none⟩ 1 1 ROW (encS x) 1 (by show _ = min _ _; omega) hg1 (by rw [hX]) (by
      intro j u hj
      rw [add_at, B1.cell (by exact lt_of_row hv), cell_at hv j]
      simpa using hj) (by rw [hX, hRs]; omega) (encS_one x)
  have hL := lay_two (R := ROW.toList) (P := (List.flatMap encS (l.take i))) (X := (encS x)) (Y := (List.flatMap encS (l.drop i))) (a := i * 1) (b := (i + 1) * 1) (by rw [hY, hX, show ROW.toList.length = G * 1 by simp [hRs]]; omega) hRt (by rw [hX]; omega)
  generalize hR1 : ROW.toList.take (i * 1) ++ (encS x) ++ ROW.toList.drop (i * 1 + (encS x).length) = R1 at *
  have hl1 : R1.length = G * 1 := by rw [← hR1]; simp only [List.length_append, List.length_take, List.length_drop, hX]; simp [hRs]; omega
  have hg2 := setRow_heap w1 w.heap.size ROW R1.toArray 9 _ hg1
  obtain ⟨w2, e2⟩ : ∃ w2, w2 = w1.setRow w.heap.size R1.toArray := ⟨_, rfl⟩
  rw [← e2] at hr1 hg2
  have B2 : Below w.heap.size w w2 := by rw [e2]; exact (setRow_only w1 _ _).below B1 B1.size (fun k q => by subst q; omega)
  have hr2 := run_copyk w2.drew 22 9 3 _ 1 16 Tryd.underlying22 info9 w.heap.size ((i + 1) * 1) (l.length - i) (G - (i + 1)) ⟨g, i * 1, none⟩ (l.length - i) (c - i) R1.toArray ((List.flatMap encS (l.drop i))) (l.length - i) (by show _ = min _ _; omega) hg2 hY (by
      intro j u hj
      rw [add_off]
      show w2.cell? _ = _
      rw [B2.cell (by exact lt_of_row hg)]
      refine hcs _ u ?_
      rwa [← en_drop encS 1 encS_len, List.getElem?_drop] at hj) (by simp [hl1, hY]; omega) (en_one encS encS_one _)
  obtain ⟨w3, e3⟩ : ∃ w3, w3 = w2.drew.setRow w.heap.size (R1.toArray.toList.take ((i + 1) * 1) ++ (List.flatMap encS (l.drop i)) ++ R1.toArray.toList.drop ((i + 1) * 1 + ((List.flatMap encS (l.drop i))).length)).toArray := ⟨_, rfl⟩
  rw [← e3] at hr2
  have HI := hide (show InsdS B w (.slice (some ⟨g, 0, none⟩) l.length c) (insAt l i x) (.slice (some ⟨w.heap.size, 0, none⟩) (l.length + 1) G) w3 from by
    refine ⟨⟨en_len encS 1 encS_len _, .inr ⟨w.heap.size, G, _, by rw [len_insAt], (by omega), by rw [e3, setRow_heap w2.drew w.heap.size _ _ 9 _ hg2], by rw [len_insAt]; omega, hG2, ?_, ?_⟩⟩, ?_, fun k hk => .inr (by cases hk; exact Nat.le_refl _)⟩
    · have := hL.1
      simp at this ⊢
      omega
    · rw [len_insAt, en_ins]
      have := hL.2
      rw [hY, show (i + 1) * 1 + (l.length - i) * 1 = (l.length + 1) * 1 by omega] at this
      rw [hY, show (i + 1) * 1 + (l.length - i) * 1 = (l.length + 1) * 1 by omega]
      simpa using this
    · rw [e3]
      exact Only.of_below ((setRow_only w2.drew w.heap.size _).below (below_drew B2) B2.size (fun k q => by subst q; exact Nat.le_refl _)))
  clear hL hg1 hg2 hl1 e1 e2 e3 B1 B2 htk hsz hR1 hY hT hRs hRt hROW hold hcs hi0 hz0 hz1 hz2 hG2
  subst hcc
  generalize insAt l i x = L at *
  generalize hn : l.length = n at *
  have hk : ((n : Int) + 1 - (i : Int)) = ((n + 1 - i : Nat) : Int) := by omega
  rw [← hk] at hr0
  clear hk hn hroom hlc hown hg hv hcm
  simp only [Nat.mul_one] at hr1 hr2
  go_enter Tryd.func56, Tryd.ntmps56
  go_wp2_with (first | (at_builtin; refine Lib.wpList_append_run _ rfl _ _ _ _ rfl _ _ rfl rfl _ _ hr0 ?_) | (refine wp_copy_run rfl (.tmp 43) (.tmp 44) rfl _ _ rfl rfl _ _ hr1 ?_))
  simp only [Act.put, goInt, List.setIfInBounds_toArray, List.set_cons_succ, List.set_cons_zero]
  go_region
  go_wp2
  go_ret
  exact ⟨_, rfl, unhide HI⟩
/-- slices.Insert of one write. -/
theorem insertS_any (v : Value) (l : List Bs) (i : Nat) (x : Bs) (vb : Nat) (w : World) {B : Nat} (hBw : B ≤ w.heap.size) (hown : w.ownsRow B 9 1 v l.length (List.flatMap encS l)) (hv : w.heap[vb]? = some (.cells (encS x).toArray 9 (0, 0))) (hl : l.length ≤ 1000000) (hi : i ≤ l.length) (hne : v.ownBlock ≠ some vb) :
    Calls Tryd.prog 56 #[v, I i, .slice (some ⟨vb, 0, none⟩) 1 1] w fun e w' => ∃ V, e = .returned V ∧ InsdS B w v (insAt l i x) V w' := by
  have hX : (encS x).length = 1 := encS_len x
  rcases Nat.lt_or_eq_of_le hi with q | q
  · obtain ⟨g, cap, cur, rfl, _⟩ := owns_at hown (by omega)
    by_cases hr : l.length + 1 ≤ cap
    · exact insertS_shift g cap l i x vb w hBw hown hv hl q hr (fun e => hne (by subst e; rfl))
    · exact insertS_grow g cap l i x vb w hBw hown hv hl q (by omega)
  · subst q
    exact insertS_end v l x vb w hBw hown hv hl
end Go.Proofs.YtfaahjbkdlkmjaaDoor
