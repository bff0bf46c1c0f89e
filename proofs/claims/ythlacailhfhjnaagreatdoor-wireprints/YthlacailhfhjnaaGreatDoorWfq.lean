import Derived.Test.YthlacailhfhjnaaGreatDoorWgg
namespace Go.Proofs.YthlacailhfhjnaaGreatDoor
open Go.RowKit Go.Lib
theorem upd_old {L : Nat → Bool} {i : Nat} (h : i ≠ 9) : upd L i 9 = L 9 := by
  unfold upd
  first | rw [if_neg (fun e => h e.symm)] | rw [if_neg h] | simp [h, Ne.symm h]
set_option maxHeartbeats 8000000 in
set_option maxRecDepth 8000 in
theorem headers2_any (a : Option Addr) (n cap : Nat) (fs : List Fl) (w : World) (hp : Fls w a n fs) (hL : Lens fs) (hn : n ≤ 140737488351232) :
    Calls Tryz.prog 40 #[.slice a n cap] w fun e w' => ∃ v hs, e = .returned v ∧ Hds v hs w w' ∧ hs.length ≤ n := by
  have HP := hide hp
  clear hp
  go_enter Tryz.func40, Tryz.ntmps40
  go_wp2
  go_loopw [3, 4] (fun v i wr => ∃ (k : Nat) (hs : List Fl), k ≤ n ∧ k ≤ 32 ∧ i = .int .i64 k ∧ hs.length = k ∧ Hds v hs w wr) (fun _ i _ => n - (Go.RowKit.intOf i).toNat)
  case atStart => exact ⟨0, [], by omega, by omega, rfl, rfl, ⟨⟨rfl, .inl ⟨rfl, rfl⟩⟩, (fun k h => nomatch h), Below.refl _ _, by decide, rfl⟩⟩
  case round =>
    obtain ⟨k, hs, hk, hk32, rfl, hl, hh⟩ := hrel
    by_cases hlt : k < n ∧ k < 32
    · obtain ⟨hlt, hlt2⟩ := hlt
      obtain ⟨p, o, rfl, hpl, hc0, hc1⟩ := ((unhide HP).below hh.bel).at hlt
      have hLk := hL k
      generalize fs.getD k fl0 = F at *
      obtain ⟨fn, fv⟩ := F
      simp only at hc0 hc1 hLk
      have hlt' : (k : Int) < (n : Int) := by omega
      have hlt2' : (k : Int) < 32 := by omega
      have HC := hide (header_any fn fv wr hLk.1 hLk.2)
      obtain ⟨pv, cv, hpv⟩ := owns_form hh.row
      subst hpv
      have HH := hide hh
      have HL := hide hl
      clear hh hl
      go_wp2_with fail
      refine (unhide HC).mono ?_
      rintro e w2 ⟨⟨f, rfl, hf⟩, b2⟩
      obtain ⟨g1, g2⟩ := f
      have HF := hide hf
      have HR2 := hide (show w2.ownsRow 0 35 2 _ hs.length (cellsF hs) from owns_same (unhide HH).row (fun j hj => by
        obtain ⟨cs, q⟩ := owns_lt (unhide HH).row j hj
        exact b2.block j (lt_of_row q)))
      have HB2 := hide b2
      clear b2 hf HC
      go_wp2_with (first | (at_builtin; refine push_own 22 35 _ 2 32 Tryz.underlying22 info35 rfl (by decide) rfl (.tmp 15) (.tmp 21) rfl (.slice pv hs.length cv) hs.length (cellsF hs) (by rfl) w2 (unhide HR2) [S g1, S g2] (by rfl) (by intro u hu; simp at hu; rcases hu with rfl | rfl <;> rfl) (by rfl) (by have := unhide HL; omega) (by have := unhide HL; omega) ?_; intro pb cb W5 ho5 hw5 hn5))
      refine ⟨⟨k + 1, hs ++ [(g1, g2)], by omega, by omega, by go_num, by rw [List.length_append, unhide HL]; rfl, ⟨?_, ?_, ?_, ?_, ?_⟩⟩, ?_⟩
      · rw [List.length_append, cellsF_append]; exact ho5
      · intro j hj
        rcases hn5 j hj with q | q
        · exact (unhide HH).new j q
        · exact Nat.le_trans (unhide HH).bel.size (Nat.le_trans (unhide HB2).size q)
      · exact hw5.below ((unhide HH).bel.trans ((unhide HB2).mono (unhide HH).bel.size)) (Nat.le_trans (unhide HH).bel.size (unhide HB2).size) (fun j hj => (unhide HH).new j hj)
      · rw [List.length_append, unhide HL]; show k + 1 ≤ 32; omega
      · rw [List.all_append, (unhide HH).all]
        simp [unhide HF]
      · simp [Go.RowKit.intOf]; omega
    · have HH := hide hh
      have hd : decide (k < n) = false ∨ ((k : Int) < (n : Int) ∧ decide (k < 32) = false) := by
        by_cases q : k < n
        · right; exact ⟨by omega, by simp; omega⟩
        · left; simp; omega
      have hle : hs.length ≤ n := by omega
      have HLE := hide hle
      clear hh hl hle
      rcases hd with hd | ⟨hd0, hd⟩
      · go_wp2
        go_ret
        first | exact ⟨_, hs, rfl, unhide HH, unhide HLE⟩ | exact ⟨_, rfl, hs, unhide HH, unhide HLE⟩
      · have hd2 : ¬ (k : Int) < 32 := by simp at hd; omega
        have hd3 : decide ((k : Int) < 32) = false := by simpa using hd2
        go_wp2
        go_ret
        first | exact ⟨_, hs, rfl, unhide HH, unhide HLE⟩ | exact ⟨_, rfl, hs, unhide HH, unhide HLE⟩
set_option maxHeartbeats 8000000 in
set_option maxRecDepth 8000 in
theorem message2_any (m : Ms) (pa : Option Addr) (nn cc : Nat) (w : World) (hp : Fls w pa nn m.hs) (hL : Lens m.hs) (hn : nn ≤ 140737488351232) (h1 : m.m.length ≤ 140737488351232) (h2 : m.p.length ≤ 140737488351232) (h3 : m.b.length ≤ 140737488351232) :
    Calls Tryz.prog 13 #[.agg #[S m.m, S m.p, .slice pa nn cc, S m.b]] w fun e w' => ∃ z a k, e = .returned (.agg #[S z.m, S z.p, .slice a z.hs.length k, S z.b]) ∧ Mok z a k w w' ∧ z.hs.length ≤ nn := by
  obtain ⟨m0, p0, hs0, b⟩ := m
  simp only at hp hL h1 h2 h3 ⊢
  have b0 : Below w.heap.size w ((w.alloc (.cells #[S m0, S p0, .slice pa nn cc, S b] 24)).alloc (.cells #[S [], S [], .slice none 0 0, S []] 24)) := ((Below.refl _ _).alloc (Nat.le_refl _) _).alloc (by simp) _
  have z0 : ((w.alloc (.cells #[S m0, S p0, .slice pa nn cc, S b] 24)).alloc (.cells #[S [], S [], .slice none 0 0, S []] 24)).heap.size = w.heap.size + 2 := by simp
  have x0 : ((w.alloc (.cells #[S m0, S p0, .slice pa nn cc, S b] 24)).alloc (.cells #[S [], S [], .slice none 0 0, S []] 24)).heap[w.heap.size]? = some (.cells #[S m0, S p0, .slice pa nn cc, S b] 24 (0, 0)) := by rw [heap_alloc_old _ _ (by simp)]; exact heap_alloc_new _ _
  have x1 : ((w.alloc (.cells #[S m0, S p0, .slice pa nn cc, S b] 24)).alloc (.cells #[S [], S [], .slice none 0 0, S []] 24)).heap[w.heap.size + 1]? = some (.cells #[S [], S [], .slice none 0 0, S []] 24 (0, 0)) := by
    have := heap_alloc_new (w.alloc (.cells #[S m0, S p0, .slice pa nn cc, S b] 24)) (.cells #[S [], S [], .slice none 0 0, S []] 24)
    simpa using this
  have HH := hide (And.intro b0 (And.intro z0 (And.intro x0 (And.intro x1 (And.intro hp hL)))))
  clear b0 z0 x0 x1 hp hL
  go_enter Tryz.func13, Tryz.ntmps13
  go_wp2
  generalize (w.alloc (.cells #[S m0, S p0, .slice pa nn cc, S b] 24)).alloc (.cells #[S [], S [], .slice none 0 0, S []] 24) = W0 at *
  obtain ⟨b0, z0, x0, x1, hp, hL⟩ := unhide HH
  have hX : ∀ c L W, WdM W0 (w.heap.size + 1) b c L W → W.heap[w.heap.size]? = some (.cells #[S m0, S p0, .slice pa nn cc, S b] 24 (0, 0)) := fun c L W h => (h.old (by omega) (by omega)).trans x0
  have hWb : ∀ c L W, WdM W0 (w.heap.size + 1) b c L W → L 14 = false → Below w.heap.size w W := fun c L W h h14 => b0.trans ((h.wd0 h14).mono (by omega))
  refine rmg w.heap.size (w.heap.size + 1) nn cc pa m0 p0 b rfl rfl rfl _ _ (show 17 ≤ 17 from by decide) rfl rfl (fun c L W => WdM W0 (w.heap.size + 1) b c L W ∧ (L 9 = true → c.n ≤ nn)) ⟨⟨[], [], none, 0, 0⟩, ?_⟩ ?_ ?_ ?_ ?_ ?_ ?_ ?_ ?_ ?_ ?_ ?_ ?_ ?_ ?_
  · exact ⟨⟨(fun q => nomatch q), (fun q => nomatch q), (fun q => nomatch q), (fun q => nomatch q), (fun q => nomatch q), (fun q => nomatch q), fun _ => (Below.refl _ _).drew, (fun q => nomatch q)⟩, (fun q => nomatch q)⟩
  · exact fun i hi c L W hW => ⟨hW.1.pure i (by simp at hi; omega), fun q => hW.2 ((upd_old (by simp at hi; omega)).symm.trans q)⟩
  · exact fun c L W hW => cell_of_row W _ 0 _ 24 (0, 0) (hX c L W hW.1)
  · exact fun c L W hW => cell_of_row W _ 1 _ 24 (0, 0) (hX c L W hW.1)
  · exact fun c L W hW => cell_of_row W _ 2 _ 24 (0, 0) (hX c L W hW.1)
  · exact fun c L W hW => cell_of_row W _ 3 _ 24 (0, 0) (hX c L W hW.1)
  · exact fun c L W hW h5 => by have := (hW.1.pt h5).1; simp; omega
  · exact fun c L W hW h5 => ⟨hW.1.six h5, fun q => hW.2 ((upd_old (by omega)).symm.trans q)⟩
  · exact fun c L W hW h2 h6 h9 => ⟨hW.1.built h2 h6 h9, fun q => hW.2 ((upd_old (by omega)).symm.trans q)⟩
  · intro c L W ⟨hW, hW9⟩ hc
    refine (letters_any CAP m0 16 W (by decide) (by decide) (by decide) (by decide) (by omega)).mono ?_
    rintro e w' ⟨⟨l, rfl, g1, g2, g3⟩, hb⟩
    refine ⟨{ c with m := l }, fun j hj => vmg_m _ _ _ _ _ _ _ c { c with m := l } ⟨rfl, rfl, rfl, rfl⟩ j (fun e => by rw [e, hc] at hj; cases hj) (fun e => by rw [e, (hW.no14 (.inl hc)).1] at hj; cases hj), rfl, hW.first hc hb ⟨g1, g2, g3⟩, fun q => hW9 ((upd_old (by omega)).symm.trans q)⟩
  · intro c L W ⟨hW, hW9⟩ hc
    refine (plain33_any p0 199 W (by decide) (by omega)).mono ?_
    rintro e w' ⟨⟨l, rfl, g1, g2⟩, hb⟩
    refine ⟨{ c with p := l }, fun j hj => vmg_p _ _ _ _ _ _ _ c { c with p := l } ⟨rfl, rfl, rfl, rfl⟩ j (fun e => by rw [e, hc] at hj; cases hj) (fun e => by rw [e] at hj; rw [hW.d6 hj] at hc; cases hc) (fun e => by rw [e, (hW.no14 (.inr (.inl hc))).1] at hj; cases hj), rfl, hW.second hc hb ⟨g1, g2⟩, fun q => hW9 ((upd_old (by omega)).symm.trans q)⟩
  · intro c L W ⟨hW, hW9⟩ hc
    have hbw := hWb c L W hW (hW.no14 (.inr (.inr hc))).2
    refine (headers2_any pa nn cc hs0 W (hp.below hbw) hL hn).mono ?_
    rintro e w' ⟨v, hs, rfl, hh, hle⟩
    obtain ⟨a, k, rfl⟩ := owns_form hh.row
    refine ⟨{ c with a := a, n := hs.length, k := k }, fun j hj => vmg_h _ _ _ _ _ _ _ c { c with a := a, n := hs.length, k := k } ⟨rfl, rfl⟩ j (fun e => by rw [e, hc] at hj; cases hj) (fun e => by rw [e, (hW.no14 (.inr (.inr hc))).1] at hj; cases hj), rfl, hW.third hc hh, fun _ => hle⟩
  · intro c L W ⟨hW, hW9⟩ hc
    refine (cut4_any b W (by omega)).mono ?_
    rintro e w' ⟨rfl, rfl⟩
    exact ⟨rfl, hW.cut, fun q => hW9 ((upd_old (by omega)).symm.trans q)⟩
  · intro c L W ⟨hW, hW9⟩ h14 h13
    have hA : W.heap[w.heap.size + 1]? = _ := ((hW.wd0 h14).block _ (by omega)).trans x1
    exact ⟨⟨hW.stored h14 h13 hA, fun q => hW9 ((upd_old (by omega)).symm.trans q)⟩, hA⟩
  intro c L W hall ⟨hW, hW9⟩
  have hn9 := hW9 (hall 9 (by decide))
  obtain ⟨Wp, hb, hWe⟩ := hW.wd1 (hall 14 (by decide))
  obtain ⟨hs, hcn, hrow, hnew, hfew, hall2⟩ := hW.hd (hall 9 (by decide))
  have hnm := hW.nm (hall 2 (by decide))
  have hpt := hW.pt (hall 5 (by decide))
  have hA : Wp.heap[w.heap.size + 1]? = _ := (hb.block _ (by omega)).trans x1
  have hAs := row4 hA (S c.m) (S ([47] ++ c.p)) (.slice c.a c.n c.k) (S (b.take 4000))
  have hWs : W.heap[w.heap.size + 1]? = some (.cells #[S c.m, S ([47] ++ c.p), .slice c.a c.n c.k, S (b.take 4000)] 24 (0, 0)) := by rw [hWe]; exact hAs
  have e0 : W.cell? ⟨w.heap.size + 1, 0, none⟩ = some (S c.m) := cell_of_row W _ 0 _ 24 (0, 0) hWs
  have e1 : W.cell? ⟨w.heap.size + 1, 1, none⟩ = some (S ([47] ++ c.p)) := cell_of_row W _ 1 _ 24 (0, 0) hWs
  have e2 : W.cell? ⟨w.heap.size + 1, 2, none⟩ = some (.slice c.a c.n c.k) := cell_of_row W _ 2 _ 24 (0, 0) hWs
  have e3 : W.cell? ⟨w.heap.size + 1, 3, none⟩ = some (S (b.take 4000)) := cell_of_row W _ 3 _ 24 (0, 0) hWs
  have HBW := hide (show Below w.heap.size w W by
    rw [hWe]
    unfold set4
    exact ((((b0.trans (hb.mono (by omega))).setCell (by show w.heap.size ≤ w.heap.size + 1; omega) _).setCell (by show w.heap.size ≤ w.heap.size + 1; omega) _).setCell (by show w.heap.size ≤ w.heap.size + 1; omega) _).setCell (by show w.heap.size ≤ w.heap.size + 1; omega) _)
  have HN9 := hide hn9
  clear hn9 hW9
  have HFIN := hide (And.intro hcn (And.intro hrow (And.intro (fun j hj => Nat.le_trans (show w.heap.size ≤ W0.heap.size by omega) (hnew j hj)) (And.intro hfew (And.intro hall2 (And.intro hnm hpt))))))
  clear hX hWb hWe hWs hAs hA hrow hnew hfew hall2 hnm hpt hcn hb hW hall x0 x1 b0 z0 hp hL HH
  simp only [Act.put, List.setIfInBounds_toArray, List.set_cons_succ, List.set_cons_zero]
  go_wp2
  refine bodyPost_ret (v := .agg #[S c.m, S ([47] ++ c.p), .slice c.a c.n c.k, S (b.take 4000)]) (by simp [results, Tryz.results13, go_sem, e0, e1, e2, e3]) rfl ?_
  obtain ⟨hcn, hrow, hnew, hfew, hall2, hnm, hpt⟩ := unhide HFIN
  refine ⟨⟨c.m, [47] ++ c.p, hs, b.take 4000⟩, c.a, c.k, by rw [hcn], ⟨?_, by have q := hrow; rw [hcn] at q; exact q, by have q := hnew; rw [hcn] at q; exact q, unhide HBW⟩, by have q := unhide HN9; rw [hcn] at q; exact q⟩
  unfold may flw
  rw [meth_ok hnm, pth_ok hpt, hall2, decide_eq_true ⟨hfew, by simp; omega⟩]
  rfl
end Go.Proofs.YthlacailhfhjnaaGreatDoor
