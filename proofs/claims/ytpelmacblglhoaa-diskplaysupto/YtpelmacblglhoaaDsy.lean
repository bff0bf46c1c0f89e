import Derived.Test.YtpelmacblglhoaaZzas
import Derived.Test.YtpelmacblglhoaaRgkb
namespace Go.Proofs.Ytpelmacblglhoaa
open Go.RowKit
set_option maxHeartbeats 8000000
set_option maxRecDepth 8000
theorem of_sub {D : Nat} {vw vw' vl : Value} {lo : Nat} (h : ∀ k, Of D vw vl k → lo ≤ k) (h2 : ∀ k, vw'.ownBlock = some k → vw.ownBlock = some k ∨ lo ≤ k) : ∀ k, Of D vw' vl k → lo ≤ k := by
  rintro k (rfl | hk | hk)
  · exact h _ (.inl rfl)
  · rcases h2 k hk with q | q
    · exact h k (.inr (.inl q))
    · exact q
  · exact h k (.inr (.inr hk))
theorem mkz (n : Nat) (W : World) (hn : n ≤ 1000) : ∃ W', (Instr.makeSlice 63 (.int .i64 (n : Int)) (.int .i64 (n : Int))).run Try.prog W = .ok (.slice (some ⟨W.heap.size, 0, none⟩) n n) W' ∧ W'.ownsRow 0 5 1 (.slice (some ⟨W.heap.size, 0, none⟩) n n) n (List.replicate n (B 0)) ∧ Below W.heap.size W W' := by
  obtain ⟨i0, hi, hz0, hz1, hz2⟩ := info_parts info5
  obtain ⟨W', e1, e2, e3⟩ := run_make_full (P := Try.prog) W 0 63 5 i0 _ 1 Try.underlying63 hi hz0 hz1 .i64 .i64 n (by rw [hz2]; omega) (by unfold maxLen; omega) (Nat.zero_le _)
  rw [made5] at e2
  exact ⟨W', e1, e2, (Below.refl _ _).grown e3 (Nat.le_refl _) (fun k e => by cases e)⟩
theorem known_any (w : World) : Calls Try.prog 6 #[] w fun e w' => e = .returned (.bool true) ∧ Below w.heap.size w w' := by
  have H0 := hide (new_any 8 w (by omega))
  have hbl := blkv_len 5
  have HB := hide (fun W => block_any 5 W)
  have HBl := hide hbl
  generalize blkv 5 = bk at *
  go_enter Try.func6, Try.ntmps6
  go_wp2_with fail
  refine (unhide H0).mono ?_
  clear H0
  rintro e w1 (⟨hm, -⟩ | ⟨-, D, V, rfl, h1, n1, b1⟩)
  · exact absurd hm (by decide)
  rw [show (8 : Int).toNat = 8 from rfl] at h1
  have X1 := hide (And.intro h1 (And.intro n1 b1))
  clear h1 n1 b1
  go_wp2_with fail
  refine (unhide HB _).mono ?_
  rintro e w2 ⟨rfl, b2⟩
  obtain ⟨h1, n1, b1⟩ := unhide X1
  have h2 := h1.below b2
  have h3 := write_any h2 (Ok.zs (by decide)) ⟨by show (0 : Int) ≤ 0; omega, by show (0 : Int) ≤ _; omega⟩ 2 bk
  rw [(kw1 bk hbl).1, (kw1 bk hbl).2] at h3
  have H3 := hide h3
  have X2 := hide (And.intro n1 (b1.trans (b2.mono b1.size)))
  clear h1 n1 b1 h2 b2 h3 X1
  go_wp2_with fail
  refine (unhide H3).mono ?_
  rintro e w3 ⟨rfl, vw, h3, o3, n3⟩
  obtain ⟨n1, b2⟩ := unhide X2
  have n3' := of_sub n1 (fun k hk => (n3 k hk).imp id (fun q => Nat.le_trans b2.size q))
  have b3 := o3.below b2 b2.size (fun k q => by
    rcases q with rfl | q
    · exact n1 _ (.inl rfl)
    · exact n1 k (.inr (.inl q)))
  have h4 := read_any h3 (kok1 bk hbl) 2
  rw [(kr1 bk).1, (kr1 bk).2] at h4
  have H4 := hide h4
  have X3 := hide (And.intro h3 (And.intro n3' b3))
  clear n1 b2 n3' b3 h4 h3 o3 n3 X2 H3
  go_wp2_with fail
  refine (unhide H4).mono ?_
  rintro e w4 ⟨rfl, b4⟩
  obtain ⟨h3, n3, b3⟩ := unhide X3
  have h4 := h3.below b4
  have H5 := hide (pending_any h4 (kok1 bk hbl))
  have X4 := hide (And.intro h4 (And.intro n3 (b3.trans (b4.mono b3.size))))
  clear h3 n3 b3 b4 h4 X3 H4
  go_wp2_with fail
  refine (unhide H5).mono ?_
  rintro e w5 ⟨VP, rfl, r5, m5, b5⟩
  obtain ⟨h4, n4, b4⟩ := unhide X4
  have h5 := h4.below b5
  have H6 := hide (acts_any h5)
  have r5 : w5.ownsRow 0 69 2 VP 1 (cellsW [(2, bk)]) := r5
  obtain ⟨gp, cp, cur5, rfl, _⟩ := owns_at r5 (by decide)
  have X5 := hide (And.intro h5 (And.intro n4 (And.intro (b4.trans (b5.mono b4.size)) (And.intro r5 (Nat.le_trans b4.size (m5 gp rfl))))))
  have hgD := hide (show w4.heap.size ≤ gp from m5 gp rfl)
  have hD4 := hide h4.lt
  have hV4 := hide (fun k hk => owns_blk h4.ls k hk)
  clear h4 n4 b4 b5 h5 r5 m5 X4 H5
  go_wp2_with fail
  refine (unhide H6).mono ?_
  rintro e w6 ⟨rfl, rfl⟩
  obtain ⟨h5, n5, b5, r5, g5⟩ := unhide X5
  have ba := (Below.refl w6.heap.size w6).alloc (Nat.le_refl _) (.cells #[I 0, I 2] 71)
  have hk : Kls (w6.alloc (.cells #[I 0, I 2] 71)) (some ⟨w6.heap.size, 0, none⟩) 1 [((0 : Int), (2 : Int))] := by
    refine ⟨rfl, fun _ => ⟨w6.heap.size, 0, rfl, fun j hj => ?_⟩⟩
    obtain rfl : j = 0 := by omega
    exact ⟨cell_of_row _ _ 0 _ 71 (0, 0) (heap_alloc_new _ _), cell_of_row _ _ 1 _ 71 (0, 0) (heap_alloc_new _ _)⟩
  have h7 := crash_any (h5.below ba) (kok1 bk hbl) _ 1 1 _ hk (by omega) (by
    intro st hst i
    rw [kst] at hst
    cases hst
    cases i with
    | zero => decide
    | succ i => simp)
  rw [(kc1 bk).1, (kc1 bk).2] at h7
  have H7 := hide h7
  have X6 := hide (And.intro n5 (And.intro (b5.trans (ba.mono b5.size)) (And.intro (owns_below r5 ba) g5)))
  clear h5 n5 b5 r5 g5 ba hk h7 X5 H6
  go_wp2_with fail
  refine (unhide H7).mono ?_
  rintro e w7 ⟨rfl, vw', h7, o7, n7⟩
  obtain ⟨n5, b6, r6, g6⟩ := unhide X6
  have n7' : ∀ k, (k = D ∨ V.ownBlock = some k) → w.heap.size ≤ k := by
    rintro k (rfl | q)
    · exact n5 _ (.inl rfl)
    · exact n5 k (.inr (.inr q))
  have b7 := o7.below b6 b6.size n7'
  have hgp : ¬ (gp = D ∨ V.ownBlock = some gp) := by
    rintro (q | q)
    · have := unhide hD4; have := unhide hgD; omega
    · have := unhide hV4 _ q; have := unhide hgD; omega
  have r7 := owns_only r6 o7 (fun k hk => by cases hk; exact hgp)
  have h8 := blocks_any h7 (fun x hx => by have := (kok2 bk hbl).sz x hx; omega) (by simp [kd2])
  rw [show (kd2 bk).last.length = 8 by simp [kd2]] at h8
  have H8 := hide h8
  have X7 := hide (And.intro h7 (And.intro b7 r7))
  clear n5 b6 r6 g6 n7' b7 hgp r7 h8 h7 o7 n7 X6 H7 hgD hD4 hV4
  go_wp2_with fail
  refine (unhide H8).mono ?_
  rintro e w8 ⟨VB, rfl, r8, m8, b8⟩
  obtain ⟨gb, cb, cur8, rfl, _⟩ := owns_at r8 (by omega)
  obtain ⟨h7, b7, r7⟩ := unhide X7
  have X8 := hide (And.intro (h7.below b8) (And.intro (b7.trans (b8.mono b7.size)) (And.intro (owns_below r7 b8) r8)))
  clear h7 b7 r7 r8 m8 b8 X7 H8
  go_wp2
  have hsz8 : (kd2 bk).last.length = 8 := by simp [kd2]
  refine rka D gp cp gb cb bk rfl rfl rfl _ _ (show 80 ≤ 97 from by decide) rfl rfl rfl rfl rfl rfl rfl rfl (fun _ W => Below w8.heap.size w8 W) ((Below.refl _ _).drew) (fun _ _ _ _ h => h) (by omega) ?_ ?_ ?_ ?_ ?_
  · intro L W h _
    refine (unhide HB W).mono ?_
    rintro e w' ⟨rfl, hb⟩
    exact ⟨rfl, h.trans (hb.mono h.size)⟩
  · intro L W h _
    refine (size_any ((unhide X8).1.below h)).mono ?_
    rintro e w' ⟨rfl, hw⟩
    rw [hw, hsz8]
    exact ⟨rfl, h⟩
  · intro L W h
    have r := owns_below (unhide X8).2.2.1 h
    exact ⟨owns_cell r 0 _ rfl, owns_cell r 1 _ rfl⟩
  · intro L W h _
    refine (unhide HB W).mono ?_
    rintro e w' ⟨rfl, hb⟩
    exact ⟨rfl, h.trans (hb.mono h.size)⟩
  intro L w9 _ b9
  have X9 := hide (And.intro ((unhide X8).1.below b9) (And.intro ((unhide X8).2.1.trans (b9.mono (unhide X8).2.1.size)) (owns_below (unhide X8).2.2.2 b9)))
  clear b9 X8
  simp only [Act.put, List.setIfInBounds_toArray, List.set_cons_succ, List.set_cons_zero]
  go_wp2
  refine rkb D gb cb bk (List.replicate 64 0) (List.replicate 384 0) rfl rfl rfl _ _ (show 97 ≤ 97 from by decide) rfl rfl (fun c L W => Below w9.heap.size w9 W ∧ (L 3 = true → W.ownsRow 0 5 1 (.slice (some ⟨c.1, 0, none⟩) 64 64) 64 (List.replicate 64 (B 0))) ∧ (L 8 = true → W.ownsRow 0 5 1 (.slice (some ⟨c.2, 0, none⟩) 384 384) 384 (List.replicate 384 (B 0)))) ⟨(0, 0), (Below.refl _ _).drew, (fun h => by cases h), (fun h => by cases h)⟩ ?_ (by omega) ?_ ?_ ?_ ?_ ⟨by omega, by omega⟩ ?_ ?_ ?_ ?_ ?_ ?_
  · rintro i hi c L W ⟨q1, q2, q3⟩
    have h3 : i ≠ 3 := by rintro rfl; simp at hi
    have h8 : i ≠ 8 := by rintro rfl; simp at hi
    exact ⟨q1, fun h => q2 (by simpa [upd, Ne.symm h3] using h), fun h => q3 (by simpa [upd, Ne.symm h8] using h)⟩
  · rintro c L W ⟨q1, q2, q3⟩
    rw [← torn_known]
    have r := owns_below (unhide X9).2.2 q1
    exact owns_cell r 2 _ (by simp [kd2])
  · rintro c L W ⟨q1, q2, q3⟩ hL
    obtain ⟨W', e1, e2, e3⟩ := mkz 64 W (by omega)
    refine ⟨(W.heap.size, c.2), W', ?_, e1, q1.trans (e3.mono q1.size), fun _ => e2, fun h => owns_below (q3 (by simpa [upd] using h)) e3⟩
    intro j hj
    have hne : j ≠ 3 := by rintro rfl; rw [hL] at hj; cases hj
    unfold vkb
    split <;> first | rfl | omega
  · rintro c L W ⟨q1, q2, q3⟩ h3
    have := text_of (X := List.replicate 64 (0 : UInt8)) (w := W) (g := c.1) (by simpa using q2 h3)
    simpa using this
  · rintro c L W ⟨q1, q2, q3⟩ hL
    refine (unhide HB W).mono ?_
    rintro e w' ⟨rfl, hb⟩
    exact ⟨rfl, q1.trans (hb.mono q1.size), fun h => owns_below (q2 (by simpa [upd] using h)) hb, fun h => owns_below (q3 (by simpa [upd] using h)) hb⟩
  · simp
    omega
  · rintro c L W ⟨q1, q2, q3⟩ hL
    obtain ⟨W', e1, e2, e3⟩ := mkz 384 W (by omega)
    refine ⟨(c.1, W.heap.size), W', ?_, e1, q1.trans (e3.mono q1.size), fun h => owns_below (q2 (by simpa [upd] using h)) e3, fun _ => e2⟩
    intro j hj
    have hne : j ≠ 8 := by rintro rfl; rw [hL] at hj; cases hj
    unfold vkb
    split <;> first | rfl | omega
  · rintro c L W ⟨q1, q2, q3⟩ h8
    have := text_of (X := List.replicate 384 (0 : UInt8)) (w := W) (g := c.2) (by simpa using q3 h8)
    simpa using this
  · simp
    omega
  · rintro c L W ⟨q1, q2, q3⟩ hL
    refine (dead_any ((unhide X9).1.below q1)).mono ?_
    rintro e w' ⟨rfl, hw⟩
    rw [hw]
    exact ⟨rfl, q1, fun h => q2 (by simpa [upd] using h), fun h => q3 (by simpa [upd] using h)⟩
  rintro c L W _ ⟨q1, -, -⟩
  have HN := hide ((unhide X9).2.1.trans (q1.mono (unhide X9).2.1.size))
  clear q1
  simp only [Act.put, List.setIfInBounds_toArray, List.set_cons_succ, List.set_cons_zero]
  go_wp2
  go_ret
  exact ⟨rfl, unhide HN⟩
end Go.Proofs.Ytpelmacblglhoaa
