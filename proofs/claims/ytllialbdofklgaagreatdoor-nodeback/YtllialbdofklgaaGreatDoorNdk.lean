import Derived.Test.YtllialbdofklgaaGreatDoorNdj
namespace Go.Proofs.YtllialbdofklgaaGreatDoor
open Go.RowKit
set_option maxHeartbeats 16000000
set_option maxRecDepth 8000
theorem isNodes_leaf (nu bi : Int) (la : Option Addr) (lc : Nat) (x : Bs) (w : World) :
    Calls Tryz.prog 62 #[.agg #[I 1, I nu, I bi, .slice la 0 lc, S x]] w fun e w' => e = .returned (.bool true) ∧ Below w.heap.size w w' := by
  have HA := hide ((Below.refl w.heap.size w).alloc (Nat.le_refl _) (.cells #[I 1, I nu, I bi, .slice la 0 lc, S x] 27))
  go_enter Tryz.func62, Tryz.ntmps62
  go_wp2
  go_ret
  exact ⟨rfl, unhide HA⟩
theorem parse_leaf (nu bi : Int) (la : Option Addr) (lc : Nat) (x : Bs) (w : World) (hx : x.length ≤ 4294967296) (hE : gE x = 0) (hw : wrl ⟨true, gK x, gV x, []⟩ = 0)
    (HD : ∀ b g off cap W, Below w.heap.size w W → RAt b g off cap (gF (gN x) (rs 1 (x, 0))).2.2.1 (gF (gN x) (rs 1 (x, 0))).2.2.2 W → Calls Tryz.prog 95 #[ptr b] W fun e w' => e = .returned (I (gE x)) ∧ Below W.heap.size W w') :
    Calls Tryz.prog 34 #[.agg #[I 1, I nu, I bi, .slice la 0 lc, S x]] w fun e w' => ∃ vK vV, e = .returned (.tuple #[.agg #[.bool true, vK, vV, .slice none 0 0], I 0]) ∧ w'.ownsRow 0 9 1 vK (gK x).length ((gK x).map S) ∧ w'.ownsRow 0 9 1 vV (gV x).length ((gV x).map S) ∧ (∀ i, vK.ownBlock = some i → w.heap.size ≤ i) ∧ (∀ i, vV.ownBlock = some i → w.heap.size ≤ i) ∧ (∀ i, vK.ownBlock = some i → vV.ownBlock ≠ some i) ∧ Below w.heap.size w w' := by
  have hNB : NB ⟨true, gK x, gV x, []⟩ := by
    have h := hw
    unfold wrl at h
    cases h1 : hfl ⟨true, gK x, gV x, []⟩
    · rw [h1] at h; cases h
    cases h2 : kok (gK x)
    · simp only [h1, h2] at h; cases h
    simp only [h1, h2, if_true] at h
    have h3 : ¬ 480 < Nd.siz ⟨true, gK x, gV x, []⟩ := fun q => by rw [if_pos q] at h; cases h
    unfold Nd.siz at h3
    simp only [if_true] at h3
    refine ⟨?_, ?_, ?_, ?_, ?_⟩ <;> simp only [List.length_nil] <;> omega
  have hA := (Below.refl w.heap.size w).alloc (Nat.le_refl _) (.cells #[I 1, I nu, I bi, .slice la 0 lc, S x] 27)
  have hg := heap_alloc_new w (.cells #[I 1, I nu, I bi, .slice la 0 lc, S x] 27)
  have hz := lt_of_row hg
  have hs1 := size_alloc w (.cells #[I 1, I nu, I bi, .slice la 0 lc, S x] 27)
  generalize hW1 : w.alloc (.cells #[I 1, I nu, I bi, .slice la 0 lc, S x] 27) = W1 at hA hg hz hs1
  have hA2 := hA.alloc hA.size (.cells #[.bool false, .slice none 0 0, .slice none 0 0, .slice none 0 0] 25)
  have hp := heap_alloc_new W1 (.cells #[.bool false, .slice none 0 0, .slice none 0 0, .slice none 0 0] 25)
  have hg2 := (heap_alloc_old W1 (.cells #[.bool false, .slice none 0 0, .slice none 0 0, .slice none 0 0] 25) hz).trans hg
  have hs2 := size_alloc W1 (.cells #[.bool false, .slice none 0 0, .slice none 0 0, .slice none 0 0] 25)
  generalize hW2 : W1.alloc (.cells #[.bool false, .slice none 0 0, .slice none 0 0, .slice none 0 0] 25) = W2 at hA2 hp hg2 hs2
  obtain ⟨c0, c1, c2, c3, c4⟩ := box5 hg2 (Below.refl _ _) (lt_of_row hg2)
  have hz2 := lt_of_row hg2
  have hz3 := lt_of_row hp
  have HA2 := hide hA2
  have HG2 := hide hg2
  have HP := hide hp
  have HXS := hide (show W1.heap.size = w.heap.size + 1 ∧ W2.heap.size = W1.heap.size + 1 from ⟨hs1, hs2⟩)
  have H0 := hide (isNodes_leaf nu bi la lc x W2)
  have H1 := hide (fun W (q : Below W2.heap.size W2 W) => guess_leaf nu bi la 0 lc x W hx (fun b g off cap W' b' hr => HD b g off cap W' ((hA2.trans (q.mono hA2.size)).trans (b'.mono (Nat.le_trans hA2.size q.size))) hr))
  rw [hE] at H1
  have HW := hide hw
  have HNB := hide hNB
  clear HD hE hw hNB hA hg hz hA2 hp hg2 hs1 hs2
  generalize gK x = gk at *
  generalize gV x = gv at *
  go_enter Tryz.func34, Tryz.ntmps34
  go_wp2_with fail
  refine (unhide H0).mono ?_
  rintro e w1 ⟨rfl, b1⟩
  clear c0 c1 c2 c3 c4 hW1 hW2
  obtain ⟨c0, c1, c2, c3, c4⟩ := box5 (unhide HG2) b1 hz2
  have hz4 := Nat.lt_of_lt_of_le hz2 b1.size
  have h1 := hide (unhide H1 w1 b1)
  have HB1 := hide b1
  clear b1 H1 H0
  go_wp2_with fail
  refine (unhide h1).mono ?_
  rintro e w2 ⟨vK, vV, rfl, rK, rV, oK, oV, ne, b2⟩
  have bb := (unhide HB1).trans (b2.mono (unhide HB1).size)
  have hp2 := (bb.block _ hz3).trans (unhide HP)
  obtain ⟨pK, cK, rfl⟩ := owns_form rK
  obtain ⟨pV, cV, rfl⟩ := owns_form rV
  have hq := heap_alloc_new w2 (.cells #[.bool false, .slice none 0 0, .slice none 0 0, .slice none 0 0] 25)
  have hb3 := (Below.refl w2.heap.size w2).alloc (Nat.le_refl _) (.cells #[.bool false, .slice none 0 0, .slice none 0 0, .slice none 0 0] 25)
  have ht := setRow_heap _ _ _ #[.bool true, .slice pK gk.length cK, .slice pV gv.length cV, .slice none 0 0] 25 _ hq
  have hb4 := (setRow_only (w2.alloc (.cells #[.bool false, .slice none 0 0, .slice none 0 0, .slice none 0 0] 25)) w2.heap.size #[.bool true, .slice pK gk.length cK, .slice pV gv.length cV, .slice none 0 0]).below hb3 hb3.size (fun k e => by omega)
  have HQ := hide hq
  clear hq hb3
  generalize hW3 : (w2.alloc (.cells #[.bool false, .slice none 0 0, .slice none 0 0, .slice none 0 0] 25)).setRow w2.heap.size #[.bool true, .slice pK gk.length cK, .slice pV gv.length cV, .slice none 0 0] = W3 at ht hb4
  have HW3 := hide hW3
  have rK3 := owns_below rK hb4
  have rV3 := owns_below rV hb4
  have hna : NA ⟨true, gk, gv, []⟩ pK pV none W3 := by
    obtain ⟨p, c, e1, s1, _⟩ := Sts.of rK3
    obtain ⟨p', c', e2, s2, _⟩ := Sts.of rV3
    cases e1
    cases e2
    exact ⟨s1, s2, Ins.nil _ _⟩
  have H2 : Hid (Calls Tryz.prog 59 #[.agg #[.bool true, .slice pK gk.length cK, .slice pV gv.length cV, .slice none 0 0]] W3 fun e w' => e = .returned (I 0) ∧ Below W3.heap.size W3 w') := by
    have q := wrong_leaf ⟨true, gk, gv, []⟩ pK pV none cK cV 0 W3 hna (unhide HNB) rfl
    rw [unhide HW] at q
    exact q
  obtain ⟨d0, d1, d2, d3⟩ := box4 ht (Below.refl _ _) (lt_of_row ht)
  have hl3 := lt_of_row ht
  have bbb := bb.trans (hb4.mono bb.size)
  have hp3 := (bbb.block _ hz3).trans (unhide HP)
  have HT := hide ht
  have HP3 := hide hp3
  have HB3 := hide ((unhide HA2).trans (bbb.mono (unhide HA2).size))
  have HRK := hide rK3
  have HRV := hide rV3
  have hl4 := lt_of_row hp3
  have HX := hide (show W2.heap.size ≤ w2.heap.size from bb.size)
  have HO := hide (show (∀ i, (Value.slice pK gk.length cK).ownBlock = some i → w1.heap.size ≤ i) ∧ (∀ i, (Value.slice pV gv.length cV).ownBlock = some i → w1.heap.size ≤ i) ∧ (∀ i, (Value.slice pK gk.length cK).ownBlock = some i → (Value.slice pV gv.length cV).ownBlock ≠ some i) ∧ W2.heap.size ≤ w1.heap.size from ⟨oK, oV, ne, (unhide HB1).size⟩)
  clear hW3 rK rV rK3 rV3 oK oV ne b2 bb hp2 hna ht hb4 bbb hp3 c0 c1 c2 c3 c4
  generalize hkl : gk.length = kl at *
  generalize hvl : gv.length = vl at *
  have HKL := hide hkl
  have HVL := hide hvl
  clear hkl hvl
  go_wp2_with (first | (refine wp_st25 rfl (.tmp 4) (.tmp 13) rfl w2.heap.size (by rfl) true pK pV none kl cK vl cV 0 0 (by rfl) _ rfl (unhide HQ) ?_; rw [unhide HW3]) | fail)
  refine (unhide H2).mono ?_
  rintro e w4 ⟨rfl, b4⟩
  clear d0 d1 d2 d3 HW3 HQ H2
  obtain ⟨d0, d1, d2, d3⟩ := box4 (unhide HT) b4 hl3
  have hp4 := (b4.block _ hl4).trans (unhide HP3)
  have hl5 := Nat.lt_of_lt_of_le hl3 b4.size
  have HP4 := hide hp4
  have HB4 := hide b4
  clear b4 hp4
  go_wp2_with (first | (refine wp_st25 rfl (.tmp 2) (.tmp 23) rfl W1.heap.size (by rfl) true pK pV none kl cK vl cV 0 0 (by rfl) _ rfl (unhide HP4) ?_) | fail)
  have h4 := setRow_heap _ _ _ #[.bool true, .slice pK kl cK, .slice pV vl cV, .slice none 0 0] 25 _ (unhide HP4)
  have oF := setRow_only w4 W1.heap.size #[.bool true, .slice pK kl cK, .slice pV vl cV, .slice none 0 0]
  have hXS := unhide HXS
  obtain ⟨oK, oV, ne, oS⟩ := unhide HO
  have hbb := (unhide HB3).trans ((unhide HB4).mono (unhide HB3).size)
  refine outN (p := 2) (q := 3) rfl (by rfl) (by rfl) (by rfl) h4 ⟨_, _, rfl, ?_, ?_, fun i hi => ?_, fun i hi => ?_, ne, oF.below hbb hbb.size (fun i e => by omega)⟩
  · rw [unhide HKL]
    exact owns_only (owns_below (unhide HRK) (unhide HB4)) oF (fun i hi e => by have := oK i hi; omega)
  · rw [unhide HVL]
    exact owns_only (owns_below (unhide HRV) (unhide HB4)) oF (fun i hi e => by have := oV i hi; omega)
  · have := oK i hi; omega
  · have := oV i hi; omega
end Go.Proofs.YtllialbdofklgaaGreatDoor
