import Derived.Test.YtllialbdofklgaaGreatDoorNfe
import Derived.Test.YtllialbdofklgaaGreatDoorZzba
import Derived.Test.YtllialbdofklgaaGreatDoorZzan
namespace Go.Proofs.YtllialbdofklgaaGreatDoor
open Go.RowKit
set_option maxHeartbeats 16000000
set_option maxRecDepth 8000
theorem tv_len (most : Nat) (s : Bs × Nat) (hm : most ≤ 65535) : (tv most s).length ≤ most := by
  unfold tv
  split
  · rename_i h
    unfold fine at h
    rw [Bool.and_eq_true, beq_iff_eq, beq_iff_eq] at h
    have h2 := h.2
    unfold rTextE at h2
    rw [if_pos ⟨by omega, by omega⟩] at h2
    split at h2
    · cases h2
    split at h2
    · cases h2
    unfold rTextS
    rw [List.length_take]
    omega
  · simp
theorem tot_one (l : List Bs) (x : Bs) : tot (l ++ [x]) = tot l + x.length := by rw [tot_app]; simp [tot]
theorem gF_tot (n : Nat) (s : Bs × Nat) : tot (gF n s).1 ≤ 36 * n ∧ tot (gF n s).2.1 ≤ 200 * n := by
  induction n with
  | zero => simp [gF, tot]
  | succ n ih =>
    have h1 := tv_len 36 (gF n s).2.2 (by omega)
    have h2 := tv_len 200 (ts 36 (gF n s).2.2) (by omega)
    simp only [gF, tot_one]
    omega
theorem iF_tot (n : Nat) (s : Bs × Nat) : tot (iF n s).1 ≤ 36 * n := by
  induction n with
  | zero => simp [iF, tot]
  | succ n ih =>
    have h1 := tv_len 36 (iF n s).2 (by omega)
    simp only [iF, tot_one]
    omega
theorem gN_le (x : Bs) : gN x ≤ 255 := by
  have := rv_hi1 (x, 0)
  have := rv_lo 1 (x, 0)
  unfold gN
  omega
/-- Has a page the kind of a node's? -/
def isn (k : Int) (ln : Nat) : Bool := decide (k = 2) || (decide (k = 1) && decide (ln = 0))
def pnd (k : Int) (L : List Int) (x : Bs) : Nd := if k = 2 then ⟨false, iK x, [], L⟩ else ⟨true, gK x, gV x, []⟩
def pee (k : Int) (x : Bs) : Nat := if k = 2 then iE x else gE x
theorem pnd_nb (k : Int) (L : List Int) (x : Bs) (hL : L.length ≤ 4294967296) : NB (pnd k L x) := by
  have h0 := gN_le x
  unfold pnd
  split
  · have h1 := iF_tot (gN x) (rs 1 (x, 0))
    have h2 := iF_len (gN x) (rs 1 (x, 0))
    refine ⟨?_, ?_, ?_, ?_, ?_⟩ <;> simp only [iK, List.length_nil, tot, List.map_nil, List.sum_nil] at * <;> omega
  · have h1 := gF_tot (gN x) (rs 1 (x, 0))
    have h2 := gF_len (gN x) (rs 1 (x, 0))
    refine ⟨?_, ?_, ?_, ?_, ?_⟩ <;> simp only [gK, gV, List.length_nil, tot] at * <;> omega
theorem isNodes_any (k nu bi : Int) (la : Option Addr) (ln lc : Nat) (x : Bs) (w : World) :
    Calls Tryz.prog 62 #[.agg #[I k, I nu, I bi, .slice la ln lc, S x]] w fun e w' => e = .returned (.bool (isn k ln)) ∧ Below w.heap.size w w' := by
  have HA := hide ((Below.refl w.heap.size w).alloc (Nat.le_refl _) (.cells #[I k, I nu, I bi, .slice la ln lc, S x] 27))
  have HF := hide (show isn k ln = (decide (k = 2) || (decide (k = 1) && decide (ln = 0))) from rfl)
  generalize isn k ln = F at *
  by_cases h2 : k = 2
  · subst h2
    go_enter Tryz.func62, Tryz.ntmps62
    go_wp2
    go_ret
    exact ⟨ret_bool (by rw [unhide HF]; simp), unhide HA⟩
  · have h2' : (k == 2) = false := by simpa using h2
    by_cases h1 : k = 1
    · subst h1
      go_enter Tryz.func62, Tryz.ntmps62
      go_wp2
      go_ret
      exact ⟨ret_bool (by rw [unhide HF, Bool.eq_iff_iff]; simp), unhide HA⟩
    · have h1' : (k == 1) = false := by simpa using h1
      go_enter Tryz.func62, Tryz.ntmps62
      go_wp2
      go_ret
      exact ⟨ret_bool (by rw [unhide HF]; simp [h1, h2]), unhide HA⟩
theorem guess_any (k nu bi : Int) (la : Option Addr) (ln lc : Nat) (L : List Int) (x : Bs) (w : World) (hx : x.length ≤ 4294967296) (hL : Ins w la ln L) (hLn : ln ≤ 4294967296) (hl : Lay w) (hi : isn k ln = true) :
    Calls Tryz.prog 63 #[.agg #[I k, I nu, I bi, .slice la ln lc, S x]] w fun e w' => ∃ vK vV vI, e = .returned (.tuple #[.agg #[.bool (pnd k L x).leaf, vK, vV, vI], .bool (decide (pee k x = 0))]) ∧ w'.ownsRow 0 9 1 vK (pnd k L x).keys.length ((pnd k L x).keys.map S) ∧ w'.ownsRow 0 9 1 vV (pnd k L x).vals.length ((pnd k L x).vals.map S) ∧ w'.ownsRow 0 3 1 vI (pnd k L x).kids.length ((pnd k L x).kids.map fun z => I z) ∧ ((∀ i, vK.ownBlock = some i → w.heap.size ≤ i) ∧ (∀ i, vV.ownBlock = some i → w.heap.size ≤ i) ∧ (∀ i, vI.ownBlock = some i → w.heap.size ≤ i) ∧ (∀ i, vK.ownBlock = some i → vV.ownBlock ≠ some i)) ∧ Below w.heap.size w w' := by
  by_cases h2 : k = 2
  · subst h2
    refine (guess_inner nu bi la ln lc L x w hx hL hLn (fun b g off cap W hb hr => ?_)).mono ?_
    · exact rdone_any b g off cap _ _ W hr (hl.below hb)
    · rintro e w' ⟨vK, vI, rfl, h1, h2, h3, h4, h5⟩
      exact ⟨vK, .slice none 0 0, vI, rfl, h1, owns_nil _ _ _, h2, ⟨h3, (fun i hi => nomatch hi), h4, (fun i _ hi => nomatch hi)⟩, h5⟩
  · unfold isn at hi
    simp only [h2, decide_false, Bool.false_or, Bool.and_eq_true, decide_eq_true_eq] at hi
    obtain ⟨rfl, rfl⟩ := hi
    refine (guess_leaf nu bi la 0 lc x w hx (fun b g off cap W hb hr => ?_)).mono ?_
    · exact rdone_any b g off cap _ _ W hr (hl.below hb)
    · rintro e w' ⟨vK, vV, rfl, h1, h2, h3, h4, h5, h6⟩
      exact ⟨vK, vV, .slice none 0 0, rfl, h1, h2, owns_nil _ _ _, ⟨h3, h4, (fun i hi => nomatch hi), h5⟩, h6⟩
/-- Is a page that of a right node? -/
def pok (k : Int) (L : List Int) (x : Bs) : Bool := isn k L.length && (decide (pee k x = 0) && decide (wrv (pnd k L x) = 0))
theorem parse_any (k nu bi : Int) (la : Option Addr) (ln lc : Nat) (L : List Int) (x : Bs) (w : World) (hx : x.length ≤ 4294967296) (hL : Ins w la ln L) (hLn : ln ≤ 4294967296) (hl : Lay w) :
    Calls Tryz.prog 34 #[.agg #[I k, I nu, I bi, .slice la ln lc, S x]] w fun e w' =>
      (pok k L x = true ∧ ∃ vK vV vI, e = .returned (.tuple #[.agg #[.bool (pnd k L x).leaf, vK, vV, vI], I 0]) ∧ w'.ownsRow 0 9 1 vK (pnd k L x).keys.length ((pnd k L x).keys.map S) ∧ w'.ownsRow 0 9 1 vV (pnd k L x).vals.length ((pnd k L x).vals.map S) ∧ w'.ownsRow 0 3 1 vI (pnd k L x).kids.length ((pnd k L x).kids.map fun z => I z) ∧ ((∀ i, vK.ownBlock = some i → w.heap.size ≤ i) ∧ (∀ i, vV.ownBlock = some i → w.heap.size ≤ i) ∧ (∀ i, vI.ownBlock = some i → w.heap.size ≤ i) ∧ (∀ i, vK.ownBlock = some i → vV.ownBlock ≠ some i)) ∧ Below w.heap.size w w') ∨
      (pok k L x = false ∧ e = .returned (.tuple #[.agg #[.bool false, .slice none 0 0, .slice none 0 0, .slice none 0 0], I 100]) ∧ Below w.heap.size w w') := by
  have hLl := hL.1
  have hNB := pnd_nb k L x (by omega)
  have hA := (Below.refl w.heap.size w).alloc (Nat.le_refl _) (.cells #[I k, I nu, I bi, .slice la ln lc, S x] 27)
  have hg := heap_alloc_new w (.cells #[I k, I nu, I bi, .slice la ln lc, S x] 27)
  have hz := lt_of_row hg
  have hs1 := size_alloc w (.cells #[I k, I nu, I bi, .slice la ln lc, S x] 27)
  generalize hW1 : w.alloc (.cells #[I k, I nu, I bi, .slice la ln lc, S x] 27) = W1 at hA hg hz hs1
  have hA2 := hA.alloc hA.size (.cells #[.bool false, .slice none 0 0, .slice none 0 0, .slice none 0 0] 25)
  have hp := heap_alloc_new W1 (.cells #[.bool false, .slice none 0 0, .slice none 0 0, .slice none 0 0] 25)
  have hg2 := (alloc_old W1 (.cells #[.bool false, .slice none 0 0, .slice none 0 0, .slice none 0 0] 25) hz).trans hg
  have hs2 := size_alloc W1 (.cells #[.bool false, .slice none 0 0, .slice none 0 0, .slice none 0 0] 25)
  generalize hW2 : W1.alloc (.cells #[.bool false, .slice none 0 0, .slice none 0 0, .slice none 0 0] 25) = W2 at hA2 hp hg2 hs2
  obtain ⟨c0, c1, c2, c3, c4⟩ := box5 hg2 (Below.refl _ _) (lt_of_row hg2)
  have hz2 := lt_of_row hg2
  have hz3 := lt_of_row hp
  have HA2 := hide hA2
  have HG2 := hide hg2
  have HP := hide hp
  have HXS := hide (show W1.heap.size = w.heap.size + 1 ∧ W2.heap.size = W1.heap.size + 1 from ⟨hs1, hs2⟩)
  have H0 := hide (isNodes_any k nu bi la ln lc x W2)
  have H1 := hide (fun W (q : Below W2.heap.size W2 W) (hi : isn k ln = true) => guess_any k nu bi la ln lc L x W hx ((hL.below hA2).below q) hLn ((hl.below hA2).below q) hi)
  have HNB := hide hNB
  have HF := hide (show pok k L x = (isn k ln && (decide (pee k x = 0) && decide (wrv (pnd k L x) = 0))) by unfold pok; rw [hLl])
  generalize pok k L x = F at *
  clear hNB hA hg hz hA2 hp hg2 hs1 hs2 hL hl hLl
  generalize hisn : isn k ln = si at *
  clear hisn
  generalize pnd k L x = nd at *
  generalize hpe : pee k x = pe at *
  clear hpe
  go_enter Tryz.func34, Tryz.ntmps34
  go_wp2_with fail
  refine (unhide H0).mono ?_
  rintro e w1 ⟨rfl, b1⟩
  clear c0 c1 c2 c3 c4 hW1 hW2
  obtain ⟨c0, c1, c2, c3, c4⟩ := box5 (unhide HG2) b1 hz2
  have hz4 := Nat.lt_of_lt_of_le hz2 b1.size
  have HB1 := hide b1
  cases si
  · have HQ := hide ((b1.block _ hz3).trans (unhide HP))
    clear b1 H1 H0
    go_wp2_with (refine wp_st25 rfl (.tmp 2) (.tmp 9) rfl W1.heap.size (by rfl) false none none none 0 0 0 0 0 0 (by rfl) _ rfl (unhide HQ) ?_)
    have h4 := setRow_heap _ _ _ #[.bool false, .slice none 0 0, .slice none 0 0, .slice none 0 0] 25 _ (unhide HQ)
    have oF := setRow_only w1 W1.heap.size #[.bool false, .slice none 0 0, .slice none 0 0, .slice none 0 0]
    have hXS := unhide HXS
    have hbb := (unhide HA2).trans ((unhide HB1).mono (unhide HA2).size)
    exact outN (p := 2) (q := 3) rfl (by rfl) (by rfl) (by rfl) h4 (.inr ⟨by rw [unhide HF]; rfl, rfl, oF.below hbb hbb.size (fun i e => by omega)⟩)
  have h1 := hide (unhide H1 w1 b1 rfl)
  clear b1 H1 H0
  go_wp2_with fail
  refine (unhide h1).mono ?_
  rintro e w2 ⟨vK, vV, vI, rfl, rK, rV, rI, oo, b2⟩
  have bb := (unhide HB1).trans (b2.mono (unhide HB1).size)
  have hp2 := (bb.block _ hz3).trans (unhide HP)
  obtain ⟨pK, cK, rfl⟩ := owns_form rK
  obtain ⟨pV, cV, rfl⟩ := owns_form rV
  obtain ⟨pI, cI, rfl⟩ := owns_form rI
  have hq := heap_alloc_new w2 (.cells #[.bool false, .slice none 0 0, .slice none 0 0, .slice none 0 0] 25)
  have hb3 := (Below.refl w2.heap.size w2).alloc (Nat.le_refl _) (.cells #[.bool false, .slice none 0 0, .slice none 0 0, .slice none 0 0] 25)
  have ht := setRow_heap _ _ _ #[.bool nd.leaf, .slice pK nd.keys.length cK, .slice pV nd.vals.length cV, .slice pI nd.kids.length cI] 25 _ hq
  have hb4 := (setRow_only (w2.alloc (.cells #[.bool false, .slice none 0 0, .slice none 0 0, .slice none 0 0] 25)) w2.heap.size #[.bool nd.leaf, .slice pK nd.keys.length cK, .slice pV nd.vals.length cV, .slice pI nd.kids.length cI]).below hb3 hb3.size (fun k e => by omega)
  have HQ := hide hq
  clear hq hb3
  generalize hW3 : (w2.alloc (.cells #[.bool false, .slice none 0 0, .slice none 0 0, .slice none 0 0] 25)).setRow w2.heap.size #[.bool nd.leaf, .slice pK nd.keys.length cK, .slice pV nd.vals.length cV, .slice pI nd.kids.length cI] = W3 at ht hb4
  have HW3 := hide hW3
  have rK3 := owns_below rK hb4
  have rV3 := owns_below rV hb4
  have rI3 := owns_below rI hb4
  have hna : NA nd pK pV pI W3 := by
    obtain ⟨p, c, e1, s1, _⟩ := Sts.of rK3
    obtain ⟨p', c', e2, s2, _⟩ := Sts.of rV3
    obtain ⟨p'', c'', e3, s3, _⟩ := Ins.of rI3
    cases e1
    cases e2
    cases e3
    exact ⟨s1, s2, s3⟩
  have H2 : Hid (Calls Tryz.prog 59 #[.agg #[.bool nd.leaf, .slice pK nd.keys.length cK, .slice pV nd.vals.length cV, .slice pI nd.kids.length cI]] W3 fun e w' => e = .returned (I (wrv nd)) ∧ Below W3.heap.size W3 w') :=
    wrong_any nd pK pV pI cK cV cI W3 hna (unhide HNB)
  obtain ⟨d0, d1, d2, d3⟩ := box4 ht (Below.refl _ _) (lt_of_row ht)
  have hl3 := lt_of_row ht
  have bbb := bb.trans (hb4.mono bb.size)
  have hp3 := (bbb.block _ hz3).trans (unhide HP)
  have HT := hide ht
  have HP3 := hide hp3
  have HB3 := hide ((unhide HA2).trans (bbb.mono (unhide HA2).size))
  have HRK := hide rK3
  have HRV := hide rV3
  have HRI := hide rI3
  have hl4 := lt_of_row hp3
  have HX := hide (show W2.heap.size ≤ w2.heap.size from bb.size)
  have HO := hide (And.intro oo (unhide HB1).size)
  have hwr : wrv nd ≤ 102 := by unfold wrv; split <;> (try split) <;> (try split) <;> omega
  clear hW3 rK rV rI rK3 rV3 rI3 oo b2 bb hp2 hna ht hb4 bbb hp3 c0 c1 c2 c3 c4
  generalize hw : wrv nd = wr at *
  generalize hlf : nd.leaf = lf at *
  generalize hkl : nd.keys.length = kl at *
  generalize hvl : nd.vals.length = vl at *
  generalize hil : nd.kids.length = il at *
  have HLF := hide hlf
  have HKL := hide hkl
  have HVL := hide hvl
  have HIL := hide hil
  have HWR := hide hw
  clear hlf hkl hvl hil hw
  by_cases hpe : pe = 0
  · have hpe' : decide (pe = 0) = true := by simpa using hpe
    rw [hpe'] at *
    go_wp2_with (first | (refine wp_st25 rfl (.tmp 4) (.tmp 13) rfl w2.heap.size (by rfl) lf pK pV pI kl cK vl cV il cI (by rfl) _ rfl (unhide HQ) ?_; rw [unhide HW3]) | fail)
    refine (unhide H2).mono ?_
    rintro e w4 ⟨rfl, b4⟩
    clear d0 d1 d2 d3 HW3 HQ H2
    obtain ⟨d0, d1, d2, d3⟩ := box4 (unhide HT) b4 hl3
    have hp4 := (b4.block _ hl4).trans (unhide HP3)
    have hl5 := Nat.lt_of_lt_of_le hl3 b4.size
    have HP4 := hide hp4
    have HB4 := hide b4
    clear b4 hp4
    by_cases hw0 : wr = 0
    · subst hw0
      go_wp2_with (first | (refine wp_st25 rfl (.tmp 2) (.tmp 23) rfl W1.heap.size (by rfl) lf pK pV pI kl cK vl cV il cI (by rfl) _ rfl (unhide HP4) ?_) | fail)
      have h4 := setRow_heap _ _ _ #[.bool lf, .slice pK kl cK, .slice pV vl cV, .slice pI il cI] 25 _ (unhide HP4)
      have oF := setRow_only w4 W1.heap.size #[.bool lf, .slice pK kl cK, .slice pV vl cV, .slice pI il cI]
      have hXS := unhide HXS
      obtain ⟨⟨oK, oV, oI, ne⟩, oS⟩ := unhide HO
      have hbb := (unhide HB3).trans ((unhide HB4).mono (unhide HB3).size)
      refine outN (p := 2) (q := 3) rfl (by rfl) (by rfl) (by rfl) h4 (.inl ⟨by rw [unhide HF]; simp [hpe], .slice pK kl cK, .slice pV vl cV, .slice pI il cI, by rw [unhide HLF]; rfl, ?_, ?_, ?_, ⟨fun i hi => ?_, fun i hi => ?_, fun i hi => ?_, ne⟩, oF.below hbb hbb.size (fun i e => by omega)⟩)
      · rw [unhide HKL]
        exact owns_only (owns_below (unhide HRK) (unhide HB4)) oF (fun i hi e => by have := oK i hi; omega)
      · rw [unhide HVL]
        exact owns_only (owns_below (unhide HRV) (unhide HB4)) oF (fun i hi e => by have := oV i hi; omega)
      · rw [unhide HIL]
        exact owns_only (owns_below (unhide HRI) (unhide HB4)) oF (fun i hi e => by have := oI i hi; omega)
      · have := oK i hi; omega
      · have := oV i hi; omega
      · have := oI i hi; omega
    · have hw0' : ((wr : Int) == 0) = false := by simp; omega
      have hwb : ¬ (wr : Int) = 0 := by omega
      go_wp2_with (first | (refine wp_st25 rfl (.tmp 2) (.tmp 22) rfl W1.heap.size (by rfl) false none none none 0 0 0 0 0 0 (by rfl) _ rfl (unhide HP4) ?_) | fail)
      have h4 := setRow_heap _ _ _ #[.bool false, .slice none 0 0, .slice none 0 0, .slice none 0 0] 25 _ (unhide HP4)
      have oF := setRow_only w4 W1.heap.size #[.bool false, .slice none 0 0, .slice none 0 0, .slice none 0 0]
      have hXS := unhide HXS
      have hbb := (unhide HB3).trans ((unhide HB4).mono (unhide HB3).size)
      exact outN (p := 2) (q := 3) rfl (by rfl) (by rfl) (by rfl) h4 (.inr ⟨by rw [unhide HF]; simp [hw0], rfl, oF.below hbb hbb.size (fun i e => by omega)⟩)
  · have hpe' : decide (pe = 0) = false := by simpa using hpe
    rw [hpe'] at *
    go_wp2_with (first | (refine wp_st25 rfl (.tmp 4) (.tmp 13) rfl w2.heap.size (by rfl) lf pK pV pI kl cK vl cV il cI (by rfl) _ rfl (unhide HQ) ?_; rw [unhide HW3]) | (refine wp_st25 rfl (.tmp 2) (.tmp 22) rfl W1.heap.size (by rfl) false none none none 0 0 0 0 0 0 (by rfl) _ rfl (unhide HP3) ?_) | fail)
    have h4 := setRow_heap _ _ _ #[.bool false, .slice none 0 0, .slice none 0 0, .slice none 0 0] 25 _ (unhide HP3)
    have oF := setRow_only W3 W1.heap.size #[.bool false, .slice none 0 0, .slice none 0 0, .slice none 0 0]
    have hXS := unhide HXS
    exact outN (p := 2) (q := 3) rfl (by rfl) (by rfl) (by rfl) h4 (.inr ⟨by rw [unhide HF]; simp [hpe], rfl, oF.below (unhide HB3) (unhide HB3).size (fun i e => by omega)⟩)
end Go.Proofs.YtllialbdofklgaaGreatDoor
