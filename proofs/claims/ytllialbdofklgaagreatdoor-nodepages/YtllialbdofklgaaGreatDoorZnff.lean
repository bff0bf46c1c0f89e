import Derived.Test.YtllialbdofklgaaGreatDoorZnfd
import Derived.Test.YtllialbdofklgaaGreatDoorDone
import Derived.Test.YtllialbdofklgaaGreatDoorZndg
namespace Go.Proofs.YtllialbdofklgaaGreatDoor
open Go.RowKit
set_option maxHeartbeats 16000000
set_option maxRecDepth 8000
theorem tv_len (most : Nat) (s : Bs × Nat) (hm : most ≤ 65535) : (tv most s).length ≤ most := by
  unfold tv
  split
  · rename_i h
    unfold fine at h
    rw [Bool.and_eq_true, beq_iff_eq, beq_iff_eq] at h
    have h2 := h.2
    unfold rTextE at h2
    rw [if_pos ⟨by omega, by omega⟩] at h2
    split at h2
    · cases h2
    split at h2
    · cases h2
    unfold rTextS
    rw [List.length_take]
    omega
  · simp
theorem tot_one (l : List Bs) (x : Bs) : tot (l ++ [x]) = tot l + x.length := by rw [tot_app]; simp [tot]
theorem gF_tot (n : Nat) (s : Bs × Nat) : tot (gF n s).1 ≤ 36 * n ∧ tot (gF n s).2.1 ≤ 200 * n := by
  induction n with
  | zero => simp [gF, tot]
  | succ n ih =>
    have h1 := tv_len 36 (gF n s).2.2 (by omega)
    have h2 := tv_len 200 (ts 36 (gF n s).2.2) (by omega)
    simp only [gF, tot_one]
    omega
theorem iF_tot (n : Nat) (s : Bs × Nat) : tot (iF n s).1 ≤ 36 * n := by
  induction n with
  | zero => simp [iF, tot]
  | succ n ih =>
    have h1 := tv_len 36 (iF n s).2 (by omega)
    simp only [iF, tot_one]
    omega
theorem gN_le (x : Bs) : gN x ≤ 255 := by
  have := rv_hi1 (x, 0)
  have := rv_lo 1 (x, 0)
  unfold gN
  omega
/-- Has a page the kind of a node's? -/
def isn (k : Int) (ln : Nat) : Bool := decide (k = 2) || (decide (k = 1) && decide (ln = 0))
def pnd (k : Int) (L : List Int) (x : Bs) : Nd := if k = 2 then ⟨false, iK x, [], L⟩ else ⟨true, gK x, gV x, []⟩
def pee (k : Int) (x : Bs) : Nat := if k = 2 then iE x else gE x
theorem pnd_nb (k : Int) (L : List Int) (x : Bs) (hL : L.length ≤ 4294967296) : NB (pnd k L x) := by
  have h0 := gN_le x
  unfold pnd
  split
  · have h1 := iF_tot (gN x) (rs 1 (x, 0))
    have h2 := iF_len (gN x) (rs 1 (x, 0))
    refine ⟨?_, ?_, ?_, ?_, ?_⟩ <;> simp only [iK, List.length_nil, tot, List.map_nil, List.sum_nil] at * <;> omega
  · have h1 := gF_tot (gN x) (rs 1 (x, 0))
    have h2 := gF_len (gN x) (rs 1 (x, 0))
    refine ⟨?_, ?_, ?_, ?_, ?_⟩ <;> simp only [gK, gV, List.length_nil, tot] at * <;> omega
theorem isNodes_any (k nu bi : Int) (la : Option Addr) (ln lc : Nat) (x : Bs) (w : World) :
    Calls Tryz.prog 62 #[.agg #[I k, I nu, I bi, .slice la ln lc, S x]] w fun e w' => e = .returned (.bool (isn k ln)) ∧ Below w.heap.size w w' := by
  have HA := hide ((Below.refl w.heap.size w).alloc (Nat.le_refl _) (.cells #[I k, I nu, I bi, .slice la ln lc, S x] 27))
  have HF := hide (show isn k ln = (decide (k = 2) || (decide (k = 1) && decide (ln = 0))) from rfl)
  generalize isn k ln = F at *
  by_cases h2 : k = 2
  · subst h2
    go_enter Tryz.func62, Tryz.ntmps62
    go_wp2
    go_ret
    exact ⟨ret_bool (by rw [unhide HF]; simp), unhide HA⟩
  · have h2' : (k == 2) = false := by simpa using h2
    by_cases h1 : k = 1
    · subst h1
      go_enter Tryz.func62, Tryz.ntmps62
      go_wp2
      go_ret
      exact ⟨ret_bool (by rw [unhide HF, Bool.eq_iff_iff]; simp), unhide HA⟩
    · have h1' : (k == 1) = false := by simpa using h1
      go_enter Tryz.func62, Tryz.ntmps62
      go_wp2
      go_ret
      exact ⟨ret_bool (by rw [unhide HF]; simp [h1, h2]), unhide HA⟩
theorem guess_any (k nu bi : Int) (la : Option Addr) (ln lc : Nat) (L : List Int) (x : Bs) (w : World) (hx : x.length ≤ 4294967296) (hL : Ins w la ln L) (hLn : ln ≤ 4294967296) (hl : Lay w) (hi : isn k ln = true) :
    Calls Tryz.prog 63 #[.agg #[I k, I nu, I bi, .slice la ln lc, S x]] w fun e w' => ∃ vK vV vI, e = .returned (.tuple #[.agg #[.bool (pnd k L x).leaf, vK, vV, vI], .bool (decide (pee k x = 0))]) ∧ w'.ownsRow 0 9 1 vK (pnd k L x).keys.length ((pnd k L x).keys.map S) ∧ w'.ownsRow 0 9 1 vV (pnd k L x).vals.length ((pnd k L x).vals.map S) ∧ w'.ownsRow 0 3 1 vI (pnd k L x).kids.length ((pnd k L x).kids.map fun z => I z) ∧ ((∀ i, vK.ownBlock = some i → w.heap.size ≤ i) ∧ (∀ i, vV.ownBlock = some i → w.heap.size ≤ i) ∧ (∀ i, vI.ownBlock = some i → w.heap.size ≤ i) ∧ (∀ i, vK.ownBlock = some i → vV.ownBlock ≠ some i)) ∧ Below w.heap.size w w' := by
  by_cases h2 : k = 2
  · subst h2
    refine (guess_inner nu bi la ln lc L x w hx hL hLn (fun b g off cap W hb hr => ?_)).mono ?_
    · exact rdone_any b g off cap _ _ W hr (hl.below hb)
    · rintro e w' ⟨vK, vI, rfl, h1, h2, h3, h4, h5⟩
      exact ⟨vK, .slice none 0 0, vI, rfl, h1, owns_nil _ _ _, h2, ⟨h3, (fun i hi => nomatch hi), h4, (fun i _ hi => nomatch hi)⟩, h5⟩
  · unfold isn at hi
    simp only [h2, decide_false, Bool.false_or, Bool.and_eq_true, decide_eq_true_eq] at hi
    obtain ⟨rfl, rfl⟩ := hi
    refine (guess_leaf nu bi la 0 lc x w hx (fun b g off cap W hb hr => ?_)).mono ?_
    · exact rdone_any b g off cap _ _ W hr (hl.below hb)
    · rintro e w' ⟨vK, vV, rfl, h1, h2, h3, h4, h5, h6⟩
      exact ⟨vK, vV, .slice none 0 0, rfl, h1, h2, owns_nil _ _ _, ⟨h3, h4, (fun i hi => nomatch hi), h5⟩, h6⟩
/-- Is a page that of a right node? -/
def pok (k : Int) (L : List Int) (x : Bs) : Bool := isn k L.length && (decide (pee k x = 0) && decide (wrv (pnd k L x) = 0))
theorem parse_any (k nu bi : Int) (la : Option Addr) (ln lc : Nat) (L : List Int) (x : Bs) (w : World) (hx : x.length ≤ 4294967296) (hL : Ins w la ln L) (hLn : ln ≤ 4294967296) (hl : Lay w) :
    Calls Tryz.prog 34 #[.agg #[I k, I nu, I bi, .slice la ln lc, S x]] w fun e w' =>
      (pok k L x = true ∧ ∃ vK vV vI, e = .returned (.tuple #[.agg #[.bool (pnd k L x).leaf, vK, vV, vI], I 0]) ∧ w'.ownsRow 0 9 1 vK (pnd k L x).keys.length ((pnd k L x).keys.map S) ∧ w'.ownsRow 0 9 1 vV (pnd k L x).vals.length ((pnd k L x).vals.map S) ∧ w'.ownsRow 0 3 1 vI (pnd k L x).kids.length ((pnd k L x).kids.map fun z => I z) ∧ ((∀ i, vK.ownBlock = some i → w.heap.size ≤ i) ∧ (∀ i, vV.ownBlock = some i → w.heap.size ≤ i) ∧ (∀ i, vI.ownBlock = some i → w.heap.size ≤ i) ∧ (∀ i, vK.ownBlock = some i → vV.ownBlock ≠ some i)) ∧ Below w.heap.size w w') ∨
      (pok k L x = false ∧ e = .returned (.tuple #[.agg #[.bool false, .slice none 0 0, .slice none 0 0, .slice none 0 0], I 100]) ∧ Below w.heap.size w w') := by
  have hLl := hL.1
  have hNB := pnd_nb k L x (by omega)
  have hA := (Below.refl w.heap.size w).alloc (Nat.le_refl _) (.cells #[I k, I nu, I bi, .slice la ln lc, S x] 27)
  have hg := heap_alloc_new w (.cells #[I k, I nu, I bi, .slice la ln lc, S x] 27)
  have hz := lt_of_row hg
  have hs1 := size_alloc w (.cells #[I k, I nu, I bi, .slice la ln lc, S x] 27)
  generalize hW1 : w.alloc (.cells #[I k, I nu, I bi, .slice la ln lc, S x] 27) = W1 at hA hg hz hs1
  have hA2 := hA.alloc hA.size (.cells #[.bool false, .slice none 0 0, .slice none 0 0, .slice none 0 0] 25)
  have hp := heap_alloc_new W1 (.cells #[.bool false, .slice none 0 0, .slice none 0 0, .slice none 0 0] 25)
  have hg2 := (alloc_old W1 (.cells #[.bool false, .slice none 0 0, .slice none 0 0, .slice none 0 0] 25) hz).trans hg
  have hs2 := size_alloc W1 (.cells #[.bool false, .slice none 0 0, .slice none 0 0, .slice none 0 0] 25)
  generalize hW2 : W1.alloc (.cells #[.bool false, .slice none 0 0, .slice none 0 0, .slice none 0 0] 25) = W2 at hA2 hp hg2 hs2
  obtain ⟨c0, c1, c2, c3, c4⟩ := box5 hg2 (Below.refl _ _) (lt_of_row hg2)
  have hz2 := lt_of_row hg2
  have hz3 := lt_of_row hp
  have HA2 := hide hA2
  have HG2 := hide hg2
  have HP := hide hp
  have HXS := hide (show W1.heap.size = w.heap.size + 1 ∧ W2.heap.size = W1.heap.size + 1 from ⟨hs1, hs2⟩)
  have H0 := hide (isNodes_any k nu bi la ln lc x W2)
  have H1 := hide (fun W (q : Below W2.heap.size W2 W) (hi : isn k ln = true) => guess_any k nu bi la ln lc L x W hx ((hL.below hA2).below q) hLn ((hl.below hA2).below q) hi)
  have HNB := hide hNB
  have HF := hide (show pok k L x = (isn k ln && (decide (pee k x = 0) && decide (wrv (pnd k L x) = 0))) by unfold pok; rw [hLl])
  generalize pok k L x = F at *
  clear hNB hA hg hz hA2 hp hg2 hs1 hs2 hL hl hLl
  generalize hisn : isn k ln = si at *
  clear hisn
  generalize pnd k L x = nd at *
  generalize hpe : pee k x = pe at *
  clear hpe
  go_enter Tryz.func34, Tryz.ntmps34
  go_wp2_with fail
  refine (unhide H0).mono ?_
  rintro e w1 ⟨rfl, b1⟩
  clear c0 c1 c2 c3 c4 hW1 hW2
  obtain ⟨c0, c1, c2, c3, c4⟩ := box5 (unhide HG2) b1 hz2
  have hz4 := Nat.lt_of_lt_of_le hz2 b1.size
  have HB1 := hide b1
  cases si
  · have HQ := hide ((b1.block _ hz3).trans (unhide HP))
    clear b1 H1 H0
    go_wp2_with (refine wp_st25 rfl (.tmp 2) (.tmp 9) rfl W1.heap.size (by rfl) false none none none 0 0 0 0 0 0 (by rfl) _ rfl (unhide HQ) ?_)
    have h4 := setRow_heap _ _ _ #[.bool false, .slice none 0 0, .slice none 0 0, .slice none 0 0] 25 _ (unhide HQ)
    have oF := setRow_only w1 W1.heap.size #[.bool false, .slice none 0 0, .slice none 0 0, .slice none 0 0]
    have hXS := unhide HXS
    have hbb := (unhide HA2).trans ((unhide HB1).mono (unhide HA2).size)
    exact outN (p := 2) (q := 3) rfl (by rfl) (by rfl) (by rfl) h4 (.inr ⟨by rw [unhide HF]; rfl, rfl, oF.below hbb hbb.size (fun i e => by omega)⟩)
  have h1 := hide (unhide H1 w1 b1 rfl)
  clear b1 H1 H0
  go_wp2_with fail
  refine (unhide h1).mono ?_
  rintro e w2 ⟨vK, vV, vI, rfl, rK, rV, rI, oo, b2⟩
  have bb := (unhide HB1).trans (b2.mono (unhide HB1).size)
  have hp2 := (bb.block _ hz3).trans (unhide HP)
  obtain ⟨pK, cK, rfl⟩ := owns_form rK
  obtain ⟨pV, cV, rfl⟩ := owns_form rV
  obtain ⟨pI, cI, rfl⟩ := owns_form rI
  have hq := heap_alloc_new w2 (.cells #[.bool false, .slice none 0 0, .slice none 0 0, .slice none 0 0] 25)
  have hb3 := (Below.refl w2.heap.size w2).alloc (Nat.le_refl _) (.cells #[.bool false, .slice none 0 0, .slice none 0 0, .slice none 0 0] 25)
  have ht := setRow_heap _ _ _ #[.bool nd.leaf, .slice pK nd.keys.length cK, .slice pV nd.vals.length cV, .slice pI nd.kids.length cI] 25 _ hq
  have hb4 := (setRow_only (w2.alloc (.cells #[.bool false, .slice none 0 0, .slice none 0 0, .slice none 0 0] 25)) w2.heap.size #[.bool nd.leaf, .slice pK nd.keys.length cK, .slice pV nd.vals.length cV, .slice pI nd.kids.length cI]).below hb3 hb3.size (fun k e => by omega)
  have HQ := hide hq
  clear hq hb3
  generalize hW3 : (w2.alloc (.cells #[.bool false, .slice none 0 0, .slice none 0 0, .slice none 0 0] 25)).setRow w2.heap.size #[.bool nd.leaf, .slice pK nd.keys.length cK, .slice pV nd.vals.length cV, .slice pI nd.kids.length cI] = W3 at ht hb4
  have HW3 := hide hW3
  have rK3 := owns_below rK hb4
  have rV3 := owns_below rV hb4
  have rI3 := owns_below rI hb4
  have hna : NA nd pK pV pI W3 := by
    obtain ⟨p, c, e1, s1, _⟩ := Sts.of rK3
    obtain ⟨p', c', e2, s2, _⟩ := Sts.of rV3
    obtain ⟨p'', c'', e3, s3, _⟩ := Ins.of rI3
    cases e1
    cases e2
    cases e3
    exact ⟨s1, s2, s3⟩
  have H2 : Hid (Calls Tryz.prog 59 #[.agg #[.bool nd.leaf, .slice pK nd.keys.length cK, .slice pV nd.vals.length cV, .slice pI nd.kids.length cI]] W3 fun e w' => e = .returned (I (wrv nd)) ∧ Below W3.heap.size W3 w') :=
    wrong_any nd pK pV pI cK cV cI W3 hna (unhide HNB)
  obtain ⟨d0, d1, d2, d3⟩ := box4 ht (Below.refl _ _) (lt_of_row ht)
  have hl3 := lt_of_row ht
  have bbb := bb.trans (hb4.mono bb.size)
  have hp3 := (bbb.block _ hz3).trans (unhide HP)
  have HT := hide ht
  have HP3 := hide hp3
  have HB3 := hide ((unhide HA2).trans (bbb.mono (unhide HA2).size))
  have HRK := hide rK3
  have HRV := hide rV3
  have HRI := hide rI3
  have hl4 := lt_of_row hp3
  have HX := hide (show W2.heap.size ≤ w2.heap.size from bb.size)
  have HO := hide (And.intro oo (unhide HB1).size)
  have hwr : wrv nd ≤ 102 := by unfold wrv; split <;> (try split) <;> (try split) <;> omega
  clear hW3 rK rV rI rK3 rV3 rI3 oo b2 bb hp2 hna ht hb4 bbb hp3 c0 c1 c2 c3 c4
  generalize hw : wrv nd = wr at *
  generalize hlf : nd.leaf = lf at *
  generalize hkl : nd.keys.length = kl at *
  generalize hvl : nd.vals.length = vl at *
  generalize hil : nd.kids.length = il at *
  have HLF := hide hlf
  have HKL := hide hkl
  have HVL := hide hvl
  have HIL := hide hil
  have HWR := hide hw
  clear hlf hkl hvl hil hw
  by_cases hpe : pe = 0
  · have hpe' : decide (pe = 0) = true := by simpa using hpe
    rw [hpe'] at *
    go_wp2_with (first | (refine wp_st25 rfl (.tmp 4) (.tmp 13) rfl w2.heap.size (by rfl) lf pK pV pI kl cK vl cV il cI (by rfl) _ rfl (unhide HQ) ?_; rw [unhide HW3]) | fail)
    refine (unhide H2).mono ?_
    rintro e w4 ⟨rfl, b4⟩
    clear d0 d1 d2 d3 HW3 HQ H2
    obtain ⟨d0, d1, d2, d3⟩ := box4 (unhide HT) b4 hl3
    have hp4 := (b4.block _ hl4).trans (unhide HP3)
    have hl5 := Nat.lt_of_lt_of_le hl3 b4.size
    have HP4 := hide hp4
    have HB4 := hide b4
    clear b4 hp4
    by_cases hw0 : wr = 0
    · subst hw0
      go_wp2_with (first | (refine wp_st25 rfl (.tmp 2) (.tmp 23) rfl W1.heap.size (by rfl) lf pK pV pI kl cK vl cV il cI (by rfl) _ rfl (unhide HP4) ?_) | fail)
      have h4 := setRow_heap _ _ _ #[.bool lf, .slice pK kl cK, .slice pV vl cV, .slice pI il cI] 25 _ (unhide HP4)
      have oF := setRow_only w4 W1.heap.size #[.bool lf, .slice pK kl cK, .slice pV vl cV, .slice pI il cI]
      have hXS := unhide HXS
      obtain ⟨⟨oK, oV, oI, ne⟩, oS⟩ := unhide HO
      have hbb := (unhide HB3).trans ((unhide HB4).mono (unhide HB3).size)
      refine outN (p := 2) (q := 3) rfl (by rfl) (by rfl) (by rfl) h4 (.inl ⟨by rw [unhide HF]; simp [hpe], .slice pK kl cK, .slice pV vl cV, .slice pI il cI, by rw [unhide HLF]; rfl, ?_, ?_, ?_, ⟨fun i hi => ?_, fun i hi => ?_, fun i hi => ?_, ne⟩, oF.below hbb hbb.size (fun i e => by omega)⟩)
      · rw [unhide HKL]
        exact owns_only (owns_below (unhide HRK) (unhide HB4)) oF (fun i hi e => by have := oK i hi; omega)
      · rw [unhide HVL]
        exact owns_only (owns_below (unhide HRV) (unhide HB4)) oF (fun i hi e => by have := oV i hi; omega)
      · rw [unhide HIL]
        exact owns_only (owns_below (unhide HRI) (unhide HB4)) oF (fun i hi e => by have := oI i hi; omega)
      · have := oK i hi; omega
      · have := oV i hi; omega
      · have := oI i hi; omega
    · have hw0' : ((wr : Int) == 0) = false := by simp; omega
      have hwb : ¬ (wr : Int) = 0 := by omega
      go_wp2_with (first | (refine wp_st25 rfl (.tmp 2) (.tmp 22) rfl W1.heap.size (by rfl) false none none none 0 0 0 0 0 0 (by rfl) _ rfl (unhide HP4) ?_) | fail)
      have h4 := setRow_heap _ _ _ #[.bool false, .slice none 0 0, .slice none 0 0, .slice none 0 0] 25 _ (unhide HP4)
      have oF := setRow_only w4 W1.heap.size #[.bool false, .slice none 0 0, .slice none 0 0, .slice none 0 0]
      have hXS := unhide HXS
      have hbb := (unhide HB3).trans ((unhide HB4).mono (unhide HB3).size)
      exact outN (p := 2) (q := 3) rfl (by rfl) (by rfl) (by rfl) h4 (.inr ⟨by rw [unhide HF]; simp [hw0], rfl, oF.below hbb hbb.size (fun i e => by omega)⟩)
  · have hpe' : decide (pe = 0) = false := by simpa using hpe
    rw [hpe'] at *
    go_wp2_with (first | (refine wp_st25 rfl (.tmp 4) (.tmp 13) rfl w2.heap.size (by rfl) lf pK pV pI kl cK vl cV il cI (by rfl) _ rfl (unhide HQ) ?_; rw [unhide HW3]) | (refine wp_st25 rfl (.tmp 2) (.tmp 22) rfl W1.heap.size (by rfl) false none none none 0 0 0 0 0 0 (by rfl) _ rfl (unhide HP3) ?_) | fail)
    have h4 := setRow_heap _ _ _ #[.bool false, .slice none 0 0, .slice none 0 0, .slice none 0 0] 25 _ (unhide HP3)
    have oF := setRow_only W3 W1.heap.size #[.bool false, .slice none 0 0, .slice none 0 0, .slice none 0 0]
    have hXS := unhide HXS
    exact outN (p := 2) (q := 3) rfl (by rfl) (by rfl) (by rfl) h4 (.inr ⟨by rw [unhide HF]; simp [hpe], rfl, oF.below (unhide HB3) (unhide HB3).size (fun i e => by omega)⟩)
end Go.Proofs.YtllialbdofklgaaGreatDoor
namespace Go.Proofs.YtllialbdofklgaaGreatDoor
open Go.RowKit
/-! ### A body is read as what it was laid of, and laid as it was read -/
def lay1 (s : Bs) : Bs := be 1 s.length ++ s
def entL : List Bs → List Bs → Bs
  | k :: ks, v :: vs => lay1 k ++ (lay1 v ++ entL ks vs)
  | _, _ => []
def entI : List Bs → Bs
  | k :: ks => lay1 k ++ entI ks
  | [] => []
theorem entL_snoc (k v : Bs) : ∀ (a b : List Bs), a.length = b.length → entL (a ++ [k]) (b ++ [v]) = entL a b ++ (lay1 k ++ lay1 v)
  | [], [], _ => by simp [entL]
  | [], _ :: _, h => by simp at h
  | _ :: _, [], h => by simp at h
  | x :: a, y :: b, h => by
    have := entL_snoc k v a b (by simpa using h)
    simp only [List.cons_append, entL, this, List.append_assoc]
theorem entI_snoc (k : Bs) : ∀ (a : List Bs), entI (a ++ [k]) = entI a ++ lay1 k
  | [] => by simp [entI]
  | x :: a => by
    have := entI_snoc k a
    simp only [List.cons_append, entI, this, List.append_assoc]
theorem take_at (l : List Bs) (j : Nat) (hj : j < l.length) : l.take (j + 1) = l.take j ++ [l.getD j []] := by
  rw [List.take_succ_eq_append_getElem hj, List.getD_eq_getElem?_getD, List.getElem?_eq_getElem hj]
  rfl
theorem drop_at (l : List Bs) (j : Nat) (hj : j < l.length) : l.drop j = l.getD j [] :: l.drop (j + 1) := by
  rw [List.drop_eq_getElem_cons hj, List.getD_eq_getElem?_getD, List.getElem?_eq_getElem hj]
  rfl
theorem bdn_leaf (n : Nd) (hl : n.leaf = true) (hv : n.vals.length = n.keys.length) : ∀ j, j ≤ n.keys.length → bdn n j = be 1 n.keys.length ++ entL (n.keys.take j) (n.vals.take j)
  | 0, _ => by simp [bdn, entL]
  | j + 1, h => by
    rw [bdn, bdn_leaf n hl hv j (by omega), take_at _ _ (by omega), take_at _ _ (by omega), entL_snoc _ _ _ _ (by simp only [List.length_take]; omega), List.append_assoc]
    unfold ent lay1
    rw [hl, if_pos rfl]
theorem bdn_inner (n : Nd) (hl : n.leaf = false) : ∀ j, j ≤ n.keys.length → bdn n j = be 1 n.keys.length ++ entI (n.keys.take j)
  | 0, _ => by simp [bdn, entI]
  | j + 1, h => by
    rw [bdn, bdn_inner n hl j (by omega), take_at _ _ (by omega), entI_snoc, List.append_assoc]
    unfold ent lay1
    rw [hl, if_neg (by simp), List.append_nil]
theorem bdy_leaf (n : Nd) (hl : n.leaf = true) (hv : n.vals.length = n.keys.length) : bdy n = be 1 n.keys.length ++ entL n.keys n.vals := by
  unfold bdy
  rw [bdn_leaf n hl hv _ (Nat.le_refl _), List.take_length, ← hv, List.take_length]
theorem bdy_inner (n : Nd) (hl : n.leaf = false) : bdy n = be 1 n.keys.length ++ entI n.keys := by
  unfold bdy
  rw [bdn_inner n hl _ (Nat.le_refl _), List.take_length]
theorem ahd_1 (most : Nat) (hm : most ≤ 255) : ahd (most : Int) = 1 := by unfold ahd; rw [if_pos (by omega)]
theorem nat_be1 (n : Nat) (h : n ≤ 255) : nat (be 1 n) = n := by rw [nat_be, Nat.mod_eq_of_lt]; omega
theorem lay1_take (s z : Bs) : (lay1 s ++ z).take 1 = be 1 s.length := by
  unfold lay1
  rw [List.append_assoc, List.take_append_of_le_length (by rw [be_len]; omega), List.take_of_length_le (by rw [be_len]; omega)]
theorem lay1_drop (s z : Bs) : (lay1 s ++ z).drop 1 = s ++ z := by
  unfold lay1
  rw [List.append_assoc, List.drop_append_of_le_length (by rw [be_len]; omega), List.drop_of_length_le (by rw [be_len]; omega), List.nil_append]
theorem lay1_len (s : Bs) : (lay1 s).length = s.length + 1 := by unfold lay1; rw [List.length_append, be_len]; omega
theorem txt_ok (most : Nat) (s z : Bs) (hm : most ≤ 255) (hs : s.length ≤ most) : tv most (lay1 s ++ z, 0) = s ∧ ts most (lay1 s ++ z, 0) = (z, 0) := by
  have h1 : rTextE most (lay1 s ++ z) = 0 := by
    unfold rTextE
    rw [if_pos ⟨by omega, by omega⟩, ahd_1 most hm, lay1_take, nat_be1 _ (by omega), List.length_append, lay1_len, if_neg (by omega), if_neg (by omega), if_neg (by omega)]
  constructor
  · unfold tv
    simp only [h1, fine_ok, if_true]
    unfold rTextS
    rw [ahd_1 most hm, lay1_take, nat_be1 _ (by omega), lay1_drop]
    exact List.take_left' rfl
  · unfold ts
    simp only [h1, rGo_ok]
    unfold rTextK
    rw [ahd_1 most hm, lay1_take, nat_be1 _ (by omega), ← List.drop_drop, lay1_drop, List.drop_left' rfl]
theorem gF_laid (ks vs : List Bs) (hv : vs.length = ks.length) (hk : ∀ j, (ks.getD j []).length ≤ 36) (hw : ∀ j, (vs.getD j []).length ≤ 200) : ∀ j, j ≤ ks.length → gF j (entL ks vs, 0) = (ks.take j, vs.take j, (entL (ks.drop j) (vs.drop j), 0))
  | 0, _ => by simp [gF]
  | j + 1, h => by
    have ih := gF_laid ks vs hv hk hw j (by omega)
    have e : entL (ks.drop j) (vs.drop j) = lay1 (ks.getD j []) ++ (lay1 (vs.getD j []) ++ entL (ks.drop (j + 1)) (vs.drop (j + 1))) := by
      rw [drop_at ks j (by omega), drop_at vs j (by omega)]
      rfl
    rw [gF, ih, take_at ks j (by omega), take_at vs j (by omega)]
    simp only
    rw [e, (txt_ok 36 _ _ (by omega) (hk j)).1, (txt_ok 36 _ _ (by omega) (hk j)).2, (txt_ok 200 _ _ (by omega) (hw j)).1, (txt_ok 200 _ _ (by omega) (hw j)).2]
theorem iF_laid (ks : List Bs) (hk : ∀ j, (ks.getD j []).length ≤ 36) : ∀ j, j ≤ ks.length → iF j (entI ks, 0) = (ks.take j, (entI (ks.drop j), 0))
  | 0, _ => by simp [iF]
  | j + 1, h => by
    have ih := iF_laid ks hk j (by omega)
    have e : entI (ks.drop j) = lay1 (ks.getD j []) ++ entI (ks.drop (j + 1)) := by
      rw [drop_at ks j (by omega)]
      rfl
    rw [iF, ih, take_at ks j (by omega)]
    simp only
    rw [e, (txt_ok 36 _ _ (by omega) (hk j)).1, (txt_ok 36 _ _ (by omega) (hk j)).2]
theorem num_ok (n : Nat) (z : Bs) (hn : n ≤ 255) : gN (be 1 n ++ z) = n ∧ rs 1 (be 1 n ++ z, 0) = (z, 0) := by
  have h0 : rNumE ((1 : Nat) : Int) (be 1 n ++ z) = 0 := by
    unfold rNumE
    rw [if_pos ⟨by omega, by omega⟩, List.length_append, be_len, if_neg (by omega), if_neg (by omega)]
  have h1 : (be 1 n ++ z).take 1 = be 1 n := by rw [List.take_append_of_le_length (by rw [be_len]; omega), List.take_of_length_le (by rw [be_len]; omega)]
  constructor
  · unfold gN rv
    simp only [h0, fine_ok, if_true, h1]
    rw [nat_be1 n hn]
    omega
  · unfold rs
    simp only [h0, rGo_ok]
    rw [List.drop_left' (be_len 1 n)]
theorem read_leaf (n : Nd) (hl : n.leaf = true) (h : wrv n = 0) : gK (bdy n) = n.keys ∧ gV (bdy n) = n.vals ∧ gE (bdy n) = 0 := by
  obtain ⟨h1, h2, h3, h4, -⟩ := wrv_ok h
  have hv := h4 hl
  obtain ⟨a, b⟩ := num_ok n.keys.length (entL n.keys n.vals) h3
  have q := gF_laid n.keys n.vals hv h1 h2 n.keys.length (Nat.le_refl _)
  rw [List.take_length, ← hv, List.take_length, List.drop_length, hv, List.drop_length] at q
  unfold gK gV gE
  rw [bdy_leaf n hl hv, a, b, q]
  exact ⟨rfl, rfl, rfl⟩
theorem read_inner (n : Nd) (hl : n.leaf = false) (h : wrv n = 0) : iK (bdy n) = n.keys ∧ iE (bdy n) = 0 := by
  obtain ⟨h1, h2, h3, h4, -⟩ := wrv_ok h
  obtain ⟨a, b⟩ := num_ok n.keys.length (entI n.keys) h3
  have q := iF_laid n.keys h1 n.keys.length (Nat.le_refl _)
  rw [List.take_length, List.drop_length] at q
  unfold iK iE
  rw [bdy_inner n hl, a, b, q]
  exact ⟨rfl, rfl⟩
theorem wrv_form {n : Nd} (h : wrv n = 0) : hfv n = true ∧ kok n.keys = true ∧ n.siz ≤ 480 := by
  unfold wrv at h
  cases h1 : hfv n
  · rw [h1] at h; cases h
  cases h2 : kok n.keys
  · rw [h1, h2] at h; cases h
  rw [h1, h2, if_pos rfl, if_pos rfl] at h
  exact ⟨rfl, rfl, Nat.le_of_not_lt fun q => by rw [if_pos q] at h; cases h⟩
/-- A right node comes back from its page. -/
theorem there (n : Nd) (h : wrv n = 0) : pok (pvk n) (pvl n) (pvb n) = true ∧ pnd (pvk n) (pvl n) (pvb n) = n := by
  obtain ⟨hf, -, -⟩ := wrv_form h
  unfold hfv at hf
  rw [Bool.and_eq_true] at hf
  have hf := hf.2
  unfold agv at hf
  have key : pnd (pvk n) (pvl n) (pvb n) = n ∧ isn (pvk n) (pvl n).length = true ∧ pee (pvk n) (pvb n) = 0 := by
    cases hl : n.leaf
    · rw [hl, if_neg (by simp)] at hf
      unfold agi at hf
      simp only [Bool.and_eq_true, decide_eq_true_eq] at hf
      have hv : n.vals = [] := List.eq_nil_of_length_eq_zero hf.1.1.2
      have ek : pvk n = 2 := by unfold pvk; rw [if_pos h, hl]; rfl
      have el : pvl n = n.kids := by unfold pvl; rw [if_pos h, hl]; rfl
      have eb : pvb n = bdy n := by unfold pvb; rw [if_pos h]
      obtain ⟨q1, q2⟩ := read_inner n hl h
      rw [ek, el, eb]
      refine ⟨?_, by simp [isn], by simpa [pee] using q2⟩
      unfold pnd
      rw [if_pos rfl, q1]
      cases n
      simp only at hl hv
      rw [hl, hv]
    · rw [hl, if_pos rfl] at hf
      unfold agl at hf
      simp only [Bool.and_eq_true, decide_eq_true_eq] at hf
      have hk : n.kids = [] := List.eq_nil_of_length_eq_zero hf.1.2
      have ek : pvk n = 1 := by unfold pvk; rw [if_pos h, hl]; rfl
      have el : pvl n = [] := by unfold pvl; rw [if_pos h, hl]; rfl
      have eb : pvb n = bdy n := by unfold pvb; rw [if_pos h]
      obtain ⟨q1, q2, q3⟩ := read_leaf n hl h
      rw [ek, el, eb]
      refine ⟨?_, by simp [isn], by simpa [pee] using q3⟩
      unfold pnd
      rw [if_neg (by omega), q1, q2]
      cases n
      simp only at hl hk
      rw [hl, hk]
  obtain ⟨k1, k2, k3⟩ := key
  refine ⟨?_, k1⟩
  unfold pok
  rw [k1, k2, k3, h]
  rfl
theorem txt_back (most : Nat) (s : Bs × Nat) (hm : most ≤ 255) (h : (ts most s).2 = 0) : s.2 = 0 ∧ s.1 = lay1 (tv most s) ++ (ts most s).1 := by
  obtain ⟨R, E⟩ := s
  unfold ts at h ⊢
  simp only at h ⊢
  by_cases hE : E = 0
  · subst hE
    by_cases he : rTextE most R = 0
    · refine ⟨rfl, ?_⟩
      rw [he, rGo_ok]
      simp only
      unfold tv
      simp only [he, fine_ok, if_true]
      unfold rTextE at he
      rw [if_pos ⟨by omega, by omega⟩, ahd_1 most hm] at he
      split at he
      · cases he
      split at he
      · cases he
      split at he
      · cases he
      unfold rTextS rTextK lay1
      rw [ahd_1 most hm]
      have e1 : ((R.drop 1).take (nat (R.take 1))).length = nat (R.take 1) := by rw [List.length_take, List.length_drop]; omega
      have e2 : be 1 (nat (R.take 1)) = R.take 1 := by
        have := be_nat (R.take 1)
        rwa [List.length_take, Nat.min_eq_left (by omega)] at this
      rw [e1, e2, ← List.drop_drop, List.append_assoc, List.take_append_drop, List.take_append_drop]
    · rw [rGo_bad he] at h
      exact absurd h he
  · rw [rGo_old hE] at h
    exact absurd h hE
theorem gF_back (s : Bs × Nat) : ∀ j, (gF j s).2.2.2 = 0 → s.2 = 0 ∧ s.1 = entL (gF j s).1 (gF j s).2.1 ++ (gF j s).2.2.1
  | 0, h => by simpa [gF, entL] using h
  | j + 1, h => by
    simp only [gF] at h ⊢
    obtain ⟨a1, a2⟩ := txt_back 200 _ (by omega) h
    obtain ⟨b1, b2⟩ := txt_back 36 _ (by omega) a1
    obtain ⟨c1, c2⟩ := gF_back s j b1
    refine ⟨c1, ?_⟩
    have hl := gF_len j s
    rw [entL_snoc _ _ _ _ (by omega), List.append_assoc, List.append_assoc, ← a2, ← b2]
    exact c2
theorem iF_back (s : Bs × Nat) : ∀ j, (iF j s).2.2 = 0 → s.2 = 0 ∧ s.1 = entI (iF j s).1 ++ (iF j s).2.1
  | 0, h => by simpa [iF, entI] using h
  | j + 1, h => by
    simp only [iF] at h ⊢
    obtain ⟨b1, b2⟩ := txt_back 36 _ (by omega) h
    obtain ⟨c1, c2⟩ := iF_back s j b1
    refine ⟨c1, ?_⟩
    rw [entI_snoc, List.append_assoc, ← b2]
    exact c2
theorem num_back (x : Bs) (h : (rs 1 (x, 0)).2 = 0) : x = be 1 (gN x) ++ (rs 1 (x, 0)).1 := by
  unfold rs at h ⊢
  simp only at h ⊢
  by_cases he : rNumE ((1 : Nat) : Int) x = 0
  · rw [he, rGo_ok]
    simp only
    unfold gN rv
    simp only [he, fine_ok, if_true]
    unfold rNumE at he
    rw [if_pos ⟨by omega, by omega⟩] at he
    split at he
    · cases he
    have e2 : be 1 (nat (x.take 1)) = x.take 1 := by
      have := be_nat (x.take 1)
      rwa [List.length_take, Nat.min_eq_left (by omega)] at this
    rw [Int.toNat_natCast, e2, List.take_append_drop]
  · rw [rGo_bad he] at h
    exact absurd h he
theorem done_back {R : Bs} {E : Nat} (h : rDone R E = 0) : E = 0 ∧ R = [] := by
  unfold rDone at h
  split at h
  · rename_i q; exact absurd h q
  · rename_i q
    split at h
    · rename_i q2; exact ⟨by omega, q2⟩
    · cases h
/-- A page that is read is laid down as it was. -/
theorem back (k : Int) (L : List Int) (x : Bs) (h : pok k L x = true) : wrv (pnd k L x) = 0 ∧ pvk (pnd k L x) = k ∧ pvl (pnd k L x) = L ∧ pvb (pnd k L x) = x := by
  unfold pok at h
  simp only [Bool.and_eq_true, decide_eq_true_eq] at h
  obtain ⟨h1, h2, h3⟩ := h
  refine ⟨h3, ?_⟩
  by_cases hk : k = 2
  · subst hk
    have e : pnd 2 L x = ⟨false, iK x, [], L⟩ := by unfold pnd; rw [if_pos rfl]
    rw [e] at h3 ⊢
    refine ⟨by unfold pvk; rw [if_pos h3]; rfl, by unfold pvl; rw [if_pos h3]; rfl, ?_⟩
    unfold pvb
    rw [if_pos h3, bdy_inner _ rfl]
    simp only [pee, if_true] at h2
    unfold iE at h2
    obtain ⟨q1, q2⟩ := done_back h2
    obtain ⟨c1, c2⟩ := iF_back _ _ q1
    rw [q2, List.append_nil] at c2
    have hl : (iK x).length = gN x := iF_len _ _
    have := num_back x c1
    show be 1 (iK x).length ++ entI (iK x) = x
    rw [hl]
    unfold iK
    rw [← c2]
    exact this.symm
  · unfold isn at h1
    simp only [hk, decide_false, Bool.false_or, Bool.and_eq_true, decide_eq_true_eq] at h1
    obtain ⟨rfl, hL⟩ := h1
    have hL : L = [] := List.eq_nil_of_length_eq_zero hL
    subst hL
    have e : pnd 1 [] x = ⟨true, gK x, gV x, []⟩ := by unfold pnd; rw [if_neg (by omega)]
    rw [e] at h3 ⊢
    refine ⟨by unfold pvk; rw [if_pos h3]; rfl, by unfold pvl; rw [if_pos h3]; rfl, ?_⟩
    have hl := gF_len (gN x) (rs 1 (x, 0))
    unfold pvb
    rw [if_pos h3, bdy_leaf _ rfl (show (gV x).length = (gK x).length by unfold gV gK; rw [hl.1, hl.2])]
    have h2 : gE x = 0 := by unfold pee at h2; rwa [if_neg (by omega)] at h2
    unfold gE at h2
    obtain ⟨q1, q2⟩ := done_back h2
    obtain ⟨c1, c2⟩ := gF_back _ _ q1
    rw [q2, List.append_nil] at c2
    have := num_back x c1
    show be 1 (gK x).length ++ entL (gK x) (gV x) = x
    rw [show (gK x).length = gN x from hl.1]
    unfold gK gV
    rw [← c2]
    exact this.symm
end Go.Proofs.YtllialbdofklgaaGreatDoor
