import Derived.Test.YtllialbdofklgaaGreatDoorZnpb
import Derived.Test.YtllialbdofklgaaGreatDoorNpr
namespace Go.Proofs.YtllialbdofklgaaGreatDoor
open Go.RowKit
set_option linter.unusedVariables false
set_option linter.unusedSimpArgs false
set_option maxHeartbeats 16000000
set_option maxRecDepth 8000
theorem tot_le {l : List Bs} (h : ∀ a ∈ l, a.length ≤ 255) : tot l ≤ 255 * l.length := by
  induction l with
  | nil => simp [tot]
  | cons a l ih =>
    have h1 := ih (fun x hx => h x (by simp [hx]))
    have h2 := h a (by simp)
    simp only [tot, List.map_cons, List.sum_cons, List.length_cons] at *
    omega
theorem sl_one (c : UInt8) (tl : Bs) (W : World) : (Instr.slice 9 (S (c :: tl)) (some (.int .i64 1)) none none).run Tryz.prog W = .ok (S tl) W := by
  have h1 : (1 : Int) ≤ (tl.length : Int) + 1 := by omega
  simp [Instr.slice, go_sem, h1, ext_bs]
theorem refParse_L (c : UInt8) (tl : Bs) (hx : tl.length ≤ 4294967296) (nu bi : Int) (la : Option Addr) (ln lc : Nat) (L : List Int) (w : World) (hL : Ins w la ln L) (hLn : ln ≤ 4294967296) (z : la = none → lc = 0) :
    Calls Tryz.prog 47 #[.agg #[I 1, I nu, I bi, .slice la ln lc, S (c :: tl)]] w fun e w' => ∃ vK vV vI, e = .returned (.tuple #[.agg #[.bool (prs 1 L (c :: tl)).leaf, vK, vV, vI], I (per 1 L (c :: tl))]) ∧ Rws w.heap.size (prs 1 L (c :: tl)) vK vV vI w' ∧ Below w.heap.size w w' := by
  have HlL := hide hL.1
  have hA0 := (Below.refl w.heap.size w).alloc (Nat.le_refl _) (.cells #[I 1, I nu, I bi, .slice la ln lc, S (c :: tl)] 27)
  have hg := heap_alloc_new w (.cells #[I 1, I nu, I bi, .slice la ln lc, S (c :: tl)] 27)
  have hs0 := size_alloc w (.cells #[I 1, I nu, I bi, .slice la ln lc, S (c :: tl)] 27)
  generalize hW0 : w.alloc (.cells #[I 1, I nu, I bi, .slice la ln lc, S (c :: tl)] 27) = W0 at hA0 hg hs0
  have hA2 := hA0.alloc hA0.size (.cells #[.bool false, .slice none 0 0, .slice none 0 0, .slice none 0 0] 25)
  have hp := heap_alloc_new W0 (.cells #[.bool false, .slice none 0 0, .slice none 0 0, .slice none 0 0] 25)
  have hg2 := (alloc_old W0 (.cells #[.bool false, .slice none 0 0, .slice none 0 0, .slice none 0 0] 25) (lt_of_row hg)).trans hg
  have hs1 := size_alloc W0 (.cells #[.bool false, .slice none 0 0, .slice none 0 0, .slice none 0 0] 25)
  generalize hW1 : W0.alloc (.cells #[.bool false, .slice none 0 0, .slice none 0 0, .slice none 0 0] 25) = W1 at hA2 hp hg2 hs1
  have HA := hide hA2
  have HP := hide hp
  have HG := hide hg2
  have HX := hide (show W0.heap.size = w.heap.size + 1 ∧ W1.heap.size = W0.heap.size + 1 from ⟨hs0, hs1⟩)
  have HIL := hide (fun W (q : Below W1.heap.size W1 W) => (hL.below hA2).below q)
  have HZ := hide z
  have hz : w.heap.size < W1.heap.size := by omega
  have hz1 : W0.heap.size < W1.heap.size := by omega
  obtain ⟨c0, c1, c2, c3, c4⟩ := box5 hg2 (Below.refl _ _) hz
  clear hA0 hg hs0 hA2 hp hg2 hs1 hL z
  have h3 : ¬ ((c :: tl : Bs) = []) := by simp
  have h4 : ((c :: tl : Bs) == []) = false := by simp
  have hix : ∀ q, (ByteArray.mk (c :: tl).toArray)[0]'q = c := fun q => rfl
  have hcl : c.toNat ≤ 255 := by have := c.toNat_lt; omega
  have hwr : wrap64 ((c.toNat : Nat) : Int) = (c.toNat : Int) := by unfold wrap64; omega
  have hsl := fun W => sl_one c tl W
  have hq3 := heap_alloc_new W1 (.cells #[.bool false, .slice none 0 0, .slice none 0 0, .slice none 0 0] 25)
  have hb3 := (Below.refl W1.heap.size W1).alloc (Nat.le_refl _) (.cells #[.bool false, .slice none 0 0, .slice none 0 0, .slice none 0 0] 25)
  have ht3 := setRow_heap _ _ _ #[.bool true, .slice none 0 0, .slice none 0 0, .slice none 0 0] 25 _ hq3
  have hc3 := (setRow_only (W1.alloc (.cells #[.bool false, .slice none 0 0, .slice none 0 0, .slice none 0 0] 25)) W1.heap.size #[.bool true, .slice none 0 0, .slice none 0 0, .slice none 0 0]).below hb3 hb3.size (fun k e => by omega)
  generalize hW3 : (W1.alloc (.cells #[.bool false, .slice none 0 0, .slice none 0 0, .slice none 0 0] 25)).setRow W1.heap.size #[.bool true, .slice none 0 0, .slice none 0 0, .slice none 0 0] = W3 at ht3 hc3
  have HW3 := hide hW3
  have HQ3 := hide hq3
  have HOT : Hid (Ot W1 W1.heap.size true [] [] [] (.slice none 0 0) (.slice none 0 0) (.slice none 0 0) W3) := ⟨ht3, owns_nil _ _ _, owns_nil _ _ _, owns_nil _ _ _, hc3, Nat.le_refl _, (fun _ q => nomatch q), (fun _ q => nomatch q), (fun _ q => nomatch q), (fun _ q => nomatch q)⟩
  clear hq3 hb3 ht3 hc3 hW3
  go_enter Tryz.func47, Tryz.ntmps47
  go_upto_region 4 with (first | (refine wp_st25 rfl (.tmp 4) (.tmp 31) rfl W1.heap.size (by rfl) true none none none 0 0 0 0 0 0 (by rfl) _ rfl (unhide HQ3) ?_; rw [unhide HW3]) | fail)
  clear hW0 hW1 c0 c1 c2 c3 c4
  obtain ⟨c0, c1, c2, c3, c4⟩ := box5 (unhide HG) (unhide HOT).bel hz
  have zl := Nat.lt_of_lt_of_le hz (unhide HOT).bel.size
  obtain ⟨t0, t1, t2, t3⟩ := (unhide HOT).cells
  have tw := lt_of_row (unhide HOT).blk
  go_upto_region 5 with (at_builtin; refine wp_anyI rfl (.tmp 33) (.tmp 35) rfl (.slice none 0 0) 0 [] (by rfl) (owns_nil _ _ _) la ln lc L (unhide HIL _ (unhide HOT).bel) (unhide HZ) (by rfl) (by omega) ?_; intro p6 c6 w6 r6 o6 n6; have hb6 := (unhide HOT).blk1 (not_T (unhide HOT).blk (unhide HOT).rI (by decide)) o6; obtain ⟨y0, y1, y2, y3⟩ := box4 hb6 (Below.refl _ _) (lt_of_row hb6); have f6 := frz hb6 3; have yl := lt_of_row hb6; have HO6 := hide ((unhide HOT).setI L (by have := unhide HlL; omega) r6 o6 n6); clear r6 o6 n6 hb6)
  simp only [Nat.zero_add] at HO6 ⊢
  clear c0 c1 c2 c3 c4 t0 t1 t2 t3 tw y0 y1 y2 y3 f6 yl zl HOT HQ3 HW3
  generalize w6.setCell ⟨W1.heap.size, 3, none⟩ (.slice p6 ln c6) = V6 at HO6 ⊢
  obtain ⟨c0, c1, c2, c3, c4⟩ := box5 (unhide HG) (unhide HO6).bel hz
  have zl := Nat.lt_of_lt_of_le hz (unhide HO6).bel.size
  generalize hTT : W1.heap.size = TT at HO6 ⊢
  have HTT := hide hTT
  go_wp2
  clear c0 c1 c2 c3 c4 zl
  go_loopw [5, 6] (fun rv i wr => ∃ (j : Nat) (K V : List Bs) (rest : Bs) (vK vV : Value), i = .int .i64 j ∧ rv = S rest ∧ PI true c tl j K V rest ∧ Ot W1 TT true K V L vK vV (.slice p6 ln c6) wr) (fun _ i _ => c.toNat - (Go.RowKit.intOf i).toNat)
  case atStart => exact ⟨0, [], [], tl, .slice none 0 0, .slice none 0 0, rfl, rfl, PI.start true c tl, unhide HO6⟩
  case round =>
  clear HO6
  obtain ⟨j, K, V, rest, vK, vV, rfl, rfl, hpi, hot⟩ := hrel
  have hj := hpi.le
  have hrl : rest.length ≤ 4294967296 := by have := congrArg List.length hpi.eq; rw [List.length_append] at this; omega
  have HPI := hide hpi
  have HO := hide hot
  obtain ⟨c0, c1, c2, c3, c4⟩ := box5 (unhide HG) hot.bel hz
  have zl := Nat.lt_of_lt_of_le hz hot.bel.size
  clear hpi hot
  by_cases hlt : j < c.toNat
  · have hlt' : (j : Int) < (c.toNat : Int) := by omega
    have x1 := hide (cut_ref rest wr hrl)
    go_wp2_with fail
    refine (unhide x1).mono ?_
    rintro e w7 ⟨rfl, q7, rfl⟩
    clear x1 c0 c1 c2 c3 c4 zl
    have b7 := bel_q (Below.refl wr.heap.size wr) q7
    have HO7 := hide ((unhide HO).below b7)
    clear b7
    generalize wr.drewN q7 = w7 at HO7 ⊢
    unfold ctv
    cases hct : ct rest with
    | none =>
      have hpk : pok 1 L (c :: tl) = false := PI.failL (unhide HPI) hlt (.inl hct)
      have hprs : prs 1 L (c :: tl) = zro := by unfold prs; rw [hpk]; rfl
      have hper : per 1 L (c :: tl) = 100 := by unfold per; rw [hpk]; rfl
      have hpE := ((unhide HO7).bel.block _ hz1).trans (unhide HP)
      have hbbE := (unhide HA).trans ((unhide HO7).bel.mono (unhide HA).size)
      have HPE := hide hpE
      have HBE := hide hbbE
      have HJE := hide (And.intro hper hprs)
      clear hpE hbbE hper hprs hpk
      go_wp2_with (first | (refine wp_st25 rfl (.tmp 2) (.tmp 57) rfl W0.heap.size (by rfl) false none none none 0 0 0 0 0 0 (by rfl) _ rfl (unhide HPE) ?_) | fail)
      have h4 := setRow_heap _ _ _ #[.bool false, .slice none 0 0, .slice none 0 0, .slice none 0 0] 25 _ (unhide HPE)
      have oF := setRow_only w7 W0.heap.size #[.bool false, .slice none 0 0, .slice none 0 0, .slice none 0 0]
      have hX := unhide HX
      obtain ⟨hper, hprs⟩ := unhide HJE
      rw [hper, hprs]
      exact outN (p := 2) (q := 3) (v := I (100 : Nat)) rfl (by rfl) (by rfl) (by rfl) h4 ⟨.slice none 0 0, .slice none 0 0, .slice none 0 0, rfl, Rws.zro _ _, oF.below (unhide HBE) (unhide HBE).size (fun i e => by omega)⟩
    | some ar =>
    obtain ⟨a, r1⟩ := ar
    obtain ⟨ha1, ha2⟩ := ct_back hct
    have hr1 : r1.length ≤ 4294967296 := by have := congrArg List.length ha1; rw [List.length_append] at this; omega
    have HCT := hide hct
    have hkl : K.length ≤ 255 := by have := (unhide HPI).lk; omega
    clear hct ha1
    obtain ⟨t0, t1, t2, t3⟩ := (unhide HO7).cells
    have tw := lt_of_row (unhide HO7).blk
    obtain ⟨pk, ck, hvk⟩ := owns_form (unhide HO7).rK
    subst hvk
    go_upto_region 14 with (at_builtin; refine push_own 22 9 _ 1 16 Tryz.underlying22 info9 rfl (by decide) rfl (.tmp 60) (.tmp 62) rfl (.slice pk K.length ck) K.length (K.map S) (by rfl) w7 (unhide HO7).rK [S a] rfl (by intro u hu; obtain rfl := List.mem_singleton.1 hu; rfl) (by rfl) (by omega) (by omega) ?_; intro p13 c13 w13 r13 o13 n13; have hb13 := (unhide HO7).blk1 (not_T (unhide HO7).blk (unhide HO7).rK (by decide)) o13; obtain ⟨tt0, tt1, tt2, tt3⟩ := box4 hb13 (Below.refl _ _) (lt_of_row hb13); have f13 := frz hb13 1; have ttl := lt_of_row hb13; have HO13 := hide ((unhide HO7).setK (m := K.length + 1) (K ++ [a]) (by simp) (by rw [List.map_append]; exact r13) o13 n13); clear r13 o13 n13 hb13)
    clear t0 t1 t2 t3 tw tt0 tt1 tt2 tt3 f13 ttl HO7
    generalize w13.setCell ⟨TT, 1, none⟩ (.slice p13 (K.length + 1) c13) = V13 at HO13 ⊢
    obtain ⟨t0, t1, t2, t3⟩ := (unhide HO13).cells
    have tw := lt_of_row (unhide HO13).blk
    have x2 := hide (cut_ref r1 V13 hr1)
    go_wp2_with fail
    refine (unhide x2).mono ?_
    rintro e w7 ⟨rfl, q8, rfl⟩
    clear x2 t0 t1 t2 t3 tw
    have b8 := bel_q (Below.refl V13.heap.size V13) q8
    have HO8 := hide ((unhide HO13).below b8)
    clear b8
    generalize V13.drewN q8 = w8 at HO8 ⊢
    unfold ctv
    cases hct2 : ct r1 with
    | none =>
      have hpk : pok 1 L (c :: tl) = false := PI.failL (unhide HPI) hlt (.inr ⟨a, r1, unhide HCT, hct2⟩)
      have hprs : prs 1 L (c :: tl) = zro := by unfold prs; rw [hpk]; rfl
      have hper : per 1 L (c :: tl) = 100 := by unfold per; rw [hpk]; rfl
      have hpE := ((unhide HO8).bel.block _ hz1).trans (unhide HP)
      have hbbE := (unhide HA).trans ((unhide HO8).bel.mono (unhide HA).size)
      have HPE := hide hpE
      have HBE := hide hbbE
      have HJE := hide (And.intro hper hprs)
      clear hpE hbbE hper hprs hpk
      go_wp2_with (first | (refine wp_st25 rfl (.tmp 2) (.tmp 75) rfl W0.heap.size (by rfl) false none none none 0 0 0 0 0 0 (by rfl) _ rfl (unhide HPE) ?_) | fail)
      have h4 := setRow_heap _ _ _ #[.bool false, .slice none 0 0, .slice none 0 0, .slice none 0 0] 25 _ (unhide HPE)
      have oF := setRow_only w8 W0.heap.size #[.bool false, .slice none 0 0, .slice none 0 0, .slice none 0 0]
      have hX := unhide HX
      obtain ⟨hper, hprs⟩ := unhide HJE
      rw [hper, hprs]
      exact outN (p := 2) (q := 3) (v := I (100 : Nat)) rfl (by rfl) (by rfl) (by rfl) h4 ⟨.slice none 0 0, .slice none 0 0, .slice none 0 0, rfl, Rws.zro _ _, oF.below (unhide HBE) (unhide HBE).size (fun i e => by omega)⟩
    | some br =>
    obtain ⟨bb, r2⟩ := br
    obtain ⟨hb1, hb2⟩ := ct_back hct2
    have hr2 : r2.length ≤ 4294967296 := by have := congrArg List.length hb1; rw [List.length_append] at this; omega
    have HCT2 := hide hct2
    have hvl : V.length ≤ 255 := by have := (unhide HPI).lv; rw [if_pos rfl] at this; omega
    clear hct2 hb1
    obtain ⟨t0, t1, t2, t3⟩ := (unhide HO8).cells
    have tw := lt_of_row (unhide HO8).blk
    obtain ⟨pv, cv, hvv⟩ := owns_form (unhide HO8).rV
    subst hvv
    go_upto_region 8 with (at_builtin; refine push_own 22 9 _ 1 16 Tryz.underlying22 info9 rfl (by decide) rfl (.tmp 78) (.tmp 80) rfl (.slice pv V.length cv) V.length (V.map S) (by rfl) w8 (unhide HO8).rV [S bb] rfl (by intro u hu; obtain rfl := List.mem_singleton.1 hu; rfl) (by rfl) (by omega) (by omega) ?_; intro p14 c14 w14 r14 o14 n14; have hb14 := (unhide HO8).blk1 (not_T (unhide HO8).blk (unhide HO8).rV (by decide)) o14; obtain ⟨tt0, tt1, tt2, tt3⟩ := box4 hb14 (Below.refl _ _) (lt_of_row hb14); have f14 := frz hb14 2; have ttl := lt_of_row hb14; have HO14 := hide ((unhide HO8).setV (m := V.length + 1) (V ++ [bb]) (by simp) (by rw [List.map_append]; exact r14) o14 n14); clear r14 o14 n14 hb14)
    clear t0 t1 t2 t3 tw tt0 tt1 tt2 tt3 f14 ttl HO8
    generalize w14.setCell ⟨TT, 2, none⟩ (.slice p14 (V.length + 1) c14) = V14 at HO14 ⊢
    go_wp2
    refine ⟨⟨j + 1, K ++ [a], V ++ [bb], r2, _, _, by go_num, rfl, (unhide HPI).stepL hlt (unhide HCT) (unhide HCT2), unhide HO14⟩, ?_⟩
    simp [Go.RowKit.intOf]; omega
  · have hlt' : ¬ (j : Int) < (c.toNat : Int) := by omega
    have hje : j = c.toNat := by omega
    subst hje
    obtain ⟨pk, ck, hvk⟩ := owns_form (unhide HO).rK
    obtain ⟨pv, cv, hvv⟩ := owns_form (unhide HO).rV
    subst hvk hvv
    have hpi := unhide HPI
    have hLn2 : L.length ≤ 4294967296 := by have := unhide HlL; omega
    have hnb : NB (⟨true, K, V, L⟩ : Nd) := ⟨by show K.length ≤ _; rw [hpi.lk]; omega, by show V.length ≤ _; have := hpi.lv; split at this <;> omega, hLn2, by show tot K ≤ _; have := tot_le hpi.sk; have := hpi.lk; omega, by show tot V ≤ _; have := tot_le hpi.sv; have := hpi.lv; split at this <;> omega⟩
    have hcap := owns_capb (unhide HO).rI
    have hna : NA (⟨true, K, V, L⟩ : Nd) pk pv p6 wr := by
      obtain ⟨q1, q2, q3, hS, -⟩ := Sts.of (unhide HO).rK
      obtain ⟨r1, r2, r3, hT, -⟩ := Sts.of (unhide HO).rV
      obtain ⟨s1, s2, s3, hI, -⟩ := Ins.of (unhide HO).rI
      injection q3 with e1 e2 e3
      injection r3 with e4 e5 e6
      injection s3 with e7 e8 e9
      subst e1 e4 e7
      exact ⟨hS, hT, hI⟩
    have x9 := hide (refWrong_any (⟨true, K, V, L⟩ : Nd) pk pv p6 ck cv c6 wr hna hnb (by show L.length ≤ c6; have := unhide HlL; omega) hcap.2)
    unfold nda at x9
    simp only at x9
    rw [← unhide HlL] at x9
    have hwl : wrv (⟨true, K, V, L⟩ : Nd) ≤ 102 := by unfold wrv; split <;> (try split) <;> (try split) <;> omega
    obtain ⟨dn1, dn2⟩ := PI.doneL (L := L) hpi
    have HDN := hide (And.intro dn1 dn2)
    obtain ⟨t0, t1, t2, t3⟩ := (unhide HO).cells
    have tw := lt_of_row (unhide HO).blk
    clear hpi hnb hna hcap dn1 dn2 hrl
    generalize hwv : wrv (⟨true, K, V, L⟩ : Nd) = wv at *
    generalize hKl : K.length = kl at *
    generalize hVl : V.length = vl at *
    have HKV := hide (And.intro hKl hVl)
    clear hKl hVl hwv
    go_wp2_with fail
    refine (unhide x9).mono ?_
    rintro e w9 ⟨rfl, b9⟩
    clear x9 c0 c1 c2 c3 c4 zl t0 t1 t2 t3 tw
    have HO9 := hide ((unhide HO).below b9)
    clear b9 HO
    by_cases hr : rest = []
    · subst hr
      by_cases hw0 : wv = 0
      · subst hw0
        have hpk : pok 1 L (c :: tl) = true := by rw [(unhide HDN).1]; rfl
        have hprs : prs 1 L (c :: tl) = ⟨true, K, V, L⟩ := by unfold prs; rw [hpk]; exact (unhide HDN).2 hpk
        have hper : per 1 L (c :: tl) = 0 := by unfold per; rw [hpk]; rfl
        have HJE := hide (And.intro hper hprs)
        obtain ⟨t0, t1, t2, t3⟩ := (unhide HO9).cells
        have tw := lt_of_row (unhide HO9).blk
        have HP9 := hide (((unhide HO9).bel.block _ hz1).trans (unhide HP))
        have HBE := hide ((unhide HA).trans ((unhide HO9).bel.mono (unhide HA).size))
        clear hpk hprs hper
        go_wp2_with (first | (refine wp_st25 rfl (.tmp 2) (.tmp 92) rfl W0.heap.size (by rfl) true pk pv p6 kl ck vl cv ln c6 (by rfl) _ rfl (unhide HP9) ?_) | fail)
        have h4 := setRow_heap _ _ _ #[.bool true, .slice pk kl ck, .slice pv vl cv, .slice p6 ln c6] 25 _ (unhide HP9)
        have oF := setRow_only w9 W0.heap.size #[.bool true, .slice pk kl ck, .slice pv vl cv, .slice p6 ln c6]
        have hX := unhide HX
        have ho := unhide HO9
        have hq1 := ho.hK
        have hq2 := ho.hV
        have hq3 := ho.hI
        obtain ⟨hper, hprs⟩ := unhide HJE
        rw [hper, hprs]
        refine outN (p := 2) (q := 3) (v := I (0 : Nat)) rfl (by rfl) (by rfl) (by rfl) h4 ⟨_, _, _, rfl, ⟨?_, ?_, ?_, ?_, ?_, ?_⟩, oF.below (unhide HBE) (unhide HBE).size (fun i e => by omega)⟩
        · exact owns_only ho.rK oF (fun i hi e => by have := hq1 i hi; omega)
        · exact owns_only ho.rV oF (fun i hi e => by have := hq2 i hi; omega)
        · exact owns_only ho.rI oF (fun i hi e => by have := hq3 i hi; omega)
        · exact fun i hi => by have := hq1 i hi; omega
        · exact fun i hi => by have := hq2 i hi; omega
        · exact fun i hi => by have := hq3 i hi; omega
      · have hw1 : ¬ (wv : Int) = 0 := by omega
        have hw2 : ((wv : Int) == 0) = false := by simp; omega
        have hw3 : ((wv : Int) != 0) = true := by simp; omega
        have hpk : pok 1 L (c :: tl) = false := by rw [(unhide HDN).1, decide_eq_false hw0, Bool.and_false]
        have hprs : prs 1 L (c :: tl) = zro := by unfold prs; rw [hpk]; rfl
        have hper : per 1 L (c :: tl) = 100 := by unfold per; rw [hpk]; rfl
        have hpE := ((unhide HO9).bel.block _ hz1).trans (unhide HP)
        have hbbE := (unhide HA).trans ((unhide HO9).bel.mono (unhide HA).size)
        have HPE := hide hpE
        have HBE := hide hbbE
        have HJE := hide (And.intro hper hprs)
        clear hpE hbbE hper hprs hpk
        go_wp2_with (first | (refine wp_st25 rfl (.tmp 2) (.tmp 91) rfl W0.heap.size (by rfl) false none none none 0 0 0 0 0 0 (by rfl) _ rfl (unhide HPE) ?_) | fail)
        have h4 := setRow_heap _ _ _ #[.bool false, .slice none 0 0, .slice none 0 0, .slice none 0 0] 25 _ (unhide HPE)
        have oF := setRow_only w9 W0.heap.size #[.bool false, .slice none 0 0, .slice none 0 0, .slice none 0 0]
        have hX := unhide HX
        obtain ⟨hper, hprs⟩ := unhide HJE
        rw [hper, hprs]
        exact outN (p := 2) (q := 3) (v := I (100 : Nat)) rfl (by rfl) (by rfl) (by rfl) h4 ⟨.slice none 0 0, .slice none 0 0, .slice none 0 0, rfl, Rws.zro _ _, oF.below (unhide HBE) (unhide HBE).size (fun i e => by omega)⟩
    · have hr2 : (rest == []) = false := by simp [hr]
      have hr3 : (rest != []) = true := by simp [hr]
      have hpk : pok 1 L (c :: tl) = false := by rw [(unhide HDN).1, decide_eq_false hr, Bool.false_and]
      have hprs : prs 1 L (c :: tl) = zro := by unfold prs; rw [hpk]; rfl
      have hper : per 1 L (c :: tl) = 100 := by unfold per; rw [hpk]; rfl
      have hpE := ((unhide HO9).bel.block _ hz1).trans (unhide HP)
      have hbbE := (unhide HA).trans ((unhide HO9).bel.mono (unhide HA).size)
      have HPE := hide hpE
      have HBE := hide hbbE
      have HJE := hide (And.intro hper hprs)
      clear hpE hbbE hper hprs hpk
      go_wp2_with (first | (refine wp_st25 rfl (.tmp 2) (.tmp 91) rfl W0.heap.size (by rfl) false none none none 0 0 0 0 0 0 (by rfl) _ rfl (unhide HPE) ?_) | fail)
      have h4 := setRow_heap _ _ _ #[.bool false, .slice none 0 0, .slice none 0 0, .slice none 0 0] 25 _ (unhide HPE)
      have oF := setRow_only w9 W0.heap.size #[.bool false, .slice none 0 0, .slice none 0 0, .slice none 0 0]
      have hX := unhide HX
      obtain ⟨hper, hprs⟩ := unhide HJE
      rw [hper, hprs]
      exact outN (p := 2) (q := 3) (v := I (100 : Nat)) rfl (by rfl) (by rfl) (by rfl) h4 ⟨.slice none 0 0, .slice none 0 0, .slice none 0 0, rfl, Rws.zro _ _, oF.below (unhide HBE) (unhide HBE).size (fun i e => by omega)⟩
end Go.Proofs.YtllialbdofklgaaGreatDoor
namespace Go.Proofs.YtllialbdofklgaaGreatDoor
open Go.RowKit
set_option linter.unusedVariables false
set_option linter.unusedSimpArgs false
set_option maxHeartbeats 16000000
set_option maxRecDepth 8000
theorem refParse_I (c : UInt8) (tl : Bs) (hx : tl.length ≤ 4294967296) (nu bi : Int) (la : Option Addr) (ln lc : Nat) (L : List Int) (w : World) (hL : Ins w la ln L) (hLn : ln ≤ 4294967296) (z : la = none → lc = 0) :
    Calls Tryz.prog 47 #[.agg #[I 2, I nu, I bi, .slice la ln lc, S (c :: tl)]] w fun e w' => ∃ vK vV vI, e = .returned (.tuple #[.agg #[.bool (prs 2 L (c :: tl)).leaf, vK, vV, vI], I (per 2 L (c :: tl))]) ∧ Rws w.heap.size (prs 2 L (c :: tl)) vK vV vI w' ∧ Below w.heap.size w w' := by
  have HlL := hide hL.1
  have hA0 := (Below.refl w.heap.size w).alloc (Nat.le_refl _) (.cells #[I 2, I nu, I bi, .slice la ln lc, S (c :: tl)] 27)
  have hg := heap_alloc_new w (.cells #[I 2, I nu, I bi, .slice la ln lc, S (c :: tl)] 27)
  have hs0 := size_alloc w (.cells #[I 2, I nu, I bi, .slice la ln lc, S (c :: tl)] 27)
  generalize hW0 : w.alloc (.cells #[I 2, I nu, I bi, .slice la ln lc, S (c :: tl)] 27) = W0 at hA0 hg hs0
  have hA2 := hA0.alloc hA0.size (.cells #[.bool false, .slice none 0 0, .slice none 0 0, .slice none 0 0] 25)
  have hp := heap_alloc_new W0 (.cells #[.bool false, .slice none 0 0, .slice none 0 0, .slice none 0 0] 25)
  have hg2 := (alloc_old W0 (.cells #[.bool false, .slice none 0 0, .slice none 0 0, .slice none 0 0] 25) (lt_of_row hg)).trans hg
  have hs1 := size_alloc W0 (.cells #[.bool false, .slice none 0 0, .slice none 0 0, .slice none 0 0] 25)
  generalize hW1 : W0.alloc (.cells #[.bool false, .slice none 0 0, .slice none 0 0, .slice none 0 0] 25) = W1 at hA2 hp hg2 hs1
  have HA := hide hA2
  have HP := hide hp
  have HG := hide hg2
  have HX := hide (show W0.heap.size = w.heap.size + 1 ∧ W1.heap.size = W0.heap.size + 1 from ⟨hs0, hs1⟩)
  have HIL := hide (fun W (q : Below W1.heap.size W1 W) => (hL.below hA2).below q)
  have HZ := hide z
  have hz : w.heap.size < W1.heap.size := by omega
  have hz1 : W0.heap.size < W1.heap.size := by omega
  obtain ⟨c0, c1, c2, c3, c4⟩ := box5 hg2 (Below.refl _ _) hz
  clear hA0 hg hs0 hA2 hp hg2 hs1 hL z
  have h3 : ¬ ((c :: tl : Bs) = []) := by simp
  have h4 : ((c :: tl : Bs) == []) = false := by simp
  have hix : ∀ q, (ByteArray.mk (c :: tl).toArray)[0]'q = c := fun q => rfl
  have hcl : c.toNat ≤ 255 := by have := c.toNat_lt; omega
  have hwr : wrap64 ((c.toNat : Nat) : Int) = (c.toNat : Int) := by unfold wrap64; omega
  have hsl := fun W => sl_one c tl W
  have hq3 := heap_alloc_new W1 (.cells #[.bool false, .slice none 0 0, .slice none 0 0, .slice none 0 0] 25)
  have hb3 := (Below.refl W1.heap.size W1).alloc (Nat.le_refl _) (.cells #[.bool false, .slice none 0 0, .slice none 0 0, .slice none 0 0] 25)
  have ht3 := setRow_heap _ _ _ #[.bool false, .slice none 0 0, .slice none 0 0, .slice none 0 0] 25 _ hq3
  have hc3 := (setRow_only (W1.alloc (.cells #[.bool false, .slice none 0 0, .slice none 0 0, .slice none 0 0] 25)) W1.heap.size #[.bool false, .slice none 0 0, .slice none 0 0, .slice none 0 0]).below hb3 hb3.size (fun k e => by omega)
  generalize hW3 : (W1.alloc (.cells #[.bool false, .slice none 0 0, .slice none 0 0, .slice none 0 0] 25)).setRow W1.heap.size #[.bool false, .slice none 0 0, .slice none 0 0, .slice none 0 0] = W3 at ht3 hc3
  have HW3 := hide hW3
  have HQ3 := hide hq3
  have HOT : Hid (Ot W1 W1.heap.size false [] [] [] (.slice none 0 0) (.slice none 0 0) (.slice none 0 0) W3) := ⟨ht3, owns_nil _ _ _, owns_nil _ _ _, owns_nil _ _ _, hc3, Nat.le_refl _, (fun _ q => nomatch q), (fun _ q => nomatch q), (fun _ q => nomatch q), (fun _ q => nomatch q)⟩
  clear hq3 hb3 ht3 hc3 hW3
  go_enter Tryz.func47, Tryz.ntmps47
  go_upto_region 4 with (first | (refine wp_st25 rfl (.tmp 4) (.tmp 31) rfl W1.heap.size (by rfl) false none none none 0 0 0 0 0 0 (by rfl) _ rfl (unhide HQ3) ?_; rw [unhide HW3]) | fail)
  clear hW0 hW1 c0 c1 c2 c3 c4
  obtain ⟨c0, c1, c2, c3, c4⟩ := box5 (unhide HG) (unhide HOT).bel hz
  have zl := Nat.lt_of_lt_of_le hz (unhide HOT).bel.size
  obtain ⟨t0, t1, t2, t3⟩ := (unhide HOT).cells
  have tw := lt_of_row (unhide HOT).blk
  go_upto_region 5 with (at_builtin; refine wp_anyI rfl (.tmp 33) (.tmp 35) rfl (.slice none 0 0) 0 [] (by rfl) (owns_nil _ _ _) la ln lc L (unhide HIL _ (unhide HOT).bel) (unhide HZ) (by rfl) (by omega) ?_; intro p6 c6 w6 r6 o6 n6; have hb6 := (unhide HOT).blk1 (not_T (unhide HOT).blk (unhide HOT).rI (by decide)) o6; obtain ⟨y0, y1, y2, y3⟩ := box4 hb6 (Below.refl _ _) (lt_of_row hb6); have f6 := frz hb6 3; have yl := lt_of_row hb6; have HO6 := hide ((unhide HOT).setI L (by have := unhide HlL; omega) r6 o6 n6); clear r6 o6 n6 hb6)
  simp only [Nat.zero_add] at HO6 ⊢
  clear c0 c1 c2 c3 c4 t0 t1 t2 t3 tw y0 y1 y2 y3 f6 yl zl HOT HQ3 HW3
  generalize w6.setCell ⟨W1.heap.size, 3, none⟩ (.slice p6 ln c6) = V6 at HO6 ⊢
  obtain ⟨c0, c1, c2, c3, c4⟩ := box5 (unhide HG) (unhide HO6).bel hz
  have zl := Nat.lt_of_lt_of_le hz (unhide HO6).bel.size
  generalize hTT : W1.heap.size = TT at HO6 ⊢
  have HTT := hide hTT
  go_wp2
  clear c0 c1 c2 c3 c4 zl
  go_loopw [5, 6] (fun rv i wr => ∃ (j : Nat) (K V : List Bs) (rest : Bs) (vK vV : Value), i = .int .i64 j ∧ rv = S rest ∧ PI false c tl j K V rest ∧ Ot W1 TT false K V L vK vV (.slice p6 ln c6) wr) (fun _ i _ => c.toNat - (Go.RowKit.intOf i).toNat)
  case atStart => exact ⟨0, [], [], tl, .slice none 0 0, .slice none 0 0, rfl, rfl, PI.start false c tl, unhide HO6⟩
  case round =>
  clear HO6
  obtain ⟨j, K, V, rest, vK, vV, rfl, rfl, hpi, hot⟩ := hrel
  have hj := hpi.le
  have hrl : rest.length ≤ 4294967296 := by have := congrArg List.length hpi.eq; rw [List.length_append] at this; omega
  have HPI := hide hpi
  have HO := hide hot
  obtain ⟨c0, c1, c2, c3, c4⟩ := box5 (unhide HG) hot.bel hz
  have zl := Nat.lt_of_lt_of_le hz hot.bel.size
  clear hpi hot
  by_cases hlt : j < c.toNat
  · have hlt' : (j : Int) < (c.toNat : Int) := by omega
    have x1 := hide (cut_ref rest wr hrl)
    go_wp2_with fail
    refine (unhide x1).mono ?_
    rintro e w7 ⟨rfl, q7, rfl⟩
    clear x1 c0 c1 c2 c3 c4 zl
    have b7 := bel_q (Below.refl wr.heap.size wr) q7
    have HO7 := hide ((unhide HO).below b7)
    clear b7
    generalize wr.drewN q7 = w7 at HO7 ⊢
    unfold ctv
    cases hct : ct rest with
    | none =>
      have hpk : pok 2 L (c :: tl) = false := PI.failI (unhide HPI) hlt hct
      have hprs : prs 2 L (c :: tl) = zro := by unfold prs; rw [hpk]; rfl
      have hper : per 2 L (c :: tl) = 100 := by unfold per; rw [hpk]; rfl
      have hpE := ((unhide HO7).bel.block _ hz1).trans (unhide HP)
      have hbbE := (unhide HA).trans ((unhide HO7).bel.mono (unhide HA).size)
      have HPE := hide hpE
      have HBE := hide hbbE
      have HJE := hide (And.intro hper hprs)
      clear hpE hbbE hper hprs hpk
      go_wp2_with (first | (refine wp_st25 rfl (.tmp 2) (.tmp 57) rfl W0.heap.size (by rfl) false none none none 0 0 0 0 0 0 (by rfl) _ rfl (unhide HPE) ?_) | fail)
      have h4 := setRow_heap _ _ _ #[.bool false, .slice none 0 0, .slice none 0 0, .slice none 0 0] 25 _ (unhide HPE)
      have oF := setRow_only w7 W0.heap.size #[.bool false, .slice none 0 0, .slice none 0 0, .slice none 0 0]
      have hX := unhide HX
      obtain ⟨hper, hprs⟩ := unhide HJE
      rw [hper, hprs]
      exact outN (p := 2) (q := 3) (v := I (100 : Nat)) rfl (by rfl) (by rfl) (by rfl) h4 ⟨.slice none 0 0, .slice none 0 0, .slice none 0 0, rfl, Rws.zro _ _, oF.below (unhide HBE) (unhide HBE).size (fun i e => by omega)⟩
    | some ar =>
    obtain ⟨a, r1⟩ := ar
    obtain ⟨ha1, ha2⟩ := ct_back hct
    have hr1 : r1.length ≤ 4294967296 := by have := congrArg List.length ha1; rw [List.length_append] at this; omega
    have HCT := hide hct
    have hkl : K.length ≤ 255 := by have := (unhide HPI).lk; omega
    clear hct ha1
    obtain ⟨t0, t1, t2, t3⟩ := (unhide HO7).cells
    have tw := lt_of_row (unhide HO7).blk
    obtain ⟨pk, ck, hvk⟩ := owns_form (unhide HO7).rK
    subst hvk
    go_upto_region 14 with (at_builtin; refine push_own 22 9 _ 1 16 Tryz.underlying22 info9 rfl (by decide) rfl (.tmp 60) (.tmp 62) rfl (.slice pk K.length ck) K.length (K.map S) (by rfl) w7 (unhide HO7).rK [S a] rfl (by intro u hu; obtain rfl := List.mem_singleton.1 hu; rfl) (by rfl) (by omega) (by omega) ?_; intro p13 c13 w13 r13 o13 n13; have hb13 := (unhide HO7).blk1 (not_T (unhide HO7).blk (unhide HO7).rK (by decide)) o13; obtain ⟨tt0, tt1, tt2, tt3⟩ := box4 hb13 (Below.refl _ _) (lt_of_row hb13); have f13 := frz hb13 1; have ttl := lt_of_row hb13; have HO13 := hide ((unhide HO7).setK (m := K.length + 1) (K ++ [a]) (by simp) (by rw [List.map_append]; exact r13) o13 n13); clear r13 o13 n13 hb13)
    clear t0 t1 t2 t3 tw tt0 tt1 tt2 tt3 f13 ttl HO7
    generalize w13.setCell ⟨TT, 1, none⟩ (.slice p13 (K.length + 1) c13) = V13 at HO13 ⊢
    obtain ⟨t0, t1, t2, t3⟩ := (unhide HO13).cells
    have tw := lt_of_row (unhide HO13).blk
    go_wp2
    refine ⟨⟨j + 1, K ++ [a], V, r1, _, _, by go_num, rfl, (unhide HPI).stepI hlt (unhide HCT), unhide HO13⟩, ?_⟩
    simp [Go.RowKit.intOf]; omega
  · have hlt' : ¬ (j : Int) < (c.toNat : Int) := by omega
    have hje : j = c.toNat := by omega
    subst hje
    obtain ⟨pk, ck, hvk⟩ := owns_form (unhide HO).rK
    obtain ⟨pv, cv, hvv⟩ := owns_form (unhide HO).rV
    subst hvk hvv
    have hpi := unhide HPI
    have hLn2 : L.length ≤ 4294967296 := by have := unhide HlL; omega
    have hnb : NB (⟨false, K, V, L⟩ : Nd) := ⟨by show K.length ≤ _; rw [hpi.lk]; omega, by show V.length ≤ _; have := hpi.lv; split at this <;> omega, hLn2, by show tot K ≤ _; have := tot_le hpi.sk; have := hpi.lk; omega, by show tot V ≤ _; have := tot_le hpi.sv; have := hpi.lv; split at this <;> omega⟩
    have hcap := owns_capb (unhide HO).rI
    have hna : NA (⟨false, K, V, L⟩ : Nd) pk pv p6 wr := by
      obtain ⟨q1, q2, q3, hS, -⟩ := Sts.of (unhide HO).rK
      obtain ⟨r1, r2, r3, hT, -⟩ := Sts.of (unhide HO).rV
      obtain ⟨s1, s2, s3, hI, -⟩ := Ins.of (unhide HO).rI
      injection q3 with e1 e2 e3
      injection r3 with e4 e5 e6
      injection s3 with e7 e8 e9
      subst e1 e4 e7
      exact ⟨hS, hT, hI⟩
    have x9 := hide (refWrong_any (⟨false, K, V, L⟩ : Nd) pk pv p6 ck cv c6 wr hna hnb (by show L.length ≤ c6; have := unhide HlL; omega) hcap.2)
    unfold nda at x9
    simp only at x9
    rw [← unhide HlL] at x9
    have hwl : wrv (⟨false, K, V, L⟩ : Nd) ≤ 102 := by unfold wrv; split <;> (try split) <;> (try split) <;> omega
    obtain ⟨dn1, dn2⟩ := PI.doneI (L := L) hpi
    have HDN := hide (And.intro dn1 dn2)
    obtain ⟨t0, t1, t2, t3⟩ := (unhide HO).cells
    have tw := lt_of_row (unhide HO).blk
    clear hpi hnb hna hcap dn1 dn2 hrl
    generalize hwv : wrv (⟨false, K, V, L⟩ : Nd) = wv at *
    generalize hKl : K.length = kl at *
    generalize hVl : V.length = vl at *
    have HKV := hide (And.intro hKl hVl)
    clear hKl hVl hwv
    go_wp2_with fail
    refine (unhide x9).mono ?_
    rintro e w9 ⟨rfl, b9⟩
    clear x9 c0 c1 c2 c3 c4 zl t0 t1 t2 t3 tw
    have HO9 := hide ((unhide HO).below b9)
    clear b9 HO
    by_cases hr : rest = []
    · subst hr
      by_cases hw0 : wv = 0
      · subst hw0
        have hpk : pok 2 L (c :: tl) = true := by rw [(unhide HDN).1]; rfl
        have hprs : prs 2 L (c :: tl) = ⟨false, K, V, L⟩ := by unfold prs; rw [hpk]; exact (unhide HDN).2 hpk
        have hper : per 2 L (c :: tl) = 0 := by unfold per; rw [hpk]; rfl
        have HJE := hide (And.intro hper hprs)
        obtain ⟨t0, t1, t2, t3⟩ := (unhide HO9).cells
        have tw := lt_of_row (unhide HO9).blk
        have HP9 := hide (((unhide HO9).bel.block _ hz1).trans (unhide HP))
        have HBE := hide ((unhide HA).trans ((unhide HO9).bel.mono (unhide HA).size))
        clear hpk hprs hper
        go_wp2_with (first | (refine wp_st25 rfl (.tmp 2) (.tmp 92) rfl W0.heap.size (by rfl) false pk pv p6 kl ck vl cv ln c6 (by rfl) _ rfl (unhide HP9) ?_) | fail)
        have h4 := setRow_heap _ _ _ #[.bool false, .slice pk kl ck, .slice pv vl cv, .slice p6 ln c6] 25 _ (unhide HP9)
        have oF := setRow_only w9 W0.heap.size #[.bool false, .slice pk kl ck, .slice pv vl cv, .slice p6 ln c6]
        have hX := unhide HX
        have ho := unhide HO9
        have hq1 := ho.hK
        have hq2 := ho.hV
        have hq3 := ho.hI
        obtain ⟨hper, hprs⟩ := unhide HJE
        rw [hper, hprs]
        refine outN (p := 2) (q := 3) (v := I (0 : Nat)) rfl (by rfl) (by rfl) (by rfl) h4 ⟨_, _, _, rfl, ⟨?_, ?_, ?_, ?_, ?_, ?_⟩, oF.below (unhide HBE) (unhide HBE).size (fun i e => by omega)⟩
        · exact owns_only ho.rK oF (fun i hi e => by have := hq1 i hi; omega)
        · exact owns_only ho.rV oF (fun i hi e => by have := hq2 i hi; omega)
        · exact owns_only ho.rI oF (fun i hi e => by have := hq3 i hi; omega)
        · exact fun i hi => by have := hq1 i hi; omega
        · exact fun i hi => by have := hq2 i hi; omega
        · exact fun i hi => by have := hq3 i hi; omega
      · have hw1 : ¬ (wv : Int) = 0 := by omega
        have hw2 : ((wv : Int) == 0) = false := by simp; omega
        have hw3 : ((wv : Int) != 0) = true := by simp; omega
        have hpk : pok 2 L (c :: tl) = false := by rw [(unhide HDN).1, decide_eq_false hw0, Bool.and_false]
        have hprs : prs 2 L (c :: tl) = zro := by unfold prs; rw [hpk]; rfl
        have hper : per 2 L (c :: tl) = 100 := by unfold per; rw [hpk]; rfl
        have hpE := ((unhide HO9).bel.block _ hz1).trans (unhide HP)
        have hbbE := (unhide HA).trans ((unhide HO9).bel.mono (unhide HA).size)
        have HPE := hide hpE
        have HBE := hide hbbE
        have HJE := hide (And.intro hper hprs)
        clear hpE hbbE hper hprs hpk
        go_wp2_with (first | (refine wp_st25 rfl (.tmp 2) (.tmp 91) rfl W0.heap.size (by rfl) false none none none 0 0 0 0 0 0 (by rfl) _ rfl (unhide HPE) ?_) | fail)
        have h4 := setRow_heap _ _ _ #[.bool false, .slice none 0 0, .slice none 0 0, .slice none 0 0] 25 _ (unhide HPE)
        have oF := setRow_only w9 W0.heap.size #[.bool false, .slice none 0 0, .slice none 0 0, .slice none 0 0]
        have hX := unhide HX
        obtain ⟨hper, hprs⟩ := unhide HJE
        rw [hper, hprs]
        exact outN (p := 2) (q := 3) (v := I (100 : Nat)) rfl (by rfl) (by rfl) (by rfl) h4 ⟨.slice none 0 0, .slice none 0 0, .slice none 0 0, rfl, Rws.zro _ _, oF.below (unhide HBE) (unhide HBE).size (fun i e => by omega)⟩
    · have hr2 : (rest == []) = false := by simp [hr]
      have hr3 : (rest != []) = true := by simp [hr]
      have hpk : pok 2 L (c :: tl) = false := by rw [(unhide HDN).1, decide_eq_false hr, Bool.false_and]
      have hprs : prs 2 L (c :: tl) = zro := by unfold prs; rw [hpk]; rfl
      have hper : per 2 L (c :: tl) = 100 := by unfold per; rw [hpk]; rfl
      have hpE := ((unhide HO9).bel.block _ hz1).trans (unhide HP)
      have hbbE := (unhide HA).trans ((unhide HO9).bel.mono (unhide HA).size)
      have HPE := hide hpE
      have HBE := hide hbbE
      have HJE := hide (And.intro hper hprs)
      clear hpE hbbE hper hprs hpk
      go_wp2_with (first | (refine wp_st25 rfl (.tmp 2) (.tmp 91) rfl W0.heap.size (by rfl) false none none none 0 0 0 0 0 0 (by rfl) _ rfl (unhide HPE) ?_) | fail)
      have h4 := setRow_heap _ _ _ #[.bool false, .slice none 0 0, .slice none 0 0, .slice none 0 0] 25 _ (unhide HPE)
      have oF := setRow_only w9 W0.heap.size #[.bool false, .slice none 0 0, .slice none 0 0, .slice none 0 0]
      have hX := unhide HX
      obtain ⟨hper, hprs⟩ := unhide HJE
      rw [hper, hprs]
      exact outN (p := 2) (q := 3) (v := I (100 : Nat)) rfl (by rfl) (by rfl) (by rfl) h4 ⟨.slice none 0 0, .slice none 0 0, .slice none 0 0, rfl, Rws.zro _ _, oF.below (unhide HBE) (unhide HBE).size (fun i e => by omega)⟩
end Go.Proofs.YtllialbdofklgaaGreatDoor
