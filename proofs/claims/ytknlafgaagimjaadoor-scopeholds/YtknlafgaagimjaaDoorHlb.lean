import Derived.Test.YtknlafgaagimjaaDoorHls
namespace Go.Proofs.YtknlafgaagimjaaDoor
open Go.RowKit Go.Lib
theorem bel2' {w w1 w2 : World} (h1 : Below w.heap.size w w1) (h2 : Below w1.heap.size w1 w2) : Below w.heap.size w w2 := h1.trans (h2.mono h1.size)
set_option maxHeartbeats 32000000 in
set_option maxRecDepth 16000 in
theorem holds_any (a : Option Addr) (cap : Nat) (x : List Bs) (a2 : Option Addr) (cap2 : Nat) (y : List Bs) (a3 : Option Addr) (cap3 : Nat) (o : List Bs) (w : World)
    (hp : Sts w a x.length x) (hn : x.length ≤ 9223372036854775806) (hL : Lns x) (hc : a = none → cap = 0)
    (hp2 : Sts w a2 y.length y) (hn2 : y.length ≤ 9223372036854775806) (hL2 : Lns y) (hc2 : a2 = none → cap2 = 0)
    (hp3 : Sts w a3 o.length o) (hn3 : o.length ≤ 9223372036854775806) (hL3 : Lns o) (hc3 : a3 = none → cap3 = 0) :
    Calls Tryd.prog 5 #[.slice a x.length cap, .slice a2 y.length cap2, .slice a3 o.length cap3] w fun e w' => e = .returned (.bool true) ∧ Below w.heap.size w w' := by
  have HW1 := hide (weighs_any a x.length cap x w hp hn hL)
  have HW2 := hide (weighs_any a2 y.length cap2 y w hp2 hn2 hL2)
  have HW3 := hide (weighs_any a3 o.length cap3 o w hp3 hn3 hL3)
  have HP := hide hp
  have HP2 := hide hp2
  have HP3 := hide hp3
  have HC := hide hc
  have HC2 := hide hc2
  have HC3 := hide hc3
  clear hp hL hp2 hL2 hp3 hL3 hc hc2 hc3
  go_enter Tryd.func5, Tryd.ntmps5
  go_wp2_with fail
  refine (unhide HW1).mono ?_
  rintro e w0 ⟨r, rfl, hr0, hr1, rfl⟩
  go_wp2_with fail
  refine (unhide HW2).mono ?_
  rintro e w00 ⟨r2, rfl, hq0, hq1, rfl⟩
  have HS := hide (ads_any r r2 (by omega) (by omega) w00)
  have hle := @ads_le r r2
  have hbd := ads_bd r r2
  generalize ads r r2 = N0 at *
  go_wp2_with fail
  refine (unhide HS).mono ?_
  rintro e w01 ⟨rfl, rfl⟩
  go_wp2_with fail
  refine (unhide HW3).mono ?_
  rintro e w02 ⟨r3, rfl, ht0, ht1, rfl⟩
  have HS2 := hide (ads_any N0 r3 (by omega) (by omega) w02)
  have hle2 := @ads_le N0 r3
  generalize ads N0 r3 = N1 at *
  go_wp2_with fail
  refine (unhide HS2).mono ?_
  rintro e w1 ⟨rfl, rfl⟩
  clear HW1 HW2 HW3 HS HS2
  by_cases hbig : ¬ N1 ≤ 2147483647
  · have hgt : decide (2147483647 < (N1 : Int)) = true := by rw [decide_eq_true_eq]; omega
    go_wp2
    go_ret
    exact ⟨rfl, Below.refl _ _⟩
  have hbig := Decidable.not_not.1 hbig
  have hgt : decide (2147483647 < (N1 : Int)) = false := by rw [decide_eq_false_iff_not]; omega
  have h4 := hle2 hbig
  have h3 := hle h4.1
  have hl1 := hr1 h3.1
  have hl2 := hq1 h3.2.1
  have hl3 := ht1 h4.2.1
  have hxx : x.length ≤ 2147483647 := by omega
  have hyy : y.length ≤ 2147483647 := by omega
  have hoo : o.length ≤ 2147483647 := by omega
  have HLx := hide (sum_lnt (l := x) (by omega))
  have HLy := hide (lnt_of (sum_lnt (l := y) (by omega)))
  have HLo := hide (sum_lnt (l := o) (by omega))
  have HLxt := hide (lnt_of (unhide HLx))
  clear hle hle2 h3 h4 hl1 hl2 hl3 hr1 hq1 ht1 hr0 hq0 ht0 hbd
  have LA := hide (awake_any w1)
  go_wp2_with fail
  refine (unhide LA).mono ?_
  rintro e w2 ⟨rfl, b2⟩
  have CL := hide (lent_any a x.length cap x w2 ((unhide HP).below b2) (unhide HC) (by omega))
  have HB2 := hide b2
  clear b2 LA hgt
  go_wp2_with fail
  refine (unhide CL).mono ?_
  rintro e w3 ⟨rfl, hb3, b3⟩
  have HB3 := hide (bel2 (unhide HB2) b3)
  have HK3 := hide hb3
  have hga := hb3.lt
  have CL2 := hide (lent_any a2 y.length cap2 y w3 ((unhide HP2).below (unhide HB3)) (unhide HC2) (by omega))
  have hz23 : w1.heap.size ≤ w2.heap.size := (unhide HB2).size
  clear b3 hb3 CL HB2
  go_wp2_with fail
  refine (unhide CL2).mono ?_
  rintro e w4 ⟨rfl, hb4, b4⟩
  have HB4 := hide (bel2 (unhide HB3) b4)
  have hz4 := (unhide HB4).size
  have KA := hide ((unhide HK3).keep b4)
  have KB := hide hb4
  have PA := hide ((unhide HP).below (unhide HB4))
  have PB := hide ((unhide HP2).below (unhide HB4))
  have PO := hide ((unhide HP3).below (unhide HB4))
  have LX := hide (show Lsr w4 (some ⟨w2.heap.size, 0, none⟩) x.length x from ⟨(unhide KA).part, by omega, unhide HLxt⟩)
  have LY := hide (show Lsr w4 (some ⟨w3.heap.size, 0, none⟩) y.length y from ⟨(unhide KB).part, by omega, unhide HLy⟩)
  have LA4 := hide (show Lsr w4 a x.length x from ⟨unhide PA, by omega, unhide HLxt⟩)
  have LB4 := hide (show Lsr w4 a2 y.length y from ⟨unhide PB, by omega, unhide HLy⟩)
  have hg2 : w2.heap.size < w4.heap.size := by have := b4.size; omega
  have hg3 : w3.heap.size < w4.heap.size := hb4.lt
  have hg23 : w2.heap.size < w3.heap.size := hga
  clear b4 hb4 CL2 HB3 HK3 hga
  have CH := hide (held_go w4.heap.size none 0 [] (some ⟨w2.heap.size, 0, none⟩) x.length (x.length + 4) (some ⟨w3.heap.size, 0, none⟩) y.length (y.length + 4) a x.length cap a2 y.length cap2 x y w4 (Seq.nil _ _ _) (Prs.nil _ _) (Nat.le_refl _) (by simp) (fun _ h => by cases h) (unhide LX) (unhide LY) (unhide LA4) (unhide LB4) (off_none _ _) (off_none _ _) (off_none _ _) (off_none _ _))
  go_wp2_with fail
  refine (unhide CH).mono ?_
  rintro e w5 ⟨p5, c5, ps5, rfl, hn5, _, hf5, hs5, hp5, ho5⟩
  have B5 := only_none ho5
  have hn5' : ps5.length = 3 := hn5
  have CH2 := hide (held_go w4.heap.size p5 c5 ps5 (some ⟨w3.heap.size, 0, none⟩) y.length (y.length + 4) (some ⟨w2.heap.size, 0, none⟩) x.length (x.length + 4) a2 y.length cap2 a x.length cap y x w5 hs5 hp5 B5.size (by omega) hf5 ((unhide LY).below B5) ((unhide LX).below B5) ((unhide LB4).below B5) ((unhide LA4).below B5) (off_blk hs5 hg3) (off_blk hs5 hg2) (off_low hs5 (unhide HP2) hz4) (off_low hs5 (unhide HP) hz4))
  have HO5 := hide (fun W (h : Only (fun k => (Value.slice p5 ps5.length c5).ownBlock = some k) w5 W) => B5.trans (only_seq hs5 B5.size h))
  rw [hn5'] at CH2 HO5
  clear hs5 hp5 ho5 B5 CH hn5 hf5 hn5'
  go_wp2_with fail
  refine (unhide CH2).mono ?_
  rintro e w6 ⟨p6, c6, ps6, rfl, hn6, _, hf6, hs6, hp6, ho6⟩
  have B6 := unhide HO5 w6 ho6
  have hn6' : ps6.length = 6 := hn6
  have CH3 := hide (held_go w4.heap.size p6 c6 ps6 (some ⟨w2.heap.size, 0, none⟩) x.length (x.length + 4) (some ⟨w3.heap.size, 0, none⟩) y.length (y.length + 4) a x.length cap a2 y.length cap2 x y w6 hs6 hp6 B6.size (by omega) hf6 ((unhide LX).below B6) ((unhide LY).below B6) ((unhide LA4).below B6) ((unhide LB4).below B6) (off_blk hs6 hg2) (off_blk hs6 hg3) (off_low hs6 (unhide HP) hz4) (off_low hs6 (unhide HP2) hz4))
  have HO6 := hide (fun W (h : Only (fun k => (Value.slice p6 ps6.length c6).ownBlock = some k) w6 W) => B6.trans (only_seq hs6 B6.size h))
  rw [hn6'] at CH3 HO6
  clear hs6 hp6 ho6 B6 CH2 HO5 hn6 hf6 hn6'
  go_wp2_with fail
  refine (unhide CH3).mono ?_
  rintro e w7 ⟨p7, c7, ps, rfl, hn7, _, hf7, hs7, hp7, ho7⟩
  have B7 := unhide HO6 w7 ho7
  have hn7' : ps.length = 9 := hn7
  rw [hn7'] at hs7
  have HS7 := hide hs7
  have HP7 := hide hp7
  have HF := hide hf7
  have HN9 := hide hn7'
  have HB7 := hide B7
  have CW := hide (whole_any w2.heap.size a x.length cap x w7 ((unhide KA).keep B7) ((unhide PA).below B7) (by omega))
  clear hs7 hp7 ho7 CH3 HO6 hn7 hf7 hn7'
  go_wp2_with fail
  refine (unhide CW).mono ?_
  rintro e w8 ⟨rfl, b8⟩
  have B8 := bel2' (unhide HB7) b8
  have HS8 := hide ((unhide HS7).below b8)
  have HP8 := hide ((unhide HP7).below b8)
  have HB8 := hide B8
  have CW2 := hide (whole_any w3.heap.size a2 y.length cap2 y w8 ((unhide KB).keep B8) ((unhide PB).below B8) (by omega))
  clear b8 B8 B7 CW HS7 HP7 HB7
  go_wp2_with fail
  refine (unhide CW2).mono ?_
  rintro e w9 ⟨rfl, b9⟩
  have HS9 := hide ((unhide HS8).below b9)
  have HP9 := hide ((unhide HP8).below b9)
  have HB9 := hide (bel2' (unhide HB8) b9)
  have hz9 : w4.heap.size ≤ w9.heap.size := (unhide HB9).size
  clear b9 CW2 HS8 HP8 HB8 LA4
  go_wp2
  go_loopw [13, 19] (fun wv i wq => ∃ (k : Nat) (qs : List (Value × List Bs)), k ≤ 9 ∧ i = .int .i64 k ∧ qs.length = k ∧ Cpy ps qs ∧ Prs w9.heap.size qs wq ∧ Seq w9.heap.size 24 wq wv (qs.map Prod.fst) ∧ Below w9.heap.size w9 wq) (fun _ i _ => 9 - (Go.RowKit.intOf i).toNat)
  case atStart => exact ⟨0, [], by omega, rfl, rfl, fun j hj => by simp at hj, Prs.nil _ _, Seq.nil _ _ _, Below.refl _ _⟩
  case round =>
    obtain ⟨k, qs, hk, rfl, hql, hcpy, hqp, hqs, hbq⟩ := hrel
    obtain ⟨pw, cw, hwv⟩ := hqs.len
    rw [List.length_map, hql] at hwv
    subst hwv
    by_cases hlt : k < 9
    · have hlt' : (k : Int) < 9 := by omega
      have hsq := (unhide HS9).below hbq
      have hpq := (unhide HP9).below hbq
      obtain ⟨G, cG, eG, hcell⟩ := hsq.at k (by rw [List.length_map, unhide HN9]; exact hlt)
      rw [List.length_map, unhide HN9] at eG
      cases eG
      have hkp : k < ps.length := by rw [unhide HN9]; exact hlt
      have e1 : (ps.map Prod.fst).getD k undef = (ps.getD k (undef, [])).1 := by simp [hkp]
      rw [e1] at hcell
      have hrow : Row wr (ps.getD k (undef, [])).1 (ps.getD k (undef, [])).2 := hpq.row _ (by simp [hkp])
      have hfw := (unhide HF).at k
      have HCP := hide (hcpy.snoc)
      rw [hql] at HCP
      generalize ps.getD k (undef, []) = pk at *
      obtain ⟨vk, lk⟩ := pk
      simp only at hcell hrow hfw
      obtain ⟨pv, cv, ev, _⟩ := hrow.fls
      rw [ev] at hcell
      have HROW := hide hrow
      have HEV := hide ev
      have HBQ := hide hbq
      have hzq := hbq.size
      have HQP := hide hqp
      have HQS := hide hqs
      have HQL := hide hql
      clear hsq hpq hcpy hqp hqs hbq hrow hql ev
      go_wp2_with (first
        | (at_builtin; refine appendR rfl (.tmp 88) (.tmp 92) rfl (by rfl) (.slice pv lk.length cv) lk (by rfl) (by rw [← unhide HEV]; exact unhide HROW) (by omega) ?_; intro pc cc w10 ho10 b10; have HO10 := hide ho10; have HB10 := hide b10; clear ho10 b10)
        | (at_builtin; refine pushV rfl (.tmp 87) (.tmp 94) rfl (.slice pw k cw) (qs.map Prod.fst) [.slice pc lk.length cc] (by rfl) w10 _ (by rfl) ((unhide HQS).below (unhide HB10)) (by intro u hu; rw [List.mem_singleton.1 hu]; rfl) (by rfl) (by rw [List.length_map, unhide HQL]; simp; omega) (Nat.le_trans hzq (unhide HB10).size) ?_; intro v11 w11 hs11 hg11; have HS11 := hide hs11; have HG11 := hide hg11; clear hs11 hg11)
        | fail)
      have ba := bal w10 (.cells #[.slice pc lk.length cc] 24)
      have hp10 := (unhide HQP).snoc hzq (unhide HO10) (unhide HB10)
      have hs10 := (unhide HQS).below (unhide HB10)
      have hp11 := (hp10.below ba).grown (hs10.below ba) (unhide HG11)
      have hz10 := (unhide HB10).size
      have hb11 := (((unhide HBQ).trans ((unhide HB10).mono hzq)).trans (ba.mono (Nat.le_trans hzq hz10))).grown (unhide HG11) (by simp; omega) (fun j hj => hs10.high j hj)
      refine ⟨⟨k + 1, qs ++ [(.slice pc lk.length cc, lk)], by omega, by go_num, by simp [unhide HQL], unhide HCP _, hp11, by simpa using unhide HS11, hb11⟩, by simp [Go.RowKit.intOf]; omega⟩
    · have hk9 : k = 9 := by omega
      have hd : ¬ (k : Int) < 9 := by omega
      subst hk9
      obtain ⟨W10, hW10⟩ : ∃ W10, W10 = wr := ⟨_, rfl⟩
      subst hW10
      have b410 := bel2' (unhide HB9) hbq
      have HK10 := hide ((unhide KA).keep b410)
      have PO10 := hide ((unhide PO).below b410)
      have LY10 := hide ((unhide LY).below b410)
      have PB10 := hide ((unhide PB).below b410)
      have HSB := hide ((unhide HS9).below hbq)
      have HPB := hide ((unhide HP9).below hbq)
      have HQP := hide hqp
      have HQS := hide hqs
      have HQL := hide hql
      have HCPY := hide hcpy
      have HB10 := hide b410
      have hz10 : w9.heap.size ≤ W10.heap.size := hbq.size
      clear hqp hqs hql hcpy b410 hbq LX KA PA PO
      go_wp2_with (first
        | (refine copyS rfl (.tmp 96) (.tmp 97) rfl w2.heap.size x.length (x.length + 4) a3 o.length cap3 (by rfl) (by rfl) (mid x 4) o (unhide HK10) (unhide PO10) (unhide HC3) (by rw [mid_len x 4 (by omega)]; omega) ?_; intro w11 hb11 k11; rw [over_mid] at hb11; have HK11 := hide hb11; have HO11 := hide k11; have P11 := hide (show Sts w11 (some ⟨w2.heap.size, 0, none⟩) x.length (over x o) by rw [← over_len x o]; exact hb11.part); clear hb11 k11)
        | (at_builtin; refine appendS rfl (.tmp 99) (.tmp 100) rfl (by rfl) w2.heap.size x.length (x.length + 4) (over x o) (by rfl) (unhide P11) (by omega) ?_; intro pn cn w12 ho12 b12; have HO12 := hide ho12; have HB12 := hide b12; clear ho12 b12)
        | fail)
      have hz11 := (unhide HO11).size
      have hz12 := (unhide HB12).size
      have HLv := hide (lnt_of (l := over x o) (fun z hz => (over_mem hz).elim (unhide HLx z) (unhide HLo z)))
      have lx12 : Lsr w12 (some ⟨w2.heap.size, 0, none⟩) x.length (over x o) := ⟨(unhide P11).below (unhide HB12), by omega, unhide HLv⟩
      have ly12 : Lsr w12 (some ⟨w3.heap.size, 0, none⟩) y.length y := ⟨((unhide LY10).sts.only (unhide HO11) (fun p o j v e _ q => by cases e; have := hg23; omega)).below (unhide HB12), by omega, unhide HLy⟩
      have ln12 : Lsr w12 pn x.length (over x o) := ⟨by have := (unhide HO12).sts; rw [over_len] at this; exact this, by omega, unhide HLv⟩
      have pb11 : Sts w11 a2 y.length y := by
        refine ⟨(unhide PB10).1, fun h0 => ?_⟩
        obtain ⟨p, o', e, hc⟩ := (unhide PB10).2 h0
        obtain ⟨p', o2, e', hc'⟩ := (unhide HP2).2 h0
        rw [e] at e'
        cases e'
        refine ⟨p, o', e, fun j hj => ?_⟩
        have h1 := blk_lt (hc' 0 h0)
        have hb := (unhide HO11).block p (blk_lt (hc j hj)) (fun q => by have := hz23; omega)
        have := hc j hj
        simp only [World.cell?] at this ⊢
        rw [hb]
        exact this
      have lb12 : Lsr w12 a2 y.length y := ⟨pb11.below (unhide HB12), by omega, unhide HLy⟩
      have sq12 := ((unhide HSB).onlyG hg2 (unhide HO11)).below (unhide HB12)
      have pr12 := ((unhide HPB).onlyG hg2 (unhide HO11)).below (unhide HB12)
      have hoffn : Off (.slice p7 9 c7) pn x.length := fun h0 p o' e q => by
        have h1 := (unhide HSB).lt p q
        have h2 := own_high (unhide HO12) p (by rw [e]; rfl)
        omega
      have e9 := unhide HN9
      have CH4 := hide (held_go w4.heap.size p7 c7 ps (some ⟨w2.heap.size, 0, none⟩) x.length (x.length + 4) (some ⟨w3.heap.size, 0, none⟩) y.length (y.length + 4) pn x.length cn a2 y.length cap2 (over x o) y w12 (by rw [e9]; exact sq12) pr12 (by omega) (by omega) (unhide HF) lx12 ly12 ln12 lb12 (by rw [e9]; exact off_blk sq12 hg2) (by rw [e9]; exact off_blk sq12 hg3) (by rw [e9]; exact hoffn) (by rw [e9]; exact off_low sq12 (unhide HP2) hz4))
      rw [e9] at CH4
      have wq12 := ((unhide HQS).onlyG (Nat.lt_of_lt_of_le hg2 hz9) (unhide HO11)).below (unhide HB12)
      have wp12 := ((unhide HQP).onlyG (Nat.lt_of_lt_of_le hg2 hz9) (unhide HO11)).below (unhide HB12)
      have HWQ := hide wq12
      have HWP := hide wp12
      have hbv : ∀ k, (Value.slice p7 9 c7).ownBlock = some k → k < w9.heap.size := fun k q => (unhide HS9).lt k q
      have HBV := hide hbv
      have HSQ12 := hide sq12
      have hB12 : Below w1.heap.size w1 w12 := (((unhide HO11).below ((unhide HB4).trans ((unhide HB10).mono hz4)) (by omega) (fun k e => by omega)).trans ((unhide HB12).mono (by omega)))
      have HBW := hide hB12
      clear lx12 ly12 ln12 pb11 lb12 sq12 pr12 hoffn e9 wq12 wp12 hbv hB12 HSB HPB HQP HQS HK11 P11 HO12 LY10 PB10 PO10 HK10
      refine (unhide CH4).mono ?_
      rintro e w13 ⟨p13, c13, ps13, rfl, hn13, hget, hf13, hs13, hp13, ho13⟩
      have hn12 : ps13.length = 12 := hn13
      have HGET := hide hget
      have HF13 := hide hf13
      rw [hn12] at hs13
      have HN12 := hide hn12
      have HS13 := hide hs13
      have HP13 := hide hp13
      have HWQ13 := hide ((unhide HWQ).onlyV (unhide HBV) (Nat.le_refl _) ho13)
      have HWP13 := hide ((unhide HWP).onlyV (unhide HBV) (Nat.le_refl _) ho13)
      have HBW13 := hide ((unhide HBW).trans ((only_seq (unhide HSQ12) (by omega) ho13).mono hz4))
      have hz13 := ho13.size
      obtain ⟨GB, cGB, eGB, hRB⟩ := rows_of hp13 (by exact hs13) (by intro e; rw [e] at hn12; simp at hn12)
      rw [hn12] at eGB hRB
      cases eGB
      have hq9 := unhide HQL
      obtain ⟨GW, cGW, eGW, hRW⟩ := rows_of (unhide HWP13) (unhide HWQ13) (by intro e; rw [e] at hq9; simp at hq9)
      rw [hq9] at eGW hRW
      cases eGW
      have HRB := hide hRB
      have HRW := hide hRW
      clear hn13 hget hf13 hs13 hp13 ho13 hn12 CH4 HWQ HWP HBV HSQ12 HBW hRB hRW hq9 HS13 HP13 HWQ13 HWP13
      go_wp2
      go_loopw [23] (fun i wq => ∃ j : Nat, j ≤ 9 ∧ i = .int .i64 j ∧ Below w13.heap.size w13 wq) (fun i _ => 9 - (Go.RowKit.intOf i).toNat)
      case atStart => exact ⟨0, by omega, rfl, Below.refl _ _⟩
      case round =>
        obtain ⟨j, hj, rfl, hbq⟩ := hrel
        by_cases hlt : j < 9
        · have hlt' : (j : Int) < 9 := by omega
          have rb := (unhide HRB).below hbq
          have rw' := (unhide HRW).below hbq
          have hrow1 := rb.row j (by omega)
          have hrow2 := rw'.row j hlt
          have hcell1 := rb.cell j (by omega)
          have hcell2 := rw'.cell j hlt
          have hG1 := rb.ltG
          have hG2 := rw'.ltG
          have e1 : (ps13.getD j (undef, [])).2 = (ps.getD j (undef, [])).2 := by rw [unhide HGET j hlt]
          have e2 : (qs.getD j (undef, [])).2 = (ps.getD j (undef, [])).2 := unhide HCPY j (by rw [unhide HQL]; exact hlt)
          simp only [e1] at hrow1
          simp only [e2] at hrow2
          have hfw := (unhide HF).at j
          generalize (ps.getD j (undef, [])).2 = lj at *
          obtain ⟨pv, cv, ev, hst1⟩ := hrow1.fls
          obtain ⟨pw2, cw2, ew, hst2⟩ := hrow2.fls
          simp only [ev] at hcell1
          simp only [ew] at hcell2
          have CSM := hide (fun W (h : Below wr.heap.size wr W) => same_any pv pw2 lj.length lj.length cv cw2 lj lj W (hst1.below h) (hst2.below h) (by omega) (by omega))
          rw [show decide (lj = lj) = true by simp] at CSM
          have HC1 := hide hcell1
          have HC2' := hide hcell2
          have HBQ := hide hbq
          clear rb rw' hrow1 hrow2 hcell1 hcell2 ev ew hst1 hst2 hbq e1 e2
          go_wp2_with fail
          refine rgh GB 12 c13 GW 9 cw j lj.length cv lj.length cw2 pv pw2 rfl rfl rfl _ _ (show 126 ≤ 152 from by decide) rfl rfl rfl (fun _ W => Below wr.heap.size wr W) ?h0 ?hp (by omega) hlt ?l3 ?l7 ?c8 ?_
          case h0 => exact (Below.refl _ _).drew
          case hp => exact fun _ _ _ _ hW => hW
          case l3 =>
            intro L W hW
            rw [Nat.zero_add]
            exact (World.cell?_of_block (hW.block GB hG1)).trans (unhide HC1)
          case l7 =>
            intro L W hW
            rw [Nat.zero_add]
            exact (World.cell?_of_block (hW.block GW hG2)).trans (unhide HC2')
          case c8 =>
            intro L W hW _
            refine (unhide CSM W hW).mono ?_
            rintro e w2' ⟨rfl, hb⟩
            exact ⟨rfl, hW.trans (hb.mono hW.size)⟩
          intro L W _ hW
          have HBW2 := hide (bel2' (unhide HBQ) hW)
          clear hW
          simp only [put_list]
          refine norm_frame (l := [_, _, _, _, _, _, _, _, _, _, _, _, _, _, _, _, _, _, _, _, _, _, _, _, _, _, _, _, _, _, _, _, _, _, _, _, _, _, _, _, _, _, _, _, _, _, _, _, _, _, _, _, _, _, _, _, _, _, _, _, _, _, _, _, _, _, _, _, _, _, _, _, _, _, _, _, _, _, _, _, _, _, _, _, _, _, _, _, _, _, _, _, _, _, _, _, _, _, _, _, _, _, _, _, _, _, _, _, _, _, _, _, _, _, _, _, _, _, _, _, _, _, _, _, _, _, _, _, _, _, _, _, _, _, _, _, _, _, _, _, _, _, _, _, _, _, _, _, _, _, _, _]) rfl rfl ?_
          go_wp2
          refine ⟨⟨j + 1, by omega, by go_num, unhide HBW2⟩, by simp [Go.RowKit.intOf]; omega⟩
        · have hd2 : ¬ (j : Int) < 9 := by omega
          have hlen : ∀ i, i < 12 → ((fun i => (ps13.getD i (undef, [])).2) i).length ≤ 100000 := fun i _ => Nat.le_trans ((unhide HF13).at i) (by decide)
          have CAP := hide (apart_any w4.heap.size GB 12 c13 _ _ wr ((unhide HRB).below hbq) (by omega) hlen)
          have hbw := (unhide HBW13).trans (hbq.mono (by omega))
          have HBF := hide hbw
          have hzw := hbw.size
          clear hbq hbw hlen
          go_wp2_with fail
          refine (unhide CAP).mono ?_
          rintro e w14 ⟨rfl, b14⟩
          have HBE := hide ((unhide HBF).trans (b14.mono hz4))
          clear b14 CAP
          go_wp2
          go_ret
          exact ⟨rfl, unhide HBE⟩
end Go.Proofs.YtknlafgaagimjaaDoor
