import Derived.Test.YtllialbdofklgaaGreatDoorNfl
import Derived.Test.YtllialbdofklgaaGreatDoorNfn
import Derived.Test.YtllialbdofklgaaGreatDoorNfg
import Derived.Test.YtllialbdofklgaaGreatDoorNds
namespace Go.Proofs.YtllialbdofklgaaGreatDoor
open Go.RowKit
set_option maxHeartbeats 16000000
set_option maxRecDepth 8000
theorem boxN (w : World) (cs : Array Value) : ∃ W', (w.alloc (.cells #[.bool false, .slice none 0 0, .slice none 0 0, .slice none 0 0] 25)).setRow w.heap.size cs = W' ∧ W'.heap[w.heap.size]? = some (.cells cs 25 (0, 0)) ∧ Below w.heap.size w W' ∧ w.heap.size < W'.heap.size := by
  have hq := heap_alloc_new w (.cells #[.bool false, .slice none 0 0, .slice none 0 0, .slice none 0 0] 25)
  have hb3 := (Below.refl w.heap.size w).alloc (Nat.le_refl _) (.cells #[.bool false, .slice none 0 0, .slice none 0 0, .slice none 0 0] 25)
  have ht := setRow_heap _ _ _ cs 25 _ hq
  exact ⟨_, rfl, ht, (setRow_only _ w.heap.size cs).below hb3 hb3.size (fun k e => by omega), lt_of_row ht⟩
theorem boxP (w : World) (cs : Array Value) : ∃ W', (w.alloc (.cells #[I 0, I 0, I 0, .slice none 0 0, S []] 27)).setRow w.heap.size cs = W' ∧ W'.heap[w.heap.size]? = some (.cells cs 27 (0, 0)) ∧ Below w.heap.size w W' ∧ w.heap.size < W'.heap.size := by
  have hq := heap_alloc_new w (.cells #[I 0, I 0, I 0, .slice none 0 0, S []] 27)
  have hb3 := (Below.refl w.heap.size w).alloc (Nat.le_refl _) (.cells #[I 0, I 0, I 0, .slice none 0 0, S []] 27)
  have ht := setRow_heap _ _ _ cs 27 _ hq
  exact ⟨_, rfl, ht, (setRow_only _ w.heap.size cs).below hb3 hb3.size (fun k e => by omega), lt_of_row ht⟩
theorem sam_self (n : Nd) : sam n n = true := by unfold sam; simp
theorem nodeBack_any (lf : Bool) (a : Option Addr) (m cp : Nat) (l : List Ce) (k nu bi : Int) (la : Option Addr) (ln lc : Nat) (L : List Int) (x : Bs) (w : World) (hc : Ces w a m l) (hm : m ≤ 9223372036854775807) (hL : Ins w la ln L) (hln : ln ≤ 9223372036854775807) (hx : x.length ≤ 9223372036854775807) (hlay : Lay w) :
    Calls Tryz.prog 7 #[.bool lf, .slice a m cp, .agg #[I k, I nu, I bi, .slice la ln lc, S x]] w fun e w' => e = .returned (.bool true) ∧ Below w.heap.size w w' := by
  have hA1 := (Below.refl w.heap.size w).alloc (Nat.le_refl _) (.cells #[I k, I nu, I bi, .slice la ln lc, S x] 27)
  have g1 := heap_alloc_new w (.cells #[I k, I nu, I bi, .slice la ln lc, S x] 27)
  have hz1 := lt_of_row g1
  generalize hW1 : w.alloc (.cells #[I k, I nu, I bi, .slice la ln lc, S x] 27) = W1 at hA1 g1 hz1
  have HA1 := hide hA1
  have HG1 := hide g1
  obtain ⟨c0, c1, c2, c3, c4⟩ := box5 g1 (Below.refl _ _) hz1
  have HC := hide (fun W (q : Below W1.heap.size W1 W) => (hc.below hA1).below q)
  have HL := hide (fun W (q : Below W1.heap.size W1 W) => (hL.below hA1).below q)
  have HY := hide (fun W (q : Below W1.heap.size W1 W) => (hlay.below hA1).below q)
  have HCW := hide (fun W (q : Below W1.heap.size W1 W) => cellsWeigh_any a m cp l W ((hc.below hA1).below q) hm)
  have HPW := hide (fun W => pageWeighs_any k nu bi la ln lc x W hln hx)
  have HPO := hide (fun (h : add3 ln x.length ≤ 2147483647) => add3_ok h)
  have hpw := add3_le ln x.length
  generalize add3 ln x.length = pw at *
  clear hA1 g1 hc hL hlay
  go_enter Tryz.func7, Tryz.ntmps7
  go_upto_region 1 with fail
  clear hW1
  go_cut [24] from 19 to 24 (fun s24 wx => ∃ b : Bool, s24 = .bool b ∧ (b = false → m ≤ 2147483647 ∧ ln ≤ 2147483647 ∧ x.length ≤ 2147483647) ∧ Below W1.heap.size W1 wx)
  case first =>
    have HB0 := hide ((Below.refl W1.heap.size W1).drew)
    clear HC HL HY
    go_region_law (first
      | (refine step_callsE (f := 31) Tryz.func31 (by kernel_rfl) rfl rfl _ _ rfl #[.slice a m cp] (by first | (simp [Act.eval]; done) | (simp [Act.eval, Act.put]; done)) (fun v w' => ∃ r : Nat, v = I r ∧ r ≤ 4294967294 ∧ (r ≤ 2147483647 → m ≤ 2147483647) ∧ Below W1.drew.heap.size W1.drew w') ((unhide HCW _ (unhide HB0)).mono (fun e w' ⟨r, h1, h2, h3, h4⟩ => ⟨_, h3, r, rfl, h1, h2, h4⟩)) ?_; rintro v w2 ⟨r, rfl, r1, r2, b2⟩; have HR2 := hide r2; have HB1 := hide ((unhide HB0).trans (b2.mono (unhide HB0).size)); clear b2 r2 c0 c1 c2 c3 c4; obtain ⟨c0, c1, c2, c3, c4⟩ := box5 (unhide HG1) (unhide HB1) hz1; have y1 := Nat.lt_of_lt_of_le hz1 (unhide HB1).size)
      | (refine step_calls (f := 12) Tryz.func12 (by kernel_rfl) rfl rfl _ _ rfl #[.agg #[I k, I nu, I bi, .slice la ln lc, S x]] (by simp [Act.eval]) (I pw) (fun w' => Below W1.drew.heap.size W1.drew w') (unhide HPW _) ?_; intro w2 b2; have HB1 := hide ((unhide HB0).trans (b2.mono (unhide HB0).size)); clear b2)
      | (refine step_callsE (f := 31) Tryz.func31 (by kernel_rfl) rfl rfl _ _ rfl #[.slice a m cp] (by simp [Act.eval]) (fun v w' => ∃ r : Nat, v = I r ∧ r ≤ 4294967294 ∧ (r ≤ 2147483647 → m ≤ 2147483647) ∧ Below w2.heap.size w2 w') ((unhide HCW _ (unhide HB1)).mono (fun e w' ⟨r, h1, h2, h3, h4⟩ => ⟨_, h3, r, rfl, h1, h2, h4⟩)) ?_; rintro v w3 ⟨r, rfl, r1, r2, b2⟩; have HR2 := hide r2; have HB2 := hide ((unhide HB1).trans (b2.mono (unhide HB1).size)); clear b2 r2)
      | (refine step_calls (f := 12) Tryz.func12 (by kernel_rfl) rfl rfl _ _ rfl #[.agg #[I k, I nu, I bi, .slice la ln lc, S x]] (by simp [Act.eval]) (I pw) (fun w' => Below w2.heap.size w2 w') (unhide HPW _) ?_; intro w3 b2; have HB2 := hide ((unhide HB1).trans (b2.mono (unhide HB1).size)); clear b2)
      | (refine step_calls (f := 10) Tryz.func10 (by kernel_rfl) rfl rfl _ _ rfl #[I r, I pw] (by first | (simp [Act.eval]; done) | (simp [Act.eval, Act.put]; done)) (I (add3 r pw)) (fun w' => w' = w3) (addsUp_any r pw w3 (by omega) (by omega)) ?_; rintro w4 rfl))
    all_goals (
      have hok : add3 r pw ≤ 2147483647 → m ≤ 2147483647 ∧ ln ≤ 2147483647 ∧ x.length ≤ 2147483647 := fun h => ⟨unhide HR2 (add3_ok h).1, (unhide HPO (add3_ok h).2).1, (unhide HPO (add3_ok h).2).2⟩
      have HOK := hide hok
      clear hok
      generalize add3 r pw = tt at *
      go_wp2
      go_meet
      refine ⟨_, rfl, fun q => unhide HOK ?_, unhide HB2⟩
      first | (simp at q; omega) | omega)
  case rest =>
    obtain ⟨b, rfl, hbo, hB⟩ := hcut
    have HB := hide hB
    have HBO := hide hbo
    clear hB hbo c0 c1 c2 c3 c4
    cases b
    · obtain ⟨om, oln, ox⟩ := unhide HBO rfl
      clear HBO HCW HPW HPO hpw
      have HAW := hide (awake_any wc)
      go_wp2_with fail
      refine (unhide HAW).mono ?_
      rintro e w2 ⟨rfl, b2⟩
      have HB2 := hide ((unhide HB).trans (b2.mono (unhide HB).size))
      clear b2 HB HAW
      have HMa := hide (made_any lf a m cp l w2 (unhide HC _ (unhide HB2)) (by omega))
      clear HC
      go_wp2_with fail
      refine (unhide HMa).mono ?_
      rintro e w3 ⟨n, vK, vV, vI, hM, hne, rfl, hN, b3⟩
      clear HMa
      have hw0 : wrv n = 0 := hM.right (by omega) hne
      have hlf := hM.leaf
      have hnb := (wrv_ok hw0).2.2.2.2
      obtain ⟨ka, va, ia, kc, vc, ic, rfl, rfl, rfl, -⟩ := hN.na
      obtain ⟨W4, hW4, t4, b4, z4⟩ := boxN w3 #[.bool lf, .slice ka n.keys.length kc, .slice va n.vals.length vc, .slice ia n.kids.length ic]
      have HW4 := hide hW4
      have B4 := hide ((unhide HB2).trans (((b3.trans (b4.mono b3.size))).mono (unhide HB2).size))
      have T4 := hide t4
      have NA4 := hide (fun W (q : Below W4.heap.size W4 W) => show NA n ka va ia W from by
        obtain ⟨a1, a2, a3, a4, a5, a6, q1, q2, q3, q4⟩ := ((hN.below b4).below q).na
        cases q1
        cases q2
        cases q3
        exact q4)
      have X5 := page_any n ka va ia kc vc ic W4 (unhide NA4 _ (Below.refl _ _)) hnb
      unfold nda at X5
      rw [hlf, hw0] at X5
      have HX5 := hide X5
      obtain ⟨c0, c1, c2, c3⟩ := box4 t4 (Below.refl _ _) z4
      have HNB := hide hnb
      have HW0 := hide hw0
      have HLF := hide hlf
      clear hM hne hN b3 hw0 hlf hnb hW4 t4 b4 X5 HB2
      go_wp2_with (first | (refine wp_st25 rfl (.tmp 8) (.tmp 28) rfl w3.heap.size (by rfl) lf ka va ia n.keys.length kc n.vals.length vc n.kids.length ic (by rfl) _ rfl (heap_alloc_new _ _) ?_; rw [unhide HW4]) | fail)
      refine (unhide HX5).mono ?_
      rintro e w5 ⟨p, pc, rfl, rL, b5⟩
      clear HX5 HW4 c0 c1 c2 c3
      obtain ⟨W6, hW6, t6, b6, z6⟩ := boxP w5 #[I (pvk n), I 0, I 0, .slice p (pvl n).length pc, S (pvb n)]
      have HW6 := hide hW6
      have B46 := hide (b5.trans (b6.mono b5.size))
      have T6 := hide t6
      have LI5 := hide (fun W (q : Below w5.heap.size w5 W) => show Ins W p (pvl n).length (pvl n) from by
        obtain ⟨a1, a2, q1, q2, _⟩ := Ins.of (owns_base (Nat.zero_le _) (owns_belowB rL q))
        cases q1
        exact q2)
      have hsb := siz_bdy n (unhide HW0)
      have hth := there n (unhide HW0)
      have B5 := hide b5
      have LY5 := hide (fun W (q : Below w5.heap.size w5 W) => unhide HY W ((unhide B4).trans (((unhide B5).trans (q.mono (unhide B5).size)).mono (unhide B4).size)))
      have X7 := hide (fun (nu bi : Int) W (q : Below w5.heap.size w5 W) => parse_any (pvk n) nu bi p (pvl n).length pc (pvl n) (pvb n) W (by omega) (unhide LI5 W q) (by omega) (unhide LY5 W q))
      rw [hth.2, hth.1, unhide HLF] at X7
      have HSB := hide hsb
      obtain ⟨c0, c1, c2, c3, c4⟩ := box5 t6 (Below.refl _ _) z6
      have X7a := hide (unhide X7 0 0 W6 b6)
      have B6 := hide b6
      clear hW6 t6 b6 b5 rL hsb hth LI5 LY5
      generalize hpk : pvk n = PK at *
      generalize hpb : pvb n = PB at *
      generalize hpll : (pvl n).length = pll at *
      clear hpk hpb hpll
      go_wp2_with (first | (refine wp_st27 rfl (.tmp 9) (.tmp 32) rfl w5.heap.size (by rfl) PK 0 0 p pll pc PB (by rfl) _ rfl (heap_alloc_new _ _) ?_; rw [unhide HW6]) | fail)
      refine (unhide X7a).mono ?_
      rintro e w7 (⟨-, vK, vV, vI, rfl, rK, rV, rI, oo, b7⟩ | ⟨q, -⟩)
      rotate_left
      · cases q
      clear X7a HW6 c0 c1 c2 c3 c4
      obtain ⟨pK, cK, rfl⟩ := owns_form rK
      obtain ⟨pV, cV, rfl⟩ := owns_form rV
      obtain ⟨pI, cI, rfl⟩ := owns_form rI
      obtain ⟨W8, hW8, t8, b8, z8⟩ := boxN w7 #[.bool lf, .slice pK n.keys.length cK, .slice pV n.vals.length cV, .slice pI n.kids.length cI]
      have HW8 := hide hW8
      have T8 := hide t8
      have B68 := hide (b7.trans (b8.mono b7.size))
      have B67 := hide b7
      have B48 := hide ((unhide B46).trans ((unhide B68).mono (unhide B46).size))
      have na8 : NA n pK pV pI W8 := by
        obtain ⟨a1, a2, q1, s1, _⟩ := Sts.of (owns_below rK b8)
        obtain ⟨a3, a4, q2, s2, _⟩ := Sts.of (owns_below rV b8)
        obtain ⟨a5, a6, q3, s3, _⟩ := Ins.of (owns_below rI b8)
        cases q1
        cases q2
        cases q3
        exact ⟨s1, s2, s3⟩
      have X9 := nodes_any n n pK pV pI ka va ia cK cV cI kc vc ic W8 na8 (unhide NA4 _ (unhide B48)) (unhide HNB) (unhide HNB)
      unfold nda at X9
      rw [sam_self, unhide HLF] at X9
      have HX9 := hide X9
      obtain ⟨c0, c1, c2, c3⟩ := box4 t8 (Below.refl _ _) z8
      obtain ⟨d0, d1, d2, d3⟩ := box4 (unhide T4) (unhide B48) z4
      have zz4 : w3.heap.size < W8.heap.size := Nat.lt_of_lt_of_le z4 (unhide B48).size
      clear rK rV rI oo b7 hW8 t8 b8 na8 X9
      go_wp2_with (first | (refine wp_st25 rfl (.tmp 11) (.tmp 37) rfl w7.heap.size (by rfl) lf pK pV pI n.keys.length cK n.vals.length cV n.kids.length cI (by rfl) _ rfl (heap_alloc_new _ _) ?_; rw [unhide HW8]) | fail)
      refine (unhide HX9).mono ?_
      rintro e w9 ⟨rfl, b9⟩
      clear HW8 c0 c1 c2 c3 d0 d1 d2 d3 zz4
      have B9 := hide b9
      have hz56 : w5.heap.size < W8.heap.size := by have := (unhide B68).size; omega
      have t69 := (b9.block _ hz56).trans (((unhide B68).block _ z6).trans (unhide T6))
      obtain ⟨c0, c1, c2, c3, c4⟩ := box5 t69 (Below.refl _ _) (lt_of_row t69)
      have f1 := frz t69 1
      have f2 := frz t69 2
      have hl69 := lt_of_row t69
      have B19 : Hid (Below W1.heap.size W1 w9) := (unhide B4).trans (((unhide B48).trans (b9.mono (unhide B48).size)).mono (unhide B4).size)
      obtain ⟨d0, d1, d2, d3, d4⟩ := box5 (unhide HG1) (unhide B19) hz1
      have zz1 : w.heap.size < w9.heap.size := Nat.lt_of_lt_of_le hz1 (unhide B19).size
      have hne : w5.heap.size ≠ w.heap.size := by have := (unhide B4).size; have := (unhide B5).size; omega
      have hsb := unhide HSB
      have hd : decide ((481 : Int) < (PB.length : Int) + 4 * (pll : Int)) = false := by rw [decide_eq_false_iff_not]; omega
      clear b9
      have T69 := hide t69
      clear t69 hsb
      go_upto_region 8 with fail
      go_cut [76] from 42 to 76 (fun s76 wx => s76 = .bool false ∧ wx = w9)
      case first =>
        clear HX9 X7 NA4 HL HY HNB HW0 HLF T4 T8 T6 B4 B5 B6 B46 B48 B68 B9 B19 HA1 HG1 d0 d1 d2 d3 d4 T69 HSB hne f1 f2 hz56 zz1
        have h1 : ((PB.length : Int) + 4 * (pll : Int)) ≤ 481 := by
          rw [decide_eq_false_iff_not] at hd
          omega
        go_wp2
        go_meet
        exact ⟨by simp, rfl⟩
      case rest =>
        obtain ⟨rfl, hwc⟩ := hcut
        rw [hwc]
        clear hwc
        have oS := (Only.setCell w9 ⟨w5.heap.size, 1, none⟩ (I nu)).put ⟨w5.heap.size, 2, none⟩ (I bi) (.inl rfl)
        have B59 := (unhide B6).trans (((unhide B68).trans ((unhide B9).mono (unhide B68).size)).mono (unhide B6).size)
        have BS := oS.below B59 B59.size (fun q e => by rw [e]; exact Nat.le_refl _)
        have X12 := hide (unhide X7 nu bi _ BS)
        have ts := heap_setCell_same _ w5.heap.size 2 _ 27 (I bi) (heap_setCell_same w9 w5.heap.size 1 _ 27 (I nu) (unhide T69))
        have hz7 : w7.heap.size < W8.heap.size := z8
        have t89 := ((unhide B9).block _ hz7).trans (unhide T8)
        have hne7 : w7.heap.size ≠ w5.heap.size := by have := (unhide B6).size; have := z6; intro e; have q := (unhide B68).size; have : W6.heap.size ≤ w7.heap.size := (unhide B67).size; omega
        have t8s := (oS.block _ (lt_of_row t89) hne7).trans t89
        have HBS := hide BS
        have HT8S := hide t8s
        have HTS := hide ts
        clear oS B59 BS ts t89 t8s T69 hd
        go_wp2_with fail
        refine (unhide X12).mono ?_
        rintro e w10 (⟨-, vK, vV, vI, rfl, rK, rV, rI, oo, b10⟩ | ⟨q, -⟩)
        rotate_left
        · cases q
        clear X12 c0 c1 c2 c3 c4 d0 d1 d2 d3 d4 f1 f2
        obtain ⟨qK, eK, rfl⟩ := owns_form rK
        obtain ⟨qV, eV, rfl⟩ := owns_form rV
        obtain ⟨qI, eI, rfl⟩ := owns_form rI
        have t11 := (b10.block _ (lt_of_row (unhide HT8S))).trans (unhide HT8S)
        have oR := setRow_only w10 w7.heap.size #[.bool lf, .slice qK n.keys.length eK, .slice qV n.vals.length eV, .slice qI n.kids.length eI]
        have tR := setRow_heap _ _ _ #[.bool lf, .slice qK n.keys.length eK, .slice qV n.vals.length eV, .slice qI n.kids.length eI] 25 _ t11
        have b510 := (unhide HBS).trans (b10.mono (unhide HBS).size)
        have bR5 := oR.below b510 b510.size (fun q e => by rw [e]; have := (unhide B67).size; omega)
        have rK' := owns_only rK oR (fun i hi e => not_T t11 rK (by decide) i hi e)
        have rV' := owns_only rV oR (fun i hi e => not_T t11 rV (by decide) i hi e)
        have rI' := owns_only rI oR (fun i hi e => not_T t11 rI (by decide) i hi e)
        have HT11 := hide t11
        generalize hW11 : w10.setRow w7.heap.size #[.bool lf, .slice qK n.keys.length eK, .slice qV n.vals.length eV, .slice qI n.kids.length eI] = W11 at oR tR bR5 rK' rV' rI'
        have HW11 := hide hW11
        have B4R := hide ((unhide B5).trans (bR5.mono (unhide B5).size))
        have na11 : NA n qK qV qI W11 := by
          obtain ⟨a1, a2, q1, s1, _⟩ := Sts.of rK'
          obtain ⟨a3, a4, q2, s2, _⟩ := Sts.of rV'
          obtain ⟨a5, a6, q3, s3, _⟩ := Ins.of rI'
          cases q1
          cases q2
          cases q3
          exact ⟨s1, s2, s3⟩
        have X13 := nodes_any n n qK qV qI ka va ia eK eV eI kc vc ic W11 na11 (unhide NA4 _ (unhide B4R)) (unhide HNB) (unhide HNB)
        unfold nda at X13
        rw [sam_self, unhide HLF] at X13
        have HX13 := hide X13
        obtain ⟨c0, c1, c2, c3⟩ := box4 tR (Below.refl _ _) (lt_of_row tR)
        obtain ⟨d0, d1, d2, d3⟩ := box4 (unhide T4) (unhide B4R) z4
        have zz4 : w3.heap.size < W11.heap.size := Nat.lt_of_lt_of_le z4 (unhide B4R).size
        have zz7 := lt_of_row tR
        clear rK rV rI oo b10 t11 oR tR b510 bR5 rK' rV' rI' hW11 na11 X13 hne hz56 hz7 hne7
        go_wp2_with (first | (refine wp_st25 rfl (.tmp 11) (.tmp 86) rfl w7.heap.size (by rfl) lf qK qV qI n.keys.length eK n.vals.length eV n.kids.length eI (by rfl) _ rfl (unhide HT11) ?_; rw [unhide HW11]) | fail)
        refine (unhide HX13).mono ?_
        rintro e w13 ⟨rfl, b13⟩
        clear HX13 HW11 HT11 c0 c1 c2 c3 d0 d1 d2 d3 zz4 zz7
        have B1D : Hid (Below W1.heap.size W1 w13) := (unhide B4).trans (((unhide B4R).trans (b13.mono (unhide B4R).size)).mono (unhide B4).size)
        obtain ⟨d0, d1, d2, d3, d4⟩ := box5 (unhide HG1) (unhide B1D) hz1
        have zz1' : w.heap.size < w13.heap.size := Nat.lt_of_lt_of_le hz1 (unhide B1D).size
        have X16 := hide (parse_any k nu bi la ln lc L x w13 (by omega) (unhide HL _ (unhide B1D)) (by omega) (unhide HY _ (unhide B1D)))
        clear b13 B4R HBS HT8S HTS B4 B5 B6 B46 B48 B68 B67 B9 B19 T4 T6 T8 NA4 X7 HNB HW0 HSB zz1 hl69 z4 z6 z8
        go_wp2_with fail
        refine (unhide X16).mono ?_
        rintro e w14 (⟨hok, vK, vV, vI, rfl, rK, rV, rI, oo, b14⟩ | ⟨-, rfl, b14⟩)
        · clear X16 d0 d1 d2 d3 d4
          obtain ⟨e1, e2, e3, e4⟩ := back k L x hok
          have hnb := (wrv_ok e1).2.2.2.2
          have hLn : ln = L.length := (unhide HL _ (unhide B1D)).1
          generalize hrr : pnd k L x = r at *
          clear hrr hok
          obtain ⟨qK, eK, rfl⟩ := owns_form rK
          obtain ⟨qV, eV, rfl⟩ := owns_form rV
          obtain ⟨qI, eI, rfl⟩ := owns_form rI
          obtain ⟨W15, hW15, t15, b15, z15⟩ := boxN w14 #[.bool r.leaf, .slice qK r.keys.length eK, .slice qV r.vals.length eV, .slice qI r.kids.length eI]
          have HW15 := hide hW15
          have na15 : NA r qK qV qI W15 := by
            obtain ⟨a1, a2, q1, s1, _⟩ := Sts.of (owns_below rK b15)
            obtain ⟨a3, a4, q2, s2, _⟩ := Sts.of (owns_below rV b15)
            obtain ⟨a5, a6, q3, s3, _⟩ := Ins.of (owns_below rI b15)
            cases q1
            cases q2
            cases q3
            exact ⟨s1, s2, s3⟩
          have X19 := page_any r qK qV qI eK eV eI W15 na15 hnb
          unfold nda at X19
          rw [e1, e2, e3, e4, ← hLn] at X19
          have HX19 := hide X19
          have B1F := hide ((unhide B1D).trans ((b14.trans (b15.mono b14.size)).mono (unhide B1D).size))
          obtain ⟨c0, c1, c2, c3⟩ := box4 t15 (Below.refl _ _) z15
          have HLN := hide hLn
          clear e1 e2 e3 e4 hnb hLn rK rV rI oo b14 hW15 t15 b15 na15 X19 B1D zz1'
          go_wp2_with (first | (refine wp_st25 rfl (.tmp 14) (.tmp 100) rfl w14.heap.size (by rfl) r.leaf qK qV qI r.keys.length eK r.vals.length eV r.kids.length eI (by rfl) _ rfl (heap_alloc_new _ _) ?_; rw [unhide HW15]) | fail)
          refine (unhide HX19).mono ?_
          rintro e w16 ⟨p9, pc9, rfl, rL, b16⟩
          clear HX19 HW15 c0 c1 c2 c3
          obtain ⟨W17, hW17, t17, b17, z17⟩ := boxP w16 #[I k, I 0, I 0, .slice p9 ln pc9, S x]
          have HW17 := hide hW17
          have oS := (Only.setCell W17 ⟨w16.heap.size, 1, none⟩ (I nu)).put ⟨w16.heap.size, 2, none⟩ (I bi) (.inl rfl)
          have b18 := oS.below b17 b17.size (fun q e => by rw [e]; exact Nat.le_refl _)
          have B1G := (unhide B1F).trans ((b16.trans (b18.mono b16.size)).mono (unhide B1F).size)
          have B17' := (unhide B1F).trans ((b16.trans (b17.mono b16.size)).mono (unhide B1F).size)
          have ins9 := Ins.of (owns_base (Nat.zero_le _) (owns_belowB (show w16.ownsRow W15.heap.size 3 1 (.slice p9 L.length pc9) L.length (L.map (Value.int .i64)) by have q := rL; rw [unhide HLN] at q; exact q) b18))
          have ins9' : Ins ((W17.setCell ⟨w16.heap.size, 1, none⟩ (I nu)).setCell ⟨w16.heap.size, 2, none⟩ (I bi)) p9 ln L := by
            obtain ⟨a1, a2, q1, q2, _⟩ := ins9
            cases q1
            rw [unhide HLN]
            exact q2
          have X22 := hide (pages_same k nu bi p9 la ln pc9 lc L x _ ins9' (unhide HL _ B1G) (by omega))
          obtain ⟨c0, c1, c2, c3, c4⟩ := box5 t17 (Below.refl _ _) z17
          obtain ⟨d0, d1, d2, d3, d4⟩ := box5 (unhide HG1) B17' hz1
          have f1 := frz t17 1
          have f2 := frz t17 2
          have zz1' : w.heap.size < W17.heap.size := Nat.lt_of_lt_of_le hz1 B17'.size
          have hne9 : ¬ w16.heap.size = w.heap.size := by have := (unhide B1F).size; have := b16.size; omega
          have hne8 : ¬ w.heap.size = w16.heap.size := fun e => hne9 e.symm
          have HB1G := hide B1G
          clear hW17 t17 b17 oS b18 B1G B17' ins9 ins9' rL b16 HLN
          go_wp2_with (first | (refine wp_st27 rfl (.tmp 16) (.tmp 121) rfl w16.heap.size (by rfl) k 0 0 p9 ln pc9 x (by rfl) _ rfl (heap_alloc_new _ _) ?_; rw [unhide HW17]) | fail)
          refine (unhide X22).mono ?_
          rintro e w19 ⟨rfl, b19⟩
          have hfin := (unhide HA1).trans (((unhide HB1G).trans (b19.mono (unhide HB1G).size)).mono (unhide HA1).size)
          have HFIN := hide hfin
          clear hfin b19 X22 HW17 c0 c1 c2 c3 c4 d0 d1 d2 d3 d4
          go_wp2
          go_ret
          exact ⟨rfl, unhide HFIN⟩
        · clear X16 d0 d1 d2 d3 d4
          obtain ⟨W15, hW15, t15, b15, z15⟩ := boxN w14 #[.bool false, .slice none 0 0, .slice none 0 0, .slice none 0 0]
          have HW15 := hide hW15
          have hfin := (unhide HA1).trans (((unhide B1D).trans ((b14.trans (b15.mono b14.size)).mono (unhide B1D).size)).mono (unhide HA1).size)
          have HFIN := hide hfin
          obtain ⟨c0, c1, c2, c3⟩ := box4 t15 (Below.refl _ _) z15
          clear hfin b14 b15 hW15 t15 B1D zz1'
          go_wp2_with (first | (refine wp_st25 rfl (.tmp 14) (.tmp 100) rfl w14.heap.size (by rfl) false none none none 0 0 0 0 0 0 (by rfl) _ rfl (heap_alloc_new _ _) ?_; rw [unhide HW15]) | fail)
          go_ret
          exact ⟨rfl, unhide HFIN⟩
    · go_wp2
      go_ret
      exact ⟨rfl, (unhide HA1).trans ((unhide HB).mono (unhide HA1).size)⟩
end Go.Proofs.YtllialbdofklgaaGreatDoor
