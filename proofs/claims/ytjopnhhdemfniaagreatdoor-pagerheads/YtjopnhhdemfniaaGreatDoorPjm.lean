import Derived.Test.YtjopnhhdemfniaaGreatDoorPjk
import Derived.Test.YtjopnhhdemfniaaGreatDoorPje
import Derived.Test.YtjopnhhdemfniaaGreatDoorPjf
import Derived.Test.YtjopnhhdemfniaaGreatDoorPiu
import Derived.Test.YtjopnhhdemfniaaGreatDoorRgph
namespace Go.Proofs.YtjopnhhdemfniaaGreatDoor
open Go.RowKit
set_option maxHeartbeats 8000000
set_option maxRecDepth 8000
theorem add2_any (n m : Int) (w : World) (h0 : 0 ≤ n) (h1 : 0 ≤ m) (h2 : n ≤ 9223372036854775807) (h3 : m ≤ 9223372036854775807) : Calls Tryz.prog 9 #[.int .i64 n, .int .i64 m] w fun e w' => e = .returned (.int .i64 (addv n m)) ∧ w' = w := by
  unfold addv
  by_cases h : 2147483647 - n < m
  · rw [if_pos h]
    go_enter Tryz.func9, Tryz.ntmps9
    go_wp2
    go_ret
    exact ⟨rfl, rfl⟩
  · rw [if_neg h]
    go_enter Tryz.func9, Tryz.ntmps9
    go_wp2
    go_ret
    exact ⟨rfl, rfl⟩
/-- The head that the law makes of raw numbers. -/
def rtv (root : Int) (k : Nat) : Int := if (pkv root k : Int) = 1 then 0 else (pkv root k : Int)
def hdR (g root b : Int) (n : Bs) (at_ : Int) : Hd := ⟨1 + (pkv g 4611686018427387904 : Nat), rtv root (8 + pkv b 4089), ((8 + pkv b 4089 : Nat) : Int), (n ++ nte at_).take 16⟩
theorem hdR_may (g root b : Int) (n : Bs) (at_ : Int) : (hdR g root b n at_).may = true := by
  have h1 := pkv_lt g 4611686018427387904 (by omega)
  have h2 := pkv_lt b 4089 (by omega)
  have h3 := pkv_lt root (8 + pkv b 4089) (by omega)
  have h4 : ((n ++ nte at_).take 16).length = 16 := by rw [List.length_take, List.length_append, nte_len]; omega
  unfold hdR rtv
  simp only [Hd.may, isGn, Bool.and_eq_true, Bool.or_eq_true, decide_eq_true_eq]
  refine ⟨⟨⟨⟨by omega, by omega⟩, by omega, by omega⟩, ?_⟩, h4⟩
  split <;> omega
theorem sliceTo (x : Bs) (k : Nat) (hk : k ≤ x.length) (w : World) : (Instr.slice 9 (S x) none (some (.int .i64 (k : Int))) none).run Tryz.prog w = .ok (S (x.take k)) w := by
  rw [run_slice_string_to_if (P := Tryz.prog) (w := w) 9 ⟨x.toArray⟩ .i64 k Tryz.underlying9, if_pos (by simp [ByteArray.size]; omega)]
  rw [Int.toNat_natCast, extract_eq]
  simp
theorem sliceTo16 (x y : Bs) (hk : 16 ≤ y.length) (w : World) : (Instr.slice 9 (.string (⟨x.toArray⟩ ++ ⟨y.toArray⟩)) none (some (.int .i64 16)) none).run Tryz.prog w = .ok (S ((x ++ y).take 16)) w := by
  rw [cat_ba]
  exact sliceTo (x ++ y) 16 (by rw [List.length_append]; omega) w
theorem phr_sec (h : Hd) (hm : h.may = true) (Z : Bs) (hZ : Z.length = 448) : phr (h.sec ++ Z) = (h, 0) := by
  have hs := Hd.sec_len (Hd.may_note hm)
  have : phd (h.sec ++ Z) = some h := phd_is (by rw [List.length_append, hs, hZ]) hm (by rw [← hs, List.take_left])
  unfold phr
  rw [this]
theorem pagerHeads_any (g r b : Int) (n s : Bs) (at_ by_ : Int) (w : World) (hg : -9223372036854775808 ≤ g ∧ g ≤ 9223372036854775807) (hr : -9223372036854775808 ≤ r ∧ r ≤ 9223372036854775807) (hb : -9223372036854775808 ≤ b ∧ b ≤ 9223372036854775807) (ha : -9223372036854775808 ≤ at_ ∧ at_ ≤ 9223372036854775807) (hn : n.length ≤ 9223372036854775807) (hs : s.length ≤ 9223372036854775807) :
    Calls Tryz.prog 4 #[I g, I r, I b, S n, S s, I at_, I by_] w fun e w' => e = .returned (.bool true) ∧ Below w.heap.size w w' := by
  have A1 := hide (fun W => add2_any (n.length : Int) 10000 W (by omega) (by omega) (by omega) (by omega))
  have hv := addv_bd (n := (n.length : Int)) (m := 10000)
  have A2 := hide (fun W => add2_any (addv (n.length : Int) 10000) (s.length : Int) W (by unfold addv; split <;> omega) (by omega) (by unfold addv; split <;> omega) (by omega))
  clear hv
  by_cases hbig : (2147483647 : Int) < addv (addv (n.length : Int) 10000) (s.length : Int)
  · generalize addv (n.length : Int) 10000 = x1 at *
    generalize addv x1 (s.length : Int) = x2 at *
    go_enter Tryz.func4, Tryz.ntmps4
    go_wp2_with fail
    refine (unhide A1 _).mono ?_
    rintro e wa ⟨rfl, hwa⟩
    rw [hwa]
    clear hwa wa
    go_wp2_with fail
    refine (unhide A2 _).mono ?_
    rintro e wa ⟨rfl, hwa⟩
    rw [hwa]
    clear hwa wa
    go_wp2
    go_ret
    exact ⟨rfl, Below.refl _ _⟩
  · have hn2 : n.length ≤ 2147483647 ∧ s.length ≤ 2147483647 := by
      have h1 := addv_le (show addv (addv (n.length : Int) 10000) (s.length : Int) ≤ 2147483647 by omega)
      have h0 : 0 ≤ addv (n.length : Int) 10000 := by unfold addv; split <;> omega
      have h2 := addv_le (n := (n.length : Int)) (m := 10000) (by omega)
      omega
    have hbig' : addv (addv (n.length : Int) 10000) (s.length : Int) ≤ 2147483647 := by omega
    clear hbig
    generalize addv (n.length : Int) 10000 = x1 at *
    generalize addv x1 (s.length : Int) = x2 at *
    have B1 := hide (fun W => printHead_any ⟨g, r, b, n⟩ W (by show n.length ≤ _; omega))
    have B2 := hide (fun W => rPrintHead_any ⟨g, r, b, n⟩ W)
    have P1 := hide (fun W => pick_any b 4089 W (by omega) (by omega) hb.1 hb.2)
    have pl1 := pkv_lt b 4089 (by omega)
    have P2 := hide (fun W => pick_any r (8 + pkv b 4089) W (by omega) (by omega) hr.1 hr.2)
    have P3 := hide (fun W => pick_any g 4611686018427387904 W (by omega) (by omega) hg.1 hg.2)
    have pl2 := pkv_lt r (8 + pkv b 4089) (by omega)
    have pl3 := pkv_lt g 4611686018427387904 (by omega)
    have NT := hide (fun W => note9_any at_ W)
    have hm := hdR_may g r b n at_
    have C1 := hide (fun W => printHead_any (hdR g r b n at_) W (by rw [Hd.may_note hm]; omega))
    have C2 := hide (fun W => rPrintHead_any (hdR g r b n at_) W)
    have hprh : prh (hdR g r b n at_) = ((hdR g r b n at_).blk, 0) := by unfold prh; rw [if_pos hm]
    rw [hprh] at C1 C2
    have HSEC := hide (fun Z hZ => phr_sec (hdR g r b n at_) hm Z hZ)
    have HTK := hide (Hd.blk_take (Hd.may_note hm))
    have hbl := Hd.blk_len (Hd.may_note hm)
    have HHD := hide (show hdR g r b n at_ = ⟨1 + (pkv g 4611686018427387904 : Nat), rtv r (8 + pkv b 4089), ((8 + pkv b 4089 : Nat) : Int), (n ++ nte at_).take 16⟩ from rfl)
    have hrt : rtv r (8 + pkv b 4089) = if (pkv r (8 + pkv b 4089) : Int) = 1 then 0 else (pkv r (8 + pkv b 4089) : Int) := rfl
    have hntl := nte_len at_
    generalize (hdR g r b n at_).blk = BK at *
    rw [unhide HHD] at C1 C2
    simp only at C1 C2
    generalize prh ⟨g, r, b, n⟩ = PR at *
    generalize rtv r (8 + pkv b 4089) = rt at *
    generalize pkv r (8 + pkv b 4089) = pr at *
    generalize pkv b 4089 = pb at *
    generalize pkv g 4611686018427387904 = pg at *
    generalize nte at_ = na at *
    have BN := hide (fun W => bent_any BK at_ by_ W ha.1 ha.2 (by omega))
    have P4 := hide (fun W => pick_any at_ 64 W (by omega) (by omega) ha.1 ha.2)
    have pl4 := pkv_lt at_ 64 (by omega)
    have BN4 := hide (fun W => bent_any BK (pkv at_ 64 : Nat) by_ W (by omega) (by omega) (by omega))
    have P5 := hide (fun W => pick_any at_ 513 W (by omega) (by omega) ha.1 ha.2)
    have pl5 := pkv_lt at_ 513 (by omega)
    have HSL := hide (fun W => sliceTo BK (pkv at_ 513) (by omega) W)
    have BN6 := hide (fun W => bent_any (BK.drop 64) at_ by_ W ha.1 ha.2 (by simp; omega))
    generalize pkv at_ 64 = p4 at *
    generalize pkv at_ 513 = p5 at *
    have HBL := hide hbl
    have HNL := hide hntl
    have HN2 := hide hn2
    clear hbl hntl hn2 hm hprh hn hs pl4 pl5 ha hb hr hg
    rw [show ((8 + pb : Nat) : Int) = 8 + (pb : Int) by omega] at P2 C1 C2 HHD
    have n1 : (PR.1 != PR.1) = false := by simp
    have n2 : (PR.2 != PR.2) = false := by simp
    have n3 : (BK != BK) = false := by simp
    by_cases hp1 : (pr : Int) = 1
    · rw [if_pos hp1] at hrt
      subst hrt
      have hp2 : pr = 1 := by omega
      subst hp2
      clear hp1
      go_enter Tryz.func4, Tryz.ntmps4
      go_wp2_with fail
      refine (unhide A1 _).mono ?_
      rintro e wa ⟨rfl, hwa⟩
      rw [hwa]
      clear hwa wa
      go_wp2_with fail
      refine (unhide A2 _).mono ?_
      rintro e wa ⟨rfl, hwa⟩
      rw [hwa]
      clear hwa wa A1 A2
      go_wp2_with fail
      refine (awake_any _).mono ?_
      rintro e w1 ⟨rfl, b1⟩
      have HB1 := hide b1
      clear b1
      go_wp2_with fail
      refine (unhide B1 _).mono ?_
      rintro e w2 ⟨rfl, b2⟩
      have HB2 := hide ((unhide HB1).trans (b2.mono (unhide HB1).size))
      clear b2 HB1
      go_wp2_with fail
      refine (unhide B2 _).mono ?_
      rintro e w3 ⟨rfl, b3⟩
      have HB3 := hide ((unhide HB2).trans (b3.mono (unhide HB2).size))
      clear b3 HB2
      go_wp2_with fail
      refine (unhide P1 _).mono ?_
      rintro e wa ⟨rfl, hwa⟩
      rw [hwa]
      clear hwa wa
      go_wp2_with fail
      refine (unhide P2 _).mono ?_
      rintro e wa ⟨rfl, hwa⟩
      rw [hwa]
      clear hwa wa
      go_wp2_with fail
      refine (unhide NT _).mono ?_
      rintro e w4 ⟨rfl, b4⟩
      have HB4 := hide ((unhide HB3).trans (b4.mono (unhide HB3).size))
      clear b4 HB3
      have sl := sliceTo16 n na (by have := unhide HNL; omega)
      have hcat : ¬ 9223372036854775807 < n.length + na.length := by have := unhide HNL; have := unhide HN2; omega
      go_wp2_with fail
      refine (unhide P3 _).mono ?_
      rintro e wa ⟨rfl, hwa⟩
      rw [hwa]
      clear hwa wa sl hcat
      go_wp2_with fail
      refine (unhide C1 _).mono ?_
      rintro e w5 ⟨rfl, b5⟩
      have HB5 := hide ((unhide HB4).trans (b5.mono (unhide HB4).size))
      clear b5 HB4
      go_wp2_with fail
      refine (unhide P3 _).mono ?_
      rintro e wa ⟨rfl, hwa⟩
      rw [hwa]
      clear hwa wa
      go_wp2_with fail
      refine (unhide C2 _).mono ?_
      rintro e w6 ⟨rfl, b6⟩
      have HB6 := hide ((unhide HB5).trans (b6.mono (unhide HB5).size))
      clear b6 HB5 C1 C2
      go_wp2_with fail
      refine (heads_any s _).mono ?_
      rintro e w7 ⟨rfl, b7⟩
      have HB7 := hide ((unhide HB6).trans (b7.mono (unhide HB6).size))
      clear b7 HB6
      go_wp2_with fail
      refine (heads_any BK _).mono ?_
      rintro e w8 ⟨rfl, b8⟩
      have HB8 := hide ((unhide HB7).trans (b8.mono (unhide HB7).size))
      clear b8 HB7
      go_wp2_with fail
      refine (unhide BN _).mono ?_
      rintro e w9 ⟨Y1, rfl, ly1, b9⟩
      have HB9 := hide ((unhide HB8).trans (b9.mono (unhide HB8).size))
      clear b9 HB8 ly1
      go_wp2_with fail
      refine (heads_any Y1 _).mono ?_
      rintro e w10 ⟨rfl, b10⟩
      have HB10 := hide ((unhide HB9).trans (b10.mono (unhide HB9).size))
      clear b10 HB9
      go_wp2_with fail
      refine (unhide BN _).mono ?_
      rintro e w11 ⟨Y2, rfl, ly2, b11⟩
      have HB11 := hide ((unhide HB10).trans (b11.mono (unhide HB10).size))
      have HY2 := hide ly2
      clear b11 HB10 ly2
      go_wp2_with fail
      refine (crowned_any Y2 _ (by have := unhide HY2; have := unhide HBL; omega) (by have := unhide HY2; have := unhide HBL; omega)).mono ?_
      rintro e w12 ⟨rfl, b12⟩
      have HB12 := hide ((unhide HB11).trans (b12.mono (unhide HB11).size))
      clear b12 HB11
      generalize crw Y2 = K2 at *
      go_wp2_with fail
      refine (heads_any K2 _).mono ?_
      rintro e w13 ⟨rfl, b13⟩
      have HB13 := hide ((unhide HB12).trans (b13.mono (unhide HB12).size))
      clear b13 HB12
      go_wp2_with fail
      refine (unhide P4 _).mono ?_
      rintro e wa ⟨rfl, hwa⟩
      rw [hwa]
      clear hwa wa
      go_wp2_with fail
      refine (unhide BN4 _).mono ?_
      rintro e w14 ⟨Y3, rfl, ly3, b14⟩
      have HB14 := hide ((unhide HB13).trans (b14.mono (unhide HB13).size))
      have HY3 := hide ly3
      clear b14 HB13 ly3
      go_wp2_with fail
      refine (crowned_any Y3 _ (by have := unhide HY3; have := unhide HBL; omega) (by have := unhide HY3; have := unhide HBL; omega)).mono ?_
      rintro e w15 ⟨rfl, b15⟩
      have HB15 := hide ((unhide HB14).trans (b15.mono (unhide HB14).size))
      clear b15 HB14
      generalize crw Y3 = K3 at *
      go_wp2_with fail
      refine (heads_any K3 _).mono ?_
      rintro e w16 ⟨rfl, b16⟩
      have HB16 := hide ((unhide HB15).trans (b16.mono (unhide HB15).size))
      clear b16 HB15
      go_wp2_with fail
      refine (unhide P5 _).mono ?_
      rintro e wa ⟨rfl, hwa⟩
      rw [hwa]
      clear hwa wa
      have sl := unhide HSL
      go_wp2_with fail
      refine (heads_any _ _).mono ?_
      rintro e w17 ⟨rfl, b17⟩
      have HB17 := hide ((unhide HB16).trans (b17.mono (unhide HB16).size))
      clear b17 HB16 sl
      go_upto_region 21 with fail
      have HPH := hide (fun (Z : Bs) (hZ : Z.length = 448) => (show phr (BK.take 64 ++ Z) = (⟨1 + (pg : Int), (0 : Int), 8 + (pb : Int), (n ++ na).take 16⟩, 0) by rw [unhide HTK, unhide HSEC Z hZ, unhide HHD]))
      generalize (n ++ na).take 16 = m16 at *
      refine rpz21 BK m16 at_ by_ (1 + (pg : Int)) (0 : Int) (8 + (pb : Int)) 0 (by kernel_rfl) (by kernel_rfl) (by kernel_rfl) _ _ (by show 162 ≤ Array.size _; simp) rfl rfl rfl (fun c L W => Below w17.heap.size w17 W ∧ (L 6 = true → c.length = 448) ∧ (L 7 = true → L 6 = true)) ⟨[], (Below.refl _ _).drew, (fun q => nomatch q), (fun q => nomatch q)⟩ ?_ ?_ ?_ ?_ ?_ ?_ ?_ ?_ ?_ ?_ ?_ ?_
      · intro i hi c L W hW
        simp only [List.mem_cons, List.not_mem_nil, or_false, not_or] at hi
        rw [upd_ne (Ne.symm hi.1), upd_ne (Ne.symm hi.2.1)]
        exact hW
      · exact fun W => s_to BK 64 (by have := unhide HBL; omega)
      · exact fun W => s_from BK 64 (by have := unhide HBL; omega)
      · intro c L W hW hL _ _ _
        refine (unhide BN6 W).mono ?_
        rintro e w' ⟨Y, rfl, ly, by6⟩
        refine ⟨Y, fun j hj => ?_, rfl, hW.1.trans (by6.mono hW.1.size), fun _ => by rw [ly, List.length_drop]; have := unhide HBL; omega, fun h => upd_self _ _⟩
        unfold vrpz21
        split <;> first | rfl | (rw [hL] at hj; cases hj) | (rw [hW.2.2 hj] at hL; cases hL)
      · intro c L W hW hL _ h6
        refine ⟨c, W, fun _ _ => rfl, s_cat _ _ (BK.take 64) c (by rw [List.length_take, hW.2.1 h6]; omega), hW.1, fun _ => hW.2.1 h6, fun _ => ?_⟩
        rw [upd_ne (by decide)]
        exact h6
      · intro c L W hW hL h7
        have h6 := hW.2.2 h7
        refine (parseHead_any (BK.take 64 ++ c) W).mono ?_
        rintro e w' ⟨rfl, b8⟩
        refine ⟨c, fun _ _ => rfl, by rw [unhide HPH c (hW.2.1 h6)]; rfl, hW.1.trans (b8.mono hW.1.size), ?_, ?_⟩
        · rw [upd_ne (by decide)]; exact hW.2.1
        · rw [upd_ne (by decide), upd_ne (by decide)]; exact hW.2.2
      · exact fun W => by simp [go_sem]
      · exact fun W => by simp [go_sem]
      · exact fun W => by simp [go_sem]
      · exact fun W => by simp [go_sem]
      · exact fun W => by simp [go_sem]
      intro c L W18 _ hW
      have HB18 := hide ((unhide HB17).trans (hW.1.mono (unhide HB17).size))
      clear hW HPH
      simp only [Act.put, List.setIfInBounds_toArray, List.set_cons_succ, List.set_cons_zero]
      have z1 : ((1 + (pg : Int)) == (1 + (pg : Int))) = true := by simp
      have z3 : ((8 + (pb : Int)) == (8 + (pb : Int))) = true := by simp
      skip
      go_wp2_with fail
      refine (unhide P3 _).mono ?_
      rintro e wa ⟨rfl, hwa⟩
      rw [hwa]
      clear hwa wa
      go_wp2
      go_ret
      exact ⟨by simp, unhide HB18⟩
    · rw [if_neg hp1] at hrt
      subst hrt
      have hp2 : ((pr : Int) == 1) = false := by rw [beq_eq_false_iff_ne]; exact hp1
      clear hp1
      go_enter Tryz.func4, Tryz.ntmps4
      go_wp2_with fail
      refine (unhide A1 _).mono ?_
      rintro e wa ⟨rfl, hwa⟩
      rw [hwa]
      clear hwa wa
      go_wp2_with fail
      refine (unhide A2 _).mono ?_
      rintro e wa ⟨rfl, hwa⟩
      rw [hwa]
      clear hwa wa A1 A2
      go_wp2_with fail
      refine (awake_any _).mono ?_
      rintro e w1 ⟨rfl, b1⟩
      have HB1 := hide b1
      clear b1
      go_wp2_with fail
      refine (unhide B1 _).mono ?_
      rintro e w2 ⟨rfl, b2⟩
      have HB2 := hide ((unhide HB1).trans (b2.mono (unhide HB1).size))
      clear b2 HB1
      go_wp2_with fail
      refine (unhide B2 _).mono ?_
      rintro e w3 ⟨rfl, b3⟩
      have HB3 := hide ((unhide HB2).trans (b3.mono (unhide HB2).size))
      clear b3 HB2
      go_wp2_with fail
      refine (unhide P1 _).mono ?_
      rintro e wa ⟨rfl, hwa⟩
      rw [hwa]
      clear hwa wa
      go_wp2_with fail
      refine (unhide P2 _).mono ?_
      rintro e wa ⟨rfl, hwa⟩
      rw [hwa]
      clear hwa wa
      go_wp2_with fail
      refine (unhide NT _).mono ?_
      rintro e w4 ⟨rfl, b4⟩
      have HB4 := hide ((unhide HB3).trans (b4.mono (unhide HB3).size))
      clear b4 HB3
      have sl := sliceTo16 n na (by have := unhide HNL; omega)
      have hcat : ¬ 9223372036854775807 < n.length + na.length := by have := unhide HNL; have := unhide HN2; omega
      go_wp2_with fail
      refine (unhide P3 _).mono ?_
      rintro e wa ⟨rfl, hwa⟩
      rw [hwa]
      clear hwa wa sl hcat
      go_wp2_with fail
      refine (unhide C1 _).mono ?_
      rintro e w5 ⟨rfl, b5⟩
      have HB5 := hide ((unhide HB4).trans (b5.mono (unhide HB4).size))
      clear b5 HB4
      go_wp2_with fail
      refine (unhide P3 _).mono ?_
      rintro e wa ⟨rfl, hwa⟩
      rw [hwa]
      clear hwa wa
      go_wp2_with fail
      refine (unhide C2 _).mono ?_
      rintro e w6 ⟨rfl, b6⟩
      have HB6 := hide ((unhide HB5).trans (b6.mono (unhide HB5).size))
      clear b6 HB5 C1 C2
      go_wp2_with fail
      refine (heads_any s _).mono ?_
      rintro e w7 ⟨rfl, b7⟩
      have HB7 := hide ((unhide HB6).trans (b7.mono (unhide HB6).size))
      clear b7 HB6
      go_wp2_with fail
      refine (heads_any BK _).mono ?_
      rintro e w8 ⟨rfl, b8⟩
      have HB8 := hide ((unhide HB7).trans (b8.mono (unhide HB7).size))
      clear b8 HB7
      go_wp2_with fail
      refine (unhide BN _).mono ?_
      rintro e w9 ⟨Y1, rfl, ly1, b9⟩
      have HB9 := hide ((unhide HB8).trans (b9.mono (unhide HB8).size))
      clear b9 HB8 ly1
      go_wp2_with fail
      refine (heads_any Y1 _).mono ?_
      rintro e w10 ⟨rfl, b10⟩
      have HB10 := hide ((unhide HB9).trans (b10.mono (unhide HB9).size))
      clear b10 HB9
      go_wp2_with fail
      refine (unhide BN _).mono ?_
      rintro e w11 ⟨Y2, rfl, ly2, b11⟩
      have HB11 := hide ((unhide HB10).trans (b11.mono (unhide HB10).size))
      have HY2 := hide ly2
      clear b11 HB10 ly2
      go_wp2_with fail
      refine (crowned_any Y2 _ (by have := unhide HY2; have := unhide HBL; omega) (by have := unhide HY2; have := unhide HBL; omega)).mono ?_
      rintro e w12 ⟨rfl, b12⟩
      have HB12 := hide ((unhide HB11).trans (b12.mono (unhide HB11).size))
      clear b12 HB11
      generalize crw Y2 = K2 at *
      go_wp2_with fail
      refine (heads_any K2 _).mono ?_
      rintro e w13 ⟨rfl, b13⟩
      have HB13 := hide ((unhide HB12).trans (b13.mono (unhide HB12).size))
      clear b13 HB12
      go_wp2_with fail
      refine (unhide P4 _).mono ?_
      rintro e wa ⟨rfl, hwa⟩
      rw [hwa]
      clear hwa wa
      go_wp2_with fail
      refine (unhide BN4 _).mono ?_
      rintro e w14 ⟨Y3, rfl, ly3, b14⟩
      have HB14 := hide ((unhide HB13).trans (b14.mono (unhide HB13).size))
      have HY3 := hide ly3
      clear b14 HB13 ly3
      go_wp2_with fail
      refine (crowned_any Y3 _ (by have := unhide HY3; have := unhide HBL; omega) (by have := unhide HY3; have := unhide HBL; omega)).mono ?_
      rintro e w15 ⟨rfl, b15⟩
      have HB15 := hide ((unhide HB14).trans (b15.mono (unhide HB14).size))
      clear b15 HB14
      generalize crw Y3 = K3 at *
      go_wp2_with fail
      refine (heads_any K3 _).mono ?_
      rintro e w16 ⟨rfl, b16⟩
      have HB16 := hide ((unhide HB15).trans (b16.mono (unhide HB15).size))
      clear b16 HB15
      go_wp2_with fail
      refine (unhide P5 _).mono ?_
      rintro e wa ⟨rfl, hwa⟩
      rw [hwa]
      clear hwa wa
      have sl := unhide HSL
      go_wp2_with fail
      refine (heads_any _ _).mono ?_
      rintro e w17 ⟨rfl, b17⟩
      have HB17 := hide ((unhide HB16).trans (b17.mono (unhide HB16).size))
      clear b17 HB16 sl
      go_upto_region 21 with fail
      have HPH := hide (fun (Z : Bs) (hZ : Z.length = 448) => (show phr (BK.take 64 ++ Z) = (⟨1 + (pg : Int), (pr : Int), 8 + (pb : Int), (n ++ na).take 16⟩, 0) by rw [unhide HTK, unhide HSEC Z hZ, unhide HHD]))
      generalize (n ++ na).take 16 = m16 at *
      refine rpz21 BK m16 at_ by_ (1 + (pg : Int)) (pr : Int) (8 + (pb : Int)) 0 (by kernel_rfl) (by kernel_rfl) (by kernel_rfl) _ _ (by show 162 ≤ Array.size _; simp) rfl rfl rfl (fun c L W => Below w17.heap.size w17 W ∧ (L 6 = true → c.length = 448) ∧ (L 7 = true → L 6 = true)) ⟨[], (Below.refl _ _).drew, (fun q => nomatch q), (fun q => nomatch q)⟩ ?_ ?_ ?_ ?_ ?_ ?_ ?_ ?_ ?_ ?_ ?_ ?_
      · intro i hi c L W hW
        simp only [List.mem_cons, List.not_mem_nil, or_false, not_or] at hi
        rw [upd_ne (Ne.symm hi.1), upd_ne (Ne.symm hi.2.1)]
        exact hW
      · exact fun W => s_to BK 64 (by have := unhide HBL; omega)
      · exact fun W => s_from BK 64 (by have := unhide HBL; omega)
      · intro c L W hW hL _ _ _
        refine (unhide BN6 W).mono ?_
        rintro e w' ⟨Y, rfl, ly, by6⟩
        refine ⟨Y, fun j hj => ?_, rfl, hW.1.trans (by6.mono hW.1.size), fun _ => by rw [ly, List.length_drop]; have := unhide HBL; omega, fun h => upd_self _ _⟩
        unfold vrpz21
        split <;> first | rfl | (rw [hL] at hj; cases hj) | (rw [hW.2.2 hj] at hL; cases hL)
      · intro c L W hW hL _ h6
        refine ⟨c, W, fun _ _ => rfl, s_cat _ _ (BK.take 64) c (by rw [List.length_take, hW.2.1 h6]; omega), hW.1, fun _ => hW.2.1 h6, fun _ => ?_⟩
        rw [upd_ne (by decide)]
        exact h6
      · intro c L W hW hL h7
        have h6 := hW.2.2 h7
        refine (parseHead_any (BK.take 64 ++ c) W).mono ?_
        rintro e w' ⟨rfl, b8⟩
        refine ⟨c, fun _ _ => rfl, by rw [unhide HPH c (hW.2.1 h6)]; rfl, hW.1.trans (b8.mono hW.1.size), ?_, ?_⟩
        · rw [upd_ne (by decide)]; exact hW.2.1
        · rw [upd_ne (by decide), upd_ne (by decide)]; exact hW.2.2
      · exact fun W => by simp [go_sem]
      · exact fun W => by simp [go_sem]
      · exact fun W => by simp [go_sem]
      · exact fun W => by simp [go_sem]
      · exact fun W => by simp [go_sem]
      intro c L W18 _ hW
      have HB18 := hide ((unhide HB17).trans (hW.1.mono (unhide HB17).size))
      clear hW HPH
      simp only [Act.put, List.setIfInBounds_toArray, List.set_cons_succ, List.set_cons_zero]
      have z1 : ((1 + (pg : Int)) == (1 + (pg : Int))) = true := by simp
      have z3 : ((8 + (pb : Int)) == (8 + (pb : Int))) = true := by simp
      have z2 : ((pr : Int) == (pr : Int)) = true := by simp
      go_wp2_with fail
      refine (unhide P3 _).mono ?_
      rintro e wa ⟨rfl, hwa⟩
      rw [hwa]
      clear hwa wa
      go_wp2
      go_ret
      exact ⟨by simp, unhide HB18⟩
end Go.Proofs.YtjopnhhdemfniaaGreatDoor
