import Derived.Test.YteejnfkbjdpccaaLcb
namespace Go.Proofs.Yteejnfkbjdpccaa
open Go.RowKit Fl
set_option maxHeartbeats 4000000
set_option maxRecDepth 8000
abbrev i64 (n : Int) : Prop := -9223372036854775808 ≤ n ∧ n ≤ 9223372036854775807
theorem limitAlone_any (rate part burst whose : Int) (hr : i64 rate) (hp : i64 part) (hb : i64 burst) (hw : i64 whose) (a : Option Addr) (n cap : Nat) (l : List As) (w : World) (hl : Aks w a n l) (hn : n ≤ 140737488351232) :
    Calls Try.prog 5 #[I rate, I part, I burst, .slice a n cap, I whose] w fun e w' => e = .returned (.bool true) ∧ Below w.heap.size w w' := by
  have HP := hide hl
  have HN := hide hl.1
  clear hl
  by_cases hbig : n ≤ 2147483
  · go_enter Try.func5, Try.ntmps5
    go_wp2_with fail
    refine (awake_any _).mono ?_
    rintro e w1 ⟨rfl, b1⟩
    have B1 := hide b1
    clear b1
    go_wp2_with fail
    refine (near_any rate part _ hr.1 hr.2 hp.1 hp.2).mono ?_
    rintro e w2 ⟨rfl, rfl⟩
    go_wp2_with fail
    refine (near_any burst part _ hb.1 hb.2 hp.1 hp.2).mono ?_
    rintro e w3 ⟨rfl, rfl⟩
    obtain ⟨hadd, hb0, hb1⟩ := burst_ok burst part
    have hrl := (nv_some rate part).2
    have HADD := fun W => run_float_arith (P := Try.prog) W .add 37 .f32 _ _ _ hadd
    go_wp2_with fail
    refine (new_law (nv rate part) (ad (nv burst part) 1065353216) (by omega) hb0 hb1 _).mono ?_
    rintro e w4 ⟨rfl, l4, b4⟩
    have HL4 := hide l4
    have HB4 := hide ((unhide B1).trans (b4.mono (unhide B1).size))
    have HPB := hide (unhide B1).size
    obtain ⟨p, hpp⟩ : ∃ p, w3.heap.size = p := ⟨_, rfl⟩
    rw [hpp] at HL4 HPB ⊢
    clear l4 b4 hpp
    go_wp2_with fail
    refine (near_any rate part _ hr.1 hr.2 hp.1 hp.2).mono ?_
    rintro e w5 ⟨rfl, rfl⟩
    go_wp2_with fail
    refine (near_any burst part _ hb.1 hb.2 hp.1 hp.2).mono ?_
    rintro e w6 ⟨rfl, rfl⟩
    go_wp2_with fail
    refine (new_law (nv rate part) (ad (nv burst part) 1065353216) (by omega) hb0 hb1 _).mono ?_
    rintro e w7 ⟨rfl, l7, b7⟩
    have HL7 := hide l7
    have HL4b := hide ((unhide HL4).below b7)
    have HQP := hide (show w6.heap.size ≠ p from fun e => by have := (unhide HL4).lt; omega)
    have HB7 := hide ((unhide HB4).trans (b7.mono (unhide HB4).size))
    have HQB := hide (unhide HB4).size
    obtain ⟨q, hqq⟩ : ∃ q, w6.heap.size = q := ⟨_, rfl⟩
    rw [hqq] at HL7 HQP HQB ⊢
    clear l7 b7 hqq HL4 HB4 B1
    have hk0 := pkv_lo whose 16 (by decide)
    have hk1 := pkv_hi whose 16 (by decide)
    have HKW := hide (fun W => pick_any whose 16 W hw.1 hw.2 (by decide) (by decide))
    have HSN := hide (n16_mem hk0 hk1)
    have HT0 : Hid (Tw w.heap.size w p q (nmv (pkv whose 16)) ⟨nv rate part, ad (nv burst part) 1065353216, []⟩ ⟨nv rate part, ad (nv burst part) 1065353216, []⟩ w7) := hide ⟨unhide HL4b, unhide HL7, unhide HQP, unhide HPB, unhide HQB, ⟨rfl, rfl, rfl, ⟨List.nodup_nil, fun k hk => (by cases hk)⟩, fun k hk => (by cases hk), Nat.zero_le _⟩, ⟨Or.inl (by show nv rate part < _; omega), hb0, hb1, Nat.zero_le _, fun k hk => by cases hk⟩, ⟨Or.inl (by show nv rate part < _; omega), hb0, hb1, Nat.zero_le _, fun k hk => by cases hk⟩, unhide HB7⟩
    clear HADD hadd hrl hb0 hb1 HL7 HL4b HPB HQB HB7
    generalize pkv whose 16 = K at *
    go_wp2
    go_loopw [16, 17] (fun m i wr => ∃ (k : Nat) (now : Int) (x y : Li), m = .int .i64 now ∧ i = .int .i64 k ∧ k ≤ n ∧ -20 * (k : Int) ≤ now ∧ now ≤ 980 * (k : Int) ∧ Tw w.heap.size w p q (nmv K) x y wr) (fun _ i _ => n - (Go.RowKit.intOf i).toNat)
    case atStart => exact ⟨0, 0, _, _, rfl, rfl, Nat.zero_le _, by omega, by omega, unhide HT0⟩
    case round =>
      obtain ⟨k, now, x, y, rfl, rfl, hk, hn0, hn1, ht⟩ := hrel
      have HT := hide ht
      by_cases hlt : k < n
      · obtain ⟨g, o, rfl, hpl, hc0, hc1, hc2, hc3⟩ := ((unhide HP).below ht.b).at hlt
        obtain ⟨hq0, hq1, hq2, hq3⟩ := (unhide HP).wfa hlt
        have hlt' : (k : Int) < (n : Int) := by omega
        generalize l.getD k as0 = qq at *
        obtain ⟨q0, q1, q2, q3⟩ := qq
        simp only at hc0 hc1 hc2 hc3 hq0 hq1 hq2 hq3
        clear ht HT0
        have HTA := hide ((unhide HT).below ((Below.refl _ _).alloc (Nat.le_refl _) (.cells #[I q0, I q1, I q2, I q3] 50)))
        have z0 := cell_of_row (wr.alloc (.cells #[I q0, I q1, I q2, I q3] 50)) wr.heap.size 0 _ 50 (0, 0) (heap_alloc_new _ _)
        have z1 := cell_of_row (wr.alloc (.cells #[I q0, I q1, I q2, I q3] 50)) wr.heap.size 1 _ 50 (0, 0) (heap_alloc_new _ _)
        have z2 := cell_of_row (wr.alloc (.cells #[I q0, I q1, I q2, I q3] 50)) wr.heap.size 2 _ 50 (0, 0) (heap_alloc_new _ _)
        have z3 := cell_of_row (wr.alloc (.cells #[I q0, I q1, I q2, I q3] 50)) wr.heap.size 3 _ 50 (0, 0) (heap_alloc_new _ _)
        have hpz : p < wr.heap.size := (unhide HT).lx.lt
        have hzl : wr.heap.size < (wr.alloc (.cells #[I q0, I q1, I q2, I q3] 50)).heap.size := by simp
        go_wp2_with fail
        refine (pick_any q3 1000 _ hq3.1 hq3.2 (by decide) (by decide)).mono ?_
        rintro e w8 ⟨rfl, rfl⟩
        have hl0 := pkv_lo q3 1000 (by decide)
        have hl1 := pkv_hi q3 1000 (by decide)
        generalize pkv q3 1000 = D at *
        generalize wr.alloc (.cells #[I q0, I q1, I q2, I q3] 50) = W1 at *
        generalize wr.heap.size = Z at *
        go_wp2_with fail
        refine (pick_any q0 16 _ hq0.1 hq0.2 (by decide) (by decide)).mono ?_
        rintro e w9 ⟨rfl, rfl⟩
        have hm0 := pkv_lo q0 16 (by decide)
        have hm1 := pkv_hi q0 16 (by decide)
        have HMN := hide (n16_mem hm0 hm1)
        have HNI := hide (fun e => nmv_inj hk0 hk1 hm0 hm1 e)
        have HNS := hide (show S (if 20 ≤ pkv q0 16 then [] else nmv (pkv (pkv q0 16) 20)) = S (nmv (pkv q0 16)) by rw [if_neg (by omega), pkv_small hm0 (by omega)])
        have HNM := hide (fun W => name_any (pkv q0 16) [] W (by omega) (by omega))
        generalize pkv q0 16 = M at *
        go_wp2_with fail
        refine (unhide HNM _).mono ?_
        rintro e w10 ⟨rfl, b10⟩
        rw [unhide HNS]
        have HTB := hide ((unhide HTA).below b10)
        have y1 := (b10.cell hzl).trans z1
        have y2 := (b10.cell hzl).trans z2
        have hzy := Nat.lt_of_lt_of_le hzl b10.size
        clear b10 z0 z1 z2 z3 HTA HNS HNM hc0 hc1 hc2 hc3 hpl hzl
        go_wp2_with fail
        refine (near_any q1 q2 _ hq1.1 hq1.2 hq2.1 hq2.2).mono ?_
        rintro e w11 ⟨rfl, rfl⟩
        by_cases hMK : K = M
        · subst hMK
          go_wp2_with fail
          refine ((unhide HTB).takeS (unhide HSN) q1 q2 (now + D - 20)).mono ?_
          rintro e w12 ⟨rfl, t12, o12⟩
          have HX := hide t12
          have x1 := (World.cell?_of_block (o12.block Z hzy (by omega))).trans y1
          have x2 := (World.cell?_of_block (o12.block Z hzy (by omega))).trans y2
          clear t12 o12 y1 y2 HTB
          go_wp2_with fail
          refine (unhide HKW _).mono ?_
          rintro e w13 ⟨rfl, rfl⟩
          go_wp2_with fail
          refine (near_any q1 q2 _ hq1.1 hq1.2 hq2.1 hq2.2).mono ?_
          rintro e w14 ⟨rfl, rfl⟩
          go_wp2_with fail
          refine ((unhide HX).take (unhide HSN)).mono ?_
          rintro e w15 ⟨rfl, t15⟩
          have HY := hide t15
          clear t15 HX x1 x2
          generalize x.told (nmv K) (nv q1 q2) (now + D - 20) = tl at *
          generalize x.took (nmv K) (nv q1 q2) (now + D - 20) = x' at *
          generalize y.took (nmv K) (nv q1 q2) (now + D - 20) = y' at *
          go_wp2_with fail
          refine ((unhide HY).lev (now + D - 20 + 9)).mono ?_
          rintro e w16 ⟨rfl, t16⟩
          have HZ := hide t16
          clear t16 HY
          go_wp2_with fail
          refine ((unhide HZ).lev2 (now + D - 20 + 9)).mono ?_
          rintro e w17 ⟨rfl, t17⟩
          have HV := hide t17
          have hnq := neq_self (x := x'.level (nmv K) (now + D - 20 + 9)) (Nat.lt_of_le_of_lt (level_le _ _ _) t17.xo.b1)
          clear t17 HZ
          generalize x'.level (nmv K) (now + D - 20 + 9) = lv at *
          go_wp2_with fail
          refine (unhide HV).nms2.mono ?_
          rintro e w18 ⟨a1, n1, cap1, rfl, hn1', t18⟩
          have HU := hide t18
          have hni1 : (n1 : Int) ≤ 1 := by omega
          clear t18 HV hnq
          go_wp2_with fail
          refine (unhide HU).nms.mono ?_
          rintro e w19 ⟨a2, n2, cap2, rfl, hn2', t19⟩
          have HT2 := hide t19
          have hni2 : (n2 : Int) ≤ 16 := by omega
          clear t19 HU
          go_wp2
          go_roundw
          case rel => exact ⟨k + 1, now + D - 20, x', y', rfl, by go_num, by omega, by omega, by omega, unhide HT2⟩
          case measure => simp [intOf]; omega
        · have hne : nmv K ≠ nmv M := fun e => hMK (unhide HNI e)
          have hMKb : (M == K) = false := by simpa using fun e => hMK e.symm
          have hMKc : (M != K) = true := by simpa using fun e => hMK e.symm
          go_wp2_with fail
          refine ((unhide HTB).takeO (unhide HMN) hne q1 q2 (now + D - 20)).mono ?_
          rintro e w12 ⟨rfl, t12⟩
          have HX := hide t12
          clear t12 y1 y2 HTB
          generalize x.told (nmv M) (nv q1 q2) (now + D - 20) = tl at *
          generalize x.took (nmv M) (nv q1 q2) (now + D - 20) = x' at *
          go_wp2_with fail
          refine (unhide HKW _).mono ?_
          rintro e w13 ⟨rfl, rfl⟩
          go_wp2
          go_roundw
          case rel => exact ⟨k + 1, now + D - 20, x', y, rfl, by go_num, by omega, by omega, by omega, unhide HX⟩
          case measure => simp [intOf]; omega
      · have hlt' : ¬ (k : Int) < (n : Int) := by omega
        have HBW := hide ht.b
        clear ht
        go_wp2
        go_ret
        exact ⟨rfl, unhide HBW⟩
  · have hbg : (2147483647 : Int) < 1000 * min (n : Int) 2147483647 := by omega
    go_enter Try.func5, Try.ntmps5
    go_wp2
    go_ret
    exact ⟨rfl, Below.refl _ _⟩
end Go.Proofs.Yteejnfkbjdpccaa
