import Derived.Test.YteejnfkbjdpccaaLpe
import Derived.Test.YteejnfkbjdpccaaLcc
namespace Go.Proofs.Yteejnfkbjdpccaa
open Go.RowKit Fl
set_option maxHeartbeats 4000000
set_option maxRecDepth 8000
/-- One limiter. -/
structure To (B : Nat) (w0 : World) (p : Nat) (x : Li) (w : World) : Prop where
  lx : LAt 57 65 p x w
  pB : B ≤ p
  xo : x.Ok
  b : Below B w0 w
theorem To.sz {B : Nat} {w0 : World} {p : Nat} {x : Li} {w : World} (h : To B w0 p x w) : B ≤ w.heap.size := Nat.le_trans h.pB (Nat.le_of_lt h.lx.lt)
theorem To.below {B : Nat} {w0 : World} {p : Nat} {x : Li} {w w' : World} (h : To B w0 p x w) (hb : Below w.heap.size w w') : To B w0 p x w' :=
  ⟨h.lx.below hb, h.pB, h.xo, h.b.trans (hb.mono h.sz)⟩
theorem To.take {B : Nat} {w0 : World} {p : Nat} {x : Li} {w : World} (h : To B w0 p x w) {s : Bs} (hs : s.length ≤ 281474976710656) {c : Nat} (hc : c < 2139095040) (now : Int) :
    Calls Try.prog 13 #[ptr p, S s, fl c, I now] w fun e w' => e = .returned (.tuple #[I (x.told s c now).1, I (x.told s c now).2]) ∧ To B w0 p (x.took s c now) w' := by
  refine (take_any h.lx h.xo s hs c (fun _ => Or.inl hc) now).mono ?_
  rintro e w' ⟨rfl, h2, h3⟩
  exact ⟨rfl, h2, h.pB, took_ok h.xo _ _ _, h3.below h.b h.sz (fun k e => by have := h.pB; omega)⟩
theorem To.lev {B : Nat} {w0 : World} {p : Nat} {x : Li} {w : World} (h : To B w0 p x w) (s : Bs) (now : Int) :
    Calls Try.prog 15 #[ptr p, S s, I now] w fun e w' => e = .returned (fl (x.level s now)) ∧ To B w0 p x w' := by
  refine (level_f h.lx h.xo s now).mono ?_
  rintro e w' ⟨rfl, b⟩
  exact ⟨rfl, h.below b⟩
theorem nmv_len (c : Int) : (nmv c).length ≤ 281474976710656 := by simp [nmv]
theorem lss_zero {x : Nat} (h : x < 2139095040) : (FloatKind.f32.format.order x 0 == some .lt) = false := by
  rw [order_lss h (Or.inl (by decide))]
  simp [show nz 0 = 0 by decide]
theorem gtr_no {x b : Nat} (h : x ≤ b) (hb : b < 2139095040) : (FloatKind.f32.format.order x b == some .gt) = false := by
  have ho : FloatKind.f32.format.order x b = some (compare x b) := ord_pos (by omega) (by omega)
  rw [ho]
  rcases Nat.lt_or_ge x b with q | q
  · rw [Nat.compare_eq_lt.2 q]; rfl
  · rw [Nat.compare_eq_eq.2 (by omega)]; rfl
theorem geq_yes {x c : Nat} (h : c ≤ x) (hx : x < 2139095040) : (FloatKind.f32.format.order x c == some .gt || FloatKind.f32.format.order x c == some .eq) = true := by
  rw [order_geq hx (Or.inl (by omega)), nz_pos (by omega)]
  simpa using h
theorem geq_no {x c : Nat} (h : x < c) (hc : c < 2139095040) : (FloatKind.f32.format.order x c == some .gt || FloatKind.f32.format.order x c == some .eq) = false := by
  rw [order_geq (by omega) (Or.inl hc), nz_pos (by omega)]
  simpa using h
theorem lss_no {x c : Nat} (h : c ≤ x) (hx : x < 2139095040) : (FloatKind.f32.format.order x c == some .lt) = false := by
  rw [order_lss hx (Or.inl (by omega)), nz_pos (by omega)]
  simpa using h
theorem limitWaits_any (rate part burst sooner : Int) (hr : i64 rate) (hp : i64 part) (hb : i64 burst) (hw : i64 sooner) (a : Option Addr) (n cap : Nat) (l : List As) (w : World) (hl : Aks w a n l) (hn : n ≤ 140737488351232) :
    Calls Try.prog 4 #[I rate, I part, I burst, .slice a n cap, I sooner] w fun e w' => e = .returned (.bool true) ∧ Below w.heap.size w w' := by
  have HP := hide hl
  have HN := hide hl.1
  clear hl
  by_cases hbig : n ≤ 2147483
  · go_enter Try.func4, Try.ntmps4
    go_wp2_with fail
    refine (awake_any _).mono ?_
    rintro e w1 ⟨rfl, b1⟩
    have B1 := hide b1
    clear b1
    go_wp2_with fail
    refine (near_any burst part _ hb.1 hb.2 hp.1 hp.2).mono ?_
    rintro e w3 ⟨rfl, rfl⟩
    obtain ⟨hadd, hb0, hb1⟩ := burst_ok burst part
    have hrl := (nv_some rate part).2
    have HADD := fun W => run_float_arith (P := Try.prog) W .add 37 .f32 _ _ _ hadd
    go_wp2_with fail
    refine (near_any rate part _ hr.1 hr.2 hp.1 hp.2).mono ?_
    rintro e w2 ⟨rfl, rfl⟩
    go_wp2_with fail
    refine (new_law (nv rate part) (ad (nv burst part) 1065353216) (by omega) hb0 hb1 _).mono ?_
    rintro e w4 ⟨rfl, l4, b4⟩
    have HL4 := hide l4
    have HB4 := hide ((unhide B1).trans (b4.mono (unhide B1).size))
    have HPB := hide (unhide B1).size
    have HT0 : Hid (To w.heap.size w w2.heap.size ⟨nv rate part, ad (nv burst part) 1065353216, []⟩ w4) := hide ⟨l4, (unhide B1).size, ⟨Or.inl (by show nv rate part < _; omega), hb0, hb1, Nat.zero_le _, fun k hk => by cases hk⟩, unhide HB4⟩
    obtain ⟨p, hpp⟩ : ∃ p, w2.heap.size = p := ⟨_, rfl⟩
    rw [hpp] at HT0 ⊢
    clear l4 b4 hpp HL4 HB4 HPB B1 HADD hadd
    have hb1' := hb1
    generalize ad (nv burst part) 1065353216 = b at *
    generalize nv rate part = r at *
    generalize nv burst part = bb at *
    clear hb0
    go_wp2
    go_loopw [16, 17] (fun m i wr => ∃ (k : Nat) (now : Int) (x : Li), m = .int .i64 now ∧ i = .int .i64 k ∧ k ≤ n ∧ 0 ≤ now ∧ now ≤ 1099511627776 ∧ Pst x now ∧ x.b = b ∧ To w.heap.size w p x wr) (fun _ i _ => n - (Go.RowKit.intOf i).toNat)
    case atStart => exact ⟨0, 0, _, rfl, rfl, Nat.zero_le _, by omega, by omega, (fun k hk => (by cases hk)), rfl, unhide HT0⟩
    case round =>
      obtain ⟨k, now, x, rfl, rfl, hk, hn0, hn1, hps, hxb, ht⟩ := hrel
      have HT := hide ht
      by_cases hlt : k < n
      · obtain ⟨g, o, rfl, hpl, hc0, hc1, hc2, hc3⟩ := ((unhide HP).below ht.b).at hlt
        obtain ⟨hq0, hq1, hq2, hq3⟩ := (unhide HP).wfa hlt
        have hlt' : (k : Int) < (n : Int) := by omega
        generalize l.getD k as0 = qq at *
        obtain ⟨q0, q1, q2, q3⟩ := qq
        simp only at hc0 hc1 hc2 hc3 hq0 hq1 hq2 hq3
        clear ht HT0
        have HTA := hide ((unhide HT).below ((Below.refl _ _).alloc (Nat.le_refl _) (.cells #[I q0, I q1, I q2, I q3] 50)))
        have z0 := cell_of_row (wr.alloc (.cells #[I q0, I q1, I q2, I q3] 50)) wr.heap.size 0 _ 50 (0, 0) (heap_alloc_new _ _)
        have z1 := cell_of_row (wr.alloc (.cells #[I q0, I q1, I q2, I q3] 50)) wr.heap.size 1 _ 50 (0, 0) (heap_alloc_new _ _)
        have z2 := cell_of_row (wr.alloc (.cells #[I q0, I q1, I q2, I q3] 50)) wr.heap.size 2 _ 50 (0, 0) (heap_alloc_new _ _)
        have z3 := cell_of_row (wr.alloc (.cells #[I q0, I q1, I q2, I q3] 50)) wr.heap.size 3 _ 50 (0, 0) (heap_alloc_new _ _)
        have hzl : wr.heap.size < (wr.alloc (.cells #[I q0, I q1, I q2, I q3] 50)).heap.size := by simp
        go_wp2_with fail
        refine (pick_any q3 1000 _ hq3.1 hq3.2 (by decide) (by decide)).mono ?_
        rintro e w8 ⟨rfl, rfl⟩
        have hl0 := pkv_lo q3 1000 (by decide)
        have hl1 := pkv_hi q3 1000 (by decide)
        generalize pkv q3 1000 = D at *
        generalize wr.alloc (.cells #[I q0, I q1, I q2, I q3] 50) = W1 at *
        generalize wr.heap.size = Z at *
        have HPS := hide (hps.mono (n2 := now + D) (by omega))
        have HNW := hide (show now + D = now + D from rfl)
        clear hps
        by_cases hover : now + D ≤ 549755813888
        · go_wp2_with fail
          refine (pick_any q0 20 _ hq0.1 hq0.2 (by decide) (by decide)).mono ?_
          rintro e w9 ⟨rfl, rfl⟩
          have hm0 := pkv_lo q0 20 (by decide)
          have hm1 := pkv_hi q0 20 (by decide)
          have HOK := hide (nok_nmv hm0 hm1)
          have HNS := hide (show S (if 20 ≤ pkv q0 20 then [] else nmv (pkv (pkv q0 20) 20)) = S (nmv (pkv q0 20)) by rw [if_neg (by omega), pkv_small hm0 (by omega)])
          have HNM := hide (fun W => name_any (pkv q0 20) [] W (by omega) (by omega))
          have HNL := hide (nmv_len (pkv q0 20))
          generalize pkv q0 20 = M at *
          go_wp2_with fail
          refine (unhide HNM _).mono ?_
          rintro e w10 ⟨rfl, b10⟩
          rw [unhide HNS]
          have HTB := hide ((unhide HTA).below b10)
          have y1 := (b10.cell hzl).trans z1
          have y2 := (b10.cell hzl).trans z2
          clear b10 z0 z1 z2 z3 HTA HNS HNM hc0 hc1 hc2 hc3 hpl hzl
          go_wp2_with fail
          refine (near_any q1 q2 _ hq1.1 hq1.2 hq2.1 hq2.2).mono ?_
          rintro e w11 ⟨rfl, rfl⟩
          have hcl : nv q1 q2 < 2139095040 := by have := (nv_some q1 q2).2; omega
          generalize nv q1 q2 = c at *
          clear y1 y2
          go_wp2_with fail
          refine ((unhide HTB).lev (nmv M) (now + D)).mono ?_
          rintro e w12 ⟨rfl, t12⟩
          have HTC := hide t12
          have hlv := level_le x (nmv M) (now + D)
          rw [hxb] at hlv
          have f1 := lss_zero (x := x.level (nmv M) (now + D)) (by omega)
          have f2 := gtr_no hlv hb1'
          clear t12 HTB
          have hlv2 : x.level (nmv M) (now + D) < 2139095040 := by omega
          have HNQ := hide (neq_self hlv2)
          have hx := (unhide HTC).xo
          by_cases hin : c ≤ x.level (nmv M) (now + D)
          · obtain ⟨e1, e2, e3, e4, e5⟩ := let_in hx (show 0 ≤ now + D by omega) (by omega) (unhide HPS) (unhide HOK) hcl hin
            have HSB := fun W => run_subF (P := Try.prog) 37 hlv2 (Or.inl hcl) (by rw [nz_pos (by omega)]; exact hin) W
            have hsbl := sb_le c hlv2
            have HNS := hide (neq_self (x := sb (x.level (nmv M) (now + D)) c) (by omega))
            have fg := geq_yes hin hlv2
            have HE1 := hide e1
            have HE2 := hide e2
            have HE3 := hide e3
            have HE5 := hide (e5.trans hxb)
            have HTK := hide ((unhide HTC).take (unhide HNL) hcl (now + D))
            rw [e1] at HTK
            have HTL := hide (fun (W : World) (h : To w.heap.size w p (x.took (nmv M) c (now + D)) W) => h.lev (nmv M) (now + D))
            rw [e2] at HTL
            clear e1 e2 e3 e4 e5 hin HE1 HE2 hx hsbl hlv hlv2
            generalize x.level (nmv M) (now + D) = lv at *
            generalize x.took (nmv M) c (now + D) = x' at *
            generalize sb lv c = SB at *
            go_wp2_with fail
            refine (unhide HTK).mono ?_
            rintro e w13 ⟨rfl, t13⟩
            have HT13 := hide t13
            clear t13 HTC f1 f2
            go_wp2_with fail
            refine (unhide HTL _ (unhide HT13)).mono ?_
            rintro e w14 ⟨rfl, t14⟩
            have HT14 := hide t14
            have fns := unhide HNS
            clear t14 HT13 HTK HTL
            go_wp2
            go_roundw
            case rel => exact ⟨k + 1, now + D, x', rfl, by go_num, by omega, by omega, by omega, unhide HE3, unhide HE5, unhide HT14⟩
            case measure => simp [intOf]; omega
          · obtain ⟨W, e1, e2, w1, w2, w3, w4, w5⟩ := let_wait (show 0 ≤ now + D by omega) hover hx (unhide HPS) (unhide HOK) hcl (by omega)
            have fg := geq_no (x := x.level (nmv M) (now + D)) (c := c) (by omega) hcl
            have HTK := hide ((unhide HTC).take (unhide HNL) hcl (now + D))
            rw [e1, e2] at HTK
            have HLV := hide (fun (t : Int) (W : World) (h : To w.heap.size w p x W) => h.lev (nmv M) t)
            go_wp2_with fail
            refine (unhide HTK).mono ?_
            rintro e w13 ⟨rfl, t13⟩
            have HT13 := hide t13
            clear t13 HTC f1 f2 HTK
            have w1' : (1 : Int) ≤ (W : Int) := by omega
            have w2' : (W : Int) ≤ 1099511627776 := by omega
            go_wp2_with fail
            refine (unhide HLV _ _ (unhide HT13)).mono ?_
            rintro e w14 ⟨rfl, t14⟩
            have HT14 := hide t14
            have fnq := unhide HNQ
            clear t14 HT13
            by_cases hW : W = 1099511627776
            · have fw := geq_no (x := x.level (nmv M) 1099511627776) (c := c) (w3 hW) hcl
              subst hW
              clear w3 w4 w5 e1 e2
              go_wp2_with fail
              refine (unhide HLV _ _ (unhide HT14)).mono ?_
              rintro e w15 ⟨rfl, t15⟩
              have HT15 := hide t15
              clear t15 HT14 fnq
              go_wp2
              go_roundw
              case rel => exact ⟨k + 1, now + D, x, rfl, by go_num, by omega, by omega, by omega, unhide HPS, hxb, unhide HT15⟩
              case measure => simp [intOf]; omega
            · have hWi : ((W : Int) == 1099511627776) = false := by rw [beq_eq_false_iff_ne]; omega
              by_cases hend : now + D + (W : Int) ≤ 1099511627776
              · have hWlt : W < 1099511627776 := by omega
                obtain ⟨g1, g2, g3, g4, g5⟩ := let_in hx (show 0 ≤ now + D + (W : Int) by omega) hend ((unhide HPS).mono (by omega)) (unhide HOK) hcl (w5 hWlt hend)
                have HTK2 := hide (fun (W9 : World) (h : To w.heap.size w p x W9) => h.take (unhide HNL) hcl (now + D + (W : Int)))
                rw [g1] at HTK2
                have HP2 := hide g3
                have HB2 := hide (g5.trans hxb)
                have hbx := hx.b1
                have HLW := hide (lss_no (w5 hWlt hend) (Nat.lt_of_le_of_lt (level_le x (nmv M) (now + D + (W : Int))) hbx))
                have HL1 : Hid (1 < W → (FloatKind.f32.format.order (x.level (nmv M) (now + D + (W : Int) - 1)) c == some .gt || FloatKind.f32.format.order (x.level (nmv M) (now + D + (W : Int) - 1)) c == some .eq) = false) := hide (fun h1 => geq_no (by rw [show now + D + (W : Int) - 1 = now + D + ((W : Int) - 1) by omega]; exact w4 ((W : Int) - 1) (by omega) (by omega) (by omega)) hcl)
                have HL2 := hide (fun (e : Int) h1 h2 h3 => geq_no (w4 e h1 h2 h3) hcl)
                have HE0 := hide (pkv_lo sooner (W : Int) (by omega))
                have HE1 := hide (pkv_hi sooner (W : Int) (by omega))
                have HPK := hide (fun W9 => pick_any sooner (W : Int) W9 hw.1 hw.2 (by omega) (by omega))
                clear w3 w4 w5 e1 e2 g1 g2 g3 g4 g5 hbx
                generalize x.took (nmv M) c (now + D + (W : Int)) = x2 at *
                generalize pkv sooner (W : Int) = E at *
                go_wp2_with fail
                refine (unhide HPK _).mono ?_
                rintro e w15 ⟨rfl, rfl⟩
                have hE0 := unhide HE0
                have hE1 := unhide HE1
                by_cases hEW : 1 + E < (W : Int)
                · have HL1b := unhide HL1 (by omega)
                  have hL2 := unhide HL2 (1 + E) (by omega) hEW (by omega)
                  have hW1 : (1 : Int) < (W : Int) := by omega
                  clear HL1
                  have HL1 := hide HL1b
                  clear HL1b fnq
                  go_wp2_with fail
                  refine (unhide HLV _ _ (unhide HT14)).mono ?_
                  rintro e w16 ⟨rfl, t16⟩
                  have HT16 := hide t16
                  clear t16 HT14
                  go_wp2_with fail
                  refine (unhide HLV _ _ (unhide HT16)).mono ?_
                  rintro e w17 ⟨rfl, t17⟩
                  have HT17 := hide t17
                  have fl1 := unhide HL1
                  clear t17 HT16
                  go_wp2_with fail
                  refine (unhide HLV _ _ (unhide HT17)).mono ?_
                  rintro e w18 ⟨rfl, t18⟩
                  have HT18 := hide t18
                  have flw := unhide HLW
                  clear t18 HT17
                  go_wp2_with fail
                  refine (unhide HTK2 _ (unhide HT18)).mono ?_
                  rintro e w19 ⟨rfl, t19⟩
                  have HT19 := hide t19
                  clear t19 HT18 flw
                  go_wp2
                  go_roundw
                  case rel => exact ⟨k + 1, now + D + (W : Int), x2, rfl, by go_num, by omega, by omega, by omega, unhide HP2, unhide HB2, unhide HT19⟩
                  case measure => simp [intOf]; omega
                · by_cases hW1 : (1 : Int) < (W : Int)
                  · have HL1b := unhide HL1 (by omega)
                    clear HL1
                    have HL1 := hide HL1b
                    clear HL1b fnq
                    go_wp2_with fail
                    refine (unhide HLV _ _ (unhide HT14)).mono ?_
                    rintro e w17 ⟨rfl, t17⟩
                    have HT17 := hide t17
                    have fl1 := unhide HL1
                    clear t17 HT14
                    go_wp2_with fail
                    refine (unhide HLV _ _ (unhide HT17)).mono ?_
                    rintro e w18 ⟨rfl, t18⟩
                    have HT18 := hide t18
                    have flw := unhide HLW
                    clear t18 HT17
                    go_wp2_with fail
                    refine (unhide HTK2 _ (unhide HT18)).mono ?_
                    rintro e w19 ⟨rfl, t19⟩
                    have HT19 := hide t19
                    clear t19 HT18 flw
                    go_wp2
                    go_roundw
                    case rel => exact ⟨k + 1, now + D + (W : Int), x2, rfl, by go_num, by omega, by omega, by omega, unhide HP2, unhide HB2, unhide HT19⟩
                    case measure => simp [intOf]; omega
                  · clear fnq
                    go_wp2_with fail
                    refine (unhide HLV _ _ (unhide HT14)).mono ?_
                    rintro e w18 ⟨rfl, t18⟩
                    have HT18 := hide t18
                    have flw := unhide HLW
                    clear t18 HT14
                    go_wp2_with fail
                    refine (unhide HTK2 _ (unhide HT18)).mono ?_
                    rintro e w19 ⟨rfl, t19⟩
                    have HT19 := hide t19
                    clear t19 HT18 flw
                    go_wp2
                    go_roundw
                    case rel => exact ⟨k + 1, now + D + (W : Int), x2, rfl, by go_num, by omega, by omega, by omega, unhide HP2, unhide HB2, unhide HT19⟩
                    case measure => simp [intOf]; omega
              · have hend' : (1099511627776 : Int) < now + D + (W : Int) := by omega
                clear w3 w4 w5 e1 e2
                go_wp2
                go_roundw
                case rel => exact ⟨k + 1, now + D, x, rfl, by go_num, by omega, by omega, by omega, unhide HPS, hxb, unhide HT14⟩
                case measure => simp [intOf]; omega
        · have hover' : (549755813888 : Int) < now + D := by omega
          have HBW := hide ((unhide HTA).b)
          go_wp2
          go_ret
          exact ⟨rfl, unhide HBW⟩
      · have hlt' : ¬ (k : Int) < (n : Int) := by omega
        have HBW := hide ht.b
        clear ht
        go_wp2
        go_ret
        exact ⟨rfl, unhide HBW⟩
  · have hbg : (2147483647 : Int) < 1000 * min (n : Int) 2147483647 := by omega
    go_enter Try.func4, Try.ntmps4
    go_wp2
    go_ret
    exact ⟨rfl, Below.refl _ _⟩
end Go.Proofs.Yteejnfkbjdpccaa
