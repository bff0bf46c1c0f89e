import Derived.Test.YthddilflldkmfaaDoorLeta
import Derived.Test.YthddilflldkmfaaDoorPick
import Derived.Test.YthddilflldkmfaaDoorChk
namespace Go.Proofs.YthddilflldkmfaaDoor
open Go.RowKit Go.Lib
theorem pick1_any (c : Int) (n : Nat) (w : World) (h0 : -9223372036854775808 ≤ c) (h1 : c ≤ 9223372036854775807) (hn2 : n + 1 ≤ 9223372036854775807) :
    Calls Tryd.prog 12 #[.int .i64 c, .int .i64 ((n : Int) + 1)] w fun e w' => ∃ k : Nat, k ≤ n ∧ e = .returned (.int .i64 (k : Int)) ∧ w' = w := by
  have h := pick_any c (n + 1) w h0 h1 (by omega) hn2
  have e : (((n + 1 : Nat)) : Int) = (n : Int) + 1 := by omega
  rw [e] at h
  exact h.mono fun e w' ⟨a, b⟩ => ⟨pk c (n + 1), by have := pk_lt c (n + 1) (by omega); omega, a, b⟩
/-- Five texts in memory. -/
structure Five (g : Nat) (L : List (List UInt8)) (w : World) : Prop where
  len : L.length = 5
  cell : ∀ j, j < 5 → w.cell? ⟨g, j, none⟩ = some (.string ⟨(L.getD j []).toArray⟩)
  lt : g < w.heap.size
theorem Five.below {g : Nat} {L : List (List UInt8)} {w w' : World} (h : Five g L w) (b : Below w.heap.size w w') : Five g L w' :=
  ⟨h.len, fun j hj => (b.cell (p := ⟨g, j, none⟩) h.lt).trans (h.cell j hj), Nat.lt_of_lt_of_le h.lt b.size⟩
theorem Five.new (w : World) (a b c d e : List UInt8) : Five w.heap.size [a, b, c, d, e] (w.alloc (.cells #[.string ⟨a.toArray⟩, .string ⟨b.toArray⟩, .string ⟨c.toArray⟩, .string ⟨d.toArray⟩, .string ⟨e.toArray⟩] 9)) := by
  refine ⟨rfl, ?_, by simp⟩
  intro j hj
  rcases (by omega : j = 0 ∨ j = 1 ∨ j = 2 ∨ j = 3 ∨ j = 4) with rfl | rfl | rfl | rfl | rfl <;> simp
theorem five_len (a b c d e : List UInt8) (ha : a.length ≤ 17592186044416) (hb : b.length ≤ 17592186044416) (hc : c.length ≤ 17592186044416) (hd : d.length ≤ 17592186044416) (he : e.length ≤ 17592186044416) : ∀ j, (([a, b, c, d, e] : List (List UInt8)).getD j []).length ≤ 17592186044416 := by
  intro j
  match j with
  | 0 => exact ha
  | 1 => exact hb
  | 2 => exact hc
  | 3 => exact hd
  | 4 => exact he
  | (j + 5) => simp
theorem told2_none_inj {x : ByteArray} {y : Int} (h : told2 none = .tuple #[.string x, .int .i64 y]) : x = ⟨#[]⟩ ∧ y = 24 := by
  unfold told2 at h
  simp at h
  exact ⟨h.1.symm, h.2.symm⟩
theorem told2_some_inj {m : List UInt8} {x : ByteArray} {y : Int} (h : told2 (some m) = .tuple #[.string x, .int .i64 y]) : x = ⟨m.toArray⟩ ∧ y = 0 := by
  unfold told2 at h
  simp at h
  exact ⟨h.1.symm, h.2.symm⟩
theorem enc_ge (A : List UInt8) (f : Bool) (m : List UInt8) : m.length ≤ (enc A f m).length := by
  unfold enc
  rw [List.length_append, sgn_len, Six.sig_len]
  omega
theorem encH_ge (m : List UInt8) : m.length ≤ (encH m).length := by
  unfold encH
  rw [sgn_len, sig4_len]
  omega
theorem below_drewN {B : Nat} {a w : World} (h : Below B a w) (n : Nat) : Below B a (w.drewN n) := ⟨h.os, h.tape, h.output, h.size, h.block⟩
theorem told2_some (m : List UInt8) : told2 (some m) = .tuple #[.string ⟨m.toArray⟩, .int .i64 0] := rfl
set_option maxHeartbeats 4000000 in
set_option maxRecDepth 8000 in
theorem back_walk (s more : List UInt8) (at_ by_ : Int) (w : World) (hs : s.length ≤ 9223372036854775807) (hm : more.length ≤ 9223372036854775807) (h0 : -9223372036854775808 ≤ at_) (h1 : at_ ≤ 9223372036854775807) :
    Calls Tryd.prog 7 #[.string ⟨s.toArray⟩, .int .i64 at_, .int .i64 by_, .string ⟨more.toArray⟩] w fun e w' => e = .returned (.bool true) ∧ Below w.heap.size w w' := by
  have q1 := addN_bd s.length s.length
  have q2 := addN_bd (addN s.length s.length) more.length
  by_cases hb : 2147483647 < addN (addN s.length s.length) (addN (addN s.length s.length) more.length)
  · have hd : decide ((2147483647 : Int) < (addN (addN s.length s.length) (addN (addN s.length s.length) more.length) : Int)) = true := by simp; omega
    go_enter Tryd.func7, Tryd.ntmps7
    go_wp2_with fail
    refine (add_any s.length s.length w hs hs).mono ?_
    rintro e w1 ⟨rfl, rfl⟩
    go_wp2_with fail
    refine (add_any s.length s.length w1 hs hs).mono ?_
    rintro e w1 ⟨rfl, rfl⟩
    go_wp2_with fail
    refine (add_any (addN s.length s.length) more.length w1 (by omega) hm).mono ?_
    rintro e w1 ⟨rfl, rfl⟩
    go_wp2_with fail
    refine (add_any (addN s.length s.length) (addN (addN s.length s.length) more.length) w1 (by omega) (by omega)).mono ?_
    rintro e w2 ⟨rfl, rfl⟩
    generalize addN (addN s.length s.length) (addN (addN s.length s.length) more.length) = N at *
    go_wp2
    go_ret
    exact ⟨rfl, Below.refl _ _⟩
  · have b1 := addN_le (n := addN s.length s.length) (m := addN (addN s.length s.length) more.length) (by omega)
    have b2 := addN_le (n := addN s.length s.length) (m := more.length) (by omega)
    have b3 := addN_le (n := s.length) (m := s.length) (by omega)
    have hd : ¬ (2147483647 : Int) < (addN (addN s.length s.length) (addN (addN s.length s.length) more.length) : Int) := by omega
    have hsl : 4 * s.length + more.length ≤ 2147483647 := by omega
    have hxl : ((enc names false s).length : Int) = (4 * (s.length : Int) + 2) / 3 := by rw [enc_false, sgn_len, Six.sig_len]; omega
    have hyl : ((enc mail true s).length : Int) = ((s.length : Int) + 2) / 3 * 4 := by
      unfold enc pad
      rw [List.length_append, sgn_len, Six.sig_len, if_pos rfl, List.length_replicate]
      rcases (by omega : s.length % 3 = 0 ∨ s.length % 3 = 1 ∨ s.length % 3 = 2) with q3 | q3 | q3 <;> rw [q3] <;> omega
    have hzl : ((encH s).length : Int) = 2 * (s.length : Int) := by unfold encH; rw [sgn_len, sig4_len]; omega
    have dx := d64_enc s
    have dy := dStd_enc s
    have dz := dHex_enc s
    have BX := hide (base64_any s · (by omega))
    have BY := hide (standard_any s · (by omega))
    have BZ := hide (hex_any s · (by omega))
    generalize enc names false s = X at *
    generalize enc mail true s = Y at *
    generalize encH s = Z at *
    have DX := hide dx
    have DY := hide dy
    have DZ := hide dz
    clear hb b1 b2 b3 dx dy dz
    go_enter Tryd.func7, Tryd.ntmps7
    go_wp2_with fail
    refine (add_any s.length s.length w hs hs).mono ?_
    rintro e w1 ⟨rfl, rfl⟩
    go_wp2_with fail
    refine (add_any s.length s.length w1 hs hs).mono ?_
    rintro e w1 ⟨rfl, rfl⟩
    go_wp2_with fail
    refine (add_any (addN s.length s.length) more.length w1 (by omega) hm).mono ?_
    rintro e w1 ⟨rfl, rfl⟩
    go_wp2_with fail
    refine (add_any (addN s.length s.length) (addN (addN s.length s.length) more.length) w1 (by omega) (by omega)).mono ?_
    rintro e w2 ⟨rfl, rfl⟩
    generalize addN (addN s.length s.length) (addN (addN s.length s.length) more.length) = N1 at *
    generalize addN (addN s.length s.length) more.length = N2 at *
    generalize addN s.length s.length = N3 at *
    clear q1 q2
    go_wp2_with fail
    refine (awake_any w2).mono ?_
    rintro e w3 ⟨rfl, hb3⟩
    go_wp2_with fail
    refine (unhide BX w3).mono ?_
    rintro e w4 ⟨rfl, r4⟩
    have hb4 := hb3.trans (r4.mono hb3.size)
    clear hb3 r4
    go_wp2_with fail
    refine (unhide BY w4).mono ?_
    rintro e w5 ⟨rfl, r5⟩
    have hb5 := hb4.trans (r5.mono hb4.size)
    clear hb4 r5
    go_wp2_with fail
    refine (unhide BZ w5).mono ?_
    rintro e w6 ⟨rfl, r6⟩
    have hb6 := hb5.trans (r6.mono hb5.size)
    clear hb5 r6
    go_wp2_with fail
    refine (frombase64_any X w6 (by omega)).mono ?_
    rintro e w7 ⟨rfl, r7⟩
    rw [unhide DX, told2_some]
    have hb7 := hb6.trans (r7.mono hb6.size)
    clear hb6 r7
    go_wp2_with fail
    refine (fromstandard_any Y w7 (by omega)).mono ?_
    rintro e w8 ⟨rfl, r8⟩
    rw [unhide DY, told2_some]
    have hb8 := hb7.trans (r8.mono hb7.size)
    clear hb7 r8
    go_wp2_with fail
    refine (fromhex_any Z w8 (by omega)).mono ?_
    rintro e w9 ⟨rfl, r9⟩
    rw [unhide DZ, told2_some]
    have hb9 := hb8.trans (r9.mono hb8.size)
    clear hb8 r9
    go_wp2_with fail
    have hXL : X.length ≤ 2147483647 := by omega
    have hYL : Y.length ≤ 2147483647 := by omega
    have hZL : Z.length ≤ 2147483647 := by omega
    have hmL : more.length ≤ 2147483647 := by omega
    clear hxl hyl hzl BX BY BZ DX DY DZ
    refine (bent_any X at_ by_ w9 h0 h1 (by omega)).mono ?_
    rintro e wa1 ⟨B1, rfl, hB1, ra1⟩
    have hba1 := hb9.trans (ra1.mono hb9.size)
    clear hb9 ra1
    have c11 : X.length + more.length ≤ 9223372036854775807 := by omega
    have c21 : more.length + X.length ≤ 9223372036854775807 := by omega
    go_wp2_with fail
    refine (pick1_any at_ X.length wa1 h0 h1 (by omega)).mono ?_
    rintro e w' ⟨k1, hk1, rfl, rfl⟩
    go_wp2_with fail
    rw [ext_take, ba_app, ba_app, List.drop_zero]
    have hf1 := Five.new w' B1 (X.take k1) (X ++ more) (more ++ X) Y
    have hal1 : Below w'.heap.size w' (w'.alloc (.cells #[.string ⟨B1.toArray⟩, .string ⟨(X.take k1).toArray⟩, .string ⟨(X ++ more).toArray⟩, .string ⟨(more ++ X).toArray⟩, .string ⟨Y.toArray⟩] 9)) := (Below.refl _ _).alloc (Nat.le_refl _) _
    have hbb1 := hba1.trans (hal1.mono hba1.size)
    have HL1 := hide (show ∀ j, (([B1, X.take k1, X ++ more, more ++ X, Y] : List (List UInt8)).getD j []).length ≤ 17592186044416 from five_len _ _ _ _ _ (by omega) (by rw [List.length_take]; omega) (by rw [List.length_append]; omega) (by rw [List.length_append]; omega) (by omega))
    obtain ⟨g1, hg1⟩ : ∃ g, w'.heap.size = g := ⟨_, rfl⟩
    rw [hg1] at hf1 ⊢
    have HF11 := hide hf1
    clear hba1 hal1 hf1 hg1 c11 c21
    generalize (w'.alloc (.cells #[.string ⟨B1.toArray⟩, .string ⟨(X.take k1).toArray⟩, .string ⟨(X ++ more).toArray⟩, .string ⟨(more ++ X).toArray⟩, .string ⟨Y.toArray⟩] 9)) = wb1 at *
    generalize [B1, X.take k1, X ++ more, more ++ X, Y] = L1 at *
    refine (bent_any Y at_ by_ wb1 h0 h1 (by omega)).mono ?_
    rintro e wa2 ⟨B2, rfl, hB2, ra2⟩
    have hba2 := hbb1.trans (ra2.mono hbb1.size)
    have HFa21 := hide ((unhide HF11).below ra2)
    clear HF11
    clear hbb1 ra2
    have c12 : Y.length + more.length ≤ 9223372036854775807 := by omega
    have c22 : more.length + Y.length ≤ 9223372036854775807 := by omega
    go_wp2_with fail
    refine (pick1_any at_ Y.length wa2 h0 h1 (by omega)).mono ?_
    rintro e w' ⟨k2, hk2, rfl, rfl⟩
    go_wp2_with fail
    rw [ext_take, ba_app, ba_app, List.drop_zero]
    have hf2 := Five.new w' B2 (Y.take k2) (Y ++ more) (more ++ Y) X
    have hal2 : Below w'.heap.size w' (w'.alloc (.cells #[.string ⟨B2.toArray⟩, .string ⟨(Y.take k2).toArray⟩, .string ⟨(Y ++ more).toArray⟩, .string ⟨(more ++ Y).toArray⟩, .string ⟨X.toArray⟩] 9)) := (Below.refl _ _).alloc (Nat.le_refl _) _
    have hbb2 := hba2.trans (hal2.mono hba2.size)
    have HF21 := hide ((unhide HFa21).below hal2)
    clear HFa21
    have HL2 := hide (show ∀ j, (([B2, Y.take k2, Y ++ more, more ++ Y, X] : List (List UInt8)).getD j []).length ≤ 17592186044416 from five_len _ _ _ _ _ (by omega) (by rw [List.length_take]; omega) (by rw [List.length_append]; omega) (by rw [List.length_append]; omega) (by omega))
    obtain ⟨g2, hg2⟩ : ∃ g, w'.heap.size = g := ⟨_, rfl⟩
    rw [hg2] at hf2 ⊢
    have HF22 := hide hf2
    clear hba2 hal2 hf2 hg2 c12 c22
    generalize (w'.alloc (.cells #[.string ⟨B2.toArray⟩, .string ⟨(Y.take k2).toArray⟩, .string ⟨(Y ++ more).toArray⟩, .string ⟨(more ++ Y).toArray⟩, .string ⟨X.toArray⟩] 9)) = wb2 at *
    generalize [B2, Y.take k2, Y ++ more, more ++ Y, X] = L2 at *
    refine (bent_any Z at_ by_ wb2 h0 h1 (by omega)).mono ?_
    rintro e wa3 ⟨B3, rfl, hB3, ra3⟩
    have hba3 := hbb2.trans (ra3.mono hbb2.size)
    have HFa31 := hide ((unhide HF21).below ra3)
    clear HF21
    have HFa32 := hide ((unhide HF22).below ra3)
    clear HF22
    clear hbb2 ra3
    have c13 : Z.length + more.length ≤ 9223372036854775807 := by omega
    have c23 : more.length + Z.length ≤ 9223372036854775807 := by omega
    go_wp2_with fail
    refine (pick1_any at_ Z.length wa3 h0 h1 (by omega)).mono ?_
    rintro e w' ⟨k3, hk3, rfl, rfl⟩
    go_wp2
    rw [ext_take, ba_app, ba_app, List.drop_zero]
    have hf3 := Five.new w' B3 (Z.take k3) (Z ++ more) (more ++ Z) X
    have hal3 : Below w'.heap.size w' (w'.alloc (.cells #[.string ⟨B3.toArray⟩, .string ⟨(Z.take k3).toArray⟩, .string ⟨(Z ++ more).toArray⟩, .string ⟨(more ++ Z).toArray⟩, .string ⟨X.toArray⟩] 9)) := (Below.refl _ _).alloc (Nat.le_refl _) _
    have hbb3 := hba3.trans (hal3.mono hba3.size)
    have HF31 := hide ((unhide HFa31).below hal3)
    clear HFa31
    have HF32 := hide ((unhide HFa32).below hal3)
    clear HFa32
    have HL3 := hide (show ∀ j, (([B3, Z.take k3, Z ++ more, more ++ Z, X] : List (List UInt8)).getD j []).length ≤ 17592186044416 from five_len _ _ _ _ _ (by omega) (by rw [List.length_take]; omega) (by rw [List.length_append]; omega) (by rw [List.length_append]; omega) (by omega))
    obtain ⟨g3, hg3⟩ : ∃ g, w'.heap.size = g := ⟨_, rfl⟩
    rw [hg3] at hf3 ⊢
    have HF33 := hide hf3
    clear hba3 hal3 hf3 hg3 c13 c23
    generalize (w'.alloc (.cells #[.string ⟨B3.toArray⟩, .string ⟨(Z.take k3).toArray⟩, .string ⟨(Z ++ more).toArray⟩, .string ⟨(more ++ Z).toArray⟩, .string ⟨X.toArray⟩] 9)) = wb3 at *
    generalize [B3, Z.take k3, Z ++ more, more ++ Z, X] = L3 at *
    have hdd : decide ((2147483647 : Int) < (N1 : Int)) = false := by simp; omega
    rw [hdd]
    clear hdd hd hXL hYL hZL hmL hsl
    go_loopw [22] (fun i wr => ∃ k : Nat, k ≤ 5 ∧ i = .int .i64 k ∧ Below w2.heap.size w2 wr ∧ Five g1 L1 wr ∧ Five g2 L2 wr ∧ Five g3 L3 wr) (fun i _ => 5 - (Go.RowKit.intOf i).toNat)
    case atStart => exact ⟨0, by omega, rfl, hbb3, unhide HF31, unhide HF32, unhide HF33⟩
    case round =>
      clear HF31 HF32 HF33 hbb3
      obtain ⟨k, hk, rfl, hbr, f1, f2, f3⟩ := hrel
      by_cases hlt : k < 5
      · have t1l := unhide HL1 k
        have t2l := unhide HL2 k
        have t3l := unhide HL3 k
        have c1 := f1.cell k hlt
        have c2 := fun (W : World) (hW : Below wr.heap.size wr W) => (f2.below hW).cell k hlt
        have c3 := fun (W : World) (hW : Below wr.heap.size wr W) => (f3.below hW).cell k hlt
        have C1 := hide (fun (W : World) (hW : Below wr.heap.size wr W) => (f1.below hW).cell k hlt)
        have C2 := hide c2
        have C3 := hide c3
        have F1 := hide f1
        have F2 := hide f2
        have F3 := hide f3
        clear f1 f2 f3 c2 c3
        generalize L1.getD k [] = t1 at *
        generalize L2.getD k [] = t2 at *
        generalize L3.getD k [] = t3 at *
        obtain ⟨r1, hr1⟩ : ∃ r, d64 t1 = r := ⟨_, rfl⟩
        obtain ⟨r2, hr2⟩ : ∃ r, dStd t2 = r := ⟨_, rfl⟩
        obtain ⟨r3, hr3⟩ : ∃ r, refun4 t3 = r := ⟨_, rfl⟩
        have P1 := hide hr1
        have P2 := hide hr2
        have P3 := hide hr3
        clear hr1 hr2 hr3
        go_wp2_with fail
        refine (frombase64_any t1 wr t1l).mono ?_
        rintro e wc1 ⟨rfl, s1⟩
        rw [unhide P1]
        obtain ⟨x1, y1, hxy1⟩ := told2_is r1
        rw [hxy1]
        have X1 := hide hxy1
        clear hxy1 c1
        have c2 := unhide C2 wc1 s1
        go_wp2_with fail
        refine (fromstandard_any t2 wc1 t2l).mono ?_
        rintro e wc2 ⟨rfl, s2⟩
        rw [unhide P2]
        obtain ⟨x2, y2, hxy2⟩ := told2_is r2
        rw [hxy2]
        have X2 := hide hxy2
        have s12 := s1.trans (s2.mono s1.size)
        clear hxy2 c2 s1 s2
        have c3 := unhide C3 wc2 s12
        go_wp2_with fail
        refine (fromhex_any t3 wc2 t3l).mono ?_
        rintro e wc3 ⟨rfl, s3⟩
        rw [unhide P3]
        obtain ⟨x3, y3, hxy3⟩ := told2_is r3
        rw [hxy3]
        have X3 := hide hxy3
        have s123 := s12.trans (s3.mono s12.size)
        clear hxy3 c3 s12 s3
        go_wp2_with fail
        cases r1 with
        | none =>
          obtain ⟨rfl, rfl⟩ := told2_none_inj (unhide X1)
          go_quiet (fail)
          have hs1 := below_drewN s123 nq
          generalize wc3.drewN nq = wv1 at *
          go_wp2_with fail
          cases r2 with
          | none =>
            obtain ⟨rfl, rfl⟩ := told2_none_inj (unhide X2)
            go_quiet (fail)
            have hs2 := below_drewN hs1 nq
            generalize wv1.drewN nq = wv2 at *
            go_wp2_with fail
            cases r3 with
            | none =>
              obtain ⟨rfl, rfl⟩ := told2_none_inj (unhide X3)
              go_quiet (fail)
              have hs3 := below_drewN hs2 nq
              generalize wv2.drewN nq = wv3 at *
              go_wp2
              go_roundw
              case rel => exact ⟨k + 1, by omega, by go_num, hbr.trans (hs3.mono hbr.size), (unhide F1).below hs3, (unhide F2).below hs3, (unhide F3).below hs3⟩
              case measure => simp [Go.RowKit.intOf]; omega
            | some m3 =>
              obtain ⟨rfl, rfl⟩ := told2_some_inj (unhide X3)
              have hm3 := dHex_some (unhide P3)
              have hml3 : m3.length ≤ 17592186044416 := Nat.le_trans (encH_ge m3) (by rw [hm3]; exact t3l)
              have BM3 := hide (hex_any m3 · hml3)
              rw [hm3] at BM3
              have D3 := hide (fun (W : World) (hW : Below wv2.heap.size wv2 W) => unhide C3 W (hs2.trans (hW.mono hs2.size)))
              clear hm3
              refine region_check 256 28 27 21 49 Tryd.f49 _ (by decide) (by decide) (by decide) (by decide) rfl rfl rfl Tryd.func49 (by kernel_rfl) rfl _ _ k g3 m3 t3 hlt (show 279 ≤ 279 from by decide) rfl rfl rfl rfl (unhide BM3) (unhide D3) ?_
              intro wv3 hz3
              refine norm_frame (l := [_, _, _, _, _, _, _, _, _, _, _, _, _, _, _, _, _, _, _, _, _, _, _, _, _, _, _, _, _, _, _, _, _, _, _, _, _, _, _, _, _, _, _, _, _, _, _, _, _, _, _, _, _, _, _, _, _, _, _, _, _, _, _, _, _, _, _, _, _, _, _, _, _, _, _, _, _, _, _, _, _, _, _, _, _, _, _, _, _, _, _, _, _, _, _, _, _, _, _, _, _, _, _, _, _, _, _, _, _, _, _, _, _, _, _, _, _, _, _, _, _, _, _, _, _, _, _, _, _, _, _, _, _, _, _, _, _, _, _, _, _, _, _, _, _, _, _, _, _, _, _, _, _, _, _, _, _, _, _, _, _, _, _, _, _, _, _, _, _, _, _, _, _, _, _, _, _, _, _, _, _, _, _, _, _, _, _, _, _, _, _, _, _, _, _, _, _, _, _, _, _, _, _, _, _, _, _, _, _, _, _, _, _, _, _, _, _, _, _, _, _, _, _, _, _, _, _, _, _, _, _, _, _, _, _, _, _, _, _, _, _, _, _, _, _, _, _, _, _, _, _, _, _, _, _, _, _, _, _, _, _, _, _, _, _, _, _, _, _, _, _, _, _, _, _, _, _, _, _]) rfl rfl ?_
              have hs3 := hs2.trans (hz3.mono hs2.size)
              clear hz3
              go_wp2
              go_roundw
              case rel => exact ⟨k + 1, by omega, by go_num, hbr.trans (hs3.mono hbr.size), (unhide F1).below hs3, (unhide F2).below hs3, (unhide F3).below hs3⟩
              case measure => simp [Go.RowKit.intOf]; omega
          | some m2 =>
            obtain ⟨rfl, rfl⟩ := told2_some_inj (unhide X2)
            have hm2 := dStd_some (unhide P2)
            have hml2 : m2.length ≤ 17592186044416 := Nat.le_trans (enc_ge mail true m2) (by rw [hm2]; exact t2l)
            have BM2 := hide (standard_any m2 · hml2)
            rw [hm2] at BM2
            have D2 := hide (fun (W : World) (hW : Below wv1.heap.size wv1 W) => unhide C2 W (hs1.trans (hW.mono hs1.size)))
            clear hm2
            refine region_check 233 26 25 20 47 Tryd.f47 _ (by decide) (by decide) (by decide) (by decide) rfl rfl rfl Tryd.func47 (by kernel_rfl) rfl _ _ k g2 m2 t2 hlt (show 256 ≤ 279 from by decide) rfl rfl rfl rfl (unhide BM2) (unhide D2) ?_
            intro wv2 hz2
            refine norm_frame (l := [_, _, _, _, _, _, _, _, _, _, _, _, _, _, _, _, _, _, _, _, _, _, _, _, _, _, _, _, _, _, _, _, _, _, _, _, _, _, _, _, _, _, _, _, _, _, _, _, _, _, _, _, _, _, _, _, _, _, _, _, _, _, _, _, _, _, _, _, _, _, _, _, _, _, _, _, _, _, _, _, _, _, _, _, _, _, _, _, _, _, _, _, _, _, _, _, _, _, _, _, _, _, _, _, _, _, _, _, _, _, _, _, _, _, _, _, _, _, _, _, _, _, _, _, _, _, _, _, _, _, _, _, _, _, _, _, _, _, _, _, _, _, _, _, _, _, _, _, _, _, _, _, _, _, _, _, _, _, _, _, _, _, _, _, _, _, _, _, _, _, _, _, _, _, _, _, _, _, _, _, _, _, _, _, _, _, _, _, _, _, _, _, _, _, _, _, _, _, _, _, _, _, _, _, _, _, _, _, _, _, _, _, _, _, _, _, _, _, _, _, _, _, _, _, _, _, _, _, _, _, _, _, _, _, _, _, _, _, _, _, _, _, _, _, _, _, _, _, _, _, _, _, _, _, _, _, _, _, _, _, _, _, _, _, _, _, _, _, _, _, _, _, _, _, _, _, _, _, _]) rfl rfl ?_
            have hs2 := hs1.trans (hz2.mono hs1.size)
            clear hz2
            go_wp2_with fail
            cases r3 with
            | none =>
              obtain ⟨rfl, rfl⟩ := told2_none_inj (unhide X3)
              go_quiet (fail)
              have hs3 := below_drewN hs2 nq
              generalize wv2.drewN nq = wv3 at *
              go_wp2
              go_roundw
              case rel => exact ⟨k + 1, by omega, by go_num, hbr.trans (hs3.mono hbr.size), (unhide F1).below hs3, (unhide F2).below hs3, (unhide F3).below hs3⟩
              case measure => simp [Go.RowKit.intOf]; omega
            | some m3 =>
              obtain ⟨rfl, rfl⟩ := told2_some_inj (unhide X3)
              have hm3 := dHex_some (unhide P3)
              have hml3 : m3.length ≤ 17592186044416 := Nat.le_trans (encH_ge m3) (by rw [hm3]; exact t3l)
              have BM3 := hide (hex_any m3 · hml3)
              rw [hm3] at BM3
              have D3 := hide (fun (W : World) (hW : Below wv2.heap.size wv2 W) => unhide C3 W (hs2.trans (hW.mono hs2.size)))
              clear hm3
              refine region_check 256 28 27 21 49 Tryd.f49 _ (by decide) (by decide) (by decide) (by decide) rfl rfl rfl Tryd.func49 (by kernel_rfl) rfl _ _ k g3 m3 t3 hlt (show 279 ≤ 279 from by decide) rfl rfl rfl rfl (unhide BM3) (unhide D3) ?_
              intro wv3 hz3
              refine norm_frame (l := [_, _, _, _, _, _, _, _, _, _, _, _, _, _, _, _, _, _, _, _, _, _, _, _, _, _, _, _, _, _, _, _, _, _, _, _, _, _, _, _, _, _, _, _, _, _, _, _, _, _, _, _, _, _, _, _, _, _, _, _, _, _, _, _, _, _, _, _, _, _, _, _, _, _, _, _, _, _, _, _, _, _, _, _, _, _, _, _, _, _, _, _, _, _, _, _, _, _, _, _, _, _, _, _, _, _, _, _, _, _, _, _, _, _, _, _, _, _, _, _, _, _, _, _, _, _, _, _, _, _, _, _, _, _, _, _, _, _, _, _, _, _, _, _, _, _, _, _, _, _, _, _, _, _, _, _, _, _, _, _, _, _, _, _, _, _, _, _, _, _, _, _, _, _, _, _, _, _, _, _, _, _, _, _, _, _, _, _, _, _, _, _, _, _, _, _, _, _, _, _, _, _, _, _, _, _, _, _, _, _, _, _, _, _, _, _, _, _, _, _, _, _, _, _, _, _, _, _, _, _, _, _, _, _, _, _, _, _, _, _, _, _, _, _, _, _, _, _, _, _, _, _, _, _, _, _, _, _, _, _, _, _, _, _, _, _, _, _, _, _, _, _, _, _, _, _, _, _, _]) rfl rfl ?_
              have hs3 := hs2.trans (hz3.mono hs2.size)
              clear hz3
              go_wp2
              go_roundw
              case rel => exact ⟨k + 1, by omega, by go_num, hbr.trans (hs3.mono hbr.size), (unhide F1).below hs3, (unhide F2).below hs3, (unhide F3).below hs3⟩
              case measure => simp [Go.RowKit.intOf]; omega
        | some m1 =>
          obtain ⟨rfl, rfl⟩ := told2_some_inj (unhide X1)
          have hm1 := d64_some (unhide P1)
          have hml1 : m1.length ≤ 17592186044416 := Nat.le_trans (enc_ge names false m1) (by rw [hm1]; exact t1l)
          have BM1 := hide (base64_any m1 · hml1)
          rw [hm1] at BM1
          have D1 := hide (fun (W : World) (hW : Below wc3.heap.size wc3 W) => unhide C1 W (s123.trans (hW.mono s123.size)))
          clear hm1
          refine region_check 210 24 23 19 45 Tryd.f45 _ (by decide) (by decide) (by decide) (by decide) rfl rfl rfl Tryd.func45 (by kernel_rfl) rfl _ _ k g1 m1 t1 hlt (show 233 ≤ 279 from by decide) rfl rfl rfl rfl (unhide BM1) (unhide D1) ?_
          intro wv1 hz1
          refine norm_frame (l := [_, _, _, _, _, _, _, _, _, _, _, _, _, _, _, _, _, _, _, _, _, _, _, _, _, _, _, _, _, _, _, _, _, _, _, _, _, _, _, _, _, _, _, _, _, _, _, _, _, _, _, _, _, _, _, _, _, _, _, _, _, _, _, _, _, _, _, _, _, _, _, _, _, _, _, _, _, _, _, _, _, _, _, _, _, _, _, _, _, _, _, _, _, _, _, _, _, _, _, _, _, _, _, _, _, _, _, _, _, _, _, _, _, _, _, _, _, _, _, _, _, _, _, _, _, _, _, _, _, _, _, _, _, _, _, _, _, _, _, _, _, _, _, _, _, _, _, _, _, _, _, _, _, _, _, _, _, _, _, _, _, _, _, _, _, _, _, _, _, _, _, _, _, _, _, _, _, _, _, _, _, _, _, _, _, _, _, _, _, _, _, _, _, _, _, _, _, _, _, _, _, _, _, _, _, _, _, _, _, _, _, _, _, _, _, _, _, _, _, _, _, _, _, _, _, _, _, _, _, _, _, _, _, _, _, _, _, _, _, _, _, _, _, _, _, _, _, _, _, _, _, _, _, _, _, _, _, _, _, _, _, _, _, _, _, _, _, _, _, _, _, _, _, _, _, _, _, _, _]) rfl rfl ?_
          have hs1 := s123.trans (hz1.mono s123.size)
          clear hz1
          go_wp2_with fail
          cases r2 with
          | none =>
            obtain ⟨rfl, rfl⟩ := told2_none_inj (unhide X2)
            go_quiet (fail)
            have hs2 := below_drewN hs1 nq
            generalize wv1.drewN nq = wv2 at *
            go_wp2_with fail
            cases r3 with
            | none =>
              obtain ⟨rfl, rfl⟩ := told2_none_inj (unhide X3)
              go_quiet (fail)
              have hs3 := below_drewN hs2 nq
              generalize wv2.drewN nq = wv3 at *
              go_wp2
              go_roundw
              case rel => exact ⟨k + 1, by omega, by go_num, hbr.trans (hs3.mono hbr.size), (unhide F1).below hs3, (unhide F2).below hs3, (unhide F3).below hs3⟩
              case measure => simp [Go.RowKit.intOf]; omega
            | some m3 =>
              obtain ⟨rfl, rfl⟩ := told2_some_inj (unhide X3)
              have hm3 := dHex_some (unhide P3)
              have hml3 : m3.length ≤ 17592186044416 := Nat.le_trans (encH_ge m3) (by rw [hm3]; exact t3l)
              have BM3 := hide (hex_any m3 · hml3)
              rw [hm3] at BM3
              have D3 := hide (fun (W : World) (hW : Below wv2.heap.size wv2 W) => unhide C3 W (hs2.trans (hW.mono hs2.size)))
              clear hm3
              refine region_check 256 28 27 21 49 Tryd.f49 _ (by decide) (by decide) (by decide) (by decide) rfl rfl rfl Tryd.func49 (by kernel_rfl) rfl _ _ k g3 m3 t3 hlt (show 279 ≤ 279 from by decide) rfl rfl rfl rfl (unhide BM3) (unhide D3) ?_
              intro wv3 hz3
              refine norm_frame (l := [_, _, _, _, _, _, _, _, _, _, _, _, _, _, _, _, _, _, _, _, _, _, _, _, _, _, _, _, _, _, _, _, _, _, _, _, _, _, _, _, _, _, _, _, _, _, _, _, _, _, _, _, _, _, _, _, _, _, _, _, _, _, _, _, _, _, _, _, _, _, _, _, _, _, _, _, _, _, _, _, _, _, _, _, _, _, _, _, _, _, _, _, _, _, _, _, _, _, _, _, _, _, _, _, _, _, _, _, _, _, _, _, _, _, _, _, _, _, _, _, _, _, _, _, _, _, _, _, _, _, _, _, _, _, _, _, _, _, _, _, _, _, _, _, _, _, _, _, _, _, _, _, _, _, _, _, _, _, _, _, _, _, _, _, _, _, _, _, _, _, _, _, _, _, _, _, _, _, _, _, _, _, _, _, _, _, _, _, _, _, _, _, _, _, _, _, _, _, _, _, _, _, _, _, _, _, _, _, _, _, _, _, _, _, _, _, _, _, _, _, _, _, _, _, _, _, _, _, _, _, _, _, _, _, _, _, _, _, _, _, _, _, _, _, _, _, _, _, _, _, _, _, _, _, _, _, _, _, _, _, _, _, _, _, _, _, _, _, _, _, _, _, _, _, _, _, _, _, _]) rfl rfl ?_
              have hs3 := hs2.trans (hz3.mono hs2.size)
              clear hz3
              go_wp2
              go_roundw
              case rel => exact ⟨k + 1, by omega, by go_num, hbr.trans (hs3.mono hbr.size), (unhide F1).below hs3, (unhide F2).below hs3, (unhide F3).below hs3⟩
              case measure => simp [Go.RowKit.intOf]; omega
          | some m2 =>
            obtain ⟨rfl, rfl⟩ := told2_some_inj (unhide X2)
            have hm2 := dStd_some (unhide P2)
            have hml2 : m2.length ≤ 17592186044416 := Nat.le_trans (enc_ge mail true m2) (by rw [hm2]; exact t2l)
            have BM2 := hide (standard_any m2 · hml2)
            rw [hm2] at BM2
            have D2 := hide (fun (W : World) (hW : Below wv1.heap.size wv1 W) => unhide C2 W (hs1.trans (hW.mono hs1.size)))
            clear hm2
            refine region_check 233 26 25 20 47 Tryd.f47 _ (by decide) (by decide) (by decide) (by decide) rfl rfl rfl Tryd.func47 (by kernel_rfl) rfl _ _ k g2 m2 t2 hlt (show 256 ≤ 279 from by decide) rfl rfl rfl rfl (unhide BM2) (unhide D2) ?_
            intro wv2 hz2
            refine norm_frame (l := [_, _, _, _, _, _, _, _, _, _, _, _, _, _, _, _, _, _, _, _, _, _, _, _, _, _, _, _, _, _, _, _, _, _, _, _, _, _, _, _, _, _, _, _, _, _, _, _, _, _, _, _, _, _, _, _, _, _, _, _, _, _, _, _, _, _, _, _, _, _, _, _, _, _, _, _, _, _, _, _, _, _, _, _, _, _, _, _, _, _, _, _, _, _, _, _, _, _, _, _, _, _, _, _, _, _, _, _, _, _, _, _, _, _, _, _, _, _, _, _, _, _, _, _, _, _, _, _, _, _, _, _, _, _, _, _, _, _, _, _, _, _, _, _, _, _, _, _, _, _, _, _, _, _, _, _, _, _, _, _, _, _, _, _, _, _, _, _, _, _, _, _, _, _, _, _, _, _, _, _, _, _, _, _, _, _, _, _, _, _, _, _, _, _, _, _, _, _, _, _, _, _, _, _, _, _, _, _, _, _, _, _, _, _, _, _, _, _, _, _, _, _, _, _, _, _, _, _, _, _, _, _, _, _, _, _, _, _, _, _, _, _, _, _, _, _, _, _, _, _, _, _, _, _, _, _, _, _, _, _, _, _, _, _, _, _, _, _, _, _, _, _, _, _, _, _, _, _, _]) rfl rfl ?_
            have hs2 := hs1.trans (hz2.mono hs1.size)
            clear hz2
            go_wp2_with fail
            cases r3 with
            | none =>
              obtain ⟨rfl, rfl⟩ := told2_none_inj (unhide X3)
              go_quiet (fail)
              have hs3 := below_drewN hs2 nq
              generalize wv2.drewN nq = wv3 at *
              go_wp2
              go_roundw
              case rel => exact ⟨k + 1, by omega, by go_num, hbr.trans (hs3.mono hbr.size), (unhide F1).below hs3, (unhide F2).below hs3, (unhide F3).below hs3⟩
              case measure => simp [Go.RowKit.intOf]; omega
            | some m3 =>
              obtain ⟨rfl, rfl⟩ := told2_some_inj (unhide X3)
              have hm3 := dHex_some (unhide P3)
              have hml3 : m3.length ≤ 17592186044416 := Nat.le_trans (encH_ge m3) (by rw [hm3]; exact t3l)
              have BM3 := hide (hex_any m3 · hml3)
              rw [hm3] at BM3
              have D3 := hide (fun (W : World) (hW : Below wv2.heap.size wv2 W) => unhide C3 W (hs2.trans (hW.mono hs2.size)))
              clear hm3
              refine region_check 256 28 27 21 49 Tryd.f49 _ (by decide) (by decide) (by decide) (by decide) rfl rfl rfl Tryd.func49 (by kernel_rfl) rfl _ _ k g3 m3 t3 hlt (show 279 ≤ 279 from by decide) rfl rfl rfl rfl (unhide BM3) (unhide D3) ?_
              intro wv3 hz3
              refine norm_frame (l := [_, _, _, _, _, _, _, _, _, _, _, _, _, _, _, _, _, _, _, _, _, _, _, _, _, _, _, _, _, _, _, _, _, _, _, _, _, _, _, _, _, _, _, _, _, _, _, _, _, _, _, _, _, _, _, _, _, _, _, _, _, _, _, _, _, _, _, _, _, _, _, _, _, _, _, _, _, _, _, _, _, _, _, _, _, _, _, _, _, _, _, _, _, _, _, _, _, _, _, _, _, _, _, _, _, _, _, _, _, _, _, _, _, _, _, _, _, _, _, _, _, _, _, _, _, _, _, _, _, _, _, _, _, _, _, _, _, _, _, _, _, _, _, _, _, _, _, _, _, _, _, _, _, _, _, _, _, _, _, _, _, _, _, _, _, _, _, _, _, _, _, _, _, _, _, _, _, _, _, _, _, _, _, _, _, _, _, _, _, _, _, _, _, _, _, _, _, _, _, _, _, _, _, _, _, _, _, _, _, _, _, _, _, _, _, _, _, _, _, _, _, _, _, _, _, _, _, _, _, _, _, _, _, _, _, _, _, _, _, _, _, _, _, _, _, _, _, _, _, _, _, _, _, _, _, _, _, _, _, _, _, _, _, _, _, _, _, _, _, _, _, _, _, _, _, _, _, _, _]) rfl rfl ?_
              have hs3 := hs2.trans (hz3.mono hs2.size)
              clear hz3
              go_wp2
              go_roundw
              case rel => exact ⟨k + 1, by omega, by go_num, hbr.trans (hs3.mono hbr.size), (unhide F1).below hs3, (unhide F2).below hs3, (unhide F3).below hs3⟩
              case measure => simp [Go.RowKit.intOf]; omega
      · have hk5 : decide (k < 5) = false := by simp; omega
        have hk5i : decide ((k : Int) < 5) = false := by simp; omega
        clear f1 f2 f3
        go_wp2
        go_ret
        exact ⟨rfl, hbr⟩
end Go.Proofs.YthddilflldkmfaaDoor
