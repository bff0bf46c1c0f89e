import Derived.Test.YtknlafgaagimjaaDoorRfg
namespace Go.Proofs.YtknlafgaagimjaaDoor
open Go.RowKit Go.Lib
theorem refMeet_any (a : Option Addr) (n cap : Nat) (x : List Bs) (a2 : Option Addr) (n2 cap2 : Nat) (y : List Bs) (w : World) (hx : Lsr w a n x) (hy : Lsr w a2 n2 y) :
    Calls Tryd.prog 37 #[.slice a n cap, .slice a2 n2 cap2] w (OutL w (meet x y)) := by
  have C := hide (those_any a n cap x a2 n2 cap2 y true w hx hy)
  rw [thse_meet] at C
  clear hx hy
  generalize meet x y = r at *
  go_enter Tryd.func37, Tryd.ntmps37
  go_wp2_with fail
  refine (unhide C).mono ?_
  rintro e w1 ⟨a1, c1, rfl, o1, b1⟩
  have HO := hide o1
  have HB := hide b1
  clear o1 b1
  go_wp2
  go_ret
  exact ⟨a1, c1, rfl, unhide HO, unhide HB⟩
theorem refMinus_any (a : Option Addr) (n cap : Nat) (x : List Bs) (a2 : Option Addr) (n2 cap2 : Nat) (y : List Bs) (w : World) (hx : Lsr w a n x) (hy : Lsr w a2 n2 y) :
    Calls Tryd.prog 38 #[.slice a n cap, .slice a2 n2 cap2] w (OutL w (minus x y)) := by
  have C := hide (those_any a n cap x a2 n2 cap2 y false w hx hy)
  rw [thse_minus] at C
  clear hx hy
  generalize minus x y = r at *
  go_enter Tryd.func38, Tryd.ntmps38
  go_wp2_with fail
  refine (unhide C).mono ?_
  rintro e w1 ⟨a1, c1, rfl, o1, b1⟩
  have HO := hide o1
  have HB := hide b1
  clear o1 b1
  go_wp2
  go_ret
  exact ⟨a1, c1, rfl, unhide HO, unhide HB⟩
set_option maxHeartbeats 8000000 in
set_option maxRecDepth 8000 in
theorem refJoin_any (a : Option Addr) (n cap : Nat) (x : List Bs) (a2 : Option Addr) (n2 cap2 : Nat) (y : List Bs) (w : World) (hx : Lsr w a n x) (hy : Lsr w a2 n2 y) :
    Calls Tryd.prog 36 #[.slice a n cap, .slice a2 n2 cap2] w (OutP w (join x y)) := by
  have C1 := hide (refRight_any a n cap x w hx)
  have C2 := hide (fun W (hb : Below w.heap.size w W) => refRight_any a2 n2 cap2 y W (hy.below hb))
  have HE : Hid (join x y = if right x && right y then bound (rise (x ++ y)) else ([], 60)) := hide rfl
  have HRX : Hid (right x = true → ∀ z ∈ x, nm z = true) := hide (fun h => (right_iff.1 h).1)
  have HRY : Hid (right y = true → ∀ z ∈ y, nm z = true) := hide (fun h => (right_iff.1 h).1)
  have HX := hide hx
  have HY := hide hy
  generalize join x y = res at *
  generalize right x = r1 at *
  generalize right y = r2 at *
  clear hx hy
  go_enter Tryd.func36, Tryd.ntmps36
  go_wp2_with fail
  refine (unhide C1).mono ?_
  rintro e w1 ⟨rfl, b1⟩
  have D2 := hide (unhide C2 w1 b1)
  have HB1 := hide b1
  clear b1 C1 C2
  go_wp2_with fail
  refine (unhide D2).mono ?_
  rintro e w2 ⟨rfl, b2⟩
  have hb2 := bel2 (unhide HB1) b2
  have HB2 := hide hb2
  have HX2 := hide ((unhide HX).below hb2)
  have HY2 := hide ((unhide HY).below hb2)
  have HN := hide (unhide HX).sts.1
  have HN2 := hide (unhide HY).sts.1
  have hf := (unhide HX).few
  have hf2 := (unhide HY).few
  clear b2 hb2 D2 HB1 HX HY
  cases r1
  · go_wp2
    go_ret2
    rw [unhide HE]
    exact ⟨none, 0, rfl, own_nil _ _, unhide HB2⟩
  cases r2
  · go_wp2
    go_ret2
    rw [unhide HE]
    exact ⟨none, 0, rfl, own_nil _ _, unhide HB2⟩
  have HNX := hide (unhide HRX rfl)
  have HNY := hide (unhide HRY rfl)
  clear HRX HRY
  go_wp2
  go_loopw [8, 9] (fun v i wq => ∃ k : Nat, k ≤ n ∧ i = .int .i64 k ∧ Own w2.heap.size wq v (rise (x.take k)) ∧ Below w2.heap.size w2 wq) (fun _ i _ => n - (Go.RowKit.intOf i).toNat)
  case atStart => exact ⟨0, by omega, rfl, own_nil _ _, Below.refl _ _⟩
  case round =>
    obtain ⟨k, hk, rfl, ho, hbel⟩ := hrel
    obtain ⟨va, vc, rfl⟩ := ho.form
    have hrl := rise_len (x.take k)
    rw [List.length_take] at hrl
    have HB := hide hbel
    have hzB := hbel.size
    have HO := hide ho
    by_cases hlt : k < n
    · have hlt' : (k : Int) < (n : Int) := by omega
      obtain ⟨p, o, rfl, hpl, hcw⟩ := (unhide HX2).sts.at hlt
      have hc0 := (hbel.cell (p := ⟨p, o + k, none⟩) hpl).trans hcw
      have hkl : k < x.length := by have := unhide HN; omega
      have HTK := hide (show x.take (k + 1) = x.take k ++ [x.getD k []] by rw [take_snoc x k hkl]; simp [hkl])
      have HWI := hide (with_any w2.heap.size va vc (rise (x.take k)) (x.getD k []) wr ho hzB (by omega) (rs_rise _))
      rw [rise_snoc, ← unhide HTK] at HWI
      clear ho hbel hcw HTK
      generalize x.getD k [] = z at *
      go_wp2_with (first | (go_at_call 31; refine (unhide HWI).mono ?_; rintro e w3 ⟨a3, c3, rfl, o3, b3⟩; have HO3 := hide o3; have HB3 := hide b3; clear o3 b3))
      refine ⟨⟨k + 1, by omega, by go_num, unhide HO3, (unhide HB).trans ((unhide HB3).mono hzB)⟩, by simp [Go.RowKit.intOf]; omega⟩
    · have hd : ¬ (k : Int) < (n : Int) := by omega
      have e : x.take k = x := List.take_of_length_le (by have := unhide HN; omega)
      rw [e] at HO hrl ⊢
      obtain ⟨W9, hW9⟩ : ∃ W9, W9 = wr := ⟨_, rfl⟩
      subst hW9
      clear ho hbel e
      go_wp2
      go_loopw [8, 10] (fun v i wq => ∃ k : Nat, k ≤ n2 ∧ i = .int .i64 k ∧ Own w2.heap.size wq v (rise (x ++ y.take k)) ∧ Below w2.heap.size w2 wq) (fun _ i _ => n2 - (Go.RowKit.intOf i).toNat)
      case atStart => exact ⟨0, by omega, rfl, by simpa using unhide HO, unhide HB⟩
      case round =>
        obtain ⟨k2, hk2, rfl, ho, hbel⟩ := hrel
        obtain ⟨ua, uc, rfl⟩ := ho.form
        have hrl2 := rise_len (x ++ y.take k2)
        rw [List.length_append, List.length_take] at hrl2
        have hxn := unhide HN
        have hyn := unhide HN2
        have HBB := hide hbel
        have hzBB := hbel.size
        have HOO := hide ho
        by_cases hlt2 : k2 < n2
        · have hlt2' : (k2 : Int) < (n2 : Int) := by omega
          obtain ⟨p, o, rfl, hpl, hcw⟩ := (unhide HY2).sts.at hlt2
          have hc0 := (hbel.cell (p := ⟨p, o + k2, none⟩) hpl).trans hcw
          have hkl : k2 < y.length := by omega
          have HTK := hide (show x ++ y.take (k2 + 1) = (x ++ y.take k2) ++ [y.getD k2 []] by rw [take_snoc y k2 hkl]; simp [hkl])
          have HWI := hide (with_any w2.heap.size ua uc (rise (x ++ y.take k2)) (y.getD k2 []) wr ho hzBB (by omega) (rs_rise _))
          rw [rise_snoc, ← unhide HTK] at HWI
          clear ho hbel hcw HTK hxn hyn
          generalize y.getD k2 [] = z at *
          go_wp2_with (first | (go_at_call 31; refine (unhide HWI).mono ?_; rintro e w3 ⟨a3, c3, rfl, o3, b3⟩; have HO3 := hide o3; have HB3 := hide b3; clear o3 b3))
          refine ⟨⟨k2 + 1, by omega, by go_num, unhide HO3, (unhide HBB).trans ((unhide HB3).mono hzBB)⟩, by simp [Go.RowKit.intOf]; omega⟩
        · have hd2 : ¬ (k2 : Int) < (n2 : Int) := by omega
          have e2 : y.take k2 = y := List.take_of_length_le (by omega)
          rw [e2] at HOO ho hrl2 ⊢
          have HF := hide (fits_any ua (rise (x ++ y)).length uc (rise (x ++ y)) wr ho.sts (by omega) (fun h8 => tx_names (rise_names (fun z hz => (List.mem_append.1 hz).elim (unhide HNX z) (unhide HNY z))) h8))
          have HBD : Hid (bound (rise (x ++ y)) = if many (rise (x ++ y)) then ([], 61) else (rise (x ++ y), 0)) := hide rfl
          clear ho hbel e2 hxn hyn
          generalize bound (rise (x ++ y)) = bd at *
          generalize hmn : many (rise (x ++ y)) = mn at *
          generalize rise (x ++ y) = out at *
          clear hmn
          cases mn
          · go_wp2_with (first | (go_at_call 32; refine (unhide HF).mono ?_; rintro e w3 ⟨rfl, rfl⟩))
            go_ret2
            rw [unhide HE, unhide HBD]
            exact ⟨ua, uc, rfl, (unhide HOO).below (Below.refl _ _) (unhide HB2).size, bel2 (unhide HB2) (unhide HBB)⟩
          · go_wp2_with (first | (go_at_call 32; refine (unhide HF).mono ?_; rintro e w3 ⟨rfl, rfl⟩))
            go_ret2
            rw [unhide HE, unhide HBD]
            exact ⟨none, 0, rfl, own_nil _ _, bel2 (unhide HB2) (unhide HBB)⟩
end Go.Proofs.YtknlafgaagimjaaDoor
