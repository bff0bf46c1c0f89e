import Derived.Test.YtknlafgaagimjaaDoorRff
import Derived.Test.YtknlafgaagimjaaDoorScl
namespace Go.Proofs.YtknlafgaagimjaaDoor
open Go.RowKit Go.Lib
set_option maxHeartbeats 8000000 in
set_option maxRecDepth 8000 in
theorem refWithin_any (a : Option Addr) (n cap : Nat) (x : List Bs) (a2 : Option Addr) (n2 cap2 : Nat) (y : List Bs) (w : World) (hx : Lsr w a n x) (hy : Lsr w a2 n2 y) :
    Calls Tryd.prog 39 #[.slice a n cap, .slice a2 n2 cap2] w fun e w' => e = .returned (.bool (within x y)) ∧ Below w.heap.size w w' := by
  have C1 := hide (refRight_any a n cap x w hx)
  have C2 := hide (fun W (hb : Below w.heap.size w W) => refRight_any a2 n2 cap2 y W (hy.below hb))
  have HE : Hid (within x y = (right x && right y && x.all fun z => y.contains z)) := hide rfl
  have HX := hide hx
  have HY := hide hy
  generalize within x y = res at *
  generalize right x = r1 at *
  generalize right y = r2 at *
  clear hx hy
  go_enter Tryd.func39, Tryd.ntmps39
  go_wp2_with fail
  refine (unhide C1).mono ?_
  rintro e w1 ⟨rfl, b1⟩
  have D2 := hide (unhide C2 w1 b1)
  have HB1 := hide b1
  clear b1 C1 C2
  go_wp2_with fail
  refine (unhide D2).mono ?_
  rintro e w2 ⟨rfl, b2⟩
  have hb2 := bel2 (unhide HB1) b2
  have HB2 := hide hb2
  have HX2 := hide ((unhide HX).below hb2)
  have HY2 := hide ((unhide HY).below hb2)
  clear b2 hb2 D2 HB1 HX HY
  cases r1
  · go_wp2
    go_ret
    exact ⟨ret_bool (by rw [unhide HE]; rfl), unhide HB2⟩
  cases r2
  · go_wp2
    go_ret
    exact ⟨ret_bool (by rw [unhide HE]; rfl), unhide HB2⟩
  have HN := hide (unhide HX2).sts.1
  have hf := (unhide HX2).few
  have hf2 := (unhide HY2).few
  go_wp2
  go_loop [7] (fun i => ∃ k : Nat, k ≤ n ∧ i = .int .i64 k ∧ (x.take k).all (fun z => y.contains z) = true) (fun i => n - (Go.RowKit.intOf i).toNat)
  case atStart => exact ⟨0, by omega, rfl, rfl⟩
  case round =>
    obtain ⟨k, hk, rfl, hall⟩ := hrel
    by_cases hlt : k < n
    · obtain ⟨p, o, rfl, hpl, hc0⟩ := (unhide HX2).sts.at hlt
      have hkl : k < x.length := by have := unhide HN; omega
      have HAL := hide hall
      have HNO := hide (all_get (fun z => y.contains z) x k hkl)
      have HTK := hide (show x.take (k + 1) = x.take k ++ [x.getD k []] by rw [take_snoc x k hkl]; simp [hkl])
      have hlt' : (k : Int) < (n : Int) := by omega
      have HH := hide (has_any a2 n2 cap2 y (x.getD k []) w2 (unhide HY2).sts (by omega))
      clear hall
      generalize x.getD k [] = z at *
      cases hz : y.contains z
      · rw [hz] at HH
        have HF := hide (unhide HNO hz)
        clear HNO HTK hz HAL
        go_wp2_with (first | (go_at_call 49; refine (unhide HH).mono ?_; rintro e w3 ⟨rfl, rfl⟩))
        go_ret
        exact ⟨ret_bool (by rw [unhide HE, unhide HF]; rfl), unhide HB2⟩
      · rw [hz] at HH
        have HA := hide (show (x.take (k + 1)).all (fun z => y.contains z) = true by rw [unhide HTK, List.all_append, unhide HAL]; simp only [List.all_cons, List.all_nil, hz, Bool.and_self])
        clear HNO HTK hz HAL
        go_wp2_with (first | (go_at_call 49; refine (unhide HH).mono ?_; rintro e w3 ⟨rfl, rfl⟩))
        go_round
        case rel => exact ⟨k + 1, by omega, by go_num, unhide HA⟩
        case measure => simp [Go.RowKit.intOf]; omega
    · have hd : ¬ (k : Int) < (n : Int) := by omega
      rw [List.take_of_length_le (by have := unhide HN; omega)] at hall
      have HAL := hide hall
      clear hall
      go_wp2
      go_ret
      exact ⟨ret_bool (by rw [unhide HE, unhide HAL]; rfl), unhide HB2⟩
def thse (x y : List Bs) (want : Bool) : List Bs := if right x && right y then x.filter fun z => y.contains z == want else []
theorem thse_meet (x y : List Bs) : thse x y true = meet x y := by
  unfold thse meet
  simp only [beq_true]
theorem thse_minus (x y : List Bs) : thse x y false = minus x y := by
  unfold thse minus
  simp only [beq_false]
theorem filter_len (f : Bs → Bool) (l : List Bs) : (l.filter f).length ≤ l.length := List.length_filter_le f l
def thk (x y : List Bs) (want : Bool) (k : Nat) : List Bs := (x.take k).filter fun z => y.contains z == want
theorem thk_len (x y : List Bs) (want : Bool) (k : Nat) : (thk x y want k).length ≤ k := by
  have := filter_len (fun z => y.contains z == want) (x.take k)
  rw [List.length_take] at this
  unfold thk
  omega
theorem thk_in {x y : List Bs} {want : Bool} {k : Nat} (hk : k < x.length) (h : y.contains (x.getD k []) = want) : thk x y want (k + 1) = thk x y want k ++ [x.getD k []] := by
  unfold thk
  have e : x.take (k + 1) = x.take k ++ [x.getD k []] := by rw [take_snoc x k hk]; simp [hk]
  rw [e, List.filter_append]
  simp only [List.filter_cons, List.filter_nil, h, beq_self_eq_true, if_true]
theorem thk_out {x y : List Bs} {want : Bool} {k : Nat} (hk : k < x.length) (h : y.contains (x.getD k []) ≠ want) : thk x y want (k + 1) = thk x y want k := by
  unfold thk
  have e : x.take (k + 1) = x.take k ++ [x.getD k []] := by rw [take_snoc x k hk]; simp [hk]
  rw [e, List.filter_append]
  have hb : (y.contains (x.getD k []) == want) = false := by rw [beq_eq_false_iff_ne]; exact h
  simp only [List.filter_cons, List.filter_nil, hb, Bool.false_eq_true, if_false, List.append_nil]
theorem thk_all (x y : List Bs) (want : Bool) (k : Nat) (h : x.length ≤ k) : thk x y want k = x.filter fun z => y.contains z == want := by
  unfold thk
  rw [List.take_of_length_le h]
set_option maxHeartbeats 8000000 in
set_option maxRecDepth 8000 in
theorem those_any (a : Option Addr) (n cap : Nat) (x : List Bs) (a2 : Option Addr) (n2 cap2 : Nat) (y : List Bs) (want : Bool) (w : World) (hx : Lsr w a n x) (hy : Lsr w a2 n2 y) :
    Calls Tryd.prog 52 #[.slice a n cap, .slice a2 n2 cap2, .bool want] w (OutL w (thse x y want)) := by
  have C1 := hide (refRight_any a n cap x w hx)
  have C2 := hide (fun W (hb : Below w.heap.size w W) => refRight_any a2 n2 cap2 y W (hy.below hb))
  have HE : Hid (thse x y want = if right x && right y then x.filter (fun z => y.contains z == want) else []) := hide rfl
  have HX := hide hx
  have HY := hide hy
  generalize thse x y want = res at *
  generalize right x = r1 at *
  generalize right y = r2 at *
  clear hx hy
  go_enter Tryd.func52, Tryd.ntmps52
  go_wp2_with fail
  refine (unhide C1).mono ?_
  rintro e w1 ⟨rfl, b1⟩
  have D2 := hide (unhide C2 w1 b1)
  have HB1 := hide b1
  clear b1 C1 C2
  go_wp2_with fail
  refine (unhide D2).mono ?_
  rintro e w2 ⟨rfl, b2⟩
  have hb2 := bel2 (unhide HB1) b2
  have HB2 := hide hb2
  have HX2 := hide ((unhide HX).below hb2)
  have HY2 := hide ((unhide HY).below hb2)
  have HN := hide (unhide HX).sts.1
  have hf := (unhide HX).few
  have hf2 := (unhide HY).few
  clear b2 hb2 D2 HB1 HX HY
  go_wp2
  go_loopw [9, 10] (fun v i wq => ∃ k : Nat, k ≤ n ∧ i = .int .i64 k ∧ (k = 0 ∨ (r1 && r2) = true) ∧ Own w2.heap.size wq v (thk x y want k) ∧ Below w2.heap.size w2 wq) (fun _ i _ => n - (Go.RowKit.intOf i).toNat)
  case atStart => exact ⟨0, by omega, rfl, .inl rfl, own_nil _ _, Below.refl _ _⟩
  case round =>
    obtain ⟨k, hk, rfl, hk0, ho, hbel⟩ := hrel
    obtain ⟨va, vc, rfl⟩ := ho.form
    have hfl := thk_len x y want k
    have HO := hide ho
    have HB := hide hbel
    have hzB := hbel.size
    by_cases hlt : k < n
    · have hlt' : (k : Int) < (n : Int) := by omega
      cases r1
      · have hk1 : k = 0 := hk0.elim id (fun q => by cases q)
        subst hk1
        clear ho hbel
        go_wp2
        go_ret
        rw [unhide HE]
        exact ⟨va, vc, rfl, (show Own _ _ _ [] from unhide HO).below (Below.refl _ _) (unhide HB2).size, bel2 (unhide HB2) (unhide HB)⟩
      cases r2
      · have hk1 : k = 0 := hk0.elim id (fun q => by cases q)
        subst hk1
        clear ho hbel
        go_wp2
        go_ret
        rw [unhide HE]
        exact ⟨va, vc, rfl, (show Own _ _ _ [] from unhide HO).below (Below.refl _ _) (unhide HB2).size, bel2 (unhide HB2) (unhide HB)⟩
      obtain ⟨p, o, rfl, hpl, hcw⟩ := (unhide HX2).sts.at hlt
      have hc0 := (hbel.cell (p := ⟨p, o + k, none⟩) hpl).trans hcw
      have hkl : k < x.length := by have := unhide HN; omega
      have HTI := hide (fun h => thk_in (x := x) (y := y) (want := want) hkl h)
      have HTO := hide (fun h => thk_out (x := x) (y := y) (want := want) hkl h)
      have HH := hide (has_any a2 n2 cap2 y (x.getD k []) wr ((unhide HY2).below hbel).sts (by omega))
      clear ho hbel hcw hk0
      generalize x.getD k [] = z at *
      generalize y.contains z = cz at *
      by_cases hw : cz = want
      · have HF := hide (unhide HTI hw)
        subst hw
        generalize thk x y cz k = out at *
        have hbb : (cz == cz) = true := by simp
        clear HTI HTO
        go_wp2_with (first
          | (go_at_call 49; refine (unhide HH).mono ?_; rintro e w3 ⟨rfl, rfl⟩)
          | (at_builtin; refine pushS rfl (.tmp 37) (.tmp 42) rfl w2.heap.size (.slice va out.length vc) out (by rfl) w3 (unhide HO) z (by rfl) (by rfl) (by omega) hzB ?_; intro v4 w4 ho4 hb4; have HO4 := hide ho4; have HB4 := hide (hb4 _ _ (Nat.le_refl _) (unhide HB)); clear ho4 hb4)
          | fail)
        refine ⟨⟨k + 1, by omega, by go_num, .inr rfl, by rw [unhide HF]; exact unhide HO4, unhide HB4⟩, by simp [Go.RowKit.intOf]; omega⟩
      · have HF := hide (unhide HTO hw)
        have hbb : (cz == want) = false := by simpa using hw
        clear hw HTI HTO
        go_wp2_with (first
          | (go_at_call 49; refine (unhide HH).mono ?_; rintro e w3 ⟨rfl, rfl⟩)
          | fail)
        refine ⟨⟨k + 1, by omega, by go_num, .inr rfl, by rw [unhide HF]; exact unhide HO, unhide HB⟩, by simp [Go.RowKit.intOf]; omega⟩
    · have hd : ¬ (k : Int) < (n : Int) := by omega
      have hkn : k = n := by omega
      have hres : res = thk x y want k := by
        rw [unhide HE, thk_all x y want k (by have := unhide HN; omega)]
        rcases hk0 with q | q
        · have : x = [] := List.eq_nil_of_length_eq_zero (by have := unhide HN; omega)
          rw [this]
          simp
        · rw [q]; rfl
      have HRES := hide hres
      clear ho hbel hk0 hres hkn
      go_wp2
      go_ret
      rw [unhide HRES]
      exact ⟨va, vc, rfl, (unhide HO).below (Below.refl _ _) (unhide HB2).size, bel2 (unhide HB2) (unhide HB)⟩
end Go.Proofs.YtknlafgaagimjaaDoor
