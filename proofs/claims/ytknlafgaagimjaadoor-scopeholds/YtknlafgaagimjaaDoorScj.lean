import Derived.Test.YtknlafgaagimjaaDoorSci
namespace Go.Proofs.YtknlafgaagimjaaDoor
open Go.RowKit Go.Lib Go.Maps Go.Sort
/-- A list that is handed in. -/
structure Lst (w : World) (a : Option Addr) (n : Nat) (l : List Bs) : Prop where
  sts : Sts w a n l
  few : n ≤ 2147483648
  len : Lns l
theorem Lst.below {w w' : World} {a : Option Addr} {n : Nat} {l : List Bs} (h : Lst w a n l) (hb : Below w.heap.size w w') : Lst w' a n l := ⟨h.sts.below hb, h.few, h.len⟩
theorem Lst.right {w : World} {a : Option Addr} {n : Nat} {l : List Bs} (h : Lst w a n l) (cap : Nat) : Calls Tryd.prog 19 #[.slice a n cap] w fun e w' => e = .returned (.bool (right l)) ∧ Below w.heap.size w w' :=
  Right_any a n cap l w h.sts (by have := h.few; omega) h.len
theorem Lst.setOf {w : World} {a : Option Addr} {n : Nat} {l : List Bs} (h : Lst w a n l) (cap : Nat) : Calls Tryd.prog 42 #[.slice a n cap] w fun e w' => e = .returned (.map (some w.heap.size)) ∧ SetAt w' w.heap.size n l ∧ Below w.heap.size w w' :=
  setOf_any a n cap l w h.sts (by have := h.few; omega) h.len
theorem meet_rise {x y : List Bs} (hx : right x = true) (hy : right y = true) : rise (x.filter fun z => y.contains z) = meet x y := by
  rw [meet_eq hx hy]
  exact rise_of ((right_iff.1 hx).2.1.sublist List.filter_sublist) fun _ => Iff.rfl
theorem minus_rise {x y : List Bs} (hx : right x = true) (hy : right y = true) : rise (x.filter fun z => !y.contains z) = minus x y := by
  rw [minus_eq hx hy]
  exact rise_of ((right_iff.1 hx).2.1.sublist List.filter_sublist) fun _ => Iff.rfl
theorem right_len {x : List Bs} (hx : right x = true) : ∀ z ∈ x, z.length ≤ 281474976710656 := fun z hz => by
  have := nm_len ((right_iff.1 hx).1 z hz)
  omega
set_option maxHeartbeats 8000000 in
set_option maxRecDepth 8000 in
theorem Meet_any (a : Option Addr) (n cap : Nat) (x : List Bs) (a2 : Option Addr) (n2 cap2 : Nat) (y : List Bs) (w : World) (hx : Lst w a n x) (hy : Lst w a2 n2 y) :
    Calls Tryd.prog 21 #[.slice a n cap, .slice a2 n2 cap2] w (OutL w (meet x y)) := by
  have HX := hide hx
  have HY := hide hy
  have hf := hx.few
  have HR := hide (hx.right cap)
  clear hx hy
  cases h1 : right x
  · have HE : Hid (meet x y = []) := hide (by simp [meet, h1])
    rw [h1] at HR
    generalize meet x y = r at *
    clear h1 HX HY
    go_enter Tryd.func21, Tryd.ntmps21
    go_wp2_with (first | (go_at_call 19; refine (unhide HR).mono ?_; rintro e w2 ⟨rfl, b2⟩; have HB := hide b2; clear b2))
    go_ret
    rw [unhide HE]
    exact ⟨none, 0, rfl, own_nil _ _, unhide HB⟩
  · rw [h1] at HR
    have HR2 := hide (fun W (h : Below w.heap.size w W) => ((unhide HY).below h).right cap2)
    cases h2 : right y
    · have HE : Hid (meet x y = []) := hide (by simp [meet, h2])
      rw [h2] at HR2
      generalize meet x y = r at *
      clear h1 h2 HX HY
      go_enter Tryd.func21, Tryd.ntmps21
      go_wp2_with fail
      refine (unhide HR).mono ?_
      rintro e w2 ⟨rfl, b2⟩
      have HR3 := hide (unhide HR2 w2 b2)
      have HB := hide b2
      clear b2 HR2
      go_wp2_with fail
      refine (unhide HR3).mono ?_
      rintro e w3 ⟨rfl, b3⟩
      have HB3 := hide ((unhide HB).trans (b3.mono (unhide HB).size))
      clear b3
      go_wp2
      go_ret
      rw [unhide HE]
      exact ⟨none, 0, rfl, own_nil _ _, unhide HB3⟩
    · rw [h2] at HR2
      have HE := hide (meet_rise h1 h2)
      have HLN := hide (right_len h1)
      generalize meet x y = r at *
      clear h1 h2
      go_enter Tryd.func21, Tryd.ntmps21
      go_wp2_with fail
      refine (unhide HR).mono ?_
      rintro e w2 ⟨rfl, b2⟩
      have HR3 := hide (unhide HR2 w2 b2)
      have HB := hide b2
      clear b2 HR2
      go_wp2_with fail
      refine (unhide HR3).mono ?_
      rintro e w3 ⟨rfl, b3⟩
      have hb3 := (unhide HB).trans (b3.mono (unhide HB).size)
      have HS := hide (((unhide HX).below hb3).setOf cap)
      have HY3 := hide ((unhide HY).below hb3)
      have hz3 := hb3.size
      have HB3 := hide hb3
      clear b3 hb3 HR HR3 HX HY HB
      go_wp2_with fail
      refine (unhide HS).mono ?_
      rintro e w4 ⟨rfl, hs4, b4⟩
      have HS2 := hide (((unhide HY3).below b4).setOf cap2)
      have hz4 := b4.size
      have hlt4 := hs4.lt
      have HSA := hide hs4
      have HB4 := hide ((unhide HB3).trans (b4.mono hz3))
      clear hs4 b4 HB3 HY3 HS
      go_wp2_with fail
      refine (unhide HS2).mono ?_
      rintro e w5 ⟨rfl, hs5, b5⟩
      have HK := hide (keep_any w3.heap.size n w4.heap.size n2 x y w5 ((unhide HSA).below b5) hs5 (by omega))
      have HB5 := hide ((unhide HB4).trans (b5.mono (by omega)))
      have hz5 := b5.size
      clear hs5 b5 HS2 HSA HB4
      go_wp2_with fail
      refine (unhide HK).mono ?_
      rintro e w6 ⟨rfl, hs6, ho6⟩
      have HRI := hide (rising_any w3.heap.size n _ w6 hs6 (by omega) (fun z hz => unhide HLN z (List.mem_filter.1 hz).1))
      have HB6 := hide ((unhide HB5).trans (ho6.bel hz3 (by omega)))
      clear hs6 ho6 HK HB5
      rw [unhide HE] at HRI
      go_wp2_with fail
      refine (unhide HRI).mono ?_
      rintro e w7 ⟨a7, c7, rfl, ho7, b7, _⟩
      have HO7 := hide ho7
      have HB7 := hide ((unhide HB6).trans (b7.mono (unhide HB6).size))
      clear ho7 b7
      go_wp2
      go_ret
      exact ⟨a7, c7, rfl, (unhide HO7).below (Below.refl _ _) (unhide HB6).size, unhide HB7⟩
set_option maxHeartbeats 8000000 in
set_option maxRecDepth 8000 in
theorem Minus_any (a : Option Addr) (n cap : Nat) (x : List Bs) (a2 : Option Addr) (n2 cap2 : Nat) (y : List Bs) (w : World) (hx : Lst w a n x) (hy : Lst w a2 n2 y) :
    Calls Tryd.prog 22 #[.slice a n cap, .slice a2 n2 cap2] w (OutL w (minus x y)) := by
  have HX := hide hx
  have HY := hide hy
  have hf := hx.few
  have HR := hide (hx.right cap)
  clear hx hy
  cases h1 : right x
  · have HE : Hid (minus x y = []) := hide (by simp [minus, h1])
    rw [h1] at HR
    generalize minus x y = r at *
    clear h1 HX HY
    go_enter Tryd.func22, Tryd.ntmps22
    go_wp2_with (first | (go_at_call 19; refine (unhide HR).mono ?_; rintro e w2 ⟨rfl, b2⟩; have HB := hide b2; clear b2))
    go_ret
    rw [unhide HE]
    exact ⟨none, 0, rfl, own_nil _ _, unhide HB⟩
  · rw [h1] at HR
    have HR2 := hide (fun W (h : Below w.heap.size w W) => ((unhide HY).below h).right cap2)
    cases h2 : right y
    · have HE : Hid (minus x y = []) := hide (by simp [minus, h2])
      rw [h2] at HR2
      generalize minus x y = r at *
      clear h1 h2 HX HY
      go_enter Tryd.func22, Tryd.ntmps22
      go_wp2_with fail
      refine (unhide HR).mono ?_
      rintro e w2 ⟨rfl, b2⟩
      have HR3 := hide (unhide HR2 w2 b2)
      have HB := hide b2
      clear b2 HR2
      go_wp2_with fail
      refine (unhide HR3).mono ?_
      rintro e w3 ⟨rfl, b3⟩
      have HB3 := hide ((unhide HB).trans (b3.mono (unhide HB).size))
      clear b3
      go_wp2
      go_ret
      rw [unhide HE]
      exact ⟨none, 0, rfl, own_nil _ _, unhide HB3⟩
    · rw [h2] at HR2
      have HE := hide (minus_rise h1 h2)
      have HLN := hide (right_len h1)
      generalize minus x y = r at *
      clear h1 h2
      go_enter Tryd.func22, Tryd.ntmps22
      go_wp2_with fail
      refine (unhide HR).mono ?_
      rintro e w2 ⟨rfl, b2⟩
      have HR3 := hide (unhide HR2 w2 b2)
      have HB := hide b2
      clear b2 HR2
      go_wp2_with fail
      refine (unhide HR3).mono ?_
      rintro e w3 ⟨rfl, b3⟩
      have hb3 := (unhide HB).trans (b3.mono (unhide HB).size)
      have HS := hide (((unhide HX).below hb3).setOf cap)
      have HY3 := hide ((unhide HY).below hb3)
      have hz3 := hb3.size
      have HB3 := hide hb3
      clear b3 hb3 HR HR3 HX HY HB
      go_wp2_with fail
      refine (unhide HS).mono ?_
      rintro e w4 ⟨rfl, hs4, b4⟩
      have HS2 := hide (((unhide HY3).below b4).setOf cap2)
      have hz4 := b4.size
      have hlt4 := hs4.lt
      have HSA := hide hs4
      have HB4 := hide ((unhide HB3).trans (b4.mono hz3))
      clear hs4 b4 HB3 HY3 HS
      go_wp2_with fail
      refine (unhide HS2).mono ?_
      rintro e w5 ⟨rfl, hs5, b5⟩
      have HK := hide (drop_any w3.heap.size n w4.heap.size n2 x y w5 ((unhide HSA).below b5) hs5 (by omega))
      have HB5 := hide ((unhide HB4).trans (b5.mono (by omega)))
      have hz5 := b5.size
      clear hs5 b5 HS2 HSA HB4
      go_wp2_with fail
      refine (unhide HK).mono ?_
      rintro e w6 ⟨rfl, hs6, ho6⟩
      have HRI := hide (rising_any w3.heap.size n _ w6 hs6 (by omega) (fun z hz => unhide HLN z (List.mem_filter.1 hz).1))
      have HB6 := hide ((unhide HB5).trans (ho6.bel hz3 (by omega)))
      clear hs6 ho6 HK HB5
      rw [unhide HE] at HRI
      go_wp2_with fail
      refine (unhide HRI).mono ?_
      rintro e w7 ⟨a7, c7, rfl, ho7, b7, _⟩
      have HO7 := hide ho7
      have HB7 := hide ((unhide HB6).trans (b7.mono (unhide HB6).size))
      clear ho7 b7
      go_wp2
      go_ret
      exact ⟨a7, c7, rfl, (unhide HO7).below (Below.refl _ _) (unhide HB6).size, unhide HB7⟩
end Go.Proofs.YtknlafgaagimjaaDoor
