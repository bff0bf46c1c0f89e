import Derived.Test.YtknlafgaagimjaaDoorScj
namespace Go.Proofs.YtknlafgaagimjaaDoor
open Go.RowKit Go.Lib Go.Maps Go.Sort
set_option maxHeartbeats 8000000 in
set_option maxRecDepth 8000 in
theorem Join_any (a : Option Addr) (n cap : Nat) (x : List Bs) (a2 : Option Addr) (n2 cap2 : Nat) (y : List Bs) (w : World) (hx : Lst w a n x) (hy : Lst w a2 n2 y) :
    Calls Tryd.prog 23 #[.slice a n cap, .slice a2 n2 cap2] w (OutP w (join x y)) := by
  have HX := hide hx
  have HY := hide hy
  have hf := hx.few
  have HR := hide (hx.right cap)
  clear hx hy
  cases h1 : right x
  · have HE : Hid (join x y = ([], 60)) := hide (by simp [join, h1])
    rw [h1] at HR
    generalize join x y = r at *
    clear h1 HX HY
    go_enter Tryd.func23, Tryd.ntmps23
    go_wp2_with (first | (go_at_call 19; refine (unhide HR).mono ?_; rintro e w2 ⟨rfl, b2⟩; have HB := hide b2; clear b2))
    go_ret2
    rw [unhide HE]
    exact ⟨none, 0, rfl, own_nil _ _, unhide HB⟩
  · rw [h1] at HR
    have HR2 := hide (fun W (h : Below w.heap.size w W) => ((unhide HY).below h).right cap2)
    cases h2 : right y
    · have HE : Hid (join x y = ([], 60)) := hide (by simp [join, h2])
      rw [h2] at HR2
      generalize join x y = r at *
      clear h1 h2 HX HY
      go_enter Tryd.func23, Tryd.ntmps23
      go_wp2_with fail
      refine (unhide HR).mono ?_
      rintro e w2 ⟨rfl, b2⟩
      have HR3 := hide (unhide HR2 w2 b2)
      have HB := hide b2
      clear b2 HR2
      go_wp2_with fail
      refine (unhide HR3).mono ?_
      rintro e w3 ⟨rfl, b3⟩
      have HB3 := hide ((unhide HB).trans (b3.mono (unhide HB).size))
      clear b3
      go_wp2
      go_ret2
      rw [unhide HE]
      exact ⟨none, 0, rfl, own_nil _ _, unhide HB3⟩
    · rw [h2] at HR2
      have HE := hide (join_eq h1 h2)
      have HLN := hide (fun z (hz : z ∈ x ++ y) => (List.mem_append.1 hz).elim (fun q => (right_iff.1 h1).1 z q) (fun q => (right_iff.1 h2).1 z q))
      have hf2 := (unhide HY).few
      generalize join x y = r at *
      clear h1 h2
      go_enter Tryd.func23, Tryd.ntmps23
      go_wp2_with fail
      refine (unhide HR).mono ?_
      rintro e w2 ⟨rfl, b2⟩
      have HR3 := hide (unhide HR2 w2 b2)
      have HB := hide b2
      clear b2 HR2
      go_wp2_with fail
      refine (unhide HR3).mono ?_
      rintro e w3 ⟨rfl, b3⟩
      have hb3 := (unhide HB).trans (b3.mono (unhide HB).size)
      have HS := hide (((unhide HX).below hb3).setOf cap)
      have HY3 := hide ((unhide HY).below hb3)
      have hz3 := hb3.size
      have HB3 := hide hb3
      clear b3 hb3 HR HR3 HX HY HB
      go_wp2_with fail
      refine (unhide HS).mono ?_
      rintro e w4 ⟨rfl, hs4, b4⟩
      have hy4 := (unhide HY3).below b4
      have HK := hide (add_any w3.heap.size n x a2 n2 cap2 y w4 hs4 hy4.sts (by omega) (by omega) hy4.len)
      have hz4 := b4.size
      have HB4 := hide ((unhide HB3).trans (b4.mono hz3))
      clear hs4 b4 HB3 HY3 HS hy4
      go_wp2_with fail
      refine (unhide HK).mono ?_
      rintro e w6 ⟨rfl, hs6, ho6⟩
      have HRI := hide (scope_any w3.heap.size (n + n2) (x ++ y) w6 hs6 (by omega) (unhide HLN))
      have HB6 := hide ((unhide HB4).trans (ho6.bel hz3 (by omega)))
      clear hs6 ho6 HK HB4
      rw [← unhide HE] at HRI
      go_wp2_with fail
      refine (unhide HRI).mono ?_
      rintro e w7 ⟨a7, c7, rfl, ho7, b7⟩
      have HO7 := hide ho7
      have HB7 := hide ((unhide HB6).trans (b7.mono (unhide HB6).size))
      clear ho7 b7
      go_wp2
      go_ret2
      exact ⟨a7, c7, rfl, (unhide HO7).below (Below.refl _ _) (unhide HB6).size, unhide HB7⟩
theorem set_size {w : World} {b n : Nat} {D : DataW Unit} {u : List Bs} (hown : w.ownsMap Tryd.prog 9 (unitElem (H := Unit)) b n D) (hh : ∀ x : Bs, Maps.has D (.string x) = true ↔ x ∈ u) : Maps.size D = 0 ↔ u = [] := by
  obtain ⟨es, rfl, hk⟩ := hown.keysOf
  constructor
  · intro h0
    have : es = [] := List.eq_nil_of_length_eq_zero h0
    subst this
    rw [List.eq_nil_iff_forall_not_mem]
    intro x hx
    have := (hh x).2 hx
    simp [Maps.has] at this
  · rintro rfl
    cases es with
    | nil => rfl
    | cons p r =>
      obtain ⟨v, hv⟩ := hk p (by simp)
      obtain ⟨x, _, hx, _⟩ := Maps.keyOf_str Tryd.underlying9 hv
      have := (hh x).1 (by rw [has_eq, List.any_cons, hx, same_str]; simp)
      simp at this
set_option maxHeartbeats 8000000 in
set_option maxRecDepth 8000 in
theorem Within_any (a : Option Addr) (n cap : Nat) (x : List Bs) (a2 : Option Addr) (n2 cap2 : Nat) (y : List Bs) (w : World) (hx : Lst w a n x) (hy : Lst w a2 n2 y) :
    Calls Tryd.prog 24 #[.slice a n cap, .slice a2 n2 cap2] w fun e w' => e = .returned (.bool (within x y)) ∧ Below w.heap.size w w' := by
  have HX := hide hx
  have HY := hide hy
  have hf := hx.few
  have HR := hide (hx.right cap)
  clear hx hy
  cases h1 : right x
  · have HE : Hid (within x y = false) := hide (by simp [within, h1])
    rw [h1] at HR
    generalize within x y = r at *
    clear h1 HX HY
    go_enter Tryd.func24, Tryd.ntmps24
    go_wp2_with (first | (go_at_call 19; refine (unhide HR).mono ?_; rintro e w2 ⟨rfl, b2⟩; have HB := hide b2; clear b2))
    go_ret
    rw [unhide HE]
    exact ⟨rfl, unhide HB⟩
  · rw [h1] at HR
    have HR2 := hide (fun W (h : Below w.heap.size w W) => ((unhide HY).below h).right cap2)
    cases h2 : right y
    · have HE : Hid (within x y = false) := hide (by simp [within, h2])
      rw [h2] at HR2
      generalize within x y = r at *
      clear h1 h2 HX HY
      go_enter Tryd.func24, Tryd.ntmps24
      go_wp2_with fail
      refine (unhide HR).mono ?_
      rintro e w2 ⟨rfl, b2⟩
      have HR3 := hide (unhide HR2 w2 b2)
      have HB := hide b2
      clear b2 HR2
      go_wp2_with fail
      refine (unhide HR3).mono ?_
      rintro e w3 ⟨rfl, b3⟩
      have HB3 := hide ((unhide HB).trans (b3.mono (unhide HB).size))
      clear b3
      go_wp2
      go_ret
      rw [unhide HE]
      exact ⟨rfl, unhide HB3⟩
    · rw [h2] at HR2
      have HE := hide (show within x y = decide ((x.filter fun z => !y.contains z) = []) by rw [within_minus h1 h2, minus_eq h1 h2, Bool.eq_iff_iff]; simp)
      generalize within x y = r at *
      clear h1 h2
      go_enter Tryd.func24, Tryd.ntmps24
      go_wp2_with fail
      refine (unhide HR).mono ?_
      rintro e w2 ⟨rfl, b2⟩
      have HR3 := hide (unhide HR2 w2 b2)
      have HB := hide b2
      clear b2 HR2
      go_wp2_with fail
      refine (unhide HR3).mono ?_
      rintro e w3 ⟨rfl, b3⟩
      have hb3 := (unhide HB).trans (b3.mono (unhide HB).size)
      have HS := hide (((unhide HX).below hb3).setOf cap)
      have HY3 := hide ((unhide HY).below hb3)
      have hz3 := hb3.size
      have HB3 := hide hb3
      clear b3 hb3 HR HR3 HX HY HB
      go_wp2_with fail
      refine (unhide HS).mono ?_
      rintro e w4 ⟨rfl, hs4, b4⟩
      have HS2 := hide (((unhide HY3).below b4).setOf cap2)
      have hz4 := b4.size
      have hlt4 := hs4.lt
      have HSA := hide hs4
      have HB4 := hide ((unhide HB3).trans (b4.mono hz3))
      clear hs4 b4 HB3 HY3 HS
      go_wp2_with fail
      refine (unhide HS2).mono ?_
      rintro e w5 ⟨rfl, hs5, b5⟩
      have HK := hide (drop_any w3.heap.size n w4.heap.size n2 x y w5 ((unhide HSA).below b5) hs5 (by omega))
      have HB5 := hide ((unhide HB4).trans (b5.mono (by omega)))
      have hz5 := b5.size
      clear hs5 b5 HS2 HSA HB4
      go_wp2_with fail
      refine (unhide HK).mono ?_
      rintro e w6 ⟨rfl, hs6, ho6⟩
      obtain ⟨D, hown, hh⟩ := hs6
      have hsz := set_size hown hh
      have HSZ := hide hsz
      have HW6 := hide hown
      have HB6 := hide ((unhide HB5).trans (ho6.bel hz3 (by omega)))
      clear hown ho6 HK HB5 hh hsz
      go_wp2_with (first | (at_len; refine wpList_len_own _ rfl _ 44 rfl 9 60 Tryd.underlying44 unitElem w3.heap.size n D rfl (unhide HW6) ?_))
      go_ret
      refine ⟨ret_bool ?_, unhide HB6⟩
      rw [unhide HE, Bool.eq_iff_iff]
      simp only [decide_eq_true_eq]
      rw [← unhide HSZ]
      simp
end Go.Proofs.YtknlafgaagimjaaDoor
