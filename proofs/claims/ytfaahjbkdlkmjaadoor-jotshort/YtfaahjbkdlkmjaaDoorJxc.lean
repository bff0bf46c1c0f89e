import Derived.Test.YtfaahjbkdlkmjaaDoorJem
import Derived.Test.YtfaahjbkdlkmjaaDoorJcd
import Derived.Test.YtfaahjbkdlkmjaaDoorJxa
/- Jot: Same. -/
namespace Go.Proofs.YtfaahjbkdlkmjaaDoor
open Go Go.RowKit Go.Lib
set_option linter.unusedVariables false
set_option linter.unusedSimpArgs false
theorem clone32_any (s : Bs) (w : World) (hs : s.length ≤ 9223372036854775807) (h48 : s.length ≤ 281474976710656) :
    Calls Tryd.prog 32 #[S s] w fun e w' => e = .returned (S s) ∧ Below w.heap.size w w' := by
  have HC := hide (Tryd.stringslite_Clone ⟨s.toArray⟩ w (by show s.toArray.size ≤ _; simpa using h48))
  go_enter Tryd.func32, Tryd.ntmps32
  go_wp2_with fail
  refine (unhide HC).mono ?_
  rintro e w1 ⟨rfl, h1⟩
  go_wp2_with fail
  go_ret
  exact ⟨rfl, h1⟩
theorem bs_map_inj : ∀ (a b : List Bs), (a.map fun l => (⟨l.toArray⟩ : ByteArray)) = (b.map fun l => (⟨l.toArray⟩ : ByteArray)) ↔ a = b := by
  intro a b
  constructor
  · intro h
    induction a generalizing b with
    | nil => cases b with
      | nil => rfl
      | cons y b => simp at h
    | cons x a ih => cases b with
      | nil => simp at h
      | cons y b =>
        simp only [List.map_cons, List.cons.injEq, ByteArray.mk.injEq] at h
        rw [ih b h.2, show x = y by simpa using congrArg Array.toList h.1]
  · rintro rfl; rfl
theorem equal_names (na : Option Addr) (nc : Nat) (ns : List Bs) (na2 : Option Addr) (nc2 : Nat) (ns2 : List Bs) (w : World) (h1 : Nms w na ns) (h2 : Nms w na2 ns2) :
    Calls Tryd.prog 17 #[.slice na ns.length nc, .slice na2 ns2.length nc2] w fun e w' => e = .returned (.bool (decide (ns = ns2))) ∧ Below w.heap.size w w' := by
  by_cases hl : ns.length = ns2.length
  · by_cases h0 : ns.length = 0
    · obtain rfl : ns = [] := List.eq_nil_of_length_eq_zero h0
      obtain rfl : ns2 = [] := List.eq_nil_of_length_eq_zero (by omega)
      have := Tryd.slices_Equal_string_empty na na2 nc 0 nc2 w (by omega)
      refine this.mono ?_
      rintro e w' ⟨rfl, rfl⟩
      exact ⟨rfl, Below.refl _ _⟩
    · obtain ⟨p, q, rfl, hc1⟩ := h1.2.2 (by omega)
      obtain ⟨p2, q2, rfl, hc2⟩ := h2.2.2 (by omega)
      have := Tryd.slices_Equal_string p q ns.length nc p2 q2 ns2.length nc2 (ns.map fun l => ⟨l.toArray⟩) (ns2.map fun l => ⟨l.toArray⟩) w (by simp) (by simp) (by have := h1.1; omega) (by have := h2.1; omega)
        (fun j hj => by
          have hj' : j < ns.length := by simpa using hj
          have := hc1 j ns[j] (List.getElem?_eq_getElem hj')
          rw [this]
          simp [hj'])
        (fun j hj => by
          have hj' : j < ns2.length := by simpa using hj
          have := hc2 j ns2[j] (List.getElem?_eq_getElem hj')
          rw [this]
          simp [hj'])
      refine this.mono ?_
      rintro e w' ⟨rfl, q, rfl⟩
      refine ⟨?_, below_drewNq (Below.refl _ _) q⟩
      rw [List.take_of_length_le (by simp), List.take_of_length_le (by simp)]
      congr 2
      exact decide_eq_decide.2 (bs_map_inj ns ns2)
  · have := Tryd.slices_Equal_string_lens na na2 ns.length nc ns2.length nc2 w hl
    refine this.mono ?_
    rintro e w' ⟨rfl, rfl⟩
    exact ⟨by rw [decide_eq_false (fun h => hl (by rw [h]))], Below.refl _ _⟩
/-- Same of a value and another. -/
def SmC (x : J) : Prop := ∀ (y : J) (na : Option Addr) (nc : Nat) (xa : Option Addr) (xc : Nat) (na2 : Option Addr) (nc2 : Nat) (xa2 : Option Addr) (xc2 : Nat) (w : World), JP w na xa x → JP w na2 xa2 y →
  Calls Tryd.prog 9 #[vJ x.k x.n x.t na x.ns.length nc xa x.xs.length xc, vJ y.k y.n y.t na2 y.ns.length nc2 xa2 y.xs.length xc2] w fun e w' => e = .returned (.bool (eqJ x y)) ∧ Below w.heap.size w w'
theorem eqL_take : ∀ (xs ys : List J), eqL xs ys = true → xs.length = ys.length
  | [], [], _ => rfl
  | [], _ :: _, h => by rw [eqL] at h; cases h; all_goals simp
  | _ :: _, [], h => by rw [eqL] at h; cases h; all_goals simp
  | x :: l, y :: m, h => by
    rw [eqL, Bool.and_eq_true] at h
    simp [eqL_take l m h.2]
theorem eqL_len {xs ys : List J} (h : xs.length ≠ ys.length) : eqL xs ys = false := by
  rw [Bool.eq_false_iff]
  exact fun q => h (eqL_take xs ys q)
theorem eqL_step : ∀ (xs ys : List J) (k : Nat) (x y : J), xs.length = ys.length → xs[k]? = some x → ys[k]? = some y → eqL (xs.take k) (ys.take k) = true → eqL (xs.take (k + 1)) (ys.take (k + 1)) = eqJ x y ∧ (eqJ x y = false → eqL xs ys = false)
  | [], _, k, x, y, hl, h1, h2, h3 => by simp at h1
  | _ :: _, [], k, x, y, hl, h1, h2, h3 => by simp at h2
  | a :: l, b :: m, 0, x, y, hl, h1, h2, h3 => by
    simp only [List.getElem?_cons_zero, Option.some.injEq] at h1 h2
    subst h1 h2
    simp only [Nat.zero_add, List.take_succ_cons, List.take_zero]
    refine ⟨by simp [eqL], fun h => by rw [eqL, h]; rfl⟩
  | a :: l, b :: m, k + 1, x, y, hl, h1, h2, h3 => by
    simp only [List.take_succ_cons] at h3 ⊢
    rw [eqL, Bool.and_eq_true] at h3
    obtain ⟨i1, i2⟩ := eqL_step l m k x y (by simpa using hl) (by simpa using h1) (by simpa using h2) h3.2
    rw [eqL, h3.1, Bool.true_and, i1]
    refine ⟨rfl, fun h => ?_⟩
    rw [eqL, i2 h, Bool.and_false]
set_option maxHeartbeats 8000000 in
set_option maxRecDepth 20000 in
theorem equalf_any (xs ys : List J) (IH : ∀ x ∈ xs, SmC x) (xa : Option Addr) (xc : Nat) (ya : Option Addr) (yc : Nat) (w : World)
    (h1 : xs.length ≤ 9223372036854775807) (h2 : 0 < xs.length → ∃ b o, xa = some ⟨b, o, none⟩ ∧ JsP w b o xs) (h3 : ys.length ≤ 9223372036854775807) (h4 : 0 < ys.length → ∃ b o, ya = some ⟨b, o, none⟩ ∧ JsP w b o ys) :
    Calls Tryd.prog 18 #[.slice xa xs.length xc, .slice ya ys.length yc, .func (.func 9) #[] #[]] w fun e w' => e = .returned (.bool (eqL xs ys)) ∧ Below w.heap.size w w' := by
  by_cases hl : xs.length = ys.length
  · have HIH := hide IH
    have H2 := hide h2
    have H4 := hide h4
    have HL := hide hl
    clear IH h2 h4 hl
    go_enter Tryd.func18, Tryd.ntmps18
    rw [← unhide HL]
    go_wp2_with fail
    go_loopw [17] (fun i9 wr => ∃ k : Nat, i9 = .int .i64 k ∧ k ≤ xs.length ∧ eqL (xs.take k) (ys.take k) = true ∧ Below w.heap.size w wr) (fun i9 _ => xs.length - (Go.RowKit.intOf i9).toNat)
    case atStart => exact ⟨0, rfl, by omega, by simp [eqL], Below.refl _ _⟩
    case round =>
      obtain ⟨k, rfl, hk, hq, hb⟩ := hrel
      by_cases hlt : k < xs.length
      · have hlt' : (k : Int) < (xs.length : Int) := by omega
        obtain ⟨b, q, rfl, hjs⟩ := unhide H2 (by omega)
        obtain ⟨b2, q2, rfl, hjs2⟩ := unhide H4 (by have := unhide HL; omega)
        obtain ⟨x, hxk⟩ : ∃ x, xs[k]? = some x := ⟨_, List.getElem?_eq_getElem hlt⟩
        obtain ⟨y, hyk⟩ : ∃ y, ys[k]? = some y := ⟨_, List.getElem?_eq_getElem (by have := unhide HL; omega)⟩
        obtain ⟨na2, nc2, xa2, xc2, hc, hjp⟩ := JsP.at xs k x hjs hxk
        obtain ⟨na3, nc3, xa3, xc3, hd, hjp2⟩ := JsP.at ys k y hjs2 hyk
        have hba : Below w.heap.size w (wr.alloc (.cells #[I x.k, I x.n, S x.t, .slice na2 x.ns.length nc2, .slice xa2 x.xs.length xc2] 25)) := hb.alloc hb.size _
        have hbb : Below w.heap.size w ((wr.alloc (.cells #[I x.k, I x.n, S x.t, .slice na2 x.ns.length nc2, .slice xa2 x.xs.length xc2] 25)).alloc (.cells #[I y.k, I y.n, S y.t, .slice na3 y.ns.length nc3, .slice xa3 y.xs.length xc3] 25)) := hba.alloc hba.size _
        have c0 : wr.cell? ⟨b, q + k * 5, none⟩ = some (I x.k) := cell_old hb (hc 0 _ rfl)
        have c1 : wr.cell? ⟨b, q + k * 5 + 1, none⟩ = some (I x.n) := cell_old hb (hc 1 _ rfl)
        have c2 : wr.cell? ⟨b, q + k * 5 + 2, none⟩ = some (S x.t) := cell_old hb (hc 2 _ rfl)
        have c3 : wr.cell? ⟨b, q + k * 5 + 3, none⟩ = some (.slice na2 x.ns.length nc2) := cell_old hb (hc 3 _ rfl)
        have c4 : wr.cell? ⟨b, q + k * 5 + 4, none⟩ = some (.slice xa2 x.xs.length xc2) := cell_old hb (hc 4 _ rfl)
        have HX := hide ((unhide HIH) x (List.mem_of_getElem? hxk) y na2 nc2 xa2 xc2 na3 nc3 xa3 xc3 _ (JP.keep hbb x hjp) (JP.keep hbb y hjp2))
        have HBB := hide hbb
        obtain ⟨wA, hwA⟩ : ∃ wA, wr.alloc (.cells #[I x.k, I x.n, S x.t, .slice na2 x.ns.length nc2, .slice xa2 x.xs.length xc2] 25) = wA := ⟨_, rfl⟩
        rw [hwA] at hba HX HBB
        have d0 : wA.cell? ⟨b2, q2 + k * 5, none⟩ = some (I y.k) := cell_old hba (hd 0 _ rfl)
        have d1 : wA.cell? ⟨b2, q2 + k * 5 + 1, none⟩ = some (I y.n) := cell_old hba (hd 1 _ rfl)
        have d2 : wA.cell? ⟨b2, q2 + k * 5 + 2, none⟩ = some (S y.t) := cell_old hba (hd 2 _ rfl)
        have d3 : wA.cell? ⟨b2, q2 + k * 5 + 3, none⟩ = some (.slice na3 y.ns.length nc3) := cell_old hba (hd 3 _ rfl)
        have d4 : wA.cell? ⟨b2, q2 + k * 5 + 4, none⟩ = some (.slice xa3 y.xs.length xc3) := cell_old hba (hd 4 _ rfl)
        have HST := hide (eqL_step xs ys k x y (unhide HL) hxk hyk hq)
        unfold vJ at HX
        obtain ⟨wB, hwB⟩ : ∃ wB, wA.alloc (.cells #[I y.k, I y.n, S y.t, .slice na3 y.ns.length nc3, .slice xa3 y.xs.length xc3] 25) = wB := ⟨_, rfl⟩
        rw [hwB] at HX HBB
        have rA : wB.heap[wr.heap.size]? = some (.cells #[I x.k, I x.n, S x.t, .slice na2 x.ns.length nc2, .slice xa2 x.xs.length xc2] 25 (0, 0)) := by rw [← hwB, ← hwA]; exact row_old (heap_alloc_new wr _)
        have rB : wB.heap[wA.heap.size]? = some (.cells #[I y.k, I y.n, S y.t, .slice na3 y.ns.length nc3, .slice xa3 y.xs.length xc3] 25 (0, 0)) := by rw [← hwB]; exact heap_alloc_new wA _
        have f0 : wB.cell? ⟨wr.heap.size, 0, none⟩ = some (I x.k) := by rw [cell_at rA]; rfl
        have f1 : wB.cell? ⟨wr.heap.size, 1, none⟩ = some (I x.n) := by rw [cell_at rA]; rfl
        have f2 : wB.cell? ⟨wr.heap.size, 2, none⟩ = some (S x.t) := by rw [cell_at rA]; rfl
        have f3 : wB.cell? ⟨wr.heap.size, 3, none⟩ = some (.slice na2 x.ns.length nc2) := by rw [cell_at rA]; rfl
        have f4 : wB.cell? ⟨wr.heap.size, 4, none⟩ = some (.slice xa2 x.xs.length xc2) := by rw [cell_at rA]; rfl
        have g0 : wB.cell? ⟨wA.heap.size, 0, none⟩ = some (I y.k) := by rw [cell_at rB]; rfl
        have g1 : wB.cell? ⟨wA.heap.size, 1, none⟩ = some (I y.n) := by rw [cell_at rB]; rfl
        have g2 : wB.cell? ⟨wA.heap.size, 2, none⟩ = some (S y.t) := by rw [cell_at rB]; rfl
        have g3 : wB.cell? ⟨wA.heap.size, 3, none⟩ = some (.slice na3 y.ns.length nc3) := by rw [cell_at rB]; rfl
        have g4 : wB.cell? ⟨wA.heap.size, 4, none⟩ = some (.slice xa3 y.xs.length xc3) := by rw [cell_at rB]; rfl
        clear hjs hjs2 hc hd hjp hjp2 hb hba hbb hxk hyk hq rA rB
        go_wp2_with fail
        refine (unhide HX).mono ?_
        rintro e w2 ⟨rfl, h2⟩
        have HB2 := hide ((unhide HBB).trans (h2.mono (unhide HBB).size))
        clear h2 HX HBB c0 c1 c2 c3 c4 d0 d1 d2 d3 d4 f0 f1 f2 f3 f4 g0 g1 g2 g3 g4 hwA hwB
        obtain ⟨B, hB⟩ : ∃ B, eqJ x y = B := ⟨_, rfl⟩
        rw [hB] at HST
        rw [hB]
        cases B with
        | false =>
          have hf := hide ((unhide HST).2 rfl)
          clear HST hB
          go_wp2_with fail
          go_ret
          exact ⟨by rw [unhide hf] <;> rfl, unhide HB2⟩
        | true =>
          have hf := hide (unhide HST).1
          clear HST hB
          go_wp2_with fail
          go_roundw
          case rel => exact ⟨k + 1, by go_num, by omega, unhide hf, unhide HB2⟩
          case measure => simp [Go.RowKit.intOf]; omega
      · have hke : k = xs.length := by omega
        subst hke
        rw [List.take_length, List.take_of_length_le (by have := unhide HL; omega)] at hq
        have HB2 := hide hb
        have HQ := hide hq
        clear hb hq
        go_wp2_with fail
        go_ret
        exact ⟨by rw [unhide HQ] <;> rfl, unhide HB2⟩
  · have HX := hide (eqL_len hl)
    have hl' : ¬ ((xs.length : Int) = (ys.length : Int)) := by omega
    clear IH h2 h4
    go_enter Tryd.func18, Tryd.ntmps18
    go_wp2_with fail
    go_ret
    exact ⟨by rw [unhide HX] <;> rfl, Below.refl _ _⟩
end Go.Proofs.YtfaahjbkdlkmjaaDoor
