import Derived.Test.YtknlafgaagimjaaDoorSck
namespace Go.Proofs.YtknlafgaagimjaaDoor
open Go.RowKit Go.Lib Go.Maps Go.Sort
abbrev tR : Bs := [114, 101, 97, 100]
abbrev tW : Bs := [119, 114, 105, 116, 101]
abbrev tA : Bs := [97]
abbrev tB : Bs := [98]
abbrev tC : Bs := [99]
theorem fx1 : parse [119, 114, 105, 116, 101, 32, 114, 101, 97, 100, 32, 119, 114, 105, 116, 101] = ([tR, tW], 0) := by kernel_rfl
theorem fx2 : parse [97, 32, 32, 98] = ([], 60) := by kernel_rfl
theorem fx3 : print [tR, tW] = ([114, 101, 97, 100, 32, 119, 114, 105, 116, 101], 0) := by kernel_rfl
theorem fx4 : join [tA, tC] [tB] = ([tA, tB, tC], 0) := by kernel_rfl
theorem fx5 : meet [tA, tB] [tB, tC] = [tB] := by kernel_rfl
theorem fx6 : minus [tA, tB] [tB, tC] = [tA] := by kernel_rfl
theorem fx7 : within [tR] [tR, tW] = true := by kernel_rfl
theorem fx8 : within [tR, tW] [tR] = false := by kernel_rfl
theorem fx9 : right [tR, tW] = true := by kernel_rfl
theorem lns_of {l : List Bs} (h : ∀ x ∈ l, x.length ≤ 9223372036854775807) : Lns l := fun j => by
  by_cases hj : j < l.length
  · have e : l.getD j [] = l[j] := by simp [hj]
    rw [e]
    exact h _ (List.getElem_mem hj)
  · have e : l.getD j [] = [] := by simp [List.getElem?_eq_none (Nat.le_of_not_lt hj)]
    rw [e]
    simp
/-- A list that is written out. -/
theorem lst_new (w : World) (l : List Bs) (hl : l.length ≤ 2147483648) (h : ∀ x ∈ l, x.length ≤ 9223372036854775807) : Lst (w.alloc (.cells (cellsS l) 9)) (some ⟨w.heap.size, 0, none⟩) l.length l := ⟨sts_new w l, hl, lns_of h⟩
theorem Own.cells {B : Nat} {w : World} {a : Option Addr} {n cap : Nat} {l : List Bs} (h : Own B w (.slice a n cap) l) (hl : l ≠ []) : ∃ g, a = some ⟨g, 0, none⟩ ∧ B ≤ g ∧ g < w.heap.size ∧ ∀ j, j < l.length → w.cell? ⟨g, j, none⟩ = some (S (l.getD j [])) := by
  rcases h.2 with ⟨e, q⟩ | ⟨g, cap', cur, e1, e2, e3, _⟩
  · exact absurd (List.eq_nil_of_length_eq_zero q) hl
  · cases e1
    refine ⟨g, rfl, e2, (Array.getElem?_eq_some_iff.1 e3).1, fun j hj => ?_⟩
    have := h.cellAt j (by omega)
    rw [this]
    simp [hj]
theorem Own.lst {B : Nat} {w : World} {a : Option Addr} {n cap : Nat} {l : List Bs} (h : Own B w (.slice a n cap) l) (hl : l.length ≤ 2147483648) (hx : ∀ x ∈ l, x.length ≤ 9223372036854775807) : Lst w a l.length l := ⟨h.sts, hl, lns_of hx⟩
theorem bel2 {w w1 w2 : World} (h1 : Below w.heap.size w w1) (h2 : Below w1.heap.size w1 w2) : Below w.heap.size w w2 := h1.trans (h2.mono h1.size)
theorem bal (w : World) (o : Obj) : Below w.heap.size w (w.alloc o) := (Below.refl _ _).alloc (Nat.le_refl _) _
theorem lst_two (w : World) (l l2 : List Bs) (hl : l.length ≤ 2147483648) (h : ∀ x ∈ l, x.length ≤ 9223372036854775807) (hl2 : l2.length ≤ 2147483648) (h2 : ∀ x ∈ l2, x.length ≤ 9223372036854775807) :
    Lst ((w.alloc (.cells (cellsS l) 9)).alloc (.cells (cellsS l2) 9)) (some ⟨w.heap.size, 0, none⟩) l.length l ∧ Lst ((w.alloc (.cells (cellsS l) 9)).alloc (.cells (cellsS l2) 9)) (some ⟨w.heap.size + 1, 0, none⟩) l2.length l2 := by
  refine ⟨(lst_new w l hl h).below (bal _ _), ?_⟩
  have := lst_new (w.alloc (.cells (cellsS l) 9)) l2 hl2 h2
  simpa using this
theorem bal2 (w : World) (o o2 : Obj) : Below w.heap.size w ((w.alloc o).alloc o2) := bel2 (bal w o) (bal _ o2)
set_option maxHeartbeats 16000000 in
set_option maxRecDepth 16000 in
theorem awake_any (w : World) : Calls Tryd.prog 9 #[] w fun e w' => e = .returned (.bool true) ∧ Below w.heap.size w w' := by
  have H1 := hide (Parse_any [119, 114, 105, 116, 101, 32, 114, 101, 97, 100, 32, 119, 114, 105, 116, 101] w (by decide))
  rw [fx1] at H1
  have H2 := hide (fun W => Parse_any [97, 32, 32, 98] W (by decide))
  rw [fx2] at H2
  have H3 := hide (fun W a (h : Lst W a 2 [tR, tW]) => Print_any a 2 2 _ W h.sts (by decide) h.len)
  rw [fx3] at H3
  have H4 := hide (fun W a b (h : Lst W a 2 [tA, tC]) (h' : Lst W b 1 [tB]) => Join_any a 2 2 _ b 1 1 _ W h h')
  rw [fx4] at H4
  have H5 := hide (fun W a b (h : Lst W a 2 [tA, tB]) (h' : Lst W b 2 [tB, tC]) => Meet_any a 2 2 _ b 2 2 _ W h h')
  rw [fx5] at H5
  have H6 := hide (fun W a b (h : Lst W a 2 [tA, tB]) (h' : Lst W b 2 [tB, tC]) => Minus_any a 2 2 _ b 2 2 _ W h h')
  rw [fx6] at H6
  have H7 := hide (fun W a b c (h : Lst W a 1 [tR]) (h' : Lst W b 2 [tR, tW]) => Within_any a 1 1 _ b 2 c _ W h h')
  rw [fx7] at H7
  have H8 := hide (fun W a b c (h : Lst W a 2 [tR, tW]) (h' : Lst W b 1 [tR]) => Within_any a 2 c _ b 1 1 _ W h h')
  rw [fx8] at H8
  have H9 := hide (fun W a c (h : Lst W a 2 [tR, tW]) => h.right c)
  rw [fx9] at H9
  go_enter Tryd.func9, Tryd.ntmps9
  go_wp2_with fail
  refine (unhide H1).mono ?_
  rintro e w1 ⟨a1, c1, rfl, o1, b1⟩
  have HO1 := hide o1
  have HB1 := hide b1
  clear o1 b1 H1
  go_wp2_with fail
  refine (unhide H2 w1).mono ?_
  rintro e w2 ⟨a2, c2, rfl, _, b2⟩
  have HO2 := hide ((unhide HO1).below b2 (Nat.le_refl _))
  have HB2 := hide (bel2 (unhide HB1) b2)
  clear b2 H2 HO1 HB1
  have L3 := hide (lst_new w2 [tR, tW] (by decide) (by decide))
  go_wp2_with fail
  refine (unhide H3 _ _ (unhide L3)).mono ?_
  rintro e w3 ⟨rfl, b3⟩
  have b23 := bel2 (bal w2 (.cells (cellsS [tR, tW]) 9)) b3
  have HO3 := hide ((unhide HO2).below b23 (Nat.le_refl _))
  have HB3 := hide (bel2 (unhide HB2) b23)
  clear b3 b23 H3 HO2 HB2 L3
  have L4 := hide (lst_two w3 [tA, tC] [tB] (by decide) (by decide) (by decide) (by decide))
  go_wp2_with fail
  refine (unhide H4 _ _ _ (unhide L4).1 (unhide L4).2).mono ?_
  rintro e w4 ⟨a4, c4, rfl, o4, b4⟩
  have b34 := bel2 (bal2 w3 (.cells (cellsS [tA, tC]) 9) (.cells (cellsS [tB]) 9)) b4
  have HO4 := hide ((unhide HO3).below b34 (Nat.le_refl _))
  have HB4 := hide (bel2 (unhide HB3) b34)
  have HJ4 := hide (o4.below (B' := 0) (Below.refl _ _) (Nat.zero_le _))
  clear b4 b34 H4 HO3 HB3 L4 o4
  have L5 := hide (lst_two w4 [tA, tB] [tB, tC] (by decide) (by decide) (by decide) (by decide))
  go_wp2_with fail
  refine (unhide H5 _ _ _ (unhide L5).1 (unhide L5).2).mono ?_
  rintro e w5 ⟨a5, c5, rfl, o5, b5⟩
  have b45 := bel2 (bal2 w4 (.cells (cellsS [tA, tB]) 9) (.cells (cellsS [tB, tC]) 9)) b5
  have HO5 := hide ((unhide HO4).below b45 (Nat.le_refl _))
  have HB5 := hide (bel2 (unhide HB4) b45)
  have HJ5 := hide ((unhide HJ4).below b45 (Nat.le_refl _))
  have HM5 := hide (o5.below (B' := 0) (Below.refl _ _) (Nat.zero_le _))
  clear b5 b45 H5 HO4 HB4 L5 o5 HJ4
  have L6 := hide (lst_two w5 [tA, tB] [tB, tC] (by decide) (by decide) (by decide) (by decide))
  go_wp2_with fail
  refine (unhide H6 _ _ _ (unhide L6).1 (unhide L6).2).mono ?_
  rintro e w6 ⟨a6, c6, rfl, o6, b6⟩
  have b56 := bel2 (bal2 w5 (.cells (cellsS [tA, tB]) 9) (.cells (cellsS [tB, tC]) 9)) b6
  have HO6 := hide ((unhide HO5).below b56 (Nat.le_refl _))
  have HB6 := hide (bel2 (unhide HB5) b56)
  have HJ6 := hide ((unhide HJ5).below b56 (Nat.le_refl _))
  have HM6 := hide ((unhide HM5).below b56 (Nat.le_refl _))
  have HN6 := hide (o6.below (B' := 0) (Below.refl _ _) (Nat.zero_le _))
  clear b6 b56 H6 HO5 HB5 L6 o6 HJ5 HM5
  have b67 := bal w6 (.cells (cellsS [tR]) 9)
  have L7 := hide (lst_new w6 [tR] (by decide) (by decide))
  have L1 := hide (((unhide HO6).lst (by decide) (by decide)).below b67)
  have HB67 := hide b67
  clear b67
  go_wp2_with fail
  refine (unhide H7 _ _ _ _ (unhide L7) (unhide L1)).mono ?_
  rintro e w7 ⟨rfl, b7⟩
  have b67 := bel2 (unhide HB67) b7
  have HO7 := hide ((unhide HO6).below b67 (Nat.le_refl _))
  have HB7 := hide (bel2 (unhide HB6) b67)
  have HJ7 := hide ((unhide HJ6).below b67 (Nat.le_refl _))
  have HM7 := hide ((unhide HM6).below b67 (Nat.le_refl _))
  have HN7 := hide ((unhide HN6).below b67 (Nat.le_refl _))
  clear b7 b67 H7 HO6 HB6 L7 L1 HJ6 HM6 HN6 HB67
  have b78 := bal w7 (.cells (cellsS [tR]) 9)
  have L7 := hide (lst_new w7 [tR] (by decide) (by decide))
  have L1 := hide (((unhide HO7).lst (by decide) (by decide)).below b78)
  have HB78 := hide b78
  clear b78
  go_wp2_with fail
  refine (unhide H8 _ _ _ _ (unhide L1) (unhide L7)).mono ?_
  rintro e w8 ⟨rfl, b8⟩
  have b78 := bel2 (unhide HB78) b8
  have HO8 := hide ((unhide HO7).below b78 (Nat.le_refl _))
  have HB8 := hide (bel2 (unhide HB7) b78)
  have HJ8 := hide ((unhide HJ7).below b78 (Nat.le_refl _))
  have HM8 := hide ((unhide HM7).below b78 (Nat.le_refl _))
  have HN8 := hide ((unhide HN7).below b78 (Nat.le_refl _))
  clear b8 b78 H8 HO7 HB7 L7 L1 HJ7 HM7 HN7 HB78
  obtain ⟨g1, rfl, _, hg1, k1⟩ := (unhide HO8).cells (by decide)
  obtain ⟨g4, rfl, _, hg4, k4⟩ := (unhide HJ8).cells (by decide)
  obtain ⟨g5, rfl, _, hg5, k5⟩ := (unhide HM8).cells (by decide)
  obtain ⟨g6, rfl, _, hg6, k6⟩ := (unhide HN8).cells (by decide)
  have k10 : w8.cell? ⟨g1, 0, none⟩ = some (S tR) := k1 0 (by decide)
  have k11 : w8.cell? ⟨g1, 1, none⟩ = some (S tW) := k1 1 (by decide)
  have k41 : w8.cell? ⟨g4, 1, none⟩ = some (S tB) := k4 1 (by decide)
  have k50 : w8.cell? ⟨g5, 0, none⟩ = some (S tB) := k5 0 (by decide)
  have k60 : w8.cell? ⟨g6, 0, none⟩ = some (S tA) := k6 0 (by decide)
  have H10 := hide (unhide H9 w8 _ c1 ((unhide HO8).lst (by decide) (by decide)))
  clear k1 k4 k5 k6 HO8 HJ8 HM8 HN8 H9
  go_wp2_with (first | (go_at_call 19; refine (unhide H10).mono ?_; rintro e w9 ⟨rfl, b9⟩; have HB9 := hide b9; clear b9))
  go_ret
  exact ⟨rfl, bel2 (unhide HB8) (unhide HB9)⟩
end Go.Proofs.YtknlafgaagimjaaDoor
