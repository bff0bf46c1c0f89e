import Derived.Test.YthlacailhfhjnaaGreatDoorZzby
import Derived.Test.YthlacailhfhjnaaGreatDoorWdt
import Derived.Test.YthlacailhfhjnaaGreatDoorZzau
namespace Go.Proofs.YthlacailhfhjnaaGreatDoor
open Go.RowKit Go.Lib
/-- Between two calls of parses. -/
structure Mid2 (w : World) (Z n : Nat) (W : World) : Prop where
  intro ::
  bok : ∃ xs ys Ls fr wa, Ls.length = n ∧ Bok w.heap.size Z xs ys Ls fr wa W
  bel : Below w.heap.size w W
theorem Mid2.below {w W W' : World} {Z n : Nat} (h : Mid2 w Z n W) (k : Below W.heap.size W W') : Mid2 w Z n W' := by
  obtain ⟨xs, ys, Ls, fr, wa, e, hb⟩ := h.bok
  exact ⟨⟨xs, ys, Ls, fr, wa, e, hb.below k⟩, h.bel.trans (k.mono h.bel.size)⟩
theorem Mid2.parses {B0 : Nat} {w W : World} {Z n : Nat} (h : Mid2 w Z n W) (hE : Env B0 w) (s : Bs) (hn : n ≤ 1000) (hs : s.length ≤ 1000000000000) :
    Calls Tryz.prog 29 #[.pointer (some ⟨Z, 0, none⟩), S s] W fun e w' => e = .returned (.bool true) ∧ Mid2 w Z (n + 2) w' := by
  obtain ⟨xs, ys, Ls, fr, wa, e, hb⟩ := h.bok
  refine (bokParses s (hE.below (h.bel.mono hE.le)) hb h.bel.size (by omega) hs).mono ?_
  rintro e2 w1 ⟨rfl, xs', ys', Ls', fr', wa', e1, hb', O⟩
  refine ⟨rfl, ⟨xs', ys', Ls', fr', wa', by omega, hb'⟩, O.below h.bel h.bel.size ?_⟩
  rintro k (rfl | q | q)
  · exact hb.hz
  · exact hb.hf k q
  · exact hb.ha k q
theorem Mid2.still {w W : World} {Z n : Nat} (h : Mid2 w Z n W) (h0 : 0 < n) (hn : n ≤ 1000) :
    Calls Tryz.prog 27 #[.pointer (some ⟨Z, 0, none⟩)] W fun e w' => e = .returned (.bool true) ∧ Below w.heap.size w w' := by
  obtain ⟨xs, ys, Ls, fr, wa, e, hb⟩ := h.bok
  refine (bokStill hb (by omega) (by omega)).mono ?_
  rintro e2 w1 ⟨rfl, b⟩
  exact ⟨rfl, h.bel.trans b⟩
set_option maxHeartbeats 8000000 in
set_option maxRecDepth 8000 in
theorem wireAnswers_any {B : Nat} (s : Bs) (st : Int) (fa : List Fl) (ba : Bs) (pa : Option Addr) (na ca : Nat) (at' by' : Int) (w : World) (hE : Env B w)
    (hA : Fls w pa na fa) (hLa : Lens fa) (hna : na ≤ 140737488351232) (hba : ba.length ≤ 140737488351232) (s1 : -9223372036854775808 ≤ st) (s2 : st ≤ 9223372036854775807)
    (hs : s.length ≤ 140737488351232) (a1 : -9223372036854775808 ≤ at') (a2 : at' ≤ 9223372036854775807) :
    Calls Tryz.prog 5 #[S s, .agg #[.int .i64 st, .slice pa na ca, S ba], .int .i64 at', .int .i64 by'] w fun e w' => e = .returned (.bool true) ∧ Below w.heap.size w w' := by
  have b1 := (Below.refl w.heap.size w).alloc (Nat.le_refl _) (.cells #[.int .i64 st, .slice pa na ca, S ba] 26)
  have x1 := heap_alloc_new w (.cells #[.int .i64 st, .slice pa na ca, S ba] 26)
  have X2 := hide (And.intro b1 x1)
  have HE := hide (And.intro hE hA)
  clear b1 x1 hE hA
  have hq1 := (tldbd fa ba)
  have hq3 := addv_bd2 hq1.1 hq1.1
  have hq4 := addv_bd2 (show (0 : Int) ≤ s.length by omega) (show (0 : Int) ≤ s.length by omega)
  go_enter Tryz.func5, Tryz.ntmps5
  go_wp2_with fail
  generalize w.alloc (.cells #[.int .i64 st, .slice pa na ca, S ba] 26) = W2 at *
  obtain ⟨b2, y1⟩ := unhide X2
  obtain ⟨hE, hA⟩ := unhide HE
  have hw2 : ∀ W, Below W2.heap.size W2 W → Below w.heap.size w W := fun W h => b2.trans (h.mono b2.size)
  have adds : ∀ (n k : Int) (W : World), 0 ≤ n → 0 ≤ k → n ≤ 9000000000000000000 → k ≤ 9000000000000000000 → Below W2.heap.size W2 W → Calls Tryz.prog 8 #[.int .i64 n, .int .i64 k] W fun e w' => e = .returned (.int .i64 (addv n k)) ∧ Below W2.heap.size W2 w' := by
    intro n k W h1 h2 h3 h4 h
    refine (add2_any n k W h1 h2 h3 h4).mono ?_
    rintro e w' ⟨rfl, hw⟩
    rw [hw]
    exact ⟨rfl, h⟩
  refine rwa5 w.heap.size na ca pa st (tld fa ba) (addv (tld fa ba) (tld fa ba)) (addv s.length s.length) (addv (addv s.length s.length) (addv (tld fa ba) (tld fa ba))) ba s rfl rfl rfl _ _ (show 32 ≤ 100 from by decide) rfl rfl (fun _ W => Below W2.heap.size W2 W) ((Below.refl _ _).drew) (fun _ _ _ _ h => h) ?_ ?_ ?_ ?_ ?_ ?_ ?_ ?_
  · intro L W h _
    exact adds _ _ W (by omega) (by omega) (by omega) (by omega) h
  · intro L W h
    have := (h.block _ (lt_of_row y1)).trans y1
    exact ⟨cell_of_row W _ 0 _ 26 (0, 0) this, cell_of_row W _ 1 _ 26 (0, 0) this, cell_of_row W _ 2 _ 26 (0, 0) this⟩
  · intro L W h _
    refine (told_any st pa na ca fa ba W (hA.below (hw2 W h)) hna hLa hba).mono ?_
    rintro e w' ⟨rfl, hb⟩
    exact ⟨rfl, h.trans (hb.mono h.size)⟩
  · intro L W h
    have := (h.block _ (lt_of_row y1)).trans y1
    exact ⟨cell_of_row W _ 0 _ 26 (0, 0) this, cell_of_row W _ 1 _ 26 (0, 0) this, cell_of_row W _ 2 _ 26 (0, 0) this⟩
  · intro L W h _
    refine (told_any st pa na ca fa ba W (hA.below (hw2 W h)) hna hLa hba).mono ?_
    rintro e w' ⟨rfl, hb⟩
    exact ⟨rfl, h.trans (hb.mono h.size)⟩
  · intro L W h _
    exact adds _ _ W hq1.1 hq1.1 (by omega) (by omega) h
  · intro L W h _
    exact adds _ _ W hq4.1 hq3.1 (by omega) (by omega) h
  intro L w3 _ b3
  have hml : addv (addv s.length s.length) (addv (tld fa ba) (tld fa ba)) ≤ 2147483647 → s.length ≤ 2147483647 := by
    intro h
    have h1 := addv_le h
    have h3 := addv_le (show addv (s.length : Int) s.length ≤ 2147483647 by omega)
    omega
  have X3 := hide (And.intro (hw2 _ b3) ((b3.block _ (lt_of_row y1)).trans y1))
  generalize addv (addv s.length s.length) (addv (tld fa ba) (tld fa ba)) = K at *
  generalize addv (tld fa ba) (tld fa ba) = A at *
  generalize addv (s.length : Int) s.length = D at *
  generalize tld fa ba = TT at *
  clear b2 b3 y1 hE hA hw2 adds hq1 hq3 hq4 X2
  by_cases hK : 2147483647 < K
  · have hK' : decide ((2147483647 : Int) < K) = true := by simpa using hK
    rw [hK']
    simp only [Act.put, List.setIfInBounds_toArray, List.set_cons_succ, List.set_cons_zero]
    go_wp2
    go_ret
    exact ⟨rfl, (unhide X3).1⟩
  have hK' : decide ((2147483647 : Int) < K) = false := by simpa using hK
  rw [hK']
  have hm31 := hml (by omega)
  clear hml hK hK'
  simp only [Act.put, List.setIfInBounds_toArray, List.set_cons_succ, List.set_cons_zero]
  have H3 := hide (awake_any w3 ((unhide HE).1.below ((unhide X3).1.mono (unhide HE).1.le)))
  go_wp2_with fail
  refine (unhide H3).mono ?_
  rintro e w4 ⟨rfl, b4⟩
  obtain ⟨b3, y3⟩ := unhide X3
  have b4' := b3.trans (b4.mono b3.size)
  have y4 := (b4.block _ (lt_of_row y3)).trans y3
  have hS := Bok.start w4 w.heap.size b4'.size
  have b5 := (Below.refl w4.heap.size w4).alloc (Nat.le_refl _) (.cells (bks (.slice none 0 0) (.slice none 0 0) (.slice none 0 0) (.slice none 0 0)) 53)
  obtain ⟨w5, hw5⟩ : ∃ w5, w5 = w4.alloc (.cells (bks (.slice none 0 0) (.slice none 0 0) (.slice none 0 0) (.slice none 0 0)) 53) := ⟨_, rfl⟩
  rw [← hw5] at hS b5
  have y5 := (b5.block _ (lt_of_row y4)).trans y4
  have d0 : w5.cell? ⟨w.heap.size, 0, none⟩ = some (.int .i64 st) := cell_of_row w5 _ 0 _ 26 (0, 0) y5
  have d1 : w5.cell? ⟨w.heap.size, 1, none⟩ = some (.slice pa na ca) := cell_of_row w5 _ 1 _ 26 (0, 0) y5
  have d2 : w5.cell? ⟨w.heap.size, 2, none⟩ = some (S ba) := cell_of_row w5 _ 2 _ 26 (0, 0) y5
  have X5 := hide (show Mid2 w w4.heap.size 0 w5 from ⟨⟨[], [], [], _, _, rfl, hS⟩, b4'.trans (b5.mono b4'.size)⟩)
  have H4 := hide (answer_any st fa ba pa na ca w5 ((unhide HE).2.below (unhide X5).bel) hLa hna hba s1 s2)
  clear b3 y3 b4 b4' y4 y5 X3 H3 hS b5
  unfold bks at hw5
  rw [hw5] at d0 d1 d2
  go_wp2_with fail
  rw [← hw5]
  clear d0 d1 d2 hw5
  refine (unhide H4).mono ?_
  rintro e w6 ⟨n, hs2, b, a, k, rfl, k1, k2, k3, k4, k5⟩
  have f6 := owns_fls k3 rfl
  obtain ⟨T, t1, t2⟩ := at_of s k1 k2
  have hl6 := flw_len k2
  have h6 := rPrintAnswer_any n hs2 b a hs2.length k w6 f6 (lens_flw k2) (by omega) (by omega)
  rw [t1] at h6
  have H6 := hide h6
  have X6 := hide ((unhide X5).below k5)
  have hT := t2.len
  have hT0 := t2.pos
  clear k1 k2 k3 k4 k5 f6 X5 H4 h6 t1 t2 hl6
  go_wp2_with fail
  refine (unhide H6).mono ?_
  rintro e w7 ⟨rfl, b7⟩
  have X7 := hide ((unhide X6).below b7)
  have H7 := hide ((unhide X7).parses (unhide HE).1 s (by omega) (by omega))
  clear b7 X6 H6
  go_wp2_with fail
  refine (unhide H7).mono ?_
  rintro e w8 ⟨rfl, q8⟩
  have X8 := hide q8
  have H8 := hide (q8.parses (unhide HE).1 T (by omega) (by omega))
  clear q8 X7 H7
  go_wp2_with fail
  refine (unhide H8).mono ?_
  rintro e w9 ⟨rfl, q9⟩
  have X9 := hide q9
  have H9 := hide (q9.parses (unhide HE).1 (T ++ s) (by omega) (by simp; omega))
  clear q9 X8 H8
  go_wp2_with fail
  rw [ba_append]
  refine (unhide H9).mono ?_
  rintro e w10 ⟨rfl, q10⟩
  have X10 := hide q10
  have H10 := hide (pick_any at' T.length w10 hT0 (by omega) a1 a2)
  have hpk := pkv_lt at' T.length hT0
  generalize pkv at' T.length = kk at *
  clear q10 X9 H9
  go_wp2_with fail
  refine (unhide H10).mono ?_
  rintro e w10' ⟨rfl, hw10⟩
  rw [hw10]
  clear hw10 w10' H10
  have hkl : (kk : Int) ≤ (T.length : Int) := by omega
  have H11 := hide ((unhide X10).parses (unhide HE).1 (T.take kk) (by omega) (by simp; omega))
  go_wp2_with fail
  rw [show ({ data := List.toArray T } : ByteArray).extract 0 kk = ⟨(T.take kk).toArray⟩ by rw [extract_eq]; simp]
  refine (unhide H11).mono ?_
  rintro e w11 ⟨rfl, q11⟩
  have X11 := hide q11
  have H12 := hide (bent_any T at' by' w11 a1 a2 (by omega))
  clear q11 X10 H11
  go_wp2_with fail
  refine (unhide H12).mono ?_
  rintro e w12 ⟨Y, rfl, hY, b12⟩
  have X12 := hide ((unhide X11).below b12)
  have H13 := hide ((unhide X12).parses (unhide HE).1 Y (by omega) (by omega))
  clear b12 X11 H12
  go_wp2_with fail
  refine (unhide H13).mono ?_
  rintro e w13 ⟨rfl, q13⟩
  have X13 := hide q13
  have H14 := hide (pick_any at' 40 w13 (by omega) (by omega) a1 a2)
  have hpk2 := pkv_lt at' 40 (by omega)
  generalize pkv at' 40 = kk2 at *
  clear q13 X12 H13
  go_wp2_with fail
  refine (unhide H14).mono ?_
  rintro e w13' ⟨rfl, hw13⟩
  rw [hw13]
  clear hw13 w13' H14
  have H15 := hide (bent_any T kk2 by' w13 (by omega) (by omega) (by omega))
  go_wp2_with fail
  refine (unhide H15).mono ?_
  rintro e w14 ⟨Y2, rfl, hY2, b14⟩
  have X14 := hide ((unhide X13).below b14)
  have H16 := hide ((unhide X14).parses (unhide HE).1 Y2 (by omega) (by omega))
  clear b14 X13 H15
  go_wp2_with fail
  refine (unhide H16).mono ?_
  rintro e w15 ⟨rfl, q15⟩
  have H17 := hide (q15.still (by omega) (by omega))
  clear q15 X14 H16
  go_wp2_with fail
  refine (unhide H17).mono ?_
  rintro e w16 ⟨rfl, q16⟩
  have H18 := hide q16
  clear q16 H17
  go_wp2
  go_ret
  exact ⟨rfl, unhide H18⟩
end Go.Proofs.YthlacailhfhjnaaGreatDoor
