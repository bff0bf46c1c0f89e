import Derived.Test.YtfaahjbkdlkmjaaDoorJer
/- Jot: a value is read. -/
namespace Go.Proofs.YtfaahjbkdlkmjaaDoor
open Go Go.RowKit Go.Lib
set_option linter.unusedVariables false
set_option linter.unusedSimpArgs false
theorem val_step (f d : Nat) (r : Bs) (c : UInt8) (hc : r.headD 0 = c) : val (f + 1) d r =
    if c = 110 then match word [110, 117, 108, 108] r with
      | .error e => .error e
      | .ok t => .ok (.mk 0 0 [] [] [], t)
    else if c = 102 then match word [102, 97, 108, 115, 101] r with
      | .error e => .error e
      | .ok t => .ok (.mk 1 0 [] [] [], t)
    else if c = 116 then match word [116, 114, 117, 101] r with
      | .error e => .error e
      | .ok t => .ok (.mk 2 0 [] [] [], t)
    else if c = 34 then match letters r with
      | .error e => .error e
      | .ok (s, t) => match want 34 t with
        | .error e => .error e
        | .ok t2 => .ok (.mk 4 0 s [] [], t2)
    else if c = 91 then match lst f d r with
      | .error e => .error e
      | .ok (xs, t) => .ok (.mk 5 0 [] [] xs, t)
    else if c = 123 then match obj f d r with
      | .error e => .error e
      | .ok (ns, xs, t) => .ok (.mk 6 0 [] ns xs, t)
    else match num r with
      | .error e => .error e
      | .ok (n, t) => .ok (.mk 3 n [] [] [], t) := by
  rw [val]
  simp only [hc]
  by_cases h1 : c = 110
  · rw [if_pos h1, if_pos h1]
    cases word [110, 117, 108, 108] r <;> rfl
  rw [if_neg h1, if_neg h1]
  by_cases h2 : c = 102
  · rw [if_pos h2, if_pos h2]
    cases word [102, 97, 108, 115, 101] r <;> rfl
  rw [if_neg h2, if_neg h2]
  by_cases h3 : c = 116
  · rw [if_pos h3, if_pos h3]
    cases word [116, 114, 117, 101] r <;> rfl
  rw [if_neg h3, if_neg h3]
  by_cases h4 : c = 34
  · rw [if_pos h4, if_pos h4]
    cases letters r with
    | error e => rfl
    | ok x =>
      obtain ⟨s, t⟩ := x
      simp only
      cases want 34 t <;> rfl
  rw [if_neg h4, if_neg h4]
  by_cases h5 : c = 91
  · rw [if_pos h5, if_pos h5]
    unfold lst
    by_cases h : d = 16
    · rw [if_pos h, if_pos h]
    · rw [if_neg h, if_neg h]
      by_cases hh : (sk r.tail).headD 0 = 93
      · rw [if_pos hh, if_pos hh]
      · rw [if_neg hh, if_neg hh]
        cases itm f (d + 1) [] (sk r.tail) <;> rfl
  rw [if_neg h5, if_neg h5]
  by_cases h6 : c = 123
  · rw [if_pos h6, if_pos h6]
    unfold obj
    by_cases h : d = 16
    · rw [if_pos h, if_pos h]
    · rw [if_neg h, if_neg h]
      by_cases hh : (sk r.tail).headD 0 = 125
      · rw [if_pos hh, if_pos hh]
      · rw [if_neg hh, if_neg hh]
        cases mem f (d + 1) [] [] (sk r.tail) <;> rfl
  rw [if_neg h6, if_neg h6]
  cases num r <;> rfl
theorem ND_nil (W : World) (D : Nat → Prop) (a : Option Addr) : ND W D a [] := ⟨⟨by simp, fun x hx => absurd hx (by simp), fun h0 => absurd h0 (by simp)⟩, fun h0 => absurd h0 (by simp)⟩
theorem JD_leaf (W : World) (D : Nat → Prop) (k n : Int) (t : Bs) (ht : t.length ≤ 9223372036854775807) : JD W D none none (.mk k n t [] []) := by
  rw [JD]
  exact ⟨ht, ND_nil W D none, by simp, fun h0 => absurd h0 (by simp)⟩
theorem eq_no {c : UInt8} {n : Nat} (hn : n < 256) (h : ¬ c = UInt8.ofNat n) : ((c.toNat : Int) == (n : Int)) = false := by
  have := @u8_ne c n hn
  rw [bne, decide_eq_true (show c ≠ UInt8.ofNat n from h)] at this
  simpa using this
set_option maxHeartbeats 32000000 in
set_option maxRecDepth 20000 in
theorem value_next (f : Nat) (IH : ∀ g, g < f → VC g) : VC (f + 1) := by
  intro d b s r w hd h hE hb3 hno
  have HLk := hide (look_any b s r w h)
  have hsl := h.le
  have hrl := h.len
  have H := hide h
  have HE := hide hE
  have HNO := hide hno
  have HIH := hide IH
  obtain ⟨c, hc⟩ : ∃ c, r.headD 0 = c := ⟨_, rfl⟩
  have HVS := hide (val_step f d r c hc)
  have HC := hide hc
  rw [hc] at HLk
  obtain ⟨V, hV⟩ : ∃ V, val (f + 1) d r = V := ⟨_, rfl⟩
  rw [hV] at HVS HNO
  rw [hV]
  clear h hE hno IH hc hV
  by_cases n110 : c = 110
  · have HX := hide (show V = (match word [110, 117, 108, 108] r with
        | .error e => .error e
        | .ok t => .ok (.mk 0 0 [] [] [], t)) by rw [unhide HVS, if_pos n110])
    have e110 : ((c.toNat : Int) == 110) = true := by subst n110; rfl
    clear HVS HC  n110
    generalize c.toNat = cn at *
    go_enter Tryd.func29, Tryd.ntmps29
    go_wp2_with fail
    refine (unhide HLk).mono ?_
    rintro e w1 ⟨rfl, q, rfl⟩
    have H1 := hide ((unhide H).drewN q)
    have O1 := hide (Onl.drewN b w q)
    have hz1 : (w.drewN q).heap.size = w.heap.size := rfl
    generalize w.drewN q = w1 at *
    clear HLk H
    have HW := hide (word_any [110, 117, 108, 108] (by decide) (by decide) b s r w1 (unhide H1))
    clear H1
    go_wp2_with fail
    refine (unhide HW).mono ?_
    rintro e w2 ⟨oX, he⟩
    cases hx : word [110, 117, 108, 108] r with
    | error er =>
      rw [hx] at he
      subst he
      have HX2 := hide (show V = .error er by rw [unhide HX, hx])
      have OX := hide ((unhide O1).trans oX)
      clear hx HX oX HW
      go_wp2_with fail
      exact ⟨rfl, PO.bad (unhide HX2) (unhide OX) rfl⟩
    | ok t =>
      rw [hx] at he
      obtain ⟨rfl, h2⟩ := he
      have HX2 := hide (show V = .ok (.mk 0 0 [] [] [], t) by rw [unhide HX, hx])
      have OX := hide ((unhide O1).trans oX)
      clear hx HX oX HW
      go_wp2_with fail
      go_ret
      exact PO.ok (unhide HX2) (unhide OX) ⟨⟨⟨.mk 0 0 [] [] [], none, 0, none, 0⟩, rfl, rfl, .inl ⟨by decide, rfl, rfl, rfl, rfl, rfl, rfl, rfl, rfl⟩, JD_leaf _ _ _ _ _ (by simp)⟩, h2⟩
  by_cases n102 : c = 102
  · have HX := hide (show V = (match word [102, 97, 108, 115, 101] r with
        | .error e => .error e
        | .ok t => .ok (.mk 1 0 [] [] [], t)) by rw [unhide HVS, if_neg n110, if_pos n102])
    have e110 : ((c.toNat : Int) == 110) = false := eq_no (n := 110) (by decide) n110
    have e102 : ((c.toNat : Int) == 102) = true := by subst n102; rfl
    clear HVS HC n110 n102
    generalize c.toNat = cn at *
    go_enter Tryd.func29, Tryd.ntmps29
    go_wp2_with fail
    refine (unhide HLk).mono ?_
    rintro e w1 ⟨rfl, q, rfl⟩
    have H1 := hide ((unhide H).drewN q)
    have O1 := hide (Onl.drewN b w q)
    have hz1 : (w.drewN q).heap.size = w.heap.size := rfl
    generalize w.drewN q = w1 at *
    clear HLk H
    have HW := hide (word_any [102, 97, 108, 115, 101] (by decide) (by decide) b s r w1 (unhide H1))
    clear H1
    go_wp2_with fail
    refine (unhide HW).mono ?_
    rintro e w2 ⟨oX, he⟩
    cases hx : word [102, 97, 108, 115, 101] r with
    | error er =>
      rw [hx] at he
      subst he
      have HX2 := hide (show V = .error er by rw [unhide HX, hx])
      have OX := hide ((unhide O1).trans oX)
      clear hx HX oX HW
      go_wp2_with fail
      exact ⟨rfl, PO.bad (unhide HX2) (unhide OX) rfl⟩
    | ok t =>
      rw [hx] at he
      obtain ⟨rfl, h2⟩ := he
      have HX2 := hide (show V = .ok (.mk 1 0 [] [] [], t) by rw [unhide HX, hx])
      have OX := hide ((unhide O1).trans oX)
      clear hx HX oX HW
      go_wp2_with fail
      go_ret
      exact PO.ok (unhide HX2) (unhide OX) ⟨⟨⟨.mk 1 0 [] [] [], none, 0, none, 0⟩, rfl, rfl, .inl ⟨by decide, rfl, rfl, rfl, rfl, rfl, rfl, rfl, rfl⟩, JD_leaf _ _ _ _ _ (by simp)⟩, h2⟩
  by_cases n116 : c = 116
  · have HX := hide (show V = (match word [116, 114, 117, 101] r with
        | .error e => .error e
        | .ok t => .ok (.mk 2 0 [] [] [], t)) by rw [unhide HVS, if_neg n110, if_neg n102, if_pos n116])
    have e110 : ((c.toNat : Int) == 110) = false := eq_no (n := 110) (by decide) n110
    have e102 : ((c.toNat : Int) == 102) = false := eq_no (n := 102) (by decide) n102
    have e116 : ((c.toNat : Int) == 116) = true := by subst n116; rfl
    clear HVS HC n110 n102 n116
    generalize c.toNat = cn at *
    go_enter Tryd.func29, Tryd.ntmps29
    go_wp2_with fail
    refine (unhide HLk).mono ?_
    rintro e w1 ⟨rfl, q, rfl⟩
    have H1 := hide ((unhide H).drewN q)
    have O1 := hide (Onl.drewN b w q)
    have hz1 : (w.drewN q).heap.size = w.heap.size := rfl
    generalize w.drewN q = w1 at *
    clear HLk H
    have HW := hide (word_any [116, 114, 117, 101] (by decide) (by decide) b s r w1 (unhide H1))
    clear H1
    go_wp2_with fail
    refine (unhide HW).mono ?_
    rintro e w2 ⟨oX, he⟩
    cases hx : word [116, 114, 117, 101] r with
    | error er =>
      rw [hx] at he
      subst he
      have HX2 := hide (show V = .error er by rw [unhide HX, hx])
      have OX := hide ((unhide O1).trans oX)
      clear hx HX oX HW
      go_wp2_with fail
      exact ⟨rfl, PO.bad (unhide HX2) (unhide OX) rfl⟩
    | ok t =>
      rw [hx] at he
      obtain ⟨rfl, h2⟩ := he
      have HX2 := hide (show V = .ok (.mk 2 0 [] [] [], t) by rw [unhide HX, hx])
      have OX := hide ((unhide O1).trans oX)
      clear hx HX oX HW
      go_wp2_with fail
      go_ret
      exact PO.ok (unhide HX2) (unhide OX) ⟨⟨⟨.mk 2 0 [] [] [], none, 0, none, 0⟩, rfl, rfl, .inl ⟨by decide, rfl, rfl, rfl, rfl, rfl, rfl, rfl, rfl⟩, JD_leaf _ _ _ _ _ (by simp)⟩, h2⟩
  by_cases n34 : c = 34
  · have HX := hide (show V = (match letters r with
        | .error e => .error e
        | .ok (s, t) => match want 34 t with
          | .error e => .error e
          | .ok t2 => .ok (.mk 4 0 s [] [], t2)) by rw [unhide HVS, if_neg n110, if_neg n102, if_neg n116, if_pos n34])
    have e110 : ((c.toNat : Int) == 110) = false := eq_no (n := 110) (by decide) n110
    have e102 : ((c.toNat : Int) == 102) = false := eq_no (n := 102) (by decide) n102
    have e116 : ((c.toNat : Int) == 116) = false := eq_no (n := 116) (by decide) n116
    have e34 : ((c.toNat : Int) == 34) = true := by subst n34; rfl
    clear HVS HC n110 n102 n116 n34
    generalize c.toNat = cn at *
    go_enter Tryd.func29, Tryd.ntmps29
    go_wp2_with fail
    refine (unhide HLk).mono ?_
    rintro e w1 ⟨rfl, q, rfl⟩
    have H1 := hide ((unhide H).drewN q)
    have O1 := hide (Onl.drewN b w q)
    have hz1 : (w.drewN q).heap.size = w.heap.size := rfl
    generalize w.drewN q = w1 at *
    clear HLk H
    have HW := hide (letters_any b s r w1 (unhide H1) ((unhide O1).env (unhide HE) hb3) hb3)
    clear H1
    go_wp2_with fail
    refine (unhide HW).mono ?_
    rintro e w2 ⟨oX, he⟩
    cases hx : letters r with
    | error er =>
      rw [hx] at he
      subst he
      have HX2 := hide (show V = .error er by rw [unhide HX, hx])
      have OX := hide ((unhide O1).trans oX)
      clear hx HX oX HW
      go_wp2_with fail
      exact ⟨rfl, PO.bad (unhide HX2) (unhide OX) rfl⟩
    | ok y =>
      obtain ⟨a, t⟩ := y
      rw [hx] at he
      obtain ⟨rfl, h2⟩ := he
      simp only at h2
      obtain ⟨-, hal⟩ := letters_ok hx
      have hil := inner_le a
      have HX1 := hide (show V = (match want 34 t with
        | .error e => .error e
        | .ok t2 => .ok (.mk 4 0 a [] [], t2)) by rw [unhide HX, hx])
      have O2 := hide ((unhide O1).trans oX)
      have HW2 := hide (want_any 34 (by decide) b s t w2 h2)
      clear hx HX oX HW h2 O1
      go_wp2_with fail
      refine (unhide HW2).mono ?_
      rintro e w3 ⟨oX, he⟩
      cases hx : want 34 t with
      | error er =>
        rw [hx] at he
        subst he
        have HX2 := hide (show V = .error er by rw [unhide HX1, hx])
        have OX := hide ((unhide O2).trans oX)
        clear hx HX1 oX HW2
        go_wp2_with fail
        exact ⟨rfl, PO.bad (unhide HX2) (unhide OX) rfl⟩
      | ok t2 =>
        rw [hx] at he
        obtain ⟨rfl, h3⟩ := he
        have HX2 := hide (show V = .ok (.mk 4 0 a [] [], t2) by rw [unhide HX1, hx])
        have OX := hide ((unhide O2).trans oX)
        clear hx HX1 oX HW2
        go_wp2_with fail
        go_ret
        exact PO.ok (unhide HX2) (unhide OX) ⟨⟨⟨.mk 4 0 a [] [], none, 0, none, 0⟩, rfl, rfl, .inr (.inr (.inl ⟨rfl, rfl, rfl, rfl, rfl, rfl, rfl, rfl⟩)), JD_leaf _ _ _ _ _ (by omega)⟩, h3⟩
  by_cases n91 : c = 91
  · have HX := hide (show V = (match lst f d r with
        | .error e => .error e
        | .ok (xs, t) => .ok (.mk 5 0 [] [] xs, t)) by rw [unhide HVS, if_neg n110, if_neg n102, if_neg n116, if_neg n34, if_pos n91])
    have HRN := hide (show r ≠ [] by
      intro q
      have := unhide HC
      rw [q, n91] at this
      exact absurd this (by decide))
    have e110 : ((c.toNat : Int) == 110) = false := eq_no (n := 110) (by decide) n110
    have e102 : ((c.toNat : Int) == 102) = false := eq_no (n := 102) (by decide) n102
    have e116 : ((c.toNat : Int) == 116) = false := eq_no (n := 116) (by decide) n116
    have e34 : ((c.toNat : Int) == 34) = false := eq_no (n := 34) (by decide) n34
    have e91 : ((c.toNat : Int) == 91) = true := by subst n91; rfl
    clear HVS HC n110 n102 n116 n34 n91
    generalize c.toNat = cn at *
    go_enter Tryd.func29, Tryd.ntmps29
    go_wp2_with fail
    refine (unhide HLk).mono ?_
    rintro e w1 ⟨rfl, q, rfl⟩
    have H1 := hide ((unhide H).drewN q)
    have O1 := hide (Onl.drewN b w q)
    have hz1 : (w.drewN q).heap.size = w.heap.size := rfl
    generalize w.drewN q = w1 at *
    clear HLk H
    have HW := hide (list_any f (unhide HIH) d hd b s r w1 (unhide H1) ((unhide O1).env (unhide HE) hb3) hb3 (unhide HRN) (fun er q => unhide HNO er (by rw [unhide HX, q])))
    clear H1
    go_wp2_with fail
    refine (unhide HW).mono ?_
    rintro e w2 ⟨oX, he⟩
    cases hx : lst f d r with
    | error er =>
      rw [hx] at he
      subst he
      have HX2 := hide (show V = .error er by rw [unhide HX, hx])
      have OX := hide ((unhide O1).trans oX)
      clear hx HX oX HW
      go_wp2_with fail
      exact ⟨rfl, PO.bad (unhide HX2) (unhide OX) rfl⟩
    | ok y =>
      obtain ⟨xs, t⟩ := y
      rw [hx] at he
      obtain ⟨⟨xa, xc, rfl, hml, hmem⟩, h2⟩ := he
      simp only at h2 hml hmem
      have HX2 := hide (show V = .ok (.mk 5 0 [] [] xs, t) by rw [unhide HX, hx])
      have OX := hide ((unhide O1).trans oX)
      have HM := hide hmem
      clear hx HX oX HW hmem
      go_wp2_with fail
      go_ret
      refine PO.ok (unhide HX2) (unhide OX) ⟨⟨⟨.mk 5 0 [] [] xs, none, 0, xa, xc⟩, rfl, rfl, .inr (.inr (.inr (.inl ⟨rfl, rfl, rfl, rfl, rfl, rfl⟩))), ?_⟩, h2⟩
      rw [JD]
      refine ⟨by simp, ND_nil _ _ _, by unfold maxLen at hml; omega, fun h0 => ?_⟩
      obtain ⟨b9, o9, e9, hb9, hj9⟩ := unhide HM h0
      have hft : ∀ k, Ft w1 w2 k → Ft w w2 k := fun k q => ⟨by rw [← hz1]; exact q.1, q.2⟩
      exact ⟨b9, o9, e9, hft _ hb9, JDs.keep (fun k _ => rfl) hft hb9 _ hj9⟩
  by_cases n123 : c = 123
  · have HX := hide (show V = (match obj f d r with
        | .error e => .error e
        | .ok (ns, xs, t) => .ok (.mk 6 0 [] ns xs, t)) by rw [unhide HVS, if_neg n110, if_neg n102, if_neg n116, if_neg n34, if_neg n91, if_pos n123])
    have HRN := hide (show r ≠ [] by
      intro q
      have := unhide HC
      rw [q, n123] at this
      exact absurd this (by decide))
    have e110 : ((c.toNat : Int) == 110) = false := eq_no (n := 110) (by decide) n110
    have e102 : ((c.toNat : Int) == 102) = false := eq_no (n := 102) (by decide) n102
    have e116 : ((c.toNat : Int) == 116) = false := eq_no (n := 116) (by decide) n116
    have e34 : ((c.toNat : Int) == 34) = false := eq_no (n := 34) (by decide) n34
    have e91 : ((c.toNat : Int) == 91) = false := eq_no (n := 91) (by decide) n91
    have e123 : ((c.toNat : Int) == 123) = true := by subst n123; rfl
    clear HVS HC n110 n102 n116 n34 n91 n123
    generalize c.toNat = cn at *
    go_enter Tryd.func29, Tryd.ntmps29
    go_wp2_with fail
    refine (unhide HLk).mono ?_
    rintro e w1 ⟨rfl, q, rfl⟩
    have H1 := hide ((unhide H).drewN q)
    have O1 := hide (Onl.drewN b w q)
    have hz1 : (w.drewN q).heap.size = w.heap.size := rfl
    generalize w.drewN q = w1 at *
    clear HLk H
    have HW := hide (object_any f (unhide HIH) d hd b s r w1 (unhide H1) ((unhide O1).env (unhide HE) hb3) hb3 (unhide HRN) (fun er q => unhide HNO er (by rw [unhide HX, q])))
    clear H1
    go_wp2_with fail
    refine (unhide HW).mono ?_
    rintro e w2 ⟨oX, he⟩
    cases hx : obj f d r with
    | error er =>
      rw [hx] at he
      subst he
      have HX2 := hide (show V = .error er by rw [unhide HX, hx])
      have OX := hide ((unhide O1).trans oX)
      clear hx HX oX HW
      go_wp2_with fail
      exact ⟨rfl, PO.bad (unhide HX2) (unhide OX) rfl⟩
    | ok y =>
      obtain ⟨ns, xs, t⟩ := y
      rw [hx] at he
      obtain ⟨⟨na, nc, xa, xc, rfl, hnd, hml, hmem⟩, h2⟩ := he
      simp only at h2 hml hmem hnd
      have HX2 := hide (show V = .ok (.mk 6 0 [] ns xs, t) by rw [unhide HX, hx])
      have OX := hide ((unhide O1).trans oX)
      have HM := hide hmem
      have HN := hide hnd
      clear hx HX oX HW hmem hnd
      go_wp2_with fail
      go_ret
      refine PO.ok (unhide HX2) (unhide OX) ⟨⟨⟨.mk 6 0 [] ns xs, na, nc, xa, xc⟩, rfl, rfl, .inr (.inr (.inr (.inr ⟨rfl, rfl, rfl⟩))), ?_⟩, h2⟩
      have hft : ∀ k, Ft w1 w2 k → Ft w w2 k := fun k q => ⟨by rw [← hz1]; exact q.1, q.2⟩
      rw [JD]
      refine ⟨by simp, (unhide HN).keep (fun k _ => rfl) hft, by unfold maxLen at hml; omega, fun h0 => ?_⟩
      obtain ⟨b9, o9, e9, hb9, hj9⟩ := unhide HM h0
      exact ⟨b9, o9, e9, hft _ hb9, JDs.keep (fun k _ => rfl) hft hb9 _ hj9⟩
  have HX := hide (show V = (match num r with
      | .error e => .error e
      | .ok (n, t) => .ok (.mk 3 n [] [] [], t)) by rw [unhide HVS, if_neg n110, if_neg n102, if_neg n116, if_neg n34, if_neg n91, if_neg n123])
  have e110 : ((c.toNat : Int) == 110) = false := eq_no (n := 110) (by decide) n110
  have e102 : ((c.toNat : Int) == 102) = false := eq_no (n := 102) (by decide) n102
  have e116 : ((c.toNat : Int) == 116) = false := eq_no (n := 116) (by decide) n116
  have e34 : ((c.toNat : Int) == 34) = false := eq_no (n := 34) (by decide) n34
  have e91 : ((c.toNat : Int) == 91) = false := eq_no (n := 91) (by decide) n91
  have e123 : ((c.toNat : Int) == 123) = false := eq_no (n := 123) (by decide) n123
  clear HVS HC n110 n102 n116 n34 n91 n123
  generalize c.toNat = cn at *
  go_enter Tryd.func29, Tryd.ntmps29
  go_wp2_with fail
  refine (unhide HLk).mono ?_
  rintro e w1 ⟨rfl, q, rfl⟩
  have H1 := hide ((unhide H).drewN q)
  have O1 := hide (Onl.drewN b w q)
  have hz1 : (w.drewN q).heap.size = w.heap.size := rfl
  generalize w.drewN q = w1 at *
  clear HLk H
  have HW := hide (number_any b s r w1 (unhide H1))
  clear H1
  go_wp2_with fail
  refine (unhide HW).mono ?_
  rintro e w2 ⟨oX, he⟩
  cases hx : num r with
  | error er =>
    rw [hx] at he
    subst he
    have HX2 := hide (show V = .error er by rw [unhide HX, hx])
    have OX := hide ((unhide O1).trans oX)
    clear hx HX oX HW
    go_wp2_with fail
    exact ⟨rfl, PO.bad (unhide HX2) (unhide OX) rfl⟩
  | ok y =>
    obtain ⟨n, t⟩ := y
    rw [hx] at he
    obtain ⟨rfl, h2⟩ := he
    simp only at h2
    have HX2 := hide (show V = .ok (.mk 3 n [] [] [], t) by rw [unhide HX, hx])
    have OX := hide ((unhide O1).trans oX)
    clear hx HX oX HW
    go_wp2_with fail
    go_ret
    exact PO.ok (unhide HX2) (unhide OX) ⟨⟨⟨.mk 3 n [] [] [], none, 0, none, 0⟩, rfl, rfl, .inr (.inl ⟨rfl, rfl, rfl, rfl, rfl, rfl, rfl, rfl⟩), JD_leaf _ _ _ _ _ (by simp)⟩, h2⟩
theorem read_any : ∀ f : Nat, ∀ g, g ≤ f → VC g
  | 0, g, hg => by
    obtain rfl : g = 0 := by omega
    intro d b s r w hd h hE hb3 hno
    exact absurd rfl (hno (99, 0) (by rw [val]))
  | f + 1, g, hg => by
    rcases Nat.lt_or_eq_of_le hg with h | h
    · exact read_any f g (by omega)
    · subst h
      exact value_next f (fun g hg => read_any f g (by omega))
end Go.Proofs.YtfaahjbkdlkmjaaDoor
