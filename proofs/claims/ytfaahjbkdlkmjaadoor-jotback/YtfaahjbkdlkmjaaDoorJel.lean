import Derived.Test.YtfaahjbkdlkmjaaDoorJek
/- Jot: a list is read. -/
namespace Go.Proofs.YtfaahjbkdlkmjaaDoor
open Go Go.RowKit Go.Lib
set_option linter.unusedVariables false
set_option linter.unusedSimpArgs false
/-- The blocks that are new. -/
def Ft (w w' : World) (k : Nat) : Prop := w.heap.size ≤ k ∧ k < w'.heap.size
/-- a value, and what is left -/
def okJ (b : Nat) (s : Bs) (w : World) (x : J × Bs) (e : Ending) (w' : World) : Prop :=
  (∃ it : It, it.j = x.1 ∧ e = .returned it.val ∧ it.clo ∧ JD w' (Ft w w') it.na it.xa it.j) ∧ RAt b s x.2 w'
/-- What value comes to, with so much fuel. -/
def VC (f : Nat) : Prop := ∀ (d b : Nat) (s r : Bs) (w : World), d ≤ 16 → RAt b s r w → Env w → 3 ≤ b → (∀ er, val f d r = .error er → er.1 ≠ 99) →
  Calls Tryd.prog 29 #[.pointer (some ⟨b, 0, none⟩), .int .i64 d] w (PO b s w (val f d r) (okJ b s w))
def lst (f d : Nat) (r : Bs) : Except Er (List J × Bs) :=
  if d = 16 then .error (41, r.length) else if (sk r.tail).headD 0 = 93 then .ok ([], (sk r.tail).tail) else itm f (d + 1) [] (sk r.tail)
def okL (b : Nat) (s : Bs) (w : World) (x : List J × Bs) (e : Ending) (w' : World) : Prop :=
  (∃ xa xc, e = .returned (.slice xa x.1.length xc) ∧ x.1.length ≤ maxLen ∧ (0 < x.1.length → ∃ b o, xa = some ⟨b, o, none⟩ ∧ Ft w w' b ∧ JDs w' (Ft w w') b o x.1)) ∧ RAt b s x.2 w'
theorem mr_len {c : UInt8} {r t : Bs} {m : Bool} (h : mr c r = .ok (m, t)) : t.length ≤ r.length := by
  have h1 := sk_le r
  unfold mr at h
  split at h
  · cases h
    simp
    omega
  · cases hx : want 44 (sk r) with
    | error e => rw [hx] at h; cases h
    | ok y =>
      rw [hx] at h
      cases h
      have h2 := sk_le y
      have h3 := congrArg List.length (want_len hx)
      simp at h3
      omega
theorem itm_mr (g d : Nat) (acc : List J) (r : Bs) : itm (g + 1) d acc r = match val g d r with
    | .error e => .error e
    | .ok (x, t) => match mr 93 t with
      | .error e => .error e
      | .ok (true, t') => itm g d (acc ++ [x]) t'
      | .ok (false, t') => .ok (acc ++ [x], t') := by
  rw [itm]
  cases val g d r with
  | error e => rfl
  | ok x =>
    obtain ⟨x, t⟩ := x
    simp only
    unfold mr
    by_cases hh : (sk t).headD 0 = 93
    · rw [if_pos hh, if_pos hh]
    · rw [if_neg hh, if_neg hh]
      cases want 44 (sk t) <;> rfl
set_option maxHeartbeats 16000000 in
set_option maxRecDepth 20000 in
theorem list_any (f : Nat) (IH : ∀ g, g < f → VC g) (d : Nat) (hd : d ≤ 16) (b : Nat) (s r : Bs) (w : World) (h : RAt b s r w) (hE : Env w) (hb3 : 3 ≤ b) (hr : r ≠ []) (hno : ∀ er, lst f d r = .error er → er.1 ≠ 99) :
    Calls Tryd.prog 44 #[.pointer (some ⟨b, 0, none⟩), .int .i64 d] w (PO b s w (lst f d r) (okL b s w)) := by
  have HEn := hide (enter_any d hd b s r w h hr)
  have HE := hide hE
  have HNO := hide hno
  have HIH := hide IH
  have hbw := h.lt
  have hsl := h.le
  have HR0 := hide (show r ≠ [] from hr)
  clear h hE hno IH hr
  go_enter Tryd.func44, Tryd.ntmps44
  go_wp2_with fail
  refine (unhide HEn).mono ?_
  rintro e w1 ⟨o1, he⟩
  cases hx : ent d r with
  | error er =>
    rw [hx] at he
    subst he
    have HX := hide (show lst f d r = .error er by
      unfold ent at hx
      unfold lst
      split at hx
      · rename_i q; rw [if_pos q]; cases hx; rfl
      · cases hx)
    clear hx HEn
    go_wp2_with fail
    exact ⟨rfl, PO.bad (unhide HX) o1 rfl⟩
  | ok r1 =>
    rw [hx] at he
    obtain ⟨rfl, h1⟩ := he
    have hd16 : ¬ d = 16 := by
      intro q
      rw [ent, if_pos q] at hx
      cases hx
    have hr1 : sk r.tail = r1 := by
      rw [ent, if_neg hd16] at hx
      cases hx
      rfl
    have HL0 := hide (show lst f d r = if r1.headD 0 = 93 then .ok ([], r1.tail) else itm f (d + 1) [] r1 by unfold lst; rw [if_neg hd16, hr1])
    have hl1 := h1.len
    have O1 := hide o1
    have HT := hide (take_any 93 (by decide) b s r1 w1 h1)
    clear hx hr1 h1 o1 HEn
    by_cases hh : r1.headD 0 = 93
    · rw [decide_eq_true hh, show tk 93 r1 = r1.tail by unfold tk; rw [if_pos hh]] at HT
      have HX := hide (show lst f d r = .ok ([], r1.tail) by rw [unhide HL0, if_pos hh])
      clear hh HL0
      go_wp2_with fail
      refine (unhide HT).mono ?_
      rintro e w2 ⟨rfl, h2, o2⟩
      go_wp2_with fail
      go_ret
      exact PO.ok (unhide HX) ((unhide O1).trans o2) ⟨⟨none, 0, rfl, by simp, fun h0 => absurd h0 (by simp)⟩, h2⟩
    · rw [decide_eq_false hh, tk_no hh] at HT
      have HX := hide (show lst f d r = itm f (d + 1) [] r1 by rw [unhide HL0, if_neg hh])
      clear hh HL0
      obtain ⟨R, hR⟩ : ∃ R, lst f d r = R := ⟨_, rfl⟩
      rw [hR] at HX HNO
      have HRR := hide hR
      clear hR
      go_wp2_with fail
      refine (unhide HT).mono ?_
      rintro e w2 ⟨rfl, h2, o2⟩
      have H2 := hide h2
      have O2 := hide ((unhide O1).trans o2)
      have hs2 := (unhide O2).size
      clear h2 o2 HT O1
      go_wp2_with fail
      go_loopg [5, 6] (f + 2) (fun gk v5 v6 wr => ∃ its r' m xa xc, v5 = .slice xa its.length xc ∧ v6 = .bool m ∧ RAt b s r' wr ∧ Row w.heap.size wr (.slice xa its.length xc) its ∧ Onl b w wr ∧ its.length + r'.length ≤ 4000 ∧
        (m = true → ∃ g, gk = g + 2 ∧ g ≤ f ∧ R = itm g (d + 1) (its.map It.j) r') ∧ (m = false → 0 < gk ∧ R = .ok (its.map It.j, r')))
      case atStart => exact ⟨[], r1, true, none, 0, rfl, rfl, unhide H2, Row.nil _ _, unhide O2, by simp; omega, fun _ => ⟨f, rfl, Nat.le_refl _, unhide HX⟩, fun q => by cases q⟩
      case round =>
        clear H2 O2 HX
        obtain ⟨its, r', m, xa, xc, rfl, rfl, h3, hrow, ho, hlen, ht, hf⟩ := hrel
        have H3 := hide h3
        have HRow := hide hrow
        have HO := hide ho
        have HSz := hide ho.size
        cases m with
        | false =>
          have HX := hide (hf rfl).2
          clear ht hf h3 hrow ho
          obtain ⟨xa', xc', hv', hml, hmem⟩ := (unhide HRow).out
          simp only [Value.slice.injEq, true_and] at hv'
          obtain ⟨rfl, rfl⟩ := hv'
          have HM := hide hmem
          clear hmem
          go_wp2_with fail
          go_ret
          exact PO.ok ((unhide HRR).trans (unhide HX)) (unhide HO) ⟨⟨xa, xc, by simp, by simpa using hml, fun h0 => unhide HM (by simpa using h0)⟩, unhide H3⟩
        | true =>
          obtain ⟨g, rfl, hg, hRg⟩ := ht rfl
          clear ht hf hrow ho
          cases g with
          | zero => exact absurd rfl (unhide HNO (99, 0) (by rw [hRg, itm]))
          | succ g =>
            have HG := hide ((hRg).trans (itm_mr g (d + 1) (its.map It.j) r'))
            have HV := hide (unhide HIH g (by omega) (d + 1) b s r' wr (by omega) h3 ((unhide HO).env (unhide HE) hb3) hb3 (fun er q => unhide HNO er (by rw [unhide HG, q])))
            rw [show ((d + 1 : Nat) : Int) = (d : Int) + 1 by omega] at HV
            clear hRg h3
            go_wp2_with fail
            refine (unhide HV).mono ?_
            rintro e w4 ⟨o4, he⟩
            cases hv : val g (d + 1) r' with
            | error er =>
              rw [hv] at he
              subst he
              have HX2 := hide (show R = .error er by rw [unhide HG, hv])
              have O4 := hide ((unhide HO).trans o4)
              clear hv HV HG o4
              go_wp2_with fail
              exact ⟨rfl, PO.bad ((unhide HRR).trans (unhide HX2)) (unhide O4) rfl⟩
            | ok x =>
              obtain ⟨j, t⟩ := x
              rw [hv] at he
              obtain ⟨⟨it, hj, rfl, hclo, hjd⟩, h4⟩ := he
              simp only at hj h4
              subst hj
              have hgood := (all_ok g).1 _ _ _ _ hv (by omega)
              have hlt1 : t.length + 1 ≤ r'.length := by
                have := hgood.2.2
                have := pt_pos it.j
                omega
              have HG2 := hide (show R = match mr 93 t with
                | .error e => .error e
                | .ok (true, t') => itm g (d + 1) (its.map It.j ++ [it.j]) t'
                | .ok (false, t') => .ok (its.map It.j ++ [it.j], t') by rw [unhide HG, hv])
              have HC := hide (closed_any hclo w4)
              have O4 := hide ((unhide HO).trans o4)
              have HRow4 := hide ((unhide HRow).onl o4 (by omega))
              have HJ4 := hide (show JD w4 (fun k => w.heap.size ≤ k ∧ k < w4.heap.size ∧ (Value.slice xa its.length xc).ownBlock ≠ some k) it.na it.xa it.j from
                JD.keep (fun k _ => rfl) (fun k hk => ⟨Nat.le_trans (unhide HSz) hk.1, hk.2, fun q => by have := ((unhide HRow).lt k q).2; have := hk.1; omega⟩) _ hjd)
              have H4 := hide h4
              clear hv HV HG o4 hjd h4 hgood hclo HRow HO H3 HSz
              obtain ⟨⟨k0, n0, t0, ns0, xs0⟩, na0, nc0, xa0, xc0⟩ := it
              unfold It.val
              go_wp2_with fail
              refine (unhide HC).mono ?_
              rintro e w5 ⟨rfl, hb5⟩
              have o5 := Onl.of_below (b := b) hb5
              have HRow5 := hide ((unhide HRow4).onl o5 (by omega))
              have HJ5 := hide (JD.keep (D' := fun k => w.heap.size ≤ k ∧ k < w5.heap.size ∧ (Value.slice xa its.length xc).ownBlock ≠ some k) (fun k hk => hb5.block k hk.2.1) (fun k hk => ⟨hk.1, Nat.lt_of_lt_of_le hk.2.1 hb5.size, hk.2.2⟩) _ (unhide HJ4))
              have H5 := hide ((unhide H4).keep hb5)
              have O5 := hide ((unhide O4).trans o5)
              clear hb5 o5 HC H4 O4 HRow4 HJ4
              unfold vJ
              go_wp2_with (at_builtin; refine pushJ 59 Tryd.underlying59 rfl _ _ rfl w.heap.size (.slice xa its.length xc) its rfl w5 (unhide HRow5) ⟨.mk k0 n0 t0 ns0 xs0, na0, nc0, xa0, xc0⟩ (unhide HJ5) rfl ?c1 ?c2 ?_)
              case c1 => omega
              case c2 => have := (unhide O5).size; omega
              intro v7 w7 hrow7 hb7
              obtain ⟨xa7, xc7, rfl, -, -⟩ := hrow7.out
              have HRow7 := hide hrow7
              have H7 := hide ((unhide H5).under hb7 (by omega))
              have O7 := hide ((unhide O5).under hb7 (Nat.le_refl _))
              have HM := hide (more_any 93 (by decide) b s t w7 (unhide H7))
              clear hrow7 hb7 H5 O5 HRow5 HJ5
              go_wp2_with fail
              refine (unhide HM).mono ?_
              rintro e w8 ⟨o8, he⟩
              cases hm : mr 93 t with
              | error er =>
                rw [hm] at he
                subst he
                have HX2 := hide (show R = .error er by rw [unhide HG2, hm])
                have O8 := hide ((unhide O7).trans o8)
                clear hm HM HG2 o8
                go_wp2_with fail
                exact ⟨rfl, PO.bad ((unhide HRR).trans (unhide HX2)) (unhide O8) rfl⟩
              | ok y =>
                obtain ⟨m, t'⟩ := y
                rw [hm] at he
                obtain ⟨rfl, h8⟩ := he
                simp only at h8
                have hml := mr_len hm
                have HG3 := hide (show R = match (m, t') with
                  | (true, t') => itm g (d + 1) (its.map It.j ++ [.mk k0 n0 t0 ns0 xs0]) t'
                  | (false, t') => .ok (its.map It.j ++ [.mk k0 n0 t0 ns0 xs0], t') by rw [unhide HG2, hm]; cases m <;> rfl)
                have H8 := hide h8
                have HRow8 := hide ((unhide HRow7).onl o8 (by omega))
                have O8 := hide ((unhide O7).trans o8)
                clear hm HM HG2 o8 h8 HRow7 H7 O7
                go_wp2_with fail
                go_roundg (g + 2)
                case measure => omega
                case rel =>
                  refine ⟨its ++ [⟨.mk k0 n0 t0 ns0 xs0, na0, nc0, xa0, xc0⟩], t', m, xa7, xc7, by simp, rfl, unhide H8, unhide HRow8, unhide O8, by rw [List.length_append, List.length_singleton]; omega, fun q => ⟨g, rfl, by omega, ?_⟩, fun q => ⟨by omega, ?_⟩⟩
                  · have := unhide HG3
                    rw [q] at this
                    simpa using this
                  · have := unhide HG3
                    rw [q] at this
                    simpa using this
end Go.Proofs.YtfaahjbkdlkmjaaDoor
