import Derived.Test.YtfaahjbkdlkmjaaDoorJeh
/- Jot: a text's letters. -/
namespace Go.Proofs.YtfaahjbkdlkmjaaDoor
open Go Go.RowKit Go.Lib
set_option linter.unusedVariables false
set_option linter.unusedSimpArgs false
theorem BuilderAtF.onl {T e : TypeId} {B nb b : Nat} {p : Value} {bs : List Value} {w w' : World} (h : BuilderAtF T e B nb p bs w) (ho : Onl b w w') (hb : b < B) : BuilderAtF T e B nb p bs w' := by
  have hlt := h.lt
  obtain ⟨hB, v, hbk, hown, hne⟩ := h
  refine ⟨hB, v, (ho.block nb hlt (by omega)).trans hbk, ⟨hown.1, ?_⟩, hne⟩
  rcases hown.2 with hn | ⟨g, cap, cur, fz, hv, hbg, hg, rest⟩
  · exact .inl hn
  · have hgl : g < w.heap.size := (Array.getElem?_eq_some_iff.1 hg).1
    exact .inr ⟨g, cap, cur, fz, hv, hbg, (ho.block g hgl (by omega)).trans hg, rest⟩
theorem IsBF.onl {T e : TypeId} {B nb b : Nat} {bs : List Value} {w w' : World} (h : IsBuilderF T e B nb bs w) (ho : Onl b w w') (hb : b < B) : IsBuilderF T e B nb bs w' :=
  h.elim (fun x => .inl (BuilderAtF.onl x ho hb)) (fun x => .inr (BuilderAtF.onl x ho hb))
theorem RAt.under {b : Nat} {s r : Bs} {B : Nat} {w w' : World} (h : RAt b s r w) (hb : Below B w w') (hB : b < B) : RAt b s r w' := by
  obtain ⟨p, h1, h2, h3⟩ := h.row
  exact ⟨⟨p, (hb.block b hB).trans h1, h2, h3⟩, h.le⟩
theorem Onl.under {b : Nat} {B : Nat} {w0 w w' : World} (h : Onl b w0 w) (hb : Below B w w') (hB : w0.heap.size ≤ B) : Onl b w0 w' :=
  ⟨hb.os.trans h.os, hb.tape.trans h.tape, hb.output.trans h.output, Nat.le_trans h.size hb.size, fun k hk hp => (hb.block k (by omega)).trans (h.block k hk hp)⟩
theorem u8_ne {a : UInt8} {n : Nat} (hn : n < 256) : ((a.toNat : Int) != (n : Int)) = decide (a ≠ UInt8.ofNat n) := by
  have : ((UInt8.ofNat n).toNat : Int) = (n : Int) := by simp; omega
  rw [← this, bne, u8_eq]
  simp
set_option maxHeartbeats 8000000 in
set_option maxRecDepth 20000 in
theorem letters_any (b : Nat) (s r : Bs) (w : World) (h : RAt b s r w) (hE : Env w) (hb3 : 3 ≤ b) :
    Calls Tryd.prog 42 #[.pointer (some ⟨b, 0, none⟩)] w (PO b s w (letters r) (okS b s)) := by
  have HW := hide (want_any 34 (by decide) b s r w h)
  have HE := hide hE
  have hbw := h.lt
  have hle := h.le
  clear h hE
  go_enter Tryd.func42, Tryd.ntmps42
  go_wp2_with fail
  refine (unhide HW).mono ?_
  rintro e w1 ⟨o1, he⟩
  cases hx : want 34 r with
  | error er =>
    rw [hx] at he
    subst he
    have HX := hide (show letters r = .error er by unfold letters; rw [hx])
    clear hx HW
    go_wp2_with fail
    exact ⟨rfl, PO.bad (unhide HX) o1 rfl⟩
  | ok t =>
    rw [hx] at he
    obtain ⟨rfl, h1⟩ := he
    have htl := h1.len
    obtain ⟨LL, hLL⟩ : ∃ LL, letters r = LL := ⟨_, rfl⟩
    have HLL := hide (show LL = lets (t.length + 1) [] t by rw [← hLL]; unfold letters; rw [hx])
    have HLr := hide hLL
    have H1 := hide h1
    have O1 := hide o1
    have hsz := o1.size
    clear hx HW h1 o1 hLL
    go_wp2_with fail
    obtain ⟨B, hB⟩ : ∃ B, w1.heap.size = B := ⟨_, rfl⟩
    have HF0 := hide (fresh_isBuilder 44 5 w1)
    have HBl := hide (show Below B w1 (w1.alloc (.cells #[.pointer none, .slice none 0 0] 44)) by rw [← hB]; exact (Below.refl _ _).alloc (Nat.le_refl _) _)
    rw [hB] at HF0 hsz
    simp only [hB]
    go_loopg [] (t.length + 1) (fun gk wr => ∃ acc r', RAt b s r' wr ∧ LL = lets gk acc r' ∧ r'.length < gk ∧ acc.length + 4 * r'.length ≤ 20000 ∧ Onl b w wr ∧ IsBuilderF 44 5 B B (byteCells acc) wr)
    case atStart => exact ⟨[], t, (unhide H1).under (unhide HBl) (by omega), unhide HLL, by omega, by simp; omega, (unhide O1).under (unhide HBl) hsz, .of (unhide HF0)⟩
    case round =>
      clear H1 O1 HLL HF0 HBl
      obtain ⟨acc, r', h, hL, hg, ha, ho, hbd⟩ := hrel
      obtain ⟨g, rfl⟩ : ∃ g, gk = g + 1 := ⟨gk - 1, by omega⟩
      have HLk := hide (look_any b s r' wr h)
      have H := hide h
      have HL := hide hL
      have HO := hide ho
      have HBd := hide hbd
      have hwr : B ≤ wr.heap.size := by
        have := hbd.elim (fun x => And.intro x.1 x.lt) (fun x => And.intro x.1 x.lt)
        omega
      obtain ⟨c, hc⟩ : ∃ c, r'.headD 0 = c := ⟨_, rfl⟩
      rw [hc] at HLk
      have HC := hide hc
      clear h hL ho hbd hc
      by_cases h34 : c = 34
      · have hne : ((c.toNat : Int) != 34) = false := by subst h34; rfl
        have HX := hide (show LL = .ok (acc, r') by rw [unhide HL, lets, if_pos (by rw [unhide HC, h34])])
        clear h34 HC HL
        generalize c.toNat = cn at *
        go_wp2_with fail
        refine (unhide HLk).mono ?_
        rintro e w3 ⟨rfl, q, rfl⟩
        have hb1 : Below B wr (wr.drewN q) := below_drewNq (Below.refl _ _) q
        have HS := hide (Tryd.Builder_String_any_k B B acc (wr.drewN q) (IsBF.onl (unhide HBd) (Onl.drewN b wr q) (by omega)) (Nat.le_trans hwr hb1.size))
        have H3 := hide ((unhide H).drewN q)
        have O3 := hide ((unhide HO).trans (Onl.drewN b wr q))
        clear hb1 HLk H HO
        generalize wr.drewN q = w3 at *
        go_wp2_with fail
        refine (unhide HS).mono ?_
        rintro e w4 ⟨rfl, -, hb4, -⟩
        go_wp2_with fail
        go_ret
        exact PO.ok ((unhide HLr).trans (unhide HX)) ((unhide O3).under hb4 hsz) ⟨rfl, (unhide H3).under hb4 (by omega)⟩
      · have hne : ((c.toNat : Int) != 34) = true := by
          have := @u8_ne c 34 (by omega)
          rw [show ((34 : Nat) : Int) = 34 from rfl] at this
          rw [this]
          exact decide_eq_true h34
        have H34 := hide h34
        clear h34
        generalize hcn : c.toNat = cn at *
        clear hcn
        go_wp2_with fail
        refine (unhide HLk).mono ?_
        rintro e w3 ⟨rfl, q, rfl⟩
        have H3 := hide ((unhide H).drewN q)
        have O3 := hide ((unhide HO).trans (Onl.drewN b wr q))
        have HB3 := hide (IsBF.onl (unhide HBd) (Onl.drewN b wr q) (by omega))
        have hwr3 : B ≤ (wr.drewN q).heap.size := Nat.le_trans hwr (Onl.drewN b wr q).size
        clear HLk H HO HBd hwr
        generalize wr.drewN q = w3 at *
        have HT := hide (take_any 92 (by decide) b s r' w3 (unhide H3))
        by_cases h92 : c = 92
        · rw [decide_eq_true (show r'.headD 0 = 92 by rw [unhide HC, h92]), show tk 92 r' = r'.tail by unfold tk; rw [if_pos (by rw [unhide HC, h92])]] at HT
          have HX := hide (show LL = match esc r'.tail with
            | .error e => .error e
            | .ok (c, t) => lets g (acc ++ encodeRune c) t by
            rw [unhide HL, lets, if_neg (by rw [unhide HC]; exact unhide H34), if_pos (by rw [unhide HC, h92])]
            cases esc r'.tail <;> rfl)
          have hr0 : r'.tail.length + 1 = r'.length := by
            cases hr : r' with
            | nil =>
              have := unhide HC
              rw [hr] at this
              rw [h92] at this
              exact absurd this (by decide)
            | cons a l => simp
          clear HL HC H34 h92
          go_wp2_with fail
          refine (unhide HT).mono ?_
          rintro e w4 ⟨rfl, h4, o4⟩
          have HEs := hide (escape_any b s r'.tail w4 h4)
          have O4 := hide ((unhide O3).trans o4)
          have HB4 := hide (IsBF.onl (unhide HB3) o4 (by omega))
          have hwr4 : B ≤ w4.heap.size := Nat.le_trans hwr3 o4.size
          clear h4 o4 HB3 O3 H3 HT
          go_wp2_with fail
          refine (unhide HEs).mono ?_
          rintro e w5 ⟨o5, he⟩
          cases hx : esc r'.tail with
          | error er =>
            rw [hx] at he
            subst he
            have HX2 := hide (show LL = .error er by rw [unhide HX, hx])
            have O5 := hide ((unhide O4).trans o5)
            clear hx HEs HX o5
            go_wp2_with fail
            exact ⟨rfl, PO.bad ((unhide HLr).trans (unhide HX2)) (unhide O5) rfl⟩
          | ok x =>
            obtain ⟨z, t2⟩ := x
            rw [hx] at he
            obtain ⟨rfl, h5⟩ := he
            obtain ⟨e1, e2, e3⟩ := esc_ok hx
            have HX2 := hide (show LL = lets g (acc ++ encodeRune z) t2 by rw [unhide HX, hx])
            have hz : z < 1114112 := by
              have := e1
              unfold scal at this
              omega
            have hel := enc_len z
            have hwr5 : B ≤ w5.heap.size := Nat.le_trans hwr4 o5.size
            have HWR := hide (Tryd.Builder_WriteRune_k B B (byteCells acc) (z : Int) (by omega) (by omega) w5 (IsBF.onl (unhide HB4) o5 (by omega)) (by rw [byteCells_length]; omega) hwr5)
            have H5 := hide h5
            have O5 := hide ((unhide O4).trans o5)
            clear hx HEs HX o5 h5 e1 e2 HB4 O4
            go_wp2_with fail
            refine (unhide HWR).mono ?_
            rintro e w6 ⟨rfl, hb6, hbl6, -⟩
            have H6 := hide ((unhide H5).under hbl6 (by omega))
            have O6 := hide ((unhide O5).under hbl6 hsz)
            have HB6 := hide (show IsBuilderF 44 5 B B (byteCells (acc ++ encodeRune z)) w6 by rw [byteCells_append, byteCells_encodeRune]; exact .inr hb6)
            clear hb6 hbl6 H5 O5 HWR
            go_wp2_with fail
            go_roundg g
            case measure => omega
            case rel => exact ⟨_, t2, unhide H6, unhide HX2, by omega, by rw [List.length_append]; omega, unhide O6, unhide HB6⟩
        · rw [decide_eq_false (show ¬ r'.headD 0 = 92 by rw [unhide HC]; exact h92), tk_no (show ¬ r'.headD 0 = 92 by rw [unhide HC]; exact h92)] at HT
          have HX := hide (show LL = match lett r' with
            | .error e => .error e
            | .ok (l, t) => lets g (acc ++ l) t by
            rw [unhide HL, lets, if_neg (by rw [unhide HC]; exact unhide H34), if_neg (by rw [unhide HC]; exact h92)]
            cases lett r' <;> rfl)
          have HN34 := hide (show ¬ r'.headD 0 = 34 by rw [unhide HC]; exact unhide H34)
          have HN92 := hide (show ¬ r'.headD 0 = 92 by rw [unhide HC]; exact h92)
          clear HL HC H34 h92
          go_wp2_with fail
          refine (unhide HT).mono ?_
          rintro e w4 ⟨rfl, h4, o4⟩
          have O4 := hide ((unhide O3).trans o4)
          have HEs := hide (letter_any b s r' w4 h4 ((unhide O4).env (unhide HE) hb3) hb3)
          have HB4 := hide (IsBF.onl (unhide HB3) o4 (by omega))
          have hwr4 : B ≤ w4.heap.size := Nat.le_trans hwr3 o4.size
          clear h4 o4 HB3 O3 H3 HT
          go_wp2_with fail
          refine (unhide HEs).mono ?_
          rintro e w5 ⟨o5, he⟩
          cases hx : lett r' with
          | error er =>
            rw [hx] at he
            subst he
            have HX2 := hide (show LL = .error er by rw [unhide HX, hx])
            have O5 := hide ((unhide O4).trans o5)
            clear hx HEs HX o5
            go_wp2_with fail
            exact ⟨rfl, PO.bad ((unhide HLr).trans (unhide HX2)) (unhide O5) rfl⟩
          | ok x =>
            obtain ⟨z, t2⟩ := x
            rw [hx] at he
            obtain ⟨rfl, h5⟩ := he
            obtain ⟨e1, e2, -, -⟩ := lett_val hx (unhide HN34) (unhide HN92)
            have e3 : z.length + t2.length = r'.length := by rw [e1, List.length_append]
            have e4 := List.length_pos_iff.2 e2
            have HX2 := hide (show LL = lets g (acc ++ z) t2 by rw [unhide HX, hx])
            have hwr5 : B ≤ w5.heap.size := Nat.le_trans hwr4 o5.size
            have HWR := hide (Tryd.Builder_WriteString_k B B (byteCells acc) ⟨z.toArray⟩ w5 (IsBF.onl (unhide HB4) o5 (by omega)) (by rw [byteCells_length, ba_len]; omega) hwr5)
            have H5 := hide h5
            have O5 := hide ((unhide O4).trans o5)
            clear hx HEs HX o5 h5 e1 e2 HB4 O4
            go_wp2_with fail
            refine (unhide HWR).mono ?_
            rintro e w6 ⟨rfl, hb6, hbl6, -⟩
            have H6 := hide ((unhide H5).under hbl6 (by omega))
            have O6 := hide ((unhide O5).under hbl6 hsz)
            have HB6 := hide (show IsBuilderF 44 5 B B (byteCells (acc ++ z)) w6 by rw [byteCells_append, ← strCells_bs]; exact .inr hb6)
            clear hb6 hbl6 H5 O5 HWR
            go_wp2_with fail
            go_roundg g
            case measure => omega
            case rel => exact ⟨_, t2, unhide H6, unhide HX2, by omega, by rw [List.length_append]; omega, unhide O6, unhide HB6⟩
end Go.Proofs.YtfaahjbkdlkmjaaDoor
