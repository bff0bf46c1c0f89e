import Derived.Test.YtfaahjbkdlkmjaaDoorJeb
/- Jot: a word, a number. -/
namespace Go.Proofs.YtfaahjbkdlkmjaaDoor
open Go Go.RowKit Go.Lib
set_option linter.unusedVariables false
set_option linter.unusedSimpArgs false
theorem digit_any (c : UInt8) (w : World) : Calls Tryd.prog 58 #[.int .u8 (c.toNat : Int)] w fun e w' => e = .returned (.bool (isD c)) ∧ w' = w := by
  have hc := c.toNat_lt
  have hd : isD c = decide (48 ≤ c.toNat ∧ c.toNat ≤ 57) := by unfold isD; rw [Bool.eq_iff_iff]; simp only [decide_eq_true_eq]; exact Iff.rfl
  rw [hd]
  generalize c.toNat = n at *
  clear hd
  by_cases h1 : 48 ≤ n
  · by_cases h2 : n ≤ 57
    · have i1 : (48 : Int) ≤ (n : Int) := by omega
      have i2 : (n : Int) ≤ 57 := by omega
      rw [decide_eq_true ⟨h1, h2⟩]
      go_enter Tryd.func58, Tryd.ntmps58
      go_wp2
      go_ret
      exact ⟨rfl, rfl⟩
    · have i1 : (48 : Int) ≤ (n : Int) := by omega
      have i2 : ¬ (n : Int) ≤ 57 := by omega
      rw [decide_eq_false (fun q => h2 q.2)]
      go_enter Tryd.func58, Tryd.ntmps58
      go_wp2
      go_ret
      exact ⟨rfl, rfl⟩
  · have i1 : ¬ (48 : Int) ≤ (n : Int) := by omega
    rw [decide_eq_false (fun q => h1 q.1)]
    go_enter Tryd.func58, Tryd.ntmps58
    go_wp2
    go_ret
    exact ⟨rfl, rfl⟩
set_option maxHeartbeats 4000000 in
theorem word_any (l : Bs) (hl : l.length ≤ 100) (hz : ∀ c ∈ l, c ≠ 0) (b : Nat) (s r : Bs) (w : World) (h : RAt b s r w) :
    Calls Tryd.prog 41 #[.pointer (some ⟨b, 0, none⟩), S l] w (PO b s w (word l r) (okR b s)) := by
  have H := hide h
  clear h
  go_enter Tryd.func41, Tryd.ntmps41
  go_wp2_with fail
  go_loopw [7] (fun i9 wr => ∃ (k : Nat) (r' : Bs), i9 = .int .i64 k ∧ k ≤ l.length ∧ RAt b s r' wr ∧ word l r = word (l.drop k) r' ∧ Onl b w wr) (fun i9 _ => l.length - (Go.RowKit.intOf i9).toNat)
  case atStart => exact ⟨0, r, rfl, by omega, unhide H, rfl, Onl.refl _ _⟩
  case round =>
    clear H
    obtain ⟨k, r', rfl, hk, h, hw, ho⟩ := hrel
    have HO := hide ho
    have HW := hide hw
    by_cases hlt : k < l.length
    · have hlt' : (k : Int) < (l.length : Int) := by omega
      have hsz : k < (ByteArray.mk l.toArray).size := by rw [ba_len]; exact hlt
      obtain ⟨c, hc⟩ : ∃ c, l[k]'hlt = c := ⟨_, rfl⟩
      have hg : (ByteArray.mk l.toArray)[k]'hsz = c := hc
      have HN := hide (want_any c (hz c (by rw [← hc]; exact List.getElem_mem hlt)) b s r' wr h)
      have hdr : l.drop k = c :: l.drop (k + 1) := by rw [List.drop_eq_getElem_cons hlt, hc]
      have HD := hide hdr
      clear h hw ho hdr hc
      go_wp2_with fail
      refine (unhide HN).mono ?_
      rintro e w1 ⟨h1, h2⟩
      cases hx : want c r' with
      | error er =>
        rw [hx] at h2
        have HX := hide hx
        clear hx
        subst h2
        go_wp2_with fail
        refine ⟨rfl, PO.bad ?_ ((unhide HO).trans h1) rfl⟩
        rw [unhide HW, unhide HD, word, unhide HX]
      | ok t =>
        rw [hx] at h2
        obtain ⟨rfl, h3⟩ := h2
        have HX := hide hx
        have H3 := hide h3
        have H1 := hide h1
        clear hx h3 h1 HN
        go_wp2_with fail
        go_roundw
        case rel => exact ⟨k + 1, t, by go_num, by omega, unhide H3, by rw [unhide HW, unhide HD, word, unhide HX], (unhide HO).trans (unhide H1)⟩
        case measure => simp [Go.RowKit.intOf]; omega
    · have hke : k = l.length := by omega
      have H3 := hide h
      clear h ho hw
      go_wp2_with fail
      go_end0
      refine PO.ok (a := r') ?_ (unhide HO) ⟨rfl, unhide H3⟩
      rw [unhide HW, hke, List.drop_length, word]
/-- a number, and what is left -/
abbrev okN (b : Nat) (s : Bs) (x : Int × Bs) (e : Ending) (w' : World) : Prop := e = .returned (I x.1) ∧ RAt b s x.2 w'
set_option maxHeartbeats 8000000 in
set_option maxRecDepth 20000 in
theorem number_any (b : Nat) (s r : Bs) (w : World) (h : RAt b s r w) :
    Calls Tryd.prog 46 #[.pointer (some ⟨b, 0, none⟩)] w (PO b s w (num r) (okN b s)) := by
  have HT := hide (take_any 45 (by decide) b s r w h)
  obtain ⟨ng, hng⟩ : ∃ ng : Bool, decide (r.headD 0 = 45) = ng := ⟨_, rfl⟩
  obtain ⟨r1, hr1⟩ : ∃ r1, tk 45 r = r1 := ⟨_, rfl⟩
  rw [hng, hr1] at HT
  have hnum : num r = if r1.headD 0 = 48 then .ok (0, r1.tail) else if isD (r1.headD 0) then (match digs 0 r1 with
    | .error e => .error e
    | .ok (n, t) => .ok (if ng = true then -(n : Int) else n, t)) else .error (40, r1.length) := by
    rw [← hr1, ← hng]
    by_cases q : r.headD 0 = 45
    · rw [decide_eq_true q]
      unfold num tk
      simp only [if_pos q]
      rfl
    · rw [decide_eq_false q]
      unfold num tk
      simp only [if_neg q]
      rfl
  have HNU := hide hnum
  clear hng hr1 hnum h
  go_enter Tryd.func46, Tryd.ntmps46
  go_wp2_with fail
  refine (unhide HT).mono ?_
  rintro e w1 ⟨rfl, h1, o1⟩
  have H1 := hide h1
  have O1 := hide o1
  clear HT
  cases ng with
  | false =>
    have HT2 := hide (take_any 48 (by decide) b s r1 w1 h1)
    clear h1 o1
    by_cases h48 : r1.headD 0 = 48
    · rw [decide_eq_true h48, show tk 48 r1 = r1.tail by unfold tk; rw [if_pos h48]] at HT2
      have HX := hide (show num r = .ok (0, r1.tail) by rw [unhide HNU, if_pos h48])
      clear h48 HNU
      go_wp2_with fail
      refine (unhide HT2).mono ?_
      rintro e w2 ⟨rfl, h2, o2⟩
      go_wp2_with fail
      go_ret
      exact PO.ok (unhide HX) ((unhide O1).trans o2) ⟨rfl, h2⟩
    · rw [decide_eq_false h48, tk_no h48] at HT2
      go_wp2_with fail
      refine (unhide HT2).mono ?_
      rintro e w2 ⟨rfl, h2, o2⟩
      obtain ⟨c1, hc1⟩ : ∃ c1, r1.headD 0 = c1 := ⟨_, rfl⟩
      have HL := hide (look_any b s r1 w2 h2)
      rw [hc1] at HL HNU h48
      have H2 := hide h2
      have O2 := hide ((unhide O1).trans o2)
      have HDg := hide (fun W => digit_any c1 W)
      clear h2 o2 HT2 O1 H1 hc1
      go_wp2_with fail
      refine (unhide HL).mono ?_
      rintro e w3 ⟨rfl, q, rfl⟩
      have h3 := (unhide H2).drewN q
      have o3 := (unhide O2).trans (Onl.drewN b w2 q)
      generalize w2.drewN q = w3 at *
      go_wp2_with fail
      refine (unhide HDg w3).mono ?_
      rintro e w9 ⟨rfl, hw9⟩
      rw [hw9]
      clear hw9 w9 HDg HL H2 O2
      cases hid : isD c1 with
      | false =>
        have HX := hide (show num r = .error (40, r1.length) by rw [unhide HNU, if_neg h48, hid]; rfl)
        have HF := hide (fail_any 40 b s r1 w3 h3)
        have O3 := hide o3
        clear h3 o3 hid h48
        go_wp2_with fail
        refine (unhide HF).mono ?_
        rintro e w4 ⟨rfl, rfl⟩
        go_wp2_with fail
        exact ⟨rfl, PO.bad (unhide HX) (unhide O3) rfl⟩
      | true =>
        have HX := hide (show num r = match digs 0 r1 with
          | .error e => .error e
          | .ok (n, t) => .ok ((n : Int), t) by rw [unhide HNU, if_neg h48, hid]; rfl)
        have H3 := hide h3
        have O3 := hide o3
        clear h3 o3 hid h48 HNU
        go_wp2_with fail
        go_loopg [4] (r1.length + 1) (fun gk n9 wr => ∃ (n : Nat) (r' : Bs), n9 = .int .i64 n ∧ n ≤ 9007199254740991 ∧ RAt b s r' wr ∧ digs 0 r1 = digs n r' ∧ r'.length < gk ∧ Onl b w wr)
        case atStart => exact ⟨0, r1, rfl, by omega, unhide H3, rfl, by omega, unhide O3⟩
        case round =>
          clear H3 O3
          obtain ⟨n, r', rfl, hn, h4, hdg, hgk, ho⟩ := hrel
          have HL := hide (look_any b s r' wr h4)
          have H4 := hide h4
          have HO := hide ho
          have HG := hide hdg
          have hcr : ∀ c t, r' = c :: t → r'.headD 0 = c := fun c t e => by rw [e]; rfl
          obtain ⟨c, hc⟩ : ∃ c, r'.headD 0 = c := ⟨_, rfl⟩
          rw [hc] at HL
          have HC := hide hc
          have HDg := hide (fun W => digit_any c W)
          clear h4 hdg ho hc hcr
          go_wp2_with fail
          refine (unhide HL).mono ?_
          rintro e w5 ⟨rfl, q, rfl⟩
          have h5 := (unhide H4).drewN q
          have o5 := (unhide HO).trans (Onl.drewN b wr q)
          generalize wr.drewN q = w5 at *
          have H5 := hide h5
          have O5 := hide o5
          clear h5 o5 HL H4 HO
          go_wp2_with fail
          refine (unhide HDg w5).mono ?_
          rintro e w9 ⟨rfl, hw9⟩
          rw [hw9]
          clear hw9 w9 HDg
          cases hid : isD c with
          | false =>
            have HD0 := hide (show digs n r' = .ok (n, r') by
              have hc := unhide HC
              cases r' with
              | nil => rfl
              | cons a t =>
                simp only [List.headD_cons] at hc
                rw [digs, hc, hid]
                rfl)
            clear hid
            go_wp2_with fail
            go_ret
            refine PO.ok (a := ((n : Int), r')) ?_ (unhide O5) ⟨?_, unhide H5⟩
            · rw [unhide HX, unhide HG, unhide HD0]
            · rfl
          | true =>
            obtain ⟨g1, g2, g3⟩ := isD_all c hid
            have hrc : ∃ t, r' = c :: t := by
              have hc := unhide HC
              cases r' with
              | nil => rw [← hc] at hid; exact absurd hid (by decide)
              | cons a t => exact ⟨t, by simp only [List.headD_cons] at hc; rw [hc]⟩
            obtain ⟨t, rfl⟩ := hrc
            have HD0 := hide (show digs n (c :: t) = if 9007199254740991 < 10 * n + (c.toNat - 48) then .error (43, t.length + 1) else digs (10 * n + (c.toNat - 48)) t by rw [digs, hid]; rfl)
            have HL2 := hide (look_any b s (c :: t) w5 (unhide H5))
            rw [show (c :: t).headD 0 = c from rfl] at HL2
            obtain ⟨cn, hcn⟩ : ∃ cn, c.toNat = cn := ⟨_, rfl⟩
            rw [hcn] at HD0 HL2 g1 g2
            clear hid
            obtain ⟨d, rfl⟩ : ∃ d, cn = 48 + d := ⟨cn - 48, by omega⟩
            have hsub : ((48 + d : Nat) : Int) - 48 = (d : Int) := by omega
            have hd9 : d ≤ 9 := by omega
            go_wp2_with fail
            refine (unhide HL2).mono ?_
            rintro e w6 ⟨rfl, q6, rfl⟩
            have h6 := (unhide H5).drewN q6
            have o6 := (unhide O5).trans (Onl.drewN b w5 q6)
            generalize w5.drewN q6 = w6 at *
            by_cases hbig : 9007199254740991 < 10 * n + d
            · have hb2 : (9007199254740991 : Int) < 10 * (n : Int) + (d : Int) := by omega
              have HX2 := hide (show num r = .error (43, t.length + 1) by rw [unhide HX, unhide HG, unhide HD0, if_pos (by omega)])
              have HF := hide (fail_any 43 b s (c :: t) w6 h6)
              have O6 := hide o6
              clear h6 o6 hbig
              go_wp2_with fail
              refine (unhide HF).mono ?_
              rintro e w7 ⟨rfl, rfl⟩
              go_wp2_with fail
              exact ⟨rfl, PO.bad (unhide HX2) (unhide O6) rfl⟩
            · have hb2 : ¬ (9007199254740991 : Int) < 10 * (n : Int) + (d : Int) := by omega
              have HG2 := hide (show digs 0 r1 = digs (10 * n + d) t by rw [unhide HG, unhide HD0, if_neg (by omega)]; congr 1; omega)
              obtain ⟨p, hr, hp, hd⟩ := h6.row
              have hlen : (c :: t).length = s.length - p := by rw [← hd]; simp
              rw [List.length_cons] at hlen
              have d1 : w6.cell? ⟨b, 1, none⟩ = some (.int .i64 p) := by rw [Lib.cell_of_heap hr]; rfl
              have z1 : w6.frozen? ⟨b, 1, none⟩ = false := Lib.frozen_of_heap hr 1
              have hle := h6.le
              have HR := hide hr
              have HDp := hide hd
              have O6 := hide o6
              clear h6 o6 hr hd hbig
              go_wp2_with fail
              go_roundg ((c :: t).length)
              case measure => simpa using hgk
              case rel =>
                refine ⟨10 * n + d, t, by go_num, by omega, ⟨⟨p + 1, ?_, by omega, ?_⟩, hle⟩, unhide HG2, by simp, (unhide O6).trans (Onl.setCell b 1 _ w6)⟩
                · have := heap_setCell_same w6 b 1 _ 50 (.int .i64 ((p : Int) + 1)) (unhide HR)
                  rw [this]
                  rfl
                · rw [show s.drop (p + 1) = (s.drop p).tail by rw [List.tail_drop], unhide HDp]
                  rfl
  | true =>
    have HT2 := hide (take_any 48 (by decide) b s r1 w1 h1)
    clear h1 o1
    by_cases h48 : r1.headD 0 = 48
    · rw [decide_eq_true h48, show tk 48 r1 = r1.tail by unfold tk; rw [if_pos h48]] at HT2
      have HX := hide (show num r = .ok (0, r1.tail) by rw [unhide HNU, if_pos h48])
      clear h48 HNU
      go_wp2_with fail
      refine (unhide HT2).mono ?_
      rintro e w2 ⟨rfl, h2, o2⟩
      go_wp2_with fail
      go_ret
      exact PO.ok (unhide HX) ((unhide O1).trans o2) ⟨rfl, h2⟩
    · rw [decide_eq_false h48, tk_no h48] at HT2
      go_wp2_with fail
      refine (unhide HT2).mono ?_
      rintro e w2 ⟨rfl, h2, o2⟩
      obtain ⟨c1, hc1⟩ : ∃ c1, r1.headD 0 = c1 := ⟨_, rfl⟩
      have HL := hide (look_any b s r1 w2 h2)
      rw [hc1] at HL HNU h48
      have H2 := hide h2
      have O2 := hide ((unhide O1).trans o2)
      have HDg := hide (fun W => digit_any c1 W)
      clear h2 o2 HT2 O1 H1 hc1
      go_wp2_with fail
      refine (unhide HL).mono ?_
      rintro e w3 ⟨rfl, q, rfl⟩
      have h3 := (unhide H2).drewN q
      have o3 := (unhide O2).trans (Onl.drewN b w2 q)
      generalize w2.drewN q = w3 at *
      go_wp2_with fail
      refine (unhide HDg w3).mono ?_
      rintro e w9 ⟨rfl, hw9⟩
      rw [hw9]
      clear hw9 w9 HDg HL H2 O2
      cases hid : isD c1 with
      | false =>
        have HX := hide (show num r = .error (40, r1.length) by rw [unhide HNU, if_neg h48, hid]; rfl)
        have HF := hide (fail_any 40 b s r1 w3 h3)
        have O3 := hide o3
        clear h3 o3 hid h48
        go_wp2_with fail
        refine (unhide HF).mono ?_
        rintro e w4 ⟨rfl, rfl⟩
        go_wp2_with fail
        exact ⟨rfl, PO.bad (unhide HX) (unhide O3) rfl⟩
      | true =>
        have HX := hide (show num r = match digs 0 r1 with
          | .error e => .error e
          | .ok (n, t) => .ok (-(n : Int), t) by rw [unhide HNU, if_neg h48, hid]; rfl)
        have H3 := hide h3
        have O3 := hide o3
        clear h3 o3 hid h48 HNU
        go_wp2_with fail
        go_loopg [4] (r1.length + 1) (fun gk n9 wr => ∃ (n : Nat) (r' : Bs), n9 = .int .i64 n ∧ n ≤ 9007199254740991 ∧ RAt b s r' wr ∧ digs 0 r1 = digs n r' ∧ r'.length < gk ∧ Onl b w wr)
        case atStart => exact ⟨0, r1, rfl, by omega, unhide H3, rfl, by omega, unhide O3⟩
        case round =>
          clear H3 O3
          obtain ⟨n, r', rfl, hn, h4, hdg, hgk, ho⟩ := hrel
          have HL := hide (look_any b s r' wr h4)
          have H4 := hide h4
          have HO := hide ho
          have HG := hide hdg
          have hcr : ∀ c t, r' = c :: t → r'.headD 0 = c := fun c t e => by rw [e]; rfl
          obtain ⟨c, hc⟩ : ∃ c, r'.headD 0 = c := ⟨_, rfl⟩
          rw [hc] at HL
          have HC := hide hc
          have HDg := hide (fun W => digit_any c W)
          clear h4 hdg ho hc hcr
          go_wp2_with fail
          refine (unhide HL).mono ?_
          rintro e w5 ⟨rfl, q, rfl⟩
          have h5 := (unhide H4).drewN q
          have o5 := (unhide HO).trans (Onl.drewN b wr q)
          generalize wr.drewN q = w5 at *
          have H5 := hide h5
          have O5 := hide o5
          clear h5 o5 HL H4 HO
          go_wp2_with fail
          refine (unhide HDg w5).mono ?_
          rintro e w9 ⟨rfl, hw9⟩
          rw [hw9]
          clear hw9 w9 HDg
          cases hid : isD c with
          | false =>
            have HD0 := hide (show digs n r' = .ok (n, r') by
              have hc := unhide HC
              cases r' with
              | nil => rfl
              | cons a t =>
                simp only [List.headD_cons] at hc
                rw [digs, hc, hid]
                rfl)
            clear hid
            go_wp2_with fail
            go_ret
            refine PO.ok (a := (-(n : Int), r')) ?_ (unhide O5) ⟨?_, unhide H5⟩
            · rw [unhide HX, unhide HG, unhide HD0]
            · show Ending.returned (I _) = .returned (I _)
              congr 2
              try omega
          | true =>
            obtain ⟨g1, g2, g3⟩ := isD_all c hid
            have hrc : ∃ t, r' = c :: t := by
              have hc := unhide HC
              cases r' with
              | nil => rw [← hc] at hid; exact absurd hid (by decide)
              | cons a t => exact ⟨t, by simp only [List.headD_cons] at hc; rw [hc]⟩
            obtain ⟨t, rfl⟩ := hrc
            have HD0 := hide (show digs n (c :: t) = if 9007199254740991 < 10 * n + (c.toNat - 48) then .error (43, t.length + 1) else digs (10 * n + (c.toNat - 48)) t by rw [digs, hid]; rfl)
            have HL2 := hide (look_any b s (c :: t) w5 (unhide H5))
            rw [show (c :: t).headD 0 = c from rfl] at HL2
            obtain ⟨cn, hcn⟩ : ∃ cn, c.toNat = cn := ⟨_, rfl⟩
            rw [hcn] at HD0 HL2 g1 g2
            clear hid
            obtain ⟨d, rfl⟩ : ∃ d, cn = 48 + d := ⟨cn - 48, by omega⟩
            have hsub : ((48 + d : Nat) : Int) - 48 = (d : Int) := by omega
            have hd9 : d ≤ 9 := by omega
            go_wp2_with fail
            refine (unhide HL2).mono ?_
            rintro e w6 ⟨rfl, q6, rfl⟩
            have h6 := (unhide H5).drewN q6
            have o6 := (unhide O5).trans (Onl.drewN b w5 q6)
            generalize w5.drewN q6 = w6 at *
            by_cases hbig : 9007199254740991 < 10 * n + d
            · have hb2 : (9007199254740991 : Int) < 10 * (n : Int) + (d : Int) := by omega
              have HX2 := hide (show num r = .error (43, t.length + 1) by rw [unhide HX, unhide HG, unhide HD0, if_pos (by omega)])
              have HF := hide (fail_any 43 b s (c :: t) w6 h6)
              have O6 := hide o6
              clear h6 o6 hbig
              go_wp2_with fail
              refine (unhide HF).mono ?_
              rintro e w7 ⟨rfl, rfl⟩
              go_wp2_with fail
              exact ⟨rfl, PO.bad (unhide HX2) (unhide O6) rfl⟩
            · have hb2 : ¬ (9007199254740991 : Int) < 10 * (n : Int) + (d : Int) := by omega
              have HG2 := hide (show digs 0 r1 = digs (10 * n + d) t by rw [unhide HG, unhide HD0, if_neg (by omega)]; congr 1; omega)
              obtain ⟨p, hr, hp, hd⟩ := h6.row
              have hlen : (c :: t).length = s.length - p := by rw [← hd]; simp
              rw [List.length_cons] at hlen
              have d1 : w6.cell? ⟨b, 1, none⟩ = some (.int .i64 p) := by rw [Lib.cell_of_heap hr]; rfl
              have z1 : w6.frozen? ⟨b, 1, none⟩ = false := Lib.frozen_of_heap hr 1
              have hle := h6.le
              have HR := hide hr
              have HDp := hide hd
              have O6 := hide o6
              clear h6 o6 hr hd hbig
              go_wp2_with fail
              go_roundg ((c :: t).length)
              case measure => simpa using hgk
              case rel =>
                refine ⟨10 * n + d, t, by go_num, by omega, ⟨⟨p + 1, ?_, by omega, ?_⟩, hle⟩, unhide HG2, by simp, (unhide O6).trans (Onl.setCell b 1 _ w6)⟩
                · have := heap_setCell_same w6 b 1 _ 50 (.int .i64 ((p : Int) + 1)) (unhide HR)
                  rw [this]
                  rfl
                · rw [show s.drop (p + 1) = (s.drop p).tail by rw [List.tail_drop], unhide HDp]
                  rfl
end Go.Proofs.YtfaahjbkdlkmjaaDoor
