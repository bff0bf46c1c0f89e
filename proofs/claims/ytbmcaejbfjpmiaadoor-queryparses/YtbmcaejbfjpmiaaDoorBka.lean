import Derived.Test.YtbmcaejbfjpmiaaDoorWgq
namespace Go.Proofs.YtbmcaejbfjpmiaaDoor
open Go.RowKit Go.Lib
theorem Fls.take {w : World} {a : Option Addr} {n : Nat} {fs : List Fl} (h : Fls w a n fs) (m : Nat) (hm : m ≤ n) : Fls w a m (fs.take m) := by
  refine ⟨by rw [List.length_take, ← h.1]; omega, fun h0 => ?_⟩
  obtain ⟨p, o, e, hc⟩ := h.2 (by omega)
  refine ⟨p, o, e, fun j hj => ?_⟩
  have e2 : (fs.take m).getD j f0 = fs.getD j f0 := by
    rw [List.getD_eq_getElem?_getD, List.getD_eq_getElem?_getD, List.getElem?_take, if_pos hj]
  rw [e2]
  exact hc j (by omega)
theorem prt_len_all (fs : List Fl) : (prt fs).length ≤ 3 * siz fs := by
  have := prt_len fs fs.length (Nat.le_refl _)
  rw [List.take_length] at this
  exact this
/-- What Parse takes is no longer than its text. -/
theorem more_len {c : List UInt8} {k : Nat} {r : Rs (List UInt8)} {m : List UInt8} (h : more c k r = .ok m) : ∃ l, r = .ok l ∧ m = c ++ l := by
  cases r with
  | ok l => exact ⟨l, rfl, by simpa [more] using h.symm⟩
  | error e => obtain ⟨e, p⟩ := e; simp [more] at h
theorem rd_len (l : List UInt8) (m : List UInt8) (h : rd l = .ok m) : m.length ≤ l.length := by
  induction l using rd.induct generalizing m with
  | case1 => simp [rd] at h; subst h; simp
  | case2 t ih =>
    rw [rd_plus] at h
    obtain ⟨l, hl, rfl⟩ := more_len h
    have := ih l hl
    simp; omega
  | case3 a b u hh hc ih =>
    rw [rd_hex _ _ _ hh.1 hh.2] at h
    obtain ⟨l, hl, rfl⟩ := more_len h
    have := ih l hl
    simp; omega
  | case4 a b u hh hc => rw [rd_unhex _ _ _ hh] at h; simp at h
  | case5 t ht hc =>
    have : rd (37 :: t) = .error (30, 0) := by
      match t, ht with
      | [], _ => exact rd_short [] (by simp)
      | [a], _ => exact rd_short [a] (by simp)
      | a :: b :: u, ht => exact absurd rfl (ht a b u)
    rw [this] at h
    simp at h
  | case6 c t h1 h2 h3 => rw [rd_bad c t h1 h2 h3] at h; simp at h
  | case7 c t h1 h2 h3 ih =>
    rw [rd_self c t h1 h2 (by simpa using h3)] at h
    obtain ⟨l, hl, rfl⟩ := more_len h
    have := ih l hl
    simp; omega
theorem hd_tl_len (c : UInt8) (p : List UInt8) : (hd c p).length + (tl c p).length ≤ p.length := by
  rcases hd_tl c p with ⟨_, h1, h2⟩ | h
  · rw [h1, h2]; simp
  · have := congrArg List.length h
    rw [List.length_append, List.length_cons] at this
    omega
theorem pc_len (p : List UInt8) (f : Fl) (h : pc p = .ok f) : f.1.length + f.2.length ≤ p.length := by
  unfold pc at h
  split at h
  · simp at h
  · cases h1 : rd (hd 61 p) with
    | error e => rw [h1] at h; simp at h
    | ok n =>
      cases h2 : rd (tl 61 p) with
      | error e => rw [h1, h2] at h; simp at h
      | ok v =>
        rw [h1, h2] at h
        simp at h
        subst h
        have a1 := rd_len _ _ h1
        have a2 := rd_len _ _ h2
        have a3 := hd_tl_len 61 p
        simp only
        omega
theorem prs_siz (k : Nat) (s : List UInt8) (l : List Fl) (h : prs k s = .ok l) : siz l ≤ s.length + 1 := by
  induction k generalizing s l with
  | zero => simp [prs] at h
  | succ k ih =>
    unfold prs at h
    cases hp : pc (hd 38 s) with
    | error e => rw [hp] at h; simp at h
    | ok f =>
      have h1 := pc_len _ _ hp
      rw [hp] at h
      simp only at h
      split at h
      · rename_i hlt
        cases hq : prs k (tl 38 s) with
        | error e => rw [hq] at h; obtain ⟨e, p⟩ := e; simp [add] at h
        | ok m =>
          rw [hq] at h
          simp only [add, Except.ok.injEq] at h
          have h2 := ih _ _ hq
          subst h
          have h3 := tl_drop 38 s hlt
          have h4 := congrArg List.length h3
          rw [List.length_drop] at h4
          simp [siz]
          omega
      · simp at h
        subst h
        have h3 := hd_le 38 s
        simp [siz]
        omega
theorem parse_siz (s : List UInt8) (l : List Fl) (h : parse s = .ok l) : siz l ≤ s.length + 1 := by
  unfold parse at h
  split at h
  · simp at h; subst h; simp [siz]
  · exact prs_siz 32 s l h
set_option maxHeartbeats 8000000 in
set_option maxRecDepth 8000 in
theorem back_walk (a : Option Addr) (n cap : Nat) (fs : List Fl) (s : List UInt8) (w : World) (hE : Env w.heap.size w) (hp : Fls w a n fs) (hn : n ≤ 140737488351232) (hcap : n ≤ cap) (hps : ∀ j, (fs.getD j f0).1.length ≤ 140737488351232 ∧ (fs.getD j f0).2.length ≤ 140737488351232) (hs : s.length ≤ 9223372036854775807) :
    Calls Tryd.prog 6 #[.slice a n cap, S s] w fun e w' => e = .returned (.bool true) ∧ Below w.heap.size w w' := by
  have HN := hide hp.1
  have HP := hide hp
  have HW := hide (weighs_any a n cap fs w hp (by omega) (fun j => by have := hps j; omega))
  have HE := hide hE
  clear hp hE hps
  go_enter Tryd.func6, Tryd.ntmps6
  go_wp2_with fail
  refine (unhide HW).mono ?_
  rintro e w1 ⟨r, rfl, hr0, hr, b1⟩
  have B1 := hide b1
  have HR := hide hr
  have HA := hide (adds_any r s.length w1 (by omega) hs)
  have hal := hide (@addN_le r s.length)
  clear b1 hr HW
  generalize addN r s.length = A at *
  go_wp2_with fail
  refine (unhide HA).mono ?_
  rintro e w' ⟨rfl, rfl⟩
  clear HA
  by_cases hA : 2147483647 < A
  · have iA : (2147483647 : Int) < (A : Int) := by omega
    go_wp2
    go_ret
    exact ⟨rfl, unhide B1⟩
  · have iA : ¬ (2147483647 : Int) < (A : Int) := by omega
    have hsum := (unhide hal (by omega)).1
    have hrs := unhide HR (by omega)
    rw [hrs] at hsum
    clear hal HR hr0 hrs hA
    have HK := hide (awake_any w' ((unhide HE).next (unhide B1)))
    go_wp2_with fail
    refine (unhide HK).mono ?_
    rintro e w2 ⟨rfl, b2⟩
    have B2 := hide ((unhide B1).trans (b2.mono (unhide B1).size))
    clear b2 HK B1
    obtain ⟨M, hM⟩ : ∃ M, M = min n 32 := ⟨_, rfl⟩
    have hMi : (min (n : Int) 32).toNat = M := by omega
    have hMn : M ≤ n := by omega
    have HF2 := hide (((unhide HP).below (unhide B2)).take M hMn)
    have hsF := siz_take_le fs M
    have hFl : (fs.take M).length ≤ 32 := by rw [List.length_take]; omega
    have HFM := hide (show (fs.take M).length = M by rw [List.length_take]; have := unhide HN; omega)
    generalize fs.take M = F at *
    have HPr := hide (print_any a M cap F w2 (unhide HF2) ((unhide HE).next (unhide B2)) (by omega))
    have hpl := prt_len_all F
    have HPp := hide (parse_prt F hFl)
    clear hM
    go_wp2_with fail
    refine (unhide HPr).mono ?_
    rintro e w3 ⟨rfl, b3⟩
    have B3 := hide ((unhide B2).trans (b3.mono (unhide B2).size))
    have HF3 := hide ((unhide HF2).below b3)
    have HQ := hide (parse_any (prt F) w3 (by omega))
    clear b3 HPr HF2 B2
    generalize prt F = L at *
    go_wp2_with fail
    refine (unhide HQ).mono ?_
    intro e w4 h4
    unfold Told at h4
    rw [unhide HPp] at h4
    obtain ⟨b4, v, rfl, o4⟩ := h4
    obtain ⟨p4, cap4, rfl, hF4⟩ := o4.fls
    rw [unhide HFM] at hF4 ⊢
    have B4 := hide ((unhide B3).trans (b4.mono (unhide B3).size))
    have HF4 := hide ((unhide HF3).below b4)
    have HS := hide (same_any p4 a M M cap4 cap F F w4 hF4 (unhide HF4) (by omega) (by omega))
    rw [decide_eq_true rfl] at HS
    clear b4 HQ HF3 B3 o4 hF4
    go_wp2_with fail
    refine (unhide HS).mono ?_
    rintro e w5 ⟨rfl, b5⟩
    have B5 := hide ((unhide B4).trans (b5.mono (unhide B4).size))
    have HES := hide (qEscape_any s w5 ((unhide HE).next (unhide B5)) (by omega))
    clear b5 HS B4 HF4
    go_wp2_with fail
    refine (unhide HES).mono ?_
    rintro e w6 ⟨rfl, b6⟩
    have B6 := hide ((unhide B5).trans (b6.mono (unhide B5).size))
    have hel := esc_len s
    have HUE := hide (qUnescape_any (esc s) w6 (by omega))
    rw [rd_esc_all] at HUE
    simp only [tell2] at HUE
    clear b6 HES B5
    generalize esc s = ES at *
    go_wp2_with fail
    refine (unhide HUE).mono ?_
    rintro e w7 ⟨rfl, b7⟩
    have B7 := hide ((unhide B6).trans (b7.mono (unhide B6).size))
    have HPS := hide (parse_any s w7 (by omega))
    clear b7 HUE B6
    cases hps : parse s with
    | error x =>
      obtain ⟨ec, pl⟩ := x
      have hec : ¬ (ec : Int) = 0 := by
        rcases (parse_place s ec pl hps).2 with ⟨h, _⟩ | ⟨h | h, _⟩ <;> omega
      go_wp2_with fail
      refine (unhide HPS).mono ?_
      intro e w8 h8
      unfold Told at h8
      rw [hps] at h8
      obtain ⟨b8, rfl⟩ := h8
      have B8 := hide ((unhide B7).trans (b8.mono (unhide B7).size))
      clear b8 hps
      go_wp2
      go_ret
      exact ⟨rfl, unhide B8⟩
    | ok bs =>
      have hbl := parse_len s bs hps
      have hbz := parse_siz s bs hps
      go_wp2_with fail
      refine (unhide HPS).mono ?_
      intro e w8 h8
      unfold Told at h8
      rw [hps] at h8
      obtain ⟨b8, v, rfl, o8⟩ := h8
      obtain ⟨p8, cap8, rfl, hF8⟩ := o8.fls
      have B8 := hide ((unhide B7).trans (b8.mono (unhide B7).size))
      have HF8 := hide hF8
      have HPr2 := hide (print_any p8 bs.length cap8 bs w8 hF8 ((unhide HE).next (unhide B8)) (by omega))
      have hpl2 := prt_len_all bs
      have HPp2 := hide (parse_prt bs hbl)
      clear b8 hps HPS o8 hF8 B7
      generalize hK : bs.length = K at *
      go_wp2_with fail
      refine (unhide HPr2).mono ?_
      rintro e w9 ⟨rfl, b9⟩
      have B9 := hide ((unhide B8).trans (b9.mono (unhide B8).size))
      have HF9 := hide ((unhide HF8).below b9)
      have HQ2 := hide (parse_any (prt bs) w9 (by omega))
      clear b9 HPr2 HF8 B8
      have HL2 := hide (rfl : prt bs = prt bs)
      generalize hL2 : prt bs = L2 at *
      go_wp2_with fail
      refine (unhide HQ2).mono ?_
      intro e w10 h10
      unfold Told at h10
      rw [unhide HPp2] at h10
      obtain ⟨b10, v, rfl, o10⟩ := h10
      obtain ⟨p10, cap10, rfl, hF10⟩ := o10.fls
      rw [hK] at hF10 ⊢
      have B10 := hide ((unhide B9).trans (b10.mono (unhide B9).size))
      have HF10 := hide hF10
      have HS2 := hide (same_any p10 p8 K K cap10 cap8 bs bs w10 hF10 ((unhide HF9).below b10) (by omega) (by omega))
      rw [decide_eq_true rfl] at HS2
      clear b10 HQ2 HF9 B9 o10 hF10
      go_wp2_with fail
      refine (unhide HS2).mono ?_
      rintro e w11 ⟨rfl, b11⟩
      have B11 := hide ((unhide B10).trans (b11.mono (unhide B10).size))
      have HPr3 := hide (print_any p10 K cap10 bs w11 ((unhide HF10).below b11) ((unhide HE).next (unhide B11)) (by omega))
      rw [hL2] at HPr3
      clear b11 HS2 B10 HF10 hK hL2
      go_wp2_with fail
      refine (unhide HPr3).mono ?_
      rintro e w12 ⟨rfl, b12⟩
      have B12 := hide ((unhide B11).trans (b12.mono (unhide B11).size))
      clear b12 HPr3 B11
      go_wp2
      go_ret
      exact ⟨rfl, unhide B12⟩
end Go.Proofs.YtbmcaejbfjpmiaaDoor
