import Derived.Test.YtfaahjbkdlkmjaaDoorJee
/- Jot: a letter by its number, an escape. -/
namespace Go.Proofs.YtfaahjbkdlkmjaaDoor
open Go Go.RowKit Go.Lib
set_option linter.unusedVariables false
set_option linter.unusedSimpArgs false
set_option maxHeartbeats 8000000 in
set_option maxRecDepth 20000 in
theorem byN_any (b : Nat) (s r : Bs) (w : World) (h : RAt b s r w) :
    Calls Tryd.prog 65 #[.pointer (some ⟨b, 0, none⟩)] w (PO b s w (byN r) (okC b s)) := by
  have HF := hide (four_any false b s r w h)
  have HB := hide (show byN r = match four false 0 0 r with
    | .error e => .error e
    | .ok (a, r1) => if a < 55296 ∨ 57344 ≤ a then .ok (a, r1) else
      match want 92 r1 with
      | .error e => .error e
      | .ok r2 => match want 117 r2 with
        | .error e => .error e
        | .ok r3 => match four true 0 0 r3 with
          | .error e => .error e
          | .ok (b, r4) => .ok (65536 + (a - 55296) * 1024 + b - 56320, r4) from rfl)
  clear h
  go_enter Tryd.func65, Tryd.ntmps65
  go_wp2_with fail
  refine (unhide HF).mono ?_
  rintro e w1 ⟨o1, he⟩
  cases hx : four false 0 0 r with
  | error er =>
    rw [hx] at he HB
    subst he
    clear hx HF
    go_wp2_with fail
    exact ⟨rfl, PO.bad (unhide HB) o1 rfl⟩
  | ok x =>
    obtain ⟨a, r1⟩ := x
    obtain ⟨g1, g2, -, g4⟩ := four_all hx
    have g4 := g4 rfl
    rw [hx] at he HB
    obtain ⟨rfl, h1⟩ := he
    simp only at h1
    have H1 := hide h1
    have O1 := hide o1
    clear hx HF h1 o1
    by_cases hlo : a < 55296
    · have hlo' : (a : Int) < 55296 := by omega
      have HX := hide (show byN r = .ok (a, r1) by rw [unhide HB]; simp only; rw [if_pos (.inl hlo)])
      clear hlo HB
      go_wp2_with fail
      go_ret
      exact PO.ok (unhide HX) (unhide O1) ⟨rfl, unhide H1⟩
    by_cases hhi : 57344 ≤ a
    · have hlo' : ¬ (a : Int) < 55296 := by omega
      have hhi' : (57344 : Int) ≤ (a : Int) := by omega
      have HX := hide (show byN r = .ok (a, r1) by rw [unhide HB]; simp only; rw [if_pos (.inr hhi)])
      clear hlo hhi HB
      go_wp2_with fail
      go_ret
      exact PO.ok (unhide HX) (unhide O1) ⟨rfl, unhide H1⟩
    have hlo' : decide ((a : Int) < 55296) = false := decide_eq_false (by omega)
    have hhi' : decide ((57344 : Int) ≤ (a : Int)) = false := decide_eq_false (by omega)
    obtain ⟨a', ea⟩ : ∃ a', a - 55296 = a' := ⟨_, rfl⟩
    have hsub : (a : Int) - 55296 = (a' : Int) := by omega
    have ha' : a' < 1024 := by omega
    have HB2 := hide (show byN r = match want 92 r1 with
      | .error e => .error e
      | .ok r2 => match want 117 r2 with
        | .error e => .error e
        | .ok r3 => match four true 0 0 r3 with
          | .error e => .error e
          | .ok (b, r4) => .ok (65536 + a' * 1024 + b - 56320, r4) by
      rw [unhide HB]
      simp only
      rw [if_neg (by omega), ea])
    clear ea
    have HW := hide (want_any 92 (by decide) b s r1 w1 (unhide H1))
    have G2 := hide g2
    have HA' := hide ha'
    have HSUB := hide hsub
    clear hlo hhi HB g4 g1 g2 ha' hsub
    go_wp2_with fail
    refine (unhide HW).mono ?_
    rintro e w2 ⟨o2, he⟩
    cases hx : want 92 r1 with
    | error er =>
      rw [hx] at he HB2
      subst he
      clear hx HW
      go_wp2_with fail
      exact ⟨rfl, PO.bad (unhide HB2) ((unhide O1).trans o2) rfl⟩
    | ok r2 =>
      rw [hx] at he HB2
      obtain ⟨rfl, h2⟩ := he
      have HW2 := hide (want_any 117 (by decide) b s r2 w2 h2)
      have O2 := hide ((unhide O1).trans o2)
      clear hx HW h2 o2
      go_wp2_with fail
      refine (unhide HW2).mono ?_
      rintro e w3 ⟨o3, he⟩
      cases hx : want 117 r2 with
      | error er =>
        rw [hx] at he HB2
        subst he
        clear hx HW2
        go_wp2_with fail
        exact ⟨rfl, PO.bad (unhide HB2) ((unhide O2).trans o3) rfl⟩
      | ok r3 =>
        rw [hx] at he HB2
        obtain ⟨rfl, h3⟩ := he
        have HF2 := hide (four_any true b s r3 w3 h3)
        have O3 := hide ((unhide O2).trans o3)
        clear hx HW2 h3 o3
        go_wp2_with fail
        refine (unhide HF2).mono ?_
        rintro e w4 ⟨o4, he⟩
        cases hx : four true 0 0 r3 with
        | error er =>
          rw [hx] at he HB2
          subst he
          clear hx HF2
          go_wp2_with fail
          exact ⟨rfl, PO.bad (unhide HB2) ((unhide O3).trans o4) rfl⟩
        | ok x =>
          obtain ⟨z, r4⟩ := x
          obtain ⟨f1, f2, f3, -⟩ := four_all hx
          have f3 := f3 rfl
          rw [hx] at he HB2
          obtain ⟨rfl, h4⟩ := he
          simp only at h4
          have O4 := hide ((unhide O3).trans o4)
          have H4 := hide h4
          clear hx HF2 h4 o4
          go_wp2_with fail
          go_ret
          refine PO.ok (a := (65536 + a' * 1024 + z - 56320, r4)) (unhide HB2) (unhide O4) ⟨?_, unhide H4⟩
          have hA := unhide HA'
          have hS := unhide HSUB
          obtain ⟨hz1, hz2⟩ := f3 trivial
          show Ending.returned (.int .i32 (wrap32 (wrap32 (wrap32 (65536 + wrap32 (wrap32 ((a : Int) - 55296) * 1024)) + (z : Int)) - 56320))) = .returned (.int .i32 ((65536 + a' * 1024 + z - 56320 : Nat) : Int))
          rw [hS]
          have w1 : wrap32 (a' : Int) = a' := by unfold wrap32; omega
          have w2 : wrap32 ((a' : Int) * 1024) = a' * 1024 := by unfold wrap32; omega
          have w3 : wrap32 (65536 + (a' : Int) * 1024) = 65536 + a' * 1024 := by unfold wrap32; omega
          have w4 : wrap32 (65536 + (a' : Int) * 1024 + z) = 65536 + a' * 1024 + z := by unfold wrap32; omega
          have w5 : wrap32 (65536 + (a' : Int) * 1024 + z - 56320) = ((65536 + a' * 1024 + z - 56320 : Nat) : Int) := by unfold wrap32; omega
          rw [w1, w2, w3, w4, w5]
set_option maxHeartbeats 8000000 in
set_option maxRecDepth 20000 in
theorem escape_any (b : Nat) (s r : Bs) (w : World) (h : RAt b s r w) :
    Calls Tryd.prog 51 #[.pointer (some ⟨b, 0, none⟩)] w (PO b s w (esc r) (okC b s)) := by
  have HT := hide (take_any 117 (by decide) b s r w h)
  by_cases h117 : r.headD 0 = 117
  · have hesc : esc r = byN r.tail := by
      cases r with
      | nil => exact absurd h117 (by decide)
      | cons a t =>
        simp only [List.headD_cons] at h117
        rw [esc, if_pos h117]
        rfl
    rw [decide_eq_true h117, show tk 117 r = r.tail by unfold tk; rw [if_pos h117]] at HT
    rw [hesc]
    clear h h117 hesc
    go_enter Tryd.func51, Tryd.ntmps51
    go_wp2_with fail
    refine (unhide HT).mono ?_
    rintro e w1 ⟨rfl, h1, o1⟩
    have HB := hide (byN_any b s r.tail w1 h1)
    have O1 := hide o1
    clear h1 o1 HT
    go_wp2_with fail
    refine (unhide HB).mono ?_
    rintro e w2 ⟨o2, he⟩
    cases hx : byN r.tail with
    | error er =>
      rw [hx] at he
      subst he
      have HX := hide hx
      clear hx HB
      go_wp2_with fail
      exact ⟨rfl, by first | exact PO.bad (unhide HX) ((unhide O1).trans o2) rfl | exact PO.bad rfl ((unhide O1).trans o2) rfl⟩
    | ok x =>
      rw [hx] at he
      obtain ⟨rfl, h2⟩ := he
      have HX := hide hx
      have H2 := hide h2
      have O2 := hide ((unhide O1).trans o2)
      clear hx HB h2 o2
      go_wp2_with fail
      go_ret
      first | exact PO.ok (unhide HX) (unhide O2) ⟨rfl, unhide H2⟩ | exact PO.ok rfl (unhide O2) ⟨rfl, unhide H2⟩
  · rw [decide_eq_false h117, tk_no h117] at HT
    have H117 := hide h117
    clear h h117
    go_enter Tryd.func51, Tryd.ntmps51
    go_wp2_with fail
    refine (unhide HT).mono ?_
    rintro e w1 ⟨rfl, h1, o1⟩
    have HL := hide (look_any b s r w1 h1)
    obtain ⟨c, hc⟩ : ∃ c, r.headD 0 = c := ⟨_, rfl⟩
    rw [hc] at HL H117
    have H1 := hide h1
    have O1 := hide o1
    have HC := hide hc
    clear h1 o1 HT hc
    go_wp2_with fail
    refine (unhide HL).mono ?_
    rintro e w2 ⟨rfl, q, rfl⟩
    have H2 := hide ((unhide H1).drewN q)
    have O2 := hide ((unhide O1).trans (Onl.drewN b w1 q))
    generalize w1.drewN q = w2 at *
    clear HL H1 O1
    by_cases k34 : c = 34
    · subst k34
      have hrc : ∃ t, r = 34 :: t := by
        have hc := unhide HC
        cases r with
        | nil => exact absurd hc (by decide)
        | cons a t => exact ⟨t, by simp only [List.headD_cons] at hc; rw [hc]⟩
      obtain ⟨t, rfl⟩ := hrc
      have HX := hide (show esc (34 :: t) = .ok (34, t) from rfl)
      obtain ⟨p, hr, hp, hd⟩ := (unhide H2).row
      have hle := (unhide H2).le
      have hlen : (34 :: t : Bs).length = s.length - p := by rw [← hd]; simp
      rw [List.length_cons] at hlen
      have d1 : w2.cell? ⟨b, 1, none⟩ = some (.int .i64 p) := by rw [Lib.cell_of_heap hr]; rfl
      have z1 : w2.frozen? ⟨b, 1, none⟩ = false := Lib.frozen_of_heap hr 1
      have HR := hide hr
      have HDp := hide hd
      clear hr hd H2 HC H117
      go_wp2_with fail
      go_ret
      refine PO.ok (a := (34, t)) (unhide HX) ((unhide O2).trans (Onl.setCell b 1 _ w2)) ⟨rfl, ⟨⟨p + 1, ?_, by omega, ?_⟩, hle⟩⟩
      · have := heap_setCell_same w2 b 1 _ 50 (.int .i64 ((p : Int) + 1)) (unhide HR)
        rw [this]
        rfl
      · rw [show s.drop (p + 1) = (s.drop p).tail by rw [List.tail_drop], unhide HDp]
        rfl
    by_cases k92 : c = 92
    · subst k92
      have hrc : ∃ t, r = 92 :: t := by
        have hc := unhide HC
        cases r with
        | nil => exact absurd hc (by decide)
        | cons a t => exact ⟨t, by simp only [List.headD_cons] at hc; rw [hc]⟩
      obtain ⟨t, rfl⟩ := hrc
      have HX := hide (show esc (92 :: t) = .ok (92, t) from rfl)
      obtain ⟨p, hr, hp, hd⟩ := (unhide H2).row
      have hle := (unhide H2).le
      have hlen : (92 :: t : Bs).length = s.length - p := by rw [← hd]; simp
      rw [List.length_cons] at hlen
      have d1 : w2.cell? ⟨b, 1, none⟩ = some (.int .i64 p) := by rw [Lib.cell_of_heap hr]; rfl
      have z1 : w2.frozen? ⟨b, 1, none⟩ = false := Lib.frozen_of_heap hr 1
      have HR := hide hr
      have HDp := hide hd
      clear hr hd H2 HC H117
      go_wp2_with fail
      go_ret
      refine PO.ok (a := (92, t)) (unhide HX) ((unhide O2).trans (Onl.setCell b 1 _ w2)) ⟨rfl, ⟨⟨p + 1, ?_, by omega, ?_⟩, hle⟩⟩
      · have := heap_setCell_same w2 b 1 _ 50 (.int .i64 ((p : Int) + 1)) (unhide HR)
        rw [this]
        rfl
      · rw [show s.drop (p + 1) = (s.drop p).tail by rw [List.tail_drop], unhide HDp]
        rfl
    by_cases k47 : c = 47
    · subst k47
      have hrc : ∃ t, r = 47 :: t := by
        have hc := unhide HC
        cases r with
        | nil => exact absurd hc (by decide)
        | cons a t => exact ⟨t, by simp only [List.headD_cons] at hc; rw [hc]⟩
      obtain ⟨t, rfl⟩ := hrc
      have HX := hide (show esc (47 :: t) = .ok (47, t) from rfl)
      obtain ⟨p, hr, hp, hd⟩ := (unhide H2).row
      have hle := (unhide H2).le
      have hlen : (47 :: t : Bs).length = s.length - p := by rw [← hd]; simp
      rw [List.length_cons] at hlen
      have d1 : w2.cell? ⟨b, 1, none⟩ = some (.int .i64 p) := by rw [Lib.cell_of_heap hr]; rfl
      have z1 : w2.frozen? ⟨b, 1, none⟩ = false := Lib.frozen_of_heap hr 1
      have HR := hide hr
      have HDp := hide hd
      clear hr hd H2 HC H117
      go_wp2_with fail
      go_ret
      refine PO.ok (a := (47, t)) (unhide HX) ((unhide O2).trans (Onl.setCell b 1 _ w2)) ⟨rfl, ⟨⟨p + 1, ?_, by omega, ?_⟩, hle⟩⟩
      · have := heap_setCell_same w2 b 1 _ 50 (.int .i64 ((p : Int) + 1)) (unhide HR)
        rw [this]
        rfl
      · rw [show s.drop (p + 1) = (s.drop p).tail by rw [List.tail_drop], unhide HDp]
        rfl
    by_cases k98 : c = 98
    · subst k98
      have hrc : ∃ t, r = 98 :: t := by
        have hc := unhide HC
        cases r with
        | nil => exact absurd hc (by decide)
        | cons a t => exact ⟨t, by simp only [List.headD_cons] at hc; rw [hc]⟩
      obtain ⟨t, rfl⟩ := hrc
      have HX := hide (show esc (98 :: t) = .ok (8, t) from rfl)
      obtain ⟨p, hr, hp, hd⟩ := (unhide H2).row
      have hle := (unhide H2).le
      have hlen : (98 :: t : Bs).length = s.length - p := by rw [← hd]; simp
      rw [List.length_cons] at hlen
      have d1 : w2.cell? ⟨b, 1, none⟩ = some (.int .i64 p) := by rw [Lib.cell_of_heap hr]; rfl
      have z1 : w2.frozen? ⟨b, 1, none⟩ = false := Lib.frozen_of_heap hr 1
      have HR := hide hr
      have HDp := hide hd
      clear hr hd H2 HC H117
      go_wp2_with fail
      go_ret
      refine PO.ok (a := (8, t)) (unhide HX) ((unhide O2).trans (Onl.setCell b 1 _ w2)) ⟨rfl, ⟨⟨p + 1, ?_, by omega, ?_⟩, hle⟩⟩
      · have := heap_setCell_same w2 b 1 _ 50 (.int .i64 ((p : Int) + 1)) (unhide HR)
        rw [this]
        rfl
      · rw [show s.drop (p + 1) = (s.drop p).tail by rw [List.tail_drop], unhide HDp]
        rfl
    by_cases k102 : c = 102
    · subst k102
      have hrc : ∃ t, r = 102 :: t := by
        have hc := unhide HC
        cases r with
        | nil => exact absurd hc (by decide)
        | cons a t => exact ⟨t, by simp only [List.headD_cons] at hc; rw [hc]⟩
      obtain ⟨t, rfl⟩ := hrc
      have HX := hide (show esc (102 :: t) = .ok (12, t) from rfl)
      obtain ⟨p, hr, hp, hd⟩ := (unhide H2).row
      have hle := (unhide H2).le
      have hlen : (102 :: t : Bs).length = s.length - p := by rw [← hd]; simp
      rw [List.length_cons] at hlen
      have d1 : w2.cell? ⟨b, 1, none⟩ = some (.int .i64 p) := by rw [Lib.cell_of_heap hr]; rfl
      have z1 : w2.frozen? ⟨b, 1, none⟩ = false := Lib.frozen_of_heap hr 1
      have HR := hide hr
      have HDp := hide hd
      clear hr hd H2 HC H117
      go_wp2_with fail
      go_ret
      refine PO.ok (a := (12, t)) (unhide HX) ((unhide O2).trans (Onl.setCell b 1 _ w2)) ⟨rfl, ⟨⟨p + 1, ?_, by omega, ?_⟩, hle⟩⟩
      · have := heap_setCell_same w2 b 1 _ 50 (.int .i64 ((p : Int) + 1)) (unhide HR)
        rw [this]
        rfl
      · rw [show s.drop (p + 1) = (s.drop p).tail by rw [List.tail_drop], unhide HDp]
        rfl
    by_cases k110 : c = 110
    · subst k110
      have hrc : ∃ t, r = 110 :: t := by
        have hc := unhide HC
        cases r with
        | nil => exact absurd hc (by decide)
        | cons a t => exact ⟨t, by simp only [List.headD_cons] at hc; rw [hc]⟩
      obtain ⟨t, rfl⟩ := hrc
      have HX := hide (show esc (110 :: t) = .ok (10, t) from rfl)
      obtain ⟨p, hr, hp, hd⟩ := (unhide H2).row
      have hle := (unhide H2).le
      have hlen : (110 :: t : Bs).length = s.length - p := by rw [← hd]; simp
      rw [List.length_cons] at hlen
      have d1 : w2.cell? ⟨b, 1, none⟩ = some (.int .i64 p) := by rw [Lib.cell_of_heap hr]; rfl
      have z1 : w2.frozen? ⟨b, 1, none⟩ = false := Lib.frozen_of_heap hr 1
      have HR := hide hr
      have HDp := hide hd
      clear hr hd H2 HC H117
      go_wp2_with fail
      go_ret
      refine PO.ok (a := (10, t)) (unhide HX) ((unhide O2).trans (Onl.setCell b 1 _ w2)) ⟨rfl, ⟨⟨p + 1, ?_, by omega, ?_⟩, hle⟩⟩
      · have := heap_setCell_same w2 b 1 _ 50 (.int .i64 ((p : Int) + 1)) (unhide HR)
        rw [this]
        rfl
      · rw [show s.drop (p + 1) = (s.drop p).tail by rw [List.tail_drop], unhide HDp]
        rfl
    by_cases k114 : c = 114
    · subst k114
      have hrc : ∃ t, r = 114 :: t := by
        have hc := unhide HC
        cases r with
        | nil => exact absurd hc (by decide)
        | cons a t => exact ⟨t, by simp only [List.headD_cons] at hc; rw [hc]⟩
      obtain ⟨t, rfl⟩ := hrc
      have HX := hide (show esc (114 :: t) = .ok (13, t) from rfl)
      obtain ⟨p, hr, hp, hd⟩ := (unhide H2).row
      have hle := (unhide H2).le
      have hlen : (114 :: t : Bs).length = s.length - p := by rw [← hd]; simp
      rw [List.length_cons] at hlen
      have d1 : w2.cell? ⟨b, 1, none⟩ = some (.int .i64 p) := by rw [Lib.cell_of_heap hr]; rfl
      have z1 : w2.frozen? ⟨b, 1, none⟩ = false := Lib.frozen_of_heap hr 1
      have HR := hide hr
      have HDp := hide hd
      clear hr hd H2 HC H117
      go_wp2_with fail
      go_ret
      refine PO.ok (a := (13, t)) (unhide HX) ((unhide O2).trans (Onl.setCell b 1 _ w2)) ⟨rfl, ⟨⟨p + 1, ?_, by omega, ?_⟩, hle⟩⟩
      · have := heap_setCell_same w2 b 1 _ 50 (.int .i64 ((p : Int) + 1)) (unhide HR)
        rw [this]
        rfl
      · rw [show s.drop (p + 1) = (s.drop p).tail by rw [List.tail_drop], unhide HDp]
        rfl
    by_cases k116 : c = 116
    · subst k116
      have hrc : ∃ t, r = 116 :: t := by
        have hc := unhide HC
        cases r with
        | nil => exact absurd hc (by decide)
        | cons a t => exact ⟨t, by simp only [List.headD_cons] at hc; rw [hc]⟩
      obtain ⟨t, rfl⟩ := hrc
      have HX := hide (show esc (116 :: t) = .ok (9, t) from rfl)
      obtain ⟨p, hr, hp, hd⟩ := (unhide H2).row
      have hle := (unhide H2).le
      have hlen : (116 :: t : Bs).length = s.length - p := by rw [← hd]; simp
      rw [List.length_cons] at hlen
      have d1 : w2.cell? ⟨b, 1, none⟩ = some (.int .i64 p) := by rw [Lib.cell_of_heap hr]; rfl
      have z1 : w2.frozen? ⟨b, 1, none⟩ = false := Lib.frozen_of_heap hr 1
      have HR := hide hr
      have HDp := hide hd
      clear hr hd H2 HC H117
      go_wp2_with fail
      go_ret
      refine PO.ok (a := (9, t)) (unhide HX) ((unhide O2).trans (Onl.setCell b 1 _ w2)) ⟨rfl, ⟨⟨p + 1, ?_, by omega, ?_⟩, hle⟩⟩
      · have := heap_setCell_same w2 b 1 _ 50 (.int .i64 ((p : Int) + 1)) (unhide HR)
        rw [this]
        rfl
      · rw [show s.drop (p + 1) = (s.drop p).tail by rw [List.tail_drop], unhide HDp]
        rfl
    have HX := hide (show esc r = .error (40, r.length) by
      have hc := unhide HC
      cases r with
      | nil => rfl
      | cons a t =>
        simp only [List.headD_cons] at hc
        subst hc
        rw [esc, if_neg (unhide H117)]
        simp [escv, k34, k92, k47, k98, k102, k110, k114, k116])
    have HF := hide (fail_any 40 b s r w2 (unhide H2))
    have z34 : ((c.toNat : Int) == 34) = false := by
      have := u8_eq (a := c) (b := 34)
      rw [decide_eq_false k34] at this
      exact this
    have z92 : ((c.toNat : Int) == 92) = false := by
      have := u8_eq (a := c) (b := 92)
      rw [decide_eq_false k92] at this
      exact this
    have z47 : ((c.toNat : Int) == 47) = false := by
      have := u8_eq (a := c) (b := 47)
      rw [decide_eq_false k47] at this
      exact this
    have z98 : ((c.toNat : Int) == 98) = false := by
      have := u8_eq (a := c) (b := 98)
      rw [decide_eq_false k98] at this
      exact this
    have z102 : ((c.toNat : Int) == 102) = false := by
      have := u8_eq (a := c) (b := 102)
      rw [decide_eq_false k102] at this
      exact this
    have z110 : ((c.toNat : Int) == 110) = false := by
      have := u8_eq (a := c) (b := 110)
      rw [decide_eq_false k110] at this
      exact this
    have z114 : ((c.toNat : Int) == 114) = false := by
      have := u8_eq (a := c) (b := 114)
      rw [decide_eq_false k114] at this
      exact this
    have z116 : ((c.toNat : Int) == 116) = false := by
      have := u8_eq (a := c) (b := 116)
      rw [decide_eq_false k116] at this
      exact this
    clear H117 HC k34 k92 k47 k98 k102 k110 k114 k116
    generalize c.toNat = cn at *
    go_wp2_with fail
    refine (unhide HF).mono ?_
    rintro e w3 ⟨rfl, rfl⟩
    go_wp2_with fail
    exact ⟨rfl, PO.bad (unhide HX) (unhide O2) rfl⟩
end Go.Proofs.YtfaahjbkdlkmjaaDoor
