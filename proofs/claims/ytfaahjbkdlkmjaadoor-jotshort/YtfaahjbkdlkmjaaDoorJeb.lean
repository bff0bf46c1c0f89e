import Derived.Test.YtfaahjbkdlkmjaaDoorJea
import Derived.Deep.LoopGhost
/- Jot: want, blanks, a word, a number. -/
namespace Go.Proofs.YtfaahjbkdlkmjaaDoor
open Go Go.RowKit Go.Lib
set_option linter.unusedVariables false
set_option linter.unusedSimpArgs false
/-- What a parser's call comes to. -/
def PO (b : Nat) (s : Bs) (w : World) {α : Type} (x : Except Er α) (ok : α → Ending → World → Prop) (e : Ending) (w' : World) : Prop :=
  Onl b w w' ∧ match x with
    | .ok a => ok a e w'
    | .error er => e = pan er.1 ((s.length : Int) - er.2)
theorem PO.ok {b : Nat} {s : Bs} {w : World} {α : Type} {x : Except Er α} {ok : α → Ending → World → Prop} {e : Ending} {w' : World} {a : α} (hx : x = .ok a) (h : Onl b w w') (h2 : ok a e w') : PO b s w x ok e w' := by
  subst hx
  exact ⟨h, h2⟩
theorem PO.bad {b : Nat} {s : Bs} {w : World} {α : Type} {x : Except Er α} {ok : α → Ending → World → Prop} {e : Ending} {w' : World} {er : Er} (hx : x = .error er) (h : Onl b w w') (h2 : e = pan er.1 ((s.length : Int) - er.2)) : PO b s w x ok e w' := by
  subst hx
  exact ⟨h, h2⟩
theorem want_tk {c : UInt8} {r : Bs} (hc : c ≠ 0) (h : r.headD 0 = c) : want c r = .ok (tk c r) := by
  cases r with
  | nil => exact absurd h (fun q => hc (by rw [← q]; rfl))
  | cons a t =>
    simp only [List.headD_cons] at h
    subst h
    simp [want, tk]
theorem want_no {c : UInt8} {r : Bs} (h : ¬ r.headD 0 = c) : want c r = .error (40, r.length) ∧ tk c r = r := by
  cases r with
  | nil => exact ⟨rfl, by simp [tk]⟩
  | cons a t =>
    simp only [List.headD_cons] at h
    exact ⟨by simp [want, h], by simp [tk, h]⟩
/-- done, and what is left -/
abbrev okR (b : Nat) (s : Bs) (t : Bs) (e : Ending) (w' : World) : Prop := e = done0 ∧ RAt b s t w'
set_option maxHeartbeats 2000000 in
theorem want_any (c : UInt8) (hc : c ≠ 0) (b : Nat) (s r : Bs) (w : World) (h : RAt b s r w) :
    Calls Tryd.prog 43 #[.pointer (some ⟨b, 0, none⟩), .int .u8 (c.toNat : Int)] w (PO b s w (want c r) (okR b s)) := by
  have HT := hide (take_any c hc b s r w h)
  by_cases hh : r.headD 0 = c
  · rw [decide_eq_true hh] at HT
    have hx := hide (want_tk hc hh)
    clear h hh
    go_enter Tryd.func43, Tryd.ntmps43
    go_wp2_with fail
    refine (unhide HT).mono ?_
    rintro e w1 ⟨rfl, h1, h2⟩
    go_wp2_with fail
    go_end0
    exact PO.ok (unhide hx) h2 ⟨rfl, h1⟩
  · rw [decide_eq_false hh] at HT
    obtain ⟨hx', ht⟩ := want_no hh
    have hx := hide hx'
    rw [ht] at HT
    clear h hh hx'
    go_enter Tryd.func43, Tryd.ntmps43
    go_wp2_with fail
    refine (unhide HT).mono ?_
    rintro e w1 ⟨rfl, h1, h2⟩
    have HF := hide (fail_any 40 b s r w1 h1)
    clear h1
    go_wp2_with fail
    refine (unhide HF).mono ?_
    rintro e w2 ⟨rfl, rfl⟩
    go_wp2_with fail
    exact ⟨rfl, PO.bad (unhide hx) h2 rfl⟩
theorem sk_tk {c : UInt8} {r : Bs} (hc : isB c = true) (hne : c ≠ 0) (h : r.headD 0 = c) : sk r = sk (tk c r) ∧ (tk c r).length < r.length := by
  cases r with
  | nil => exact absurd h (fun q => hne (by rw [← q]; rfl))
  | cons a t =>
    simp only [List.headD_cons] at h
    subst h
    simp [sk, tk, hc]
theorem sk_stop {r : Bs} (h1 : ¬ r.headD 0 = 32) (h2 : ¬ r.headD 0 = 9) (h3 : ¬ r.headD 0 = 10) (h4 : ¬ r.headD 0 = 13) : sk r = r := by
  cases r with
  | nil => rfl
  | cons a t =>
    simp only [List.headD_cons] at h1 h2 h3 h4
    exact sk_cons t (by simp [isB, h1, h2, h3, h4])
theorem tk_no {c : UInt8} {r : Bs} (h : ¬ r.headD 0 = c) : tk c r = r := by
  unfold tk
  rw [if_neg h]
set_option maxHeartbeats 4000000 in
theorem blanks_any (b : Nat) (s r : Bs) (w : World) (h : RAt b s r w) :
    Calls Tryd.prog 28 #[.pointer (some ⟨b, 0, none⟩)] w fun e w' => e = done0 ∧ RAt b s (sk r) w' ∧ Onl b w w' := by
  have H := hide h
  clear h
  go_enter Tryd.func28, Tryd.ntmps28
  go_wp2_with fail
  go_loopg [] (r.length + 1) (fun gk wr => ∃ r', RAt b s r' wr ∧ sk r' = sk r ∧ r'.length < gk ∧ Onl b w wr)
  case atStart => exact ⟨r, unhide H, rfl, by omega, Onl.refl _ _⟩
  case round =>
    obtain ⟨r', h, hs, hg, ho⟩ := hrel
    have HO := hide ho
    have HS := hide hs
    have H1 := hide (take_any 32 (by decide) b s r' wr h)
    clear h ho hs H
    by_cases c1 : r'.headD 0 = 32
    · obtain ⟨k1, k2⟩ := sk_tk (by decide) (by decide) c1
      rw [decide_eq_true c1] at H1
      clear c1
      go_wp2_with fail
      refine (unhide H1).mono ?_
      rintro e w1 ⟨rfl, g1, g2⟩
      have G1 := hide g1
      have G2 := hide ((unhide HO).trans g2)
      clear g1 g2 H1
      go_wp2_with fail
      go_roundg (r'.length)
      case measure => omega
      case rel => exact ⟨tk 32 r', unhide G1, by rw [← k1]; exact unhide HS, k2, unhide G2⟩
    rw [decide_eq_false c1, tk_no c1] at H1
    go_wp2_with fail
    refine (unhide H1).mono ?_
    rintro e w1 ⟨rfl, g1, g2⟩
    have H2 := hide (take_any 9 (by decide) b s r' w1 g1)
    have HO1 := hide ((unhide HO).trans g2)
    clear g1 g2 H1 HO
    by_cases c2 : r'.headD 0 = 9
    · obtain ⟨k1, k2⟩ := sk_tk (by decide) (by decide) c2
      rw [decide_eq_true c2] at H2
      clear c2 c1
      go_wp2_with fail
      refine (unhide H2).mono ?_
      rintro e w2 ⟨rfl, g1, g2⟩
      have G1 := hide g1
      have G2 := hide ((unhide HO1).trans g2)
      clear g1 g2 H2
      go_wp2_with fail
      go_roundg (r'.length)
      case measure => omega
      case rel => exact ⟨tk 9 r', unhide G1, by rw [← k1]; exact unhide HS, k2, unhide G2⟩
    rw [decide_eq_false c2, tk_no c2] at H2
    go_wp2_with fail
    refine (unhide H2).mono ?_
    rintro e w2 ⟨rfl, g1, g2⟩
    have H3 := hide (take_any 10 (by decide) b s r' w2 g1)
    have HO2 := hide ((unhide HO1).trans g2)
    clear g1 g2 H2 HO1
    by_cases c3 : r'.headD 0 = 10
    · obtain ⟨k1, k2⟩ := sk_tk (by decide) (by decide) c3
      rw [decide_eq_true c3] at H3
      clear c3 c2 c1
      go_wp2_with fail
      refine (unhide H3).mono ?_
      rintro e w3 ⟨rfl, g1, g2⟩
      have G1 := hide g1
      have G2 := hide ((unhide HO2).trans g2)
      clear g1 g2 H3
      go_wp2_with fail
      go_roundg (r'.length)
      case measure => omega
      case rel => exact ⟨tk 10 r', unhide G1, by rw [← k1]; exact unhide HS, k2, unhide G2⟩
    rw [decide_eq_false c3, tk_no c3] at H3
    go_wp2_with fail
    refine (unhide H3).mono ?_
    rintro e w3 ⟨rfl, g1, g2⟩
    have H4 := hide (take_any 13 (by decide) b s r' w3 g1)
    have HO3 := hide ((unhide HO2).trans g2)
    clear g1 g2 H3 HO2
    by_cases c4 : r'.headD 0 = 13
    · obtain ⟨k1, k2⟩ := sk_tk (by decide) (by decide) c4
      rw [decide_eq_true c4] at H4
      clear c4 c3 c2 c1
      go_wp2_with fail
      refine (unhide H4).mono ?_
      rintro e w4 ⟨rfl, g1, g2⟩
      have G1 := hide g1
      have G2 := hide ((unhide HO3).trans g2)
      clear g1 g2 H4
      go_wp2_with fail
      go_roundg (r'.length)
      case measure => omega
      case rel => exact ⟨tk 13 r', unhide G1, by rw [← k1]; exact unhide HS, k2, unhide G2⟩
    rw [decide_eq_false c4, tk_no c4] at H4
    have hst := sk_stop c1 c2 c3 c4
    clear c1 c2 c3 c4
    go_wp2_with fail
    refine (unhide H4).mono ?_
    rintro e w4 ⟨rfl, g1, g2⟩
    have G1 := hide g1
    have G2 := hide ((unhide HO3).trans g2)
    clear g1 g2 H4
    go_wp2_with fail
    go_end0
    exact ⟨rfl, by rw [← unhide HS, hst]; exact unhide G1, unhide G2⟩
end Go.Proofs.YtfaahjbkdlkmjaaDoor
