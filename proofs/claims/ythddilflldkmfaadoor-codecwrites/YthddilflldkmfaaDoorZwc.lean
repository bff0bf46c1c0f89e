import Derived.Test.YthddilflldkmfaaDoorZwz
import Derived.Test.YthddilflldkmfaaDoorRgz
namespace Go.Proofs.YthddilflldkmfaaDoor
open Go.RowKit Go.Lib
/-- The document's Writer behind a call: what it has, what is wrong. -/
def zPut (X : List UInt8) (E e : Nat) (Y : List UInt8) : List UInt8 × Nat := (if e = 0 then X ++ Y else X, if e = 0 then E else if E = 0 then e else E)
theorem zPut_ok {X : List UInt8} {E : Nat} {Y : List UInt8} : zPut X E 0 Y = (X ++ Y, E) := rfl
theorem zPut_bad {X : List UInt8} {E e : Nat} {Y : List UInt8} (h : e ≠ 0) : zPut X E e Y = (X, if E = 0 then e else E) := by simp [zPut, h]
/-- What holds while a text is laid behind: the store is the c-th operation. -/
def WdN (c z : Nat) (X X' : List UInt8) (E : Nat) (w : World) (L : Nat → Bool) (W : World) : Prop :=
  ZAt z (if L c then X' else X) E W ∧ Only (fun k => k = z) w W ∧ (L c = true → L 4 = true)
variable {c z : Nat} {X X' : List UInt8} {E : Nat} {w W W' : World} {L : Nat → Bool}
theorem WdN.pure (h : WdN c z X X' E w L W) (i : Nat) (hi : i ≠ c) : WdN c z X X' E w (upd L i) W := by
  have e : upd L i c = L c := by simp [upd, Ne.symm hi]
  refine ⟨by rw [e]; exact h.1, h.2.1, fun q => updl_of (h.2.2 (by rw [← e]; exact q))⟩
theorem WdN.below (h : WdN c z X X' E w L W) (k : Below W.heap.size W W') (i : Nat) (hi : i ≠ c) : WdN c z X X' E w (upd L i) W' := by
  have h' := h.pure i hi
  exact ⟨h'.1.keep (P := fun _ => False) (Only.of_below k) (fun q => q), h'.2.1.trans (Only.of_below (P := fun _ => False) k) (fun _ _ q => q.elim), h'.2.2⟩
theorem WdN.store (h : WdN c z X X' E w L W) (h4 : L 4 = true) : WdN c z X X' E w (upd L c) (W.setCell ⟨z, 0, none⟩ (.string ⟨X'.toArray⟩)) := by
  have e : upd L c c = true := by simp [upd]
  have h1 := h.1
  refine ⟨?_, h.2.1.trans (Only.setCell W ⟨z, 0, none⟩ _) (fun _ _ q => q), fun _ => updl_of h4⟩
  rw [e]
  exact h1.set0
theorem WdN.l4 (h : WdN c z X X' E w L W) (h4 : L 4 = false) : W.cell? ⟨z, 0, none⟩ = some (.string ⟨X.toArray⟩) := by
  have hc : L c = false := by
    cases q : L c with
    | false => rfl
    | true => rw [h.2.2 q] at h4; cases h4
  have := h.1
  rw [hc] at this
  exact this.c0
set_option maxHeartbeats 1000000 in
set_option maxRecDepth 8000 in
theorem znum_any (z : Nat) (X : List UInt8) (E : Nat) (size n : Int) (w : World) (h : ZAt z X E w) (hn : n ≤ 9223372036854775807) (hX : X.length ≤ 900000000000) :
    Calls Tryd.prog 14 #[.pointer (some ⟨z, 0, none⟩), .int .i64 size, .int .i64 n] w fun ev w' => ev = .returned (.tuple #[]) ∧ ZTo z (zPut X E (numE size n) (numY size n)).1 (zPut X E (numE size n) (numY size n)).2 w w' := by
  have H := hide h
  clear h
  by_cases hs : 1 ≤ size ∧ size ≤ 8
  · obtain ⟨hs1, hs2⟩ := hs
    have d1 : decide (size < 1) = false := by simp; omega
    have d2 : decide ((8 : Int) < size) = false := by simp; omega
    obtain ⟨k, hk⟩ : ∃ k : Nat, size = (k : Int) := ⟨size.toNat, by omega⟩
    subst hk
    have HF := hide (fits_any k n w (by omega) hn)
    by_cases hst : stnB k n = true
    · have he : numE k n = 0 := by unfold numE; rw [if_pos ⟨hs1, hs2⟩]; simp [hst]
      have hn0 : 0 ≤ n := ((stnB_iff k n).1 hst).1
      obtain ⟨m, hm⟩ : ∃ m : Nat, n = (m : Int) := ⟨n.toNat, by omega⟩
      subst hm
      rw [he, zPut_ok]
      have hY : numY k m = be k m := by simp [numY]
      rw [hY]
      rw [hst] at HF
      have hlen := be_len k m
      have HB := hide (fun W => by_any k m W (by omega) (by omega) (by omega))
      generalize be k m = Y at *
      clear he hY hst
      go_enter Tryd.func14, Tryd.ntmps14
      go_wp2_with fail
      refine (unhide HF).mono ?_
      rintro e w1 ⟨rfl, rfl⟩
      go_wp2_with fail
      refine rzn z k m X Y rfl rfl rfl _ _ (show 33 ≤ 33 from by decide) rfl rfl rfl (WdN 11 z X (X ++ Y) E w1) ?h0 ?hp ?l4 ?c7 (by omega) ?s11 ?_
      case h0 => exact ⟨(unhide H).keep (P := fun _ => False) (Only.drew _ _) (fun q => q), Only.drew _ _, fun q => by cases q⟩
      case hp => exact fun i hi L W hW => hW.pure i (by intro e; subst e; simp at hi)
      case l4 => exact fun L W hW h4 => hW.l4 h4
      case c7 => exact fun L W hW _ => (unhide HB W).mono (fun e w' h => ⟨h.1, hW.below h.2 7 (by decide)⟩)
      case s11 => exact fun L W hW _ _ _ h4 => ⟨_, hW.1.c0, hW.1.fz 0, hW.store h4⟩
      intro L W hall hW
      have h11 := hall 11 (by decide)
      have HZ := hide (show ZTo z (X ++ Y) E w1 W from ⟨by have := hW.1; rw [h11] at this; exact this, hW.2.1⟩)
      clear hW h11 hall
      simp only [put_list, List.set_cons_succ, List.set_cons_zero]
      go_wp2
      go_end0
      exact ⟨rfl, unhide HZ⟩
    · have he : numE k n = 20 := by unfold numE; rw [if_pos ⟨hs1, hs2⟩]; simp [hst]
      rw [he, zPut_bad (by decide)]
      have hst' : stnB k n = false := by simpa using hst
      rw [hst'] at HF
      have HW := hide (zwrong_any z X E 20 w (unhide H))
      generalize (if E = 0 then 20 else E) = E2 at *
      clear he hst hst'
      go_enter Tryd.func14, Tryd.ntmps14
      go_wp2_with fail
      refine (unhide HF).mono ?_
      rintro e w1 ⟨rfl, rfl⟩
      go_wp2_with fail
      refine (unhide HW).mono ?_
      rintro e w2 ⟨rfl, hz⟩
      have HZ := hide hz
      clear hz
      go_wp2
      refine bodyPost_ret (results_none rfl _ _ _) rfl ?_
      exact ⟨rfl, unhide HZ⟩
  · have he : numE size n = 1 := by simp [numE, hs]
    rw [he, zPut_bad (by decide)]
    have HW := hide (zwrong_any z X E 1 w (unhide H))
    generalize (if E = 0 then 1 else E) = E2 at *
    clear he
    by_cases q : size < 1
    · go_enter Tryd.func14, Tryd.ntmps14
      go_wp2_with fail
      refine (unhide HW).mono ?_
      rintro e w2 ⟨rfl, hz⟩
      have HZ := hide hz
      clear hz
      go_wp2
      refine bodyPost_ret (results_none rfl _ _ _) rfl ?_
      exact ⟨rfl, unhide HZ⟩
    · have q2 : (8 : Int) < size := by omega
      go_enter Tryd.func14, Tryd.ntmps14
      go_wp2_with fail
      refine (unhide HW).mono ?_
      rintro e w2 ⟨rfl, hz⟩
      have HZ := hide hz
      clear hz
      go_wp2
      refine bodyPost_ret (results_none rfl _ _ _) rfl ?_
      exact ⟨rfl, unhide HZ⟩
set_option maxHeartbeats 1000000 in
set_option maxRecDepth 8000 in
theorem ztext_any (z : Nat) (X : List UInt8) (E : Nat) (most : Int) (s : List UInt8) (w : World) (h : ZAt z X E w) (hX : X.length + s.length ≤ 900000000000) :
    Calls Tryd.prog 16 #[.pointer (some ⟨z, 0, none⟩), .int .i64 most, .string ⟨s.toArray⟩] w fun ev w' => ev = .returned (.tuple #[]) ∧ ZTo z (zPut X E (textE most s.length) (textY most s)).1 (zPut X E (textE most s.length) (textY most s)).2 w w' := by
  have H := hide h
  clear h
  by_cases hs : 0 ≤ most ∧ most ≤ 65535
  · obtain ⟨hs1, hs2⟩ := hs
    have d1 : decide (most < 0) = false := by simp; omega
    have d2 : decide ((65535 : Int) < most) = false := by simp; omega
    by_cases hst : (s.length : Int) ≤ most
    · have he : textE most s.length = 0 := by unfold textE; rw [if_pos ⟨hs1, hs2⟩, if_pos hst]
      have ha : 1 ≤ ahd most ∧ ahd most ≤ 2 := by unfold ahd; split <;> omega
      have HA := hide (fun W => ahead_any most W)
      have hlen := be_len (ahd most) s.length
      have HB := hide (fun W => by_any (ahd most) s.length W (by omega) (by omega) (by omega))
      rw [he, zPut_ok]
      have hY : textY most s = be (ahd most) s.length ++ s := rfl
      rw [hY, ← List.append_assoc]
      generalize be (ahd most) s.length = Y at *
      generalize ahd most = k at *
      have hst' : ¬ most < (s.length : Int) := by omega
      clear he hY hst
      go_enter Tryd.func16, Tryd.ntmps16
      go_wp2_with fail
      refine rzt z k most X Y s rfl rfl rfl _ _ (show 35 ≤ 35 from by decide) rfl rfl rfl (WdN 15 z X (X ++ Y ++ s) E w) ?h0 ?hp ?l4 ?c6 ?c9 (by omega) (by rw [List.length_append]; omega) ?s15 ?_
      case h0 => exact ⟨(unhide H).keep (P := fun _ => False) (Only.drew _ _) (fun q => q), Only.drew _ _, fun q => by cases q⟩
      case hp => exact fun i hi L W hW => hW.pure i (by intro e; subst e; simp at hi)
      case l4 => exact fun L W hW h4 => hW.l4 h4
      case c6 => exact fun L W hW _ => (unhide HA W).mono (fun e w' h => ⟨h.1, by rw [h.2]; exact hW.pure 6 (by decide)⟩)
      case c9 => exact fun L W hW _ => (unhide HB W).mono (fun e w' h => ⟨h.1, hW.below h.2 9 (by decide)⟩)
      case s15 => exact fun L W hW _ _ _ h4 => ⟨_, hW.1.c0, hW.1.fz 0, hW.store h4⟩
      intro L W hall hW
      have h11 := hall 15 (by decide)
      have HZ := hide (show ZTo z (X ++ Y ++ s) E w W from ⟨by have := hW.1; rw [h11] at this; exact this, hW.2.1⟩)
      clear hW h11 hall
      simp only [put_list, List.set_cons_succ, List.set_cons_zero]
      go_wp2
      go_end0
      exact ⟨rfl, unhide HZ⟩
    · have he : textE most s.length = 21 := by unfold textE; rw [if_pos ⟨hs1, hs2⟩, if_neg hst]
      rw [he, zPut_bad (by decide)]
      have hst' : most < (s.length : Int) := by omega
      have HW := hide (zwrong_any z X E 21 w (unhide H))
      generalize (if E = 0 then 21 else E) = E2 at *
      clear he hst
      go_enter Tryd.func16, Tryd.ntmps16
      go_wp2_with fail
      refine (unhide HW).mono ?_
      rintro e w2 ⟨rfl, hz⟩
      have HZ := hide hz
      clear hz
      go_wp2
      refine bodyPost_ret (results_none rfl _ _ _) rfl ?_
      exact ⟨rfl, unhide HZ⟩
  · have he : textE most s.length = 1 := by simp [textE, hs]
    rw [he, zPut_bad (by decide)]
    have HW := hide (zwrong_any z X E 1 w (unhide H))
    generalize (if E = 0 then 1 else E) = E2 at *
    clear he
    by_cases q : most < 0
    · go_enter Tryd.func16, Tryd.ntmps16
      go_wp2_with fail
      refine (unhide HW).mono ?_
      rintro e w2 ⟨rfl, hz⟩
      have HZ := hide hz
      clear hz
      go_wp2
      refine bodyPost_ret (results_none rfl _ _ _) rfl ?_
      exact ⟨rfl, unhide HZ⟩
    · have q2 : (65535 : Int) < most := by omega
      go_enter Tryd.func16, Tryd.ntmps16
      go_wp2_with fail
      refine (unhide HW).mono ?_
      rintro e w2 ⟨rfl, hz⟩
      have HZ := hide hz
      clear hz
      go_wp2
      refine bodyPost_ret (results_none rfl _ _ _) rfl ?_
      exact ⟨rfl, unhide HZ⟩
end Go.Proofs.YthddilflldkmfaaDoor
