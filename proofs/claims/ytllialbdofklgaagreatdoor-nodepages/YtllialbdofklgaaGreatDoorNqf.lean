import Derived.Test.YtllialbdofklgaaGreatDoorNqc
import Derived.Test.YtllialbdofklgaaGreatDoorNqd
namespace Go.Proofs.YtllialbdofklgaaGreatDoor
open Go.RowKit
set_option maxHeartbeats 4000000
set_option maxRecDepth 8000
/-- All lists of a book are apart. -/
theorem bok_apart {B b : Nat} {T : List TE} {N : List NE} {w : World} (h : Bok B b T N w) (lT : T.length ≤ 100000) (lN : N.length ≤ 100000) :
    Calls Tryz.prog 24 #[.pointer (some ⟨b, 0, none⟩)] w fun e w' => e = .returned (.bool true) ∧ Only (fun k => B ≤ k) w w' := by
  obtain ⟨vT, vU, vN, vM, hx⟩ := h.bx
  obtain ⟨tag, hs, ht⟩ := bok_s4 h hx
  have e1 : (T.map (·.1)).length = T.length := List.length_map ..
  have e2 : (T.map (·.2.1)).length = T.length := List.length_map ..
  have e3 : (N.map (·.1)).length = N.length := List.length_map ..
  have e4 : (N.map (·.2.1)).length = N.length := List.length_map ..
  obtain ⟨pf1, cf1, rfl⟩ := owns_form hx.rT
  obtain ⟨pw1, cw1, rfl⟩ := owns_form hx.rU
  obtain ⟨pf2, cf2, rfl⟩ := owns_form hx.rN
  obtain ⟨pw2, cw2, rfl⟩ := owns_form hx.rM
  have hU := hx.rU
  have hM := hx.rM
  rw [e1, e2, e3, e4] at hs
  rw [e2] at hU
  rw [e4] at hM
  refine (apart_any w tag b T.length N.length _ _ (fun i => (T.getD i zT).2.2) (fun i => (N.getD i zN).2.2) pf1 pf2 pw1 pw2 cf1 cf2 cw1 cw2 hs ?_ ?_ (by omega) (by omega)).mono ?_
  · intro i hi
    obtain ⟨H, cap, cur, q1, _⟩ := owns_at hU (by omega)
    cases q1
    have e : T.getD i zT = T[i] := by simp [hi]
    obtain ⟨p2, c2, q2, q3, _⟩ := Sts.of (h.t T[i] (List.getElem_mem hi)).2.1
    refine ⟨H, p2, c2, rfl, ?_, ?_⟩
    · have := owns_cell hU i T[i].2.1 (by simp [hi])
      rw [q2] at this
      simpa only [e] using this
    · simpa only [e] using q3
  · intro i hi
    obtain ⟨H, cap, cur, q1, _⟩ := owns_at hM (by omega)
    cases q1
    have e : N.getD i zN = N[i] := by simp [hi]
    obtain ⟨p2, c2, q2, q3, _⟩ := Ins.of (h.n N[i] (List.getElem_mem hi)).2.1
    refine ⟨H, p2, c2, rfl, ?_, ?_⟩
    · have := owns_cell hM i N[i].2.1 (by simp [hi])
      rw [q2] at this
      simpa only [e] using this
    · simpa only [e] using q3
  · rintro e w' ⟨rfl, o⟩
    exact ⟨rfl, o.mono (fun k _ q => ht k q)⟩
end Go.Proofs.YtllialbdofklgaaGreatDoor
