import Derived.Test.YtjopnhhdemfniaaGreatDoorPja
import Derived.Test.YtjopnhhdemfniaaGreatDoorPhd
/- What the document reads of a head, of lists alone. -/
namespace Go.Proofs.YtjopnhhdemfniaaGreatDoor
theorem num9_is (s : Bs) : ∀ k, k ≤ s.length → (num9 s k = some (nat (s.take k))) ∨ (num9 s k = none ∧ 4611686018427387904 < nat (s.take k)) := by
  intro k
  induction k with
  | zero => intro _; left; simp [num9, nat]
  | succ k ih =>
    intro hk
    have e : nat (s.take (k + 1)) = nat (s.take k) * 256 + (s.getD k 0).toNat := by
      rw [List.take_succ_eq_append_getElem (by omega), nat_app]
      have : (s.getD k 0) = s[k] := by simp [show k < s.length by omega]
      rw [this]
      simp [nat]
    rw [num9_next s k (by omega)]
    rcases ih (by omega) with q | ⟨q, q2⟩
    · rw [q]
      simp only [Option.bind_some]
      by_cases h : 18014398509481984 < nat (s.take k)
      · right
        rw [if_pos h]
        exact ⟨rfl, by rw [e]; omega⟩
      · left
        rw [if_neg h, e]
        exact congrArg some (by omega)
    · right
      rw [q]
      exact ⟨rfl, by rw [e]; omega⟩
theorem nmb_is (s : Bs) : nmb s = (nat s : Int) ∨ (nmb s = -1 ∧ 4611686018427387904 < nat s) := by
  have := num9_is s s.length (Nat.le_refl _)
  rw [List.take_length] at this
  unfold nmb
  rcases this with q | ⟨q, q2⟩
  · left; rw [q]
  · right; rw [q]; exact ⟨rfl, q2⟩
/-- What the document's parse guesses. -/
def gR (s : Bs) : Hd := ⟨nmb ((s.drop 4).take 8), nmb ((s.drop 12).take 4), nmb ((s.drop 16).take 4), (s.drop 20).take 16⟩
theorem gR_may (s : Bs) : (gR s).may = true ↔ (ghd s).may = true := by
  unfold gR ghd
  simp only [Hd.may, isGn, Bool.and_eq_true, Bool.or_eq_true, decide_eq_true_eq]
  rcases nmb_is ((s.drop 4).take 8) with a | ⟨a, a2⟩ <;> rcases nmb_is ((s.drop 12).take 4) with b | ⟨b, b2⟩ <;> rcases nmb_is ((s.drop 16).take 4) with c | ⟨c, c2⟩ <;> rw [a, b, c] <;> constructor <;> intro h <;> (try exact h) <;> (exfalso; omega)
theorem gR_is (s : Bs) (h : (gR s).may = true) : gR s = ghd s := by
  unfold gR at h ⊢
  unfold ghd
  simp only [Hd.may, isGn, Bool.and_eq_true, Bool.or_eq_true, decide_eq_true_eq] at h
  rcases nmb_is ((s.drop 4).take 8) with a | ⟨a, a2⟩ <;> rcases nmb_is ((s.drop 12).take 4) with b | ⟨b, b2⟩ <;> rcases nmb_is ((s.drop 16).take 4) with c | ⟨c, c2⟩ <;> rw [a, b, c] at h <;> first | (exfalso; omega) | rw [a, b, c]
/-- What parse answers. -/
def prr (s : Bs) : Hd × Bool := if s.length ≠ 512 then (noHd, false) else if (gR s).may = true then (gR s, decide ((gR s).sec = s.take 64)) else (noHd, false)
theorem phr_prr (s : Bs) : phr s = if (prr s).2 = true then ((prr s).1, 0) else (noHd, 90) := by
  have hp : prr s = if s.length ≠ 512 then (noHd, false) else if (gR s).may = true then (gR s, decide ((gR s).sec = s.take 64)) else (noHd, false) := rfl
  have hd : phd s = if s.length = 512 ∧ (ghd s).may = true ∧ (ghd s).sec = s.take 64 then some (ghd s) else none := rfl
  have hr : phr s = match phd s with | some h => (h, 0) | none => (noHd, 90) := rfl
  by_cases h1 : s.length = 512
  · rw [if_neg (by simpa using h1)] at hp
    by_cases h2 : (gR s).may = true
    · rw [if_pos h2] at hp
      have e := gR_is s h2
      have h3 := (gR_may s).1 h2
      by_cases h4 : (ghd s).sec = s.take 64
      · rw [if_pos ⟨h1, h3, h4⟩] at hd
        rw [hr, hd, hp, e]
        simp [h4]
      · rw [if_neg (fun q => h4 q.2.2)] at hd
        rw [hr, hd, hp, e]
        simp [h4]
    · rw [if_neg h2] at hp
      rw [if_neg (fun q => h2 ((gR_may s).2 q.2.1))] at hd
      rw [hr, hd, hp]
      simp
  · rw [if_pos h1] at hp
    rw [if_neg (fun q => h1 q.1)] at hd
    rw [hr, hd, hp]
    simp
end Go.Proofs.YtjopnhhdemfniaaGreatDoor
