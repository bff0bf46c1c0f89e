import Derived.Test.YtfaahjbkdlkmjaaDoorJpz
/- Jot: Same of a value and itself; how many parts; pure. -/
namespace Go.Proofs.YtfaahjbkdlkmjaaDoor
open Go Go.Lib
set_option linter.unusedVariables false
set_option linter.unusedSimpArgs false
mutual
theorem eqJ_refl : ∀ j : J, eqJ j j = true
  | .mk k n t ns xs => by rw [eqJ, eqL_refl xs]; simp
theorem eqL_refl : ∀ l : List J, eqL l l = true
  | [] => by rw [eqL]
  | x :: l => by rw [eqL, eqJ_refl x, eqL_refl l]; rfl
end
mutual
/-- how many parts are left -/
def lft : J → Int → Int
  | .mk k n t ns xs, m => lftL xs (m - 1 - ns.length)
def lftL : List J → Int → Int
  | [], m => m
  | x :: l, m => if m < 0 then m else lftL l (lft x m)
end
mutual
theorem lft_le : ∀ (j : J) (m : Int), lft j m ≤ m - 1
  | .mk k n t ns xs, m => by
    rw [lft]
    have := lftL_le xs (m - 1 - ns.length)
    omega
theorem lftL_le : ∀ (l : List J) (m : Int), lftL l m ≤ m
  | [], m => by rw [lftL]; omega
  | x :: l, m => by
    rw [lftL]
    split
    · omega
    · have h1 := lft_le x m
      have h2 := lftL_le l (lft x m)
      omega
end
mutual
theorem lft_dep : ∀ (j : J) (m : Int), 0 ≤ lft j m → dep j + lft j m ≤ m
  | .mk k n t ns xs, m, h => by
    rw [lft] at h ⊢
    have h1 := lftL_dep xs _ h
    rw [dep]
    split <;> omega
theorem lftL_dep : ∀ (l : List J) (m : Int), 0 ≤ lftL l m → depL l + lftL l m ≤ m
  | [], m, h => by rw [lftL, depL]; omega
  | x :: l, m, h => by
    rw [lftL] at h ⊢
    split at h
    · omega
    · rename_i hm
      rw [if_neg hm, depL]
      have h2 := lftL_le l (lft x m)
      have h3 := lftL_dep l _ h
      have h1 := lft_dep x m (by omega)
      omega
end
/-- J5, JotShort's pure half. -/
theorem short_pure {s : Bs} {j : J} {e at9 : Int} (h : prs s = (j, e, at9)) (he : e = 0) : prn j = (pt j, 0) ∧ prs (pt j) = (j, 0, 0) ∧ dep j ≤ 16 ∧ (pt j).length ≤ s.length := by
  subst he
  obtain ⟨h1, h2, h3, h4, -⟩ := prs_ok h
  refine ⟨?_, prs_pt h1 h2 (by omega), h2, h3⟩
  unfold prn
  rw [h1, if_neg (by decide), if_neg (by omega), if_neg (by omega)]
/-- J5, JotBack's. -/
theorem back_pure {j : J} {s : Bs} {e : Int} (h : prn j = (s, e)) : (e ≠ 0 ∧ s = []) ∨ (e = 0 ∧ prs s = (j, 0, 0) ∧ prn j = (s, 0) ∧ dep j ≤ 16) := by
  have h' := h
  unfold prn at h
  split at h
  · simp only [Prod.mk.injEq] at h; exact .inl ⟨by omega, h.1.symm⟩
  split at h
  · simp only [Prod.mk.injEq] at h; exact .inl ⟨by omega, h.1.symm⟩
  split at h
  · simp only [Prod.mk.injEq] at h; exact .inl ⟨by omega, h.1.symm⟩
  · rename_i h1 h2 h3
    simp only [Prod.mk.injEq] at h
    obtain ⟨rfl, rfl⟩ := h
    simp only [Bool.not_eq_false] at h1
    exact .inr ⟨rfl, prs_pt h1 (by omega) (by omega), h', by omega⟩
end Go.Proofs.YtfaahjbkdlkmjaaDoor
