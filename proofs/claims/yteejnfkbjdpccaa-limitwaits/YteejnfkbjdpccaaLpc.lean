import Derived.Test.YteejnfkbjdpccaaLpa
namespace Go.Proofs.Yteejnfkbjdpccaa
namespace Fl
open Ieee
/-- The word of a quotient of whole numbers. -/
theorem div_some {x y : Nat} (hx : x < 2139095040) (hy : y < 2139095040) (h0 : y ≠ 0) : ∃ m p, F.div x y = some (rn m p) ∧ p + m.log2 ≤ ((-149) + ex x) - ((-149) + ex y) + (mg x).log2 + 1 := by
  have hm : mg y ≠ 0 := by
    unfold mg; split <;> omega
  unfold Format.div
  rw [read_pos hx, read_pos hy]
  simp only [Datum.quotient, if_neg hm]
  refine ⟨_, _, rfl, ?_⟩
  generalize hmore : F.fractionBits + 2 + (mg y).log2 - (mg x).log2 = more
  simp only [Nat.shiftLeft_eq]
  by_cases hx0 : mg x = 0
  · rw [hx0]
    simp
    omega
  have hlog := log2_mul_pow hx0 more
  generalize mg x * 2 ^ more = dd at *
  have hq : dd / mg y ≤ dd := Nat.div_le_self _ _
  have hne : dd ≠ 0 := by
    intro e
    subst e
    have h1 : (0 : Nat).log2 = 0 := by decide
    have hp : 0 < 2 ^ more := Nat.two_pow_pos _
    omega
  have hb : 2 * (dd / mg y) + (dd % mg y != 0).toNat ≤ 2 * dd + 1 := by
    have : (dd % mg y != 0).toNat ≤ 1 := by cases (dd % mg y != 0) <;> decide
    omega
  have hl : (2 * (dd / mg y) + (dd % mg y != 0).toNat).log2 ≤ dd.log2 + 1 := by
    have h2 : dd < 2 ^ (dd.log2 + 1) := Nat.lt_log2_self
    have h3 : 2 ^ (dd.log2 + 2) = 2 * 2 ^ (dd.log2 + 1) := by rw [Nat.pow_succ 2 (dd.log2 + 1), Nat.mul_comm]
    by_cases hz : 2 * (dd / mg y) + (dd % mg y != 0).toNat = 0
    · rw [hz]
      have h1 : (0 : Nat).log2 = 0 := by decide
      omega
    · have := (Nat.log2_lt hz (k := dd.log2 + 2)).2 (by omega)
      omega
  omega
end Fl
end Go.Proofs.Yteejnfkbjdpccaa
