import Derived.Test.YtfaahjbkdlkmjaaDoorJxa
import Derived.ProofKit
/- Jot: the fixed texts of the law; pure. -/
namespace Go.Proofs.YtfaahjbkdlkmjaaDoor
open Go Go.Lib Go.RowKit
set_option linter.unusedVariables false
set_option linter.unusedSimpArgs false
/-- { "b" : [ ] , "a" : -0 } -/
def kn1 : Bs := [123, 32, 34, 98, 34, 32, 58, 32, 91, 32, 93, 32, 44, 32, 34, 97, 34, 32, 58, 32, 45, 48, 32, 125]
/-- [1,] -/
def kn2 : Bs := [91, 49, 44, 93]
def kx0 : J := .mk 3 0 [] [] []
def kx1 : J := .mk 5 0 [] [] []
def kj : J := .mk 6 0 [] [[97], [98]] [kx0, kx1]
set_option maxRecDepth 20000 in
theorem prs_kn1 : prs kn1 = (kj, 0, 0) := by kernel_rfl
set_option maxRecDepth 20000 in
theorem prs_kn2 : prs kn2 = (jz, 40, 3) := by kernel_rfl
set_option maxRecDepth 20000 in
theorem prn_kj : prn kj = ([123, 34, 97, 34, 58, 48, 44, 34, 98, 34, 58, 91, 93, 125], 0) := by
  have h1 : may kj = true := by kernel_rfl
  have h2 : dep kj = 2 := by kernel_rfl
  have h3 : pt kj = [123, 34, 97, 34, 58, 48, 44, 34, 98, 34, 58, 91, 93, 125] := by
    have h0 : itoa 0 = [48] := by simp [itoa, decDigits]
    simp [kj, kx0, kx1, pt, ptL, ptO, quo, inner, one, ins, h0]
  unfold prn
  rw [h1, h2, h3]
  rfl
theorem eq_kx0 : eqJ kx0 kx0 = true := eqJ_refl _
theorem eq_kj : eqJ kx0 kj = false := by kernel_rfl
end Go.Proofs.YtfaahjbkdlkmjaaDoor
