import Derived.Test.YtbeionikiiccpaaDoorCfc
namespace Go.Proofs.YtbeionikiiccpaaDoor
open Go.RowKit Go.Lib
/-- Pairs of signs as bytes. -/
def pairs : List Nat → List UInt8
  | a :: b :: r => UInt8.ofNat (16 * a + b) :: pairs r
  | _ => []
theorem pairs_app (x y : List Nat) (h : x.length % 2 = 0) : pairs (x ++ y) = pairs x ++ pairs y := by
  induction x using pairs.induct with
  | case1 a b r ih => simp only [List.cons_append, pairs]; rw [ih (by simp only [List.length_cons] at h; omega)]
  | case2 x hx =>
    match x, h with
    | [], _ => rfl
    | [a], h => simp at h
    | a :: b :: r, _ => exact absurd rfl (hx a b r)
theorem pairs_len (x : List Nat) : (pairs x).length ≤ x.length := by
  induction x using pairs.induct with
  | case1 a b r ih => simp only [pairs, List.length_cons]; omega
  | case2 x hx =>
    match x with
    | [] => simp [pairs]
    | [a] => simp [pairs]
    | a :: b :: r => exact absurd rfl (hx a b r)
def refun4 (t : List UInt8) : Option (List UInt8) := if t.length % 2 = 0 ∧ allin hexs t then some (pairs (t.map (pl hexs))) else none
theorem refun4_no {t : List UInt8} (h : ¬ (t.length % 2 = 0 ∧ allin hexs t)) : refun4 t = none := by unfold refun4; rw [if_neg h]
theorem refun4_yes {t : List UInt8} (h : t.length % 2 = 0 ∧ allin hexs t) : refun4 t = some (pairs (t.map (pl hexs))) := by unfold refun4; rw [if_pos h]
theorem take2 (s : List UInt8) (i : Nat) (h : i + 1 < s.length) : s.take (i + 2) = s.take i ++ [s[i], s[i + 1]] := by
  have h1 := take_snoc s i (by omega)
  have h2 : s.take (i + 2) = s.take (i + 1) ++ [s[i + 1]] := take_snoc s (i + 1) (by omega)
  rw [h2, h1, List.append_assoc]; rfl
end Go.Proofs.YtbeionikiiccpaaDoor
