import Derived.Test.YtbeionikiiccpaaGreatDoorUns
namespace Go.Proofs.YtbeionikiiccpaaGreatDoor
open Go.RowKit Go.Lib
def shift (k : Nat) (r : Int) : Int := if r = -1 then -1 else r + k
theorem ibyte_drop (A : List UInt8) (c : UInt8) (k : Nat) (h : k < A.length) : shift k (indexByte (A.drop k) c) = if A[k] = c then (k : Int) else shift (k + 1) (indexByte (A.drop (k + 1)) c) := by
  rw [List.drop_eq_getElem_cons h]
  by_cases e : A[k] = c
  · have e' : (A[k] == c) = true := by simpa using e
    rw [indexByte, e', if_pos e]
    simp [shift]
  · have e' : (A[k] == c) = false := by simpa using e
    rw [indexByte, e', if_neg e]
    have hge := indexByte_ge (A.drop (k + 1)) c
    unfold shift
    by_cases q : indexByte (A.drop (k + 1)) c = -1
    · simp [q]
    · have q' : (indexByte (A.drop (k + 1)) c == -1) = false := by simpa using q
      simp only [q', Bool.false_eq_true, if_false]
      rw [if_neg (by omega), if_neg q]
      omega
def by6 (A t : List UInt8) : Option (List UInt8) := if allin A t then some (Six.readAll (t.map (pl A))).out else none
theorem by6_no {A t : List UInt8} (h : ¬ allin A t) : by6 A t = none := by unfold by6; rw [if_neg h]
theorem by6_yes {A t : List UInt8} (h : allin A t) : by6 A t = some (Six.readAll (t.map (pl A))).out := by unfold by6; rw [if_pos h]
def told3 (r : Option (List UInt8)) : Value := .tuple #[.string ⟨(r.getD []).toArray⟩, .bool r.isSome]
theorem ret3_no {r : Option (List UInt8)} (h : r = none) : Ending.returned (.tuple #[.string ⟨#[]⟩, .bool false]) = .returned (told3 r) := by rw [h]; rfl
theorem ret3_yes {r : Option (List UInt8)} {O : List UInt8} (h : r = some O) : Ending.returned (.tuple #[.string ⟨O.toArray⟩, .bool true]) = .returned (told3 r) := by rw [h]; rfl
end Go.Proofs.YtbeionikiiccpaaGreatDoor
