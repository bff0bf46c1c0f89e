import Derived.Test.YtmjaobddgaglhaaGreatDoorHcrc
import Derived.Test.YtmjaobddgaglhaaGreatDoorZdsa
import Derived.Deep.RegionLaw
import Derived.Maps.AppendAt
import Derived.Lib.AppendStr
import Derived.BigQuiet
import Derived.Deep.QuietTactic
import Derived.Test.YtmjaobddgaglhaaGreatDoorZspl
namespace Go.Proofs.YtmjaobddgaglhaaGreatDoor
open Sha
/-- What texts of a kind begin with. -/
def pre (k : Int) : Bs := if k = 1 then [108, 107, 114, 95] else [108, 107, 99, 95]
theorem pre_len (k : Int) : (pre k).length = 4 := by unfold pre; split <;> rfl
def isK (k : Int) : Prop := k = 1 ∨ k = 2
/-- An ID and a secret as bytes. -/
def nmd (id : Nat) (s : Bs) : Bs := be 8 id ++ s
theorem nmd_len (id : Nat) (s : Bs) (h : s.length = 24) : (nmd id s).length = 32 := by simp [nmd, be_len, h]
def cks (k : Int) (id : Nat) (s : Bs) : UInt32 := crc (pre k ++ nmd id s)
def bdy (k : Int) (id : Nat) (s : Bs) : Bs := nmd id s ++ be 4 (cks k id s).toNat
theorem bdy_len (k : Int) (id : Nat) (s : Bs) (h : s.length = 24) : (bdy k id s).length = 36 := by simp [bdy, nmd_len, be_len, h]
/-- A token's text. -/
def tkn (k : Int) (id : Nat) (s : Bs) : Bs := pre k ++ enc names false (bdy k id s)
theorem enc6_len (b : Bs) : (enc names false b).length = (4 * b.length + 2) / 3 := by rw [enc_false, sgn_len, Six.sig_len]
theorem tkn_len (k : Int) (id : Nat) (s : Bs) (h : s.length = 24) : (tkn k id s).length = 52 := by
  rw [tkn, List.length_append, pre_len, enc6_len, bdy_len k id s h]
/- One byte mistyped, or two neighbours changed about. -/
end Go.Proofs.YtmjaobddgaglhaaGreatDoor
