import Derived.Test.YthddilflldkmfaaDoorItmf
namespace Go.Proofs.YthddilflldkmfaaDoor
open Go.RowKit Go.Lib
/-- What a Reader becomes when an item is read off it. -/
def Itm.go (x : Itm) (R : List UInt8) (E : Nat) : List UInt8 × Nat := match x.kind with
  | 0 => rGo R E (rNumE x.size R) x.size
  | 1 => rGo R E (rTextE x.most R) (rTextK x.most R)
  | _ => rGo R E (rRawE x.txt.length R) x.txt.length
/-- Is it read as it is? -/
def Itm.same (x : Itm) (R : List UInt8) (E : Nat) : Bool := match x.kind with
  | 0 => (if fine E (rNumE x.size R) then (nat (R.take x.size) : Int) else 0) == (x.num : Int)
  | 1 => decide ((if fine E (rTextE x.most R) then rTextS x.most R else []) = x.txt.take 65535)
  | _ => decide ((if fine E (rRawE x.txt.length R) then R.take x.txt.length else []) = x.txt)
/-- What a Writer becomes when what was read is written. -/
def Itm.put (x : Itm) (R : List UInt8) (E : Nat) (X : List UInt8) (F : Nat) : List UInt8 × Nat := match x.kind with
  | 0 => wPut X F (numE x.size (if fine E (rNumE x.size R) then (nat (R.take x.size) : Int) else 0)) (numY x.size (if fine E (rNumE x.size R) then (nat (R.take x.size) : Int) else 0))
  | 1 => wPut X F (textE x.most (if fine E (rTextE x.most R) then rTextS x.most R else []).length) (textY x.most (if fine E (rTextE x.most R) then rTextS x.most R else []))
  | _ => wPut X F 0 (if fine E (rRawE x.txt.length R) then R.take x.txt.length else [])
theorem Itm.go_old (x : Itm) (R : List UInt8) (E : Nat) (h : E ≠ 0) : x.go R E = (R, E) := by
  unfold Itm.go
  split <;> exact rGo_old h
theorem take_app (a b : List UInt8) (n : Nat) (h : n = a.length) : (a ++ b).take n = a := by subst h; simp
theorem drop_app (a b : List UInt8) (n : Nat) (h : n = a.length) : (a ++ b).drop n = b := by subst h; simp
theorem be_top (n : Nat) (h : n < 9223372036854775808) (R : List UInt8) : ((be 8 n ++ R).getD 0 0).toNat < 128 := by
  have hl : (be 8 n).length ≤ 8 := by rw [be_len]; omega
  have e : nat (be 8 n) < 9223372036854775808 := by rw [nat_be]; omega
  have h1 : (be 8 n ++ R).getD 0 0 = (be 8 n).getD 0 0 := by
    simp [be, List.range_succ]
  rw [h1]
  have := (nat_first (be 8 n) (be_len 8 n)).1
  rcases Nat.lt_or_ge ((be 8 n).getD 0 0).toNat 128 with q | q
  · exact q
  · have := (nat_first (be 8 n) (be_len 8 n))
    omega
end Go.Proofs.YthddilflldkmfaaDoor
