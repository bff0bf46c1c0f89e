import Derived.Test.YtllialbdofklgaaGreatDoorZnfd
import Derived.Test.YtllialbdofklgaaGreatDoorZndn
import Derived.Test.YtllialbdofklgaaGreatDoorZrgsd
namespace Go.Proofs.YtllialbdofklgaaGreatDoor
open Go.RowKit
set_option maxHeartbeats 16000000
set_option maxRecDepth 8000
/-- Rows of one's own that lie above a bound. -/
structure Rws (B : Nat) (n : Nd) (vK vV vI : Value) (w : World) : Prop where
  rK : w.ownsRow 0 9 1 vK n.keys.length (n.keys.map S)
  rV : w.ownsRow 0 9 1 vV n.vals.length (n.vals.map S)
  rI : w.ownsRow 0 3 1 vI n.kids.length (n.kids.map fun z => I z)
  bK : ∀ i, vK.ownBlock = some i → B ≤ i
  bV : ∀ i, vV.ownBlock = some i → B ≤ i
  bI : ∀ i, vI.ownBlock = some i → B ≤ i
theorem Rws.below {B : Nat} {n : Nd} {vK vV vI : Value} {w w' : World} (h : Rws B n vK vV vI w) (hb : Below w.heap.size w w') : Rws B n vK vV vI w' := ⟨owns_below h.rK hb, owns_below h.rV hb, owns_below h.rI hb, h.bK, h.bV, h.bI⟩
theorem Rws.mono {B B' : Nat} {n : Nd} {vK vV vI : Value} {w : World} (h : Rws B n vK vV vI w) (hB : B' ≤ B) : Rws B' n vK vV vI w := ⟨h.rK, h.rV, h.rI, fun i q => Nat.le_trans hB (h.bK i q), fun i q => Nat.le_trans hB (h.bV i q), fun i q => Nat.le_trans hB (h.bI i q)⟩
theorem Rws.na {B : Nat} {n : Nd} {vK vV vI : Value} {w : World} (h : Rws B n vK vV vI w) : ∃ ka va ia kc vc ic, vK = .slice ka n.keys.length kc ∧ vV = .slice va n.vals.length vc ∧ vI = .slice ia n.kids.length ic ∧ NA n ka va ia w := by
  obtain ⟨p, c, e1, s1, _⟩ := Sts.of h.rK
  obtain ⟨p', c', e2, s2, _⟩ := Sts.of h.rV
  obtain ⟨p'', c'', e3, s3, _⟩ := Ins.of h.rI
  exact ⟨p, p', p'', c, c', c'', e1, e2, e3, s1, s2, s3⟩
variable {W2 W W' : World} {A : Nat} {lf : Bool} {ks vs : List Bs} {zs : List Int} {c : Ch3} {L : Nat → Bool}
end Go.Proofs.YtllialbdofklgaaGreatDoor
namespace Go.Proofs.YtllialbdofklgaaGreatDoor
open Go.RowKit
set_option maxHeartbeats 16000000
set_option maxRecDepth 8000
/-- Two slices share no block. -/
def dsj (u v : Value) : Prop := ∀ i, u.ownBlock = some i → v.ownBlock = some i → False
theorem dsj.symm {u v : Value} (h : dsj u v) : dsj v u := fun i a b => h i b a
/-- The first is new, the other was there. -/
theorem dsj_new {u v : Value} {B : Nat} (hv : ∀ i, v.ownBlock = some i → i < B) (hu : ∀ i, u.ownBlock = some i → B ≤ i) : dsj u v := fun i a b => by
  have := hv i b
  have := hu i a
  omega
/-- The three rows of a node lie apart. -/
def Apt (a b c : Value) : Prop := dsj a b ∧ dsj a c ∧ dsj b c
variable {W2 W W' : World} {A : Nat} {lf : Bool} {ks vs : List Bs} {zs : List Int} {c : Ch3} {L : Nat → Bool}
end Go.Proofs.YtllialbdofklgaaGreatDoor
