import Derived.Test.YtllialbdofklgaaGreatDoorNqe
import Derived.Test.YtllialbdofklgaaGreatDoorNqf
import Derived.Test.YtllialbdofklgaaGreatDoorZrgsd
import Derived.Test.YtllialbdofklgaaGreatDoorZnee
import Derived.Test.YtllialbdofklgaaGreatDoorZnds
namespace Go.Proofs.YtllialbdofklgaaGreatDoor
open Go.RowKit
set_option maxHeartbeats 16000000
set_option maxRecDepth 8000
/-- A node in a box. -/
def bxc (n : Nd) (ka va ia : Option Addr) (kc vc ic : Nat) : Array Value := #[.bool n.leaf, .slice ka n.keys.length kc, .slice va n.vals.length vc, .slice ia n.kids.length ic]
/-- What stands between two calls of the body. -/
structure Bdy (W2 : World) (b ob C g1 g2 g3 : Nat) (oc : Array Value) (nn : Nd) (T : List (Value × Value × List Bs)) (N : List (Value × Value × List Int)) (W : World) : Prop where
  bel : Below W2.heap.size W2 W
  own : W.heap[ob]? = some (.cells oc 25 (0, 0))
  ln : LN nn g1 g2 g3 W
  bk : Bok2 b C b T N W
  sz : C ≤ W.heap.size
  lo : W2.heap.size ≤ b ∧ W2.heap.size ≤ g1 ∧ g1 < g2 ∧ g2 < g3 ∧ g3 < C ∧ C ≤ ob
theorem Bdy.below {W2 : World} {b ob C g1 g2 g3 : Nat} {oc : Array Value} {nn : Nd} {T : List (Value × Value × List Bs)} {N : List (Value × Value × List Int)} {W W' : World} (h : Bdy W2 b ob C g1 g2 g3 oc nn T N W) (q : Below W.heap.size W W') : Bdy W2 b ob C g1 g2 g3 oc nn T N W' :=
  ⟨h.bel.trans (q.mono h.bel.size), (q.block _ (lt_of_row h.own)).trans h.own, h.ln.below q, h.bk.below q, Nat.le_trans h.sz q.size, h.lo⟩
theorem Bdy.cut {W2 : World} {b ob C g1 g2 g3 : Nat} {oc : Array Value} {nn : Nd} {T T' : List (Value × Value × List Bs)} {N N' : List (Value × Value × List Int)} {W W' : World} (h : Bdy W2 b ob C g1 g2 g3 oc nn T N W) (o : Only (bkt b W) W W') (k : Bok2 b C b T' N' W') : Bdy W2 b ob C g1 g2 g3 oc nn T' N' W' :=
  ⟨o.below h.bel h.bel.size (fun j q => Nat.le_trans h.lo.1 q.1), bkt_box h.own o (by decide), h.ln.bkt o, k, Nat.le_trans h.sz o.size, h.lo⟩
theorem Bdy.over {W2 : World} {b ob C g1 g2 g3 : Nat} {oc : Array Value} {nn mm : Nd} {T : List (Value × Value × List Bs)} {N : List (Value × Value × List Int)} {W W' : World} (h : Bdy W2 b ob C g1 g2 g3 oc nn T N W) (o : Only (fun k => k = g1 ∨ k = g2 ∨ k = g3) W W') (l : LN mm g1 g2 g3 W') : Bdy W2 b ob C g1 g2 g3 oc mm T N W' := by
  have hl := h.lo
  refine ⟨o.below h.bel h.bel.size (fun j q => by omega), (o.block _ (lt_of_row h.own) (fun q => by omega)).trans h.own, l, h.bk.over o (fun k q => ⟨by omega, ?_⟩), Nat.le_trans h.sz o.size, h.lo⟩
  rcases q with rfl | rfl | rfl
  · exact ⟨_, _, h.ln.k, by decide, by decide, by decide⟩
  · exact ⟨_, _, h.ln.v, by decide, by decide, by decide⟩
  · exact ⟨_, _, h.ln.i, by decide, by decide, by decide⟩
end Go.Proofs.YtllialbdofklgaaGreatDoor
