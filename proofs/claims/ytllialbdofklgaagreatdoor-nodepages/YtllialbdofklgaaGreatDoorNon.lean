import Derived.Test.YtllialbdofklgaaGreatDoorNom
import Derived.Test.YtllialbdofklgaaGreatDoorZnfd
import Derived.Test.YtllialbdofklgaaGreatDoorZndn
import Derived.Test.YtllialbdofklgaaGreatDoorZndg
import Derived.Test.YtllialbdofklgaaGreatDoorZrgsd
namespace Go.Proofs.YtllialbdofklgaaGreatDoor
open Go.RowKit
set_option maxHeartbeats 16000000
set_option maxRecDepth 8000
variable {Wb W W' : World} {A D : Nat} {lf : Bool} {m n : Nd} {c : Ch6} {L : Nat → Bool}
theorem Rws.form {B : Nat} {n : Nd} {vK vV vI : Value} {w : World} (h : Rws B n vK vV vI w) : ∃ p1 c1 p2 c2 p3 c3, vK = .slice p1 n.keys.length c1 ∧ vV = .slice p2 n.vals.length c2 ∧ vI = .slice p3 n.kids.length c3 := by
  obtain ⟨ka, va, ia, kc, vc, ic, h1, h2, h3, -⟩ := h.na
  exact ⟨ka, kc, va, vc, ia, ic, h1, h2, h3⟩
end Go.Proofs.YtllialbdofklgaaGreatDoor
