import Derived.Test.YtpidmpefodnffaaGreatDoorZrbb
import Derived.Test.YtpidmpefodnffaaGreatDoorZfde
import Derived.Test.YtpidmpefodnffaaGreatDoorZdetl
import Derived.Deep.Cut
import Derived.Deep.CutRange
namespace Go.Proofs.YtpidmpefodnffaaGreatDoor
open Go.RowKit Go.Lib
set_option maxHeartbeats 4000000
set_option maxRecDepth 8000
/-- by of a number from 0 on. -/
theorem byI (z : Int) (size : Nat) (w : World) (h1 : 1 ≤ size) (h8 : size ≤ 8) (h0 : 0 ≤ z) (hz : z ≤ 9223372036854775807) :
    Calls Tryz.prog 62 #[I z, .int .i64 size] w fun e w' => e = .returned (S (be size z.toNat)) ∧ Below w.heap.size w w' := by
  have := by_any size z.toNat w h1 h8 (by omega)
  rw [Int.toNat_of_nonneg h0] at this
  exact this
variable {w : World} {X : Nat} {cx : Array Value} {tx : TypeId} {R st : Nat} {fin : Array Value} {c : Unit} {L : Nat → Bool} {W : World}
end Go.Proofs.YtpidmpefodnffaaGreatDoor
