import Derived.Test.YtllialbdofklgaaGreatDoorZnff
import Derived.Test.YtllialbdofklgaaGreatDoorNfi
namespace Go.Proofs.YtllialbdofklgaaGreatDoor
open Go.RowKit
theorem tot_split (l : List Bs) (i : Nat) : tot l = tot (l.take i) + tot (l.drop i) := by
  rw [← tot_app, List.take_append_drop]
end Go.Proofs.YtllialbdofklgaaGreatDoor
