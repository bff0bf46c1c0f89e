import Derived.Test.YtllialbdofklgaaGreatDoorZrgsd
import Derived.Test.YtllialbdofklgaaGreatDoorNon
import Derived.Test.YtllialbdofklgaaGreatDoorZnpb
namespace Go.Proofs.YtllialbdofklgaaGreatDoor
open Go.RowKit
set_option maxHeartbeats 16000000
set_option maxRecDepth 8000
abbrev zbox : Array Value := #[.bool false, .slice none 0 0, .slice none 0 0, .slice none 0 0]
variable {a b d e f : Nat} {W2 W W' : World} {e2 m1 m2 : Nat} {xs1 xs2 : List Value} {mk : Value → Value → Array Value} {c : Ch3} {L : Nat → Bool}
end Go.Proofs.YtllialbdofklgaaGreatDoor
