import Derived.Test.YtllialbdofklgaaGreatDoorNpl
import Derived.Test.YtllialbdofklgaaGreatDoorNon
import Derived.Test.YtllialbdofklgaaGreatDoorZnok
namespace Go.Proofs.YtllialbdofklgaaGreatDoor
open Go.RowKit
set_option maxHeartbeats 16000000
set_option maxRecDepth 8000
def zro : Nd := ⟨false, [], [], []⟩
theorem Rws.zro (B : Nat) (w : World) : Rws B Go.Proofs.YtllialbdofklgaaGreatDoor.zro (.slice none 0 0) (.slice none 0 0) (.slice none 0 0) w :=
  ⟨owns_nil _ _ _, owns_nil _ _ _, owns_nil _ _ _, (fun _ q => nomatch q), (fun _ q => nomatch q), (fun _ q => nomatch q)⟩
theorem dsj_nil (v : Value) : dsj (.slice none 0 0) v := fun _ q => nomatch q
theorem sam_self (n : Nd) : sam n n = true := by simp [sam]
end Go.Proofs.YtllialbdofklgaaGreatDoor
