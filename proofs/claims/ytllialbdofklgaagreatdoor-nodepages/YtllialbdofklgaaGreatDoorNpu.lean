import Derived.Test.YtllialbdofklgaaGreatDoorNpm
import Derived.Test.YtllialbdofklgaaGreatDoorNoa
namespace Go.Proofs.YtllialbdofklgaaGreatDoor
open Go.RowKit
theorem tot_ovr (l x : List Bs) : tot (ovr l x) ≤ tot x + tot l := by
  unfold ovr
  rw [tot_app]
  have h1 := tot_split x (min x.length l.length)
  have h2 := tot_split l (min x.length l.length)
  omega
/-- A node that was written over is no greater than both together. -/
theorem NB.ovn {n m : Nd} (h : NB n) (hk : tot m.keys + tot n.keys ≤ 4294967296) (hv : tot m.vals + tot n.vals ≤ 4294967296) : NB (Go.Proofs.YtllialbdofklgaaGreatDoor.ovn n m) := by
  refine ⟨?_, ?_, ?_, ?_, ?_⟩
  · show (ovr n.keys m.keys).length ≤ _
    rw [ovr_len]; exact h.k
  · show (ovr n.vals m.vals).length ≤ _
    rw [ovr_len]; exact h.v
  · show (ovr n.kids m.kids).length ≤ _
    rw [ovr_len]; exact h.i
  · exact Nat.le_trans (tot_ovr _ _) hk
  · exact Nat.le_trans (tot_ovr _ _) hv
end Go.Proofs.YtllialbdofklgaaGreatDoor
