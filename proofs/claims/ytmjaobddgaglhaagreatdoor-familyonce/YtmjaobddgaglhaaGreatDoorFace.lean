import Derived.Test.YtmjaobddgaglhaaGreatDoorZspl
import Derived.Test.YtmjaobddgaglhaaGreatDoorZcsh
namespace Go.Proofs.YtmjaobddgaglhaaGreatDoor
open Go.RowKit Go.Lib
theorem ba_app (a b : List UInt8) : ((⟨a.toArray⟩ : ByteArray) ++ ⟨b.toArray⟩) = ⟨(a ++ b).toArray⟩ := by
  apply ByteArray.ext
  rw [ByteArray.data_append]
  simp
set_option maxRecDepth 8000 in
set_option maxHeartbeats 1000000 in
theorem base64_any (s : List UInt8) (w : World) (hs : s.length ≤ 17592186044416) :
    Calls Tryz.prog 97 #[.string ⟨s.toArray⟩] w fun e w' => e = .returned (.string ⟨(enc names false s).toArray⟩) ∧ Below w.heap.size w w' := by
  go_enter Tryz.func97, Tryz.ntmps97
  go_wp2_with fail
  refine (spell6_any s names w hs rfl).mono ?_
  rintro e w1 ⟨rfl, hb⟩
  go_wp2
  go_ret
  exact ⟨ret_str (enc_false _ _).symm, hb⟩
end Go.Proofs.YtmjaobddgaglhaaGreatDoor
