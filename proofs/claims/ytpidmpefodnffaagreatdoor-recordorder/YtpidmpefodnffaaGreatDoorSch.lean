import Derived.Test.YtpidmpefodnffaaGreatDoorSce
import Derived.Maps.OwnSet
import Derived.Maps.RangeWalk
import Derived.Sort.KeysCollected
import Derived.Sort.OwnSorted
import Derived.OwnWalk
import Derived.Maps.AppendAt
namespace Go.Proofs.YtpidmpefodnffaaGreatDoor
open Go.RowKit Go.Lib Go.Maps Go.Sort
theorem clone_any (l : Bs) (w : World) (hl : l.length ≤ 281474976710656) : Calls Tryz.prog 122 #[S l] w fun e w' => e = .returned (S l) ∧ Below w.heap.size w w' := by
  go_enter Tryz.func122, Tryz.ntmps122
  go_wp2_with (go_at_call 154; refine (Tryz.stringslite_Clone _ _ (by rw [ba_len]; omega)).mono ?_; rintro e w' ⟨rfl, hb⟩)
  go_ret
  exact ⟨rfl, hb⟩
/-- Texts in memory of one's own. -/
def OwnS (B : Nat) (w : World) (v : Value) (l : List Bs) : Prop := w.ownsRow B 9 1 v l.length (l.map encStr)
end Go.Proofs.YtpidmpefodnffaaGreatDoor
