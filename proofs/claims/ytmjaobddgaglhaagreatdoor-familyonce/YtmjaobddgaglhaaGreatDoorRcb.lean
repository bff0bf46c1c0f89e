import Derived.Test.YtmjaobddgaglhaaGreatDoorZdsa
import Derived.Laws.CopyRow
import Derived.Laws.MakeOwn
import Derived.Test.YtmjaobddgaglhaaGreatDoorZrgpr
import Derived.Test.YtmjaobddgaglhaaGreatDoorZscb
import Derived.Deep.Cut
import Derived.Deep.CutRange
import Derived.Test.YtmjaobddgaglhaaGreatDoorZfde
import Derived.Test.YtmjaobddgaglhaaGreatDoorZdetl
namespace Go.Proofs.YtmjaobddgaglhaaGreatDoor
open Go.RowKit Go.Lib
set_option maxHeartbeats 4000000
set_option maxRecDepth 8000
theorem right_nm (s : Bs) : right [s] = nm s := by
  have e : tx [s] = s := by simp [tx, tl]
  unfold right wr many
  rw [e]
  cases h : nm s
  · simp [h, up]
  · have : s.length ≤ 16 := by simp [nm] at h; exact h.1.2
    simp [h, up]
    omega
end Go.Proofs.YtmjaobddgaglhaaGreatDoor
