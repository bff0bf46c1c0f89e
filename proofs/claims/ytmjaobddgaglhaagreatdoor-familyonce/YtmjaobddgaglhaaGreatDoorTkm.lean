import Derived.Test.YtmjaobddgaglhaaGreatDoorTkc
import Derived.OwnWalk
import Derived.Test.YtmjaobddgaglhaaGreatDoorZdsa
import Derived.Deep.RegionLaw
import Derived.Maps.AppendAt
import Derived.Lib.AppendStr
import Derived.BigQuiet
import Derived.Deep.QuietTactic
import Derived.Laws.CopyRow
import Derived.Laws.MakeOwn
import Derived.Test.YtmjaobddgaglhaaGreatDoorHcrc
import Derived.Test.YtmjaobddgaglhaaGreatDoorTkh
import Derived.Test.YtmjaobddgaglhaaGreatDoorZhmxa
import Derived.Test.YtmjaobddgaglhaaGreatDoorHstr
import Derived.Test.YtmjaobddgaglhaaGreatDoorZhwor
import Derived.Test.YtmjaobddgaglhaaGreatDoorZhmet
import Derived.ArgAppend
import Derived.BigRegion
import Derived.Test.YtmjaobddgaglhaaGreatDoorHfil
import Derived.Test.YtmjaobddgaglhaaGreatDoorHdig
namespace Go.Proofs.YtmjaobddgaglhaaGreatDoor
open Go.RowKit Go.Lib Sha
set_option maxHeartbeats 4000000
set_option maxRecDepth 8000
theorem mnt_len (k id : Int) (s : Bs) : (mnt k id s).1.length ≤ 52 := by
  unfold mnt
  split
  · rename_i q
    rw [tkn_len k id.toNat s q.2.2]
    exact Nat.le_refl _
  · simp
end Go.Proofs.YtmjaobddgaglhaaGreatDoor
