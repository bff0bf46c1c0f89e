import Derived.Test.YtmjaobddgaglhaaGreatDoorTkc
import Derived.OwnWalk
import Derived.Test.YtmjaobddgaglhaaGreatDoorZdsa
import Derived.Deep.RegionLaw
import Derived.Maps.AppendAt
import Derived.Lib.AppendStr
import Derived.BigQuiet
import Derived.Deep.QuietTactic
import Derived.Laws.CopyRow
import Derived.Laws.MakeOwn
import Derived.Test.YtmjaobddgaglhaaGreatDoorZhmet
namespace Go.Proofs.YtmjaobddgaglhaaGreatDoor
open Go.RowKit Go.Lib Sha
set_option maxHeartbeats 4000000
set_option maxRecDepth 8000
theorem sum1_any (s : Bs) (w : World) (hs : s.length < 576460752303423488) :
    Calls Tryz.prog 74 #[.slice (some ⟨w.heap.size, 0, none⟩) 1 1] (w.alloc (.cells #[S s] 9)) fun e w' => e = .returned (S (Sha.sum s)) ∧ Below w.heap.size w w' := by
  have hp : Parts (w.alloc (.cells #[S s] 9)) (some ⟨w.heap.size, 0, none⟩) 1 [s] := by
    refine ⟨rfl, fun _ => ⟨w.heap.size, 0, rfl, fun j hj => ?_⟩⟩
    have : j = 0 := by omega
    subst this
    exact (cell_of_row (w.alloc (.cells #[S s] 9)) w.heap.size 0 _ 9 (0, 0) (heap_alloc_new w _)).trans (by simp)
  refine (sum_any _ 1 1 [s] _ hp (by omega) (by simpa using hs)).mono ?_
  rintro e w' ⟨rfl, hb⟩
  refine ⟨by simp, ?_⟩
  have h1 := (Below.refl w.heap.size w).alloc (Nat.le_refl _) (.cells #[S s] 9)
  exact h1.trans (hb.mono h1.size)
theorem hash_any (s : Bs) (w : World) (hs : s.length < 576460752303423488) :
    Calls Tryz.prog 57 #[S s] w fun e w' => e = .returned (S (Sha.sum s)) ∧ Below w.heap.size w w' := by
  have HS := hide (sum1_any s w hs)
  generalize Sha.sum s = x at *
  go_enter Tryz.func57, Tryz.ntmps57
  go_wp2_with (first | (go_at_call 74; refine (unhide HS).mono ?_; rintro e w1 ⟨rfl, hb⟩))
  go_ret
  exact ⟨rfl, hb⟩
end Go.Proofs.YtmjaobddgaglhaaGreatDoor
