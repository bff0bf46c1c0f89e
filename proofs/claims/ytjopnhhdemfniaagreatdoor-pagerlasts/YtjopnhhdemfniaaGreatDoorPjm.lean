import Derived.Test.YtjopnhhdemfniaaGreatDoorPjh
import Derived.BigQuiet
import Derived.Test.YtjopnhhdemfniaaGreatDoorZphd
import Derived.Test.YtjopnhhdemfniaaGreatDoorZwrta
import Derived.Test.YtjopnhhdemfniaaGreatDoorZhnu
import Derived.Test.YtjopnhhdemfniaaGreatDoorZdetl
import Derived.Test.YtjopnhhdemfniaaGreatDoorZpis
namespace Go.Proofs.YtjopnhhdemfniaaGreatDoor
open Go.RowKit
set_option maxHeartbeats 8000000
set_option maxRecDepth 8000
theorem add2_any (n m : Int) (w : World) (h0 : 0 ≤ n) (h1 : 0 ≤ m) (h2 : n ≤ 9223372036854775807) (h3 : m ≤ 9223372036854775807) : Calls Tryz.prog 9 #[.int .i64 n, .int .i64 m] w fun e w' => e = .returned (.int .i64 (addv n m)) ∧ w' = w := by
  unfold addv
  by_cases h : 2147483647 - n < m
  · rw [if_pos h]
    go_enter Tryz.func9, Tryz.ntmps9
    go_wp2
    go_ret
    exact ⟨rfl, rfl⟩
  · rw [if_neg h]
    go_enter Tryz.func9, Tryz.ntmps9
    go_wp2
    go_ret
    exact ⟨rfl, rfl⟩
end Go.Proofs.YtjopnhhdemfniaaGreatDoor
