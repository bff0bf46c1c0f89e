import Derived.Test.YtjopnhhdemfniaaGreatDoorPjh
import Derived.BigQuiet
import Derived.Test.YtjopnhhdemfniaaGreatDoorZpja
import Derived.Test.YtjopnhhdemfniaaGreatDoorZpjf
import Derived.Test.YtjopnhhdemfniaaGreatDoorZpis
import Derived.Test.YtjopnhhdemfniaaGreatDoorZdetl
namespace Go.Proofs.YtjopnhhdemfniaaGreatDoor
open Go.RowKit
set_option maxHeartbeats 8000000
set_option maxRecDepth 8000
theorem add2_any (n m : Int) (w : World) (h0 : 0 ≤ n) (h1 : 0 ≤ m) (h2 : n ≤ 9223372036854775807) (h3 : m ≤ 9223372036854775807) : Calls Tryz.prog 9 #[.int .i64 n, .int .i64 m] w fun e w' => e = .returned (.int .i64 (addv n m)) ∧ w' = w := by
  unfold addv
  by_cases h : 2147483647 - n < m
  · rw [if_pos h]
    go_enter Tryz.func9, Tryz.ntmps9
    go_wp2
    go_ret
    exact ⟨rfl, rfl⟩
  · rw [if_neg h]
    go_enter Tryz.func9, Tryz.ntmps9
    go_wp2
    go_ret
    exact ⟨rfl, rfl⟩
theorem sliceTo (x : Bs) (k : Nat) (hk : k ≤ x.length) (w : World) : (Instr.slice 9 (S x) none (some (.int .i64 (k : Int))) none).run Tryz.prog w = .ok (S (x.take k)) w := by
  rw [run_slice_string_to_if (P := Tryz.prog) (w := w) 9 ⟨x.toArray⟩ .i64 k Tryz.underlying9, if_pos (by simp [ByteArray.size]; omega)]
  rw [Int.toNat_natCast, extract_eq]
  simp
end Go.Proofs.YtjopnhhdemfniaaGreatDoor
