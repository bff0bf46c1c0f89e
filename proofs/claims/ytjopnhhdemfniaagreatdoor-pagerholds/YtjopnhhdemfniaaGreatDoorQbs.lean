import Derived.Test.YtjopnhhdemfniaaGreatDoorQbq
namespace Go.Proofs.YtjopnhhdemfniaaGreatDoor
open Go.RowKit
set_option maxHeartbeats 4000000
set_option maxRecDepth 8000
/-- Too many steps: nothing is asked. -/
theorem pagerHolds_many (blocks : Int) (sa : Option Addr) (sn sc : Nat) (w : World) (hn : 42950 ≤ sn) (hn2 : sn ≤ 9223372036854775807) :
    Calls Tryz.prog 8 #[I blocks, .slice sa sn sc] w fun e w' => e = .returned (.bool true) ∧ Below w.heap.size w w' := by
  by_cases h : sn ≤ 2147483647
  · have hmi : min (sn : Int) 2147483647 = (sn : Int) := by omega
    have h7 : (2147483647 : Int) < 50000 * (sn : Int) := by omega
    have h9 : ¬ (2147483647 : Int) < (sn : Int) := by omega
    clear h hn hn2
    go_enter Tryz.func8, Tryz.ntmps8
    go_wp2
    go_ret
    exact ⟨rfl, by first | exact Below.refl _ _ | exact (Below.refl _ _).drew⟩
  · have hmi : min (sn : Int) 2147483647 = 2147483647 := by omega
    have h9 : (2147483647 : Int) < (sn : Int) := by omega
    clear h hn hn2
    go_enter Tryz.func8, Tryz.ntmps8
    go_wp2
    go_ret
    exact ⟨rfl, by first | exact Below.refl _ _ | exact (Below.refl _ _).drew⟩
theorem pagerHolds_all (blocks : Int) (sa : Option Addr) (sn sc : Nat) (Sc : List Hl) (w : World) (hS : Scs w sa sn Sc) (hb : i64 blocks) (hr : ∀ x ∈ Sc, i64 x.what ∧ i64 x.n ∧ i64 x.how ∧ i64 x.many) (hn : sn ≤ 9223372036854775807) :
    Calls Tryz.prog 8 #[I blocks, .slice sa sn sc] w fun e w' => e = .returned (.bool true) ∧ Below w.heap.size w w' := by
  by_cases h : sn ≤ 42949
  · exact pagerHolds_any blocks sa sn sc Sc w hS hb hr h
  · exact pagerHolds_many blocks sa sn sc w (by omega) hn
end Go.Proofs.YtjopnhhdemfniaaGreatDoor
