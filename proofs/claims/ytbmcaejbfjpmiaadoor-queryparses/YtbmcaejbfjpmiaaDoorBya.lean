import Derived.Test.YtbmcaejbfjpmiaaDoorBase
import Derived.Test.YtbmcaejbfjpmiaaDoorPurc
namespace Go.Proofs.YtbmcaejbfjpmiaaDoor
open Go.RowKit Go.Lib
set_option maxHeartbeats 4000000 in
theorem refplain_any (c : UInt8) (w : World) : Calls Tryd.prog 29 #[.int .u8 (c.toNat : Int)] w fun e w' => e = .returned (.bool (plain c)) ∧ w' = w := by
  have hlt := c.toNat_lt
  unfold plain
  generalize c.toNat = n at *
  have hb : ∀ {a : Bool}, a = ((97 ≤ n && n ≤ 122) || (65 ≤ n && n ≤ 90) || (48 ≤ n && n ≤ 57) || n == 45 || n == 46 || n == 95 || n == 42) → (Ending.returned (.bool a) = .returned (.bool ((97 ≤ n && n ≤ 122) || (65 ≤ n && n ≤ 90) || (48 ≤ n && n ≤ 57) || n == 45 || n == 46 || n == 95 || n == 42))) := fun h => by rw [h]
  generalize hq : ((97 ≤ n && n ≤ 122) || (65 ≤ n && n ≤ 90) || (48 ≤ n && n ≤ 57) || n == 45 || n == 46 || n == 95 || n == 42 : Bool) = Q at *
  have HQ := hide hq
  clear hq
  go_enter Tryd.func29, Tryd.ntmps29
  rcases (by omega : (97 ≤ n ∧ n ≤ 122) ∨ 122 < n ∨ (65 ≤ n ∧ n ≤ 90) ∨ (91 ≤ n ∧ n ≤ 94) ∨ n = 95 ∨ n = 96 ∨ (48 ≤ n ∧ n ≤ 57) ∨ (58 ≤ n ∧ n ≤ 64) ∨ n = 47 ∨ n = 46 ∨ n = 45 ∨ n = 44 ∨ n = 43 ∨ n = 42 ∨ n < 42) with h | h | h | h | h | h | h | h | h | h | h | h | h | h | h
  all_goals
    go_wp2
    go_ret
    refine ⟨hb ?_, rfl⟩
    rw [← unhide HQ]
    first
    | (subst h; rfl)
    | (simp; omega)
    | (rw [Bool.eq_iff_iff]; simp; omega)
end Go.Proofs.YtbmcaejbfjpmiaaDoor
