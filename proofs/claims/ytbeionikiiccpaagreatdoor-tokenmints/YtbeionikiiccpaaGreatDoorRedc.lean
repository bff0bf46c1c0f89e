import Derived.Test.YtbeionikiiccpaaGreatDoorZreda
import Derived.Test.YtbeionikiiccpaaGreatDoorWrtd
namespace Go.Proofs.YtbeionikiiccpaaGreatDoor
open Go.RowKit Go.Lib
/-- The text that stands there. -/
def rTextS (most : Int) (R : List UInt8) : List UInt8 := (R.drop (ahd most)).take (nat (R.take (ahd most)))
def rTextK (most : Int) (R : List UInt8) : Nat := ahd most + nat (R.take (ahd most))
theorem ahd_le (most : Int) : 1 ≤ ahd most ∧ ahd most ≤ 2 := by unfold ahd; split <;> omega
theorem nat_ahd (R : List UInt8) (k : Nat) (hk : k ≤ 2) : nat (R.take k) < 65536 := by
  have := nat_lt (R.take k)
  have h2 : 256 ^ (R.take k).length ≤ 256 ^ 2 := Nat.pow_le_pow_right (by omega) (by rw [List.length_take]; omega)
  have h3 : 256 ^ 2 = 65536 := by decide
  omega
/-- What Done of a Reader says, where nothing was wrong. -/
def rDone (R : List UInt8) (E : Nat) : Nat := if E ≠ 0 then E else if R = [] then 0 else 23
set_option maxHeartbeats 1000000 in
set_option maxRecDepth 8000 in
theorem rdone_ok (b g off cap : Nat) (R : List UInt8) (w : World) (h : RAt b g off cap R 0 w) :
    Calls Tryz.prog 58 #[.pointer (some ⟨b, 0, none⟩)] w fun e w' => e = .returned (.int .i64 (rDone R 0)) ∧ Below w.heap.size w w' := by
  have c0 := h.c0
  have c1 := h.c1
  rw [errV_0] at c1
  have hlt := lt_of_row h.row
  clear h
  by_cases hR : R = []
  · subst hR
    go_enter Tryz.func58, Tryz.ntmps58
    go_wp2_with fail
    refine (as_nil _ _).mono ?_
    rintro e w1 ⟨rfl, rfl⟩
    go_wp2
    go_ret
    exact ⟨rfl, (Below.refl _ _).alloc (Nat.le_refl _) _⟩
  · have hpos : 0 < R.length := List.length_pos_iff.2 hR
    have HD : Hid (rDone R 0 = 23) := hide (by simp [rDone, hR])
    go_enter Tryz.func58, Tryz.ntmps58
    go_wp2_with fail
    refine (as_nil _ _).mono ?_
    rintro e w1 ⟨rfl, rfl⟩
    go_wp2
    go_ret
    exact ⟨by rw [unhide HD]; rfl, (Below.refl _ _).alloc (Nat.le_refl _) _⟩
end Go.Proofs.YtbeionikiiccpaaGreatDoor
