import Derived.Test.YtbeionikiiccpaaDoorProg
import Derived.Test.YtbeionikiiccpaaDoorHnum
namespace Go.Proofs.YtbeionikiiccpaaDoor
open Go.RowKit
open Sha
theorem ret_intH {k : IntKind} {a b : Int} (h : a = b) : Ending.returned (.int k a) = .returned (.int k b) := by rw [h]
set_option maxHeartbeats 400000 in
theorem turn_any (x : UInt32) (n : Int) (w : World) (n0 : 1 ≤ n) (n1 : n ≤ 31) :
    Calls Tryd.prog 62 #[.int .u32 (u x), .int .i64 n] w fun e w' => e = .returned (.int .u32 (u (rr x n.toNat))) ∧ w' = w := by
  have h0 := u_lo x
  have h1 := u_hi x
  have e := andk n n0 n1
  have hr : bits BinOp.or IntKind.u32 (u x * 2 ^ (32 - n).toNat % 4294967296) (u x / 2 ^ (32 - (32 - n)).toNat) = u (rr x n.toNat) := by
    rw [u_lf x _ (by omega), u_rt x _ (by omega), u_or, rr]
    have e1 : (32 - n).toNat = 32 - n.toNat := by omega
    have e2 : (32 - (32 - n)).toNat = n.toNat := by omega
    rw [e1, e2]
  have H := hide hr
  clear hr
  go_enter Tryd.func62, Tryd.ntmps62
  go_wp2_with (go_in)
  go_ret
  exact ⟨ret_intH (unhide H), rfl⟩
def stp (x : UInt32) : UInt32 := if x &&& 1 = 1 then xr (rt x 1) 3988292384 else rt x 1
theorem and1 (x : UInt32) : (bits .and .u32 (u x) 1 == 1) = decide (x &&& 1 = 1) := by
  have e : (1 : Int) = u 1 := rfl
  rw [e, u_and]
  rw [Bool.eq_iff_iff]
  simp only [beq_iff_eq, decide_eq_true_eq]
  constructor
  · intro h; exact u_inj h
  · intro h; rw [an, h]
set_option maxHeartbeats 400000 in
theorem step_any (x : UInt32) (w : World) :
    Calls Tryd.prog 71 #[.int .u32 (u x)] w fun e w' => e = .returned (.int .u32 (u (stp x))) ∧ w' = w := by
  have h0 := u_lo x
  have h1 := u_hi x
  have e0 : u x / 2 = u (rt x 1) := u_rt x 1 (by omega)
  have e1 : bits .xor .u32 (u x / 2) 3988292384 = u (xr (rt x 1) 3988292384) := by
    rw [e0]; exact u_xor _ 3988292384
  have a := and1 x
  have H0 := hide e0
  have H1 := hide e1
  clear e0 e1
  by_cases hx : x &&& 1 = 1
  · have a' : (bits .and .u32 (u x) 1 == 1) = true := by rw [a]; simp [hx]
    have HS : Hid (stp x = xr (rt x 1) 3988292384) := hide (by rw [stp, if_pos hx])
    clear a hx
    go_enter Tryd.func71, Tryd.ntmps71
    go_wp2
    go_ret
    exact ⟨ret_intH (by rw [unhide HS]; exact unhide H1), rfl⟩
  · have a' : (bits .and .u32 (u x) 1 == 1) = false := by rw [a]; simp [hx]
    have HS : Hid (stp x = rt x 1) := hide (by rw [stp, if_neg hx])
    clear a hx
    go_enter Tryd.func71, Tryd.ntmps71
    go_wp2
    go_ret
    exact ⟨ret_intH (by rw [unhide HS]; exact unhide H0), rfl⟩
end Go.Proofs.YtbeionikiiccpaaDoor
