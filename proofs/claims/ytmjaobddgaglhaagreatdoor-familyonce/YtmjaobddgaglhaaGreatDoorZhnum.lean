import Derived.Test.YtmjaobddgaglhaaGreatDoorHspe
import Derived.Test.YtmjaobddgaglhaaGreatDoorZdsa
import Derived.WalkKit
import Derived.Test.YtmjaobddgaglhaaGreatDoorProg
namespace Go.Proofs.YtmjaobddgaglhaaGreatDoor
open Go.RowKit
open Sha
/-- A word as the number that the program has. -/
def u (x : UInt32) : Int := (x.toNat : Int)
theorem u_lo (x : UInt32) : 0 ≤ u x := by unfold u; omega
theorem u_hi (x : UInt32) : u x < 4294967296 := by have := x.toNat_lt; unfold u; omega
theorem u_xor (a b : UInt32) : bits .xor .u32 (u a) (u b) = u (xr a b) := by
  rw [u, u, u32_xor_nat _ _ a.toNat_lt b.toNat_lt, u, xr, UInt32.toNat_xor]
theorem u_and (a b : UInt32) : bits .and .u32 (u a) (u b) = u (an a b) := by
  rw [u, u, u32_and_nat _ _ a.toNat_lt b.toNat_lt, u, an, UInt32.toNat_and]
theorem u_or (a b : UInt32) : bits .or .u32 (u a) (u b) = u (oo a b) := by
  rw [u, u, u32_or_nat _ _ a.toNat_lt b.toNat_lt, u, oo, UInt32.toNat_or]
theorem u_add (a b : UInt32) : (u a + u b) % 4294967296 = u (ad a b) := by
  simp only [u, ad, UInt32.toNat_add]; omega
theorem u_lf (a : UInt32) (n : Nat) (h : n < 32) : u a * 2 ^ n % 4294967296 = u (lf a n) := by
  have hm : (UInt32.ofNat n).toNat = n := by rw [UInt32.toNat_ofNat']; omega
  simp only [u, lf, UInt32.toNat_shiftLeft, hm, Nat.mod_eq_of_lt h, Nat.shiftLeft_eq, Int.natCast_emod, Int.natCast_mul, Int.natCast_pow]
  rfl
theorem u_rt (a : UInt32) (n : Nat) (h : n < 32) : u a / 2 ^ n = u (rtK a n) := by
  have hm : (UInt32.ofNat n).toNat = n := by rw [UInt32.toNat_ofNat']; omega
  simp only [u, rtK, UInt32.toNat_shiftRight, hm, Nat.mod_eq_of_lt h, Nat.shiftRight_eq_div_pow, Int.natCast_ediv, Int.natCast_pow]
  rfl
theorem u_ub (c : UInt8) : (c.toNat : Int) = u (ub c) := by simp [u, ub]
theorem u_inj {a b : UInt32} (h : u a = u b) : a = b := UInt32.toNat_inj.1 (by unfold u at h; omega)
theorem andk (n : Int) (h0 : 1 ≤ n) (h1 : n ≤ 31) : bits BinOp.and IntKind.u64 (IntKind.u64.wrap (-n)) 31 = 32 - n := by
  obtain ⟨m, rfl⟩ := Int.eq_ofNat_of_zero_le (show 0 ≤ n by omega)
  have h : ∀ m : Nat, m < 32 → 1 ≤ m → bits BinOp.and IntKind.u64 (IntKind.u64.wrap (-(m : Int))) 31 = 32 - (m : Int) := by decide
  exact h m (by omega) (by omega)
/-- Cells of words and of bytes. -/
def U (x : UInt32) : Value := .int .u32 (u x)
def cU (l : List UInt32) : Array Value := (l.map U).toArray
def cB (l : List UInt8) : Array Value := (l.map B).toArray
theorem cU_size (l : List UInt32) : (cU l).size = l.length := by simp [cU]
theorem cB_size (l : List UInt8) : (cB l).size = l.length := by simp [cB]
theorem cU_get (l : List UInt32) (i : Nat) (h : i < l.length) : (cU l)[i]? = some (.int .u32 (u (l.getD i 0))) := by
  simp [cU, U, h]
theorem cB_get (l : List UInt8) (i : Nat) (h : i < l.length) : (cB l)[i]? = some (.int .u8 ((l.getD i 0).toNat : Int)) := by
  simp [cB, B, h]
theorem cU_set (l : List UInt32) (i : Nat) (x : UInt32) : (cU l).setIfInBounds i (.int .u32 (u x)) = cU (l.set i x) := by
  simp [cU, List.map_set, U]
end Go.Proofs.YtmjaobddgaglhaaGreatDoor
namespace Go.Proofs.YtmjaobddgaglhaaGreatDoor
open Go.RowKit
open Sha
theorem ret_intH {k : IntKind} {a b : Int} (h : a = b) : Ending.returned (.int k a) = .returned (.int k b) := by rw [h]
set_option maxHeartbeats 400000 in
theorem turn_any (x : UInt32) (n : Int) (w : World) (n0 : 1 ≤ n) (n1 : n ≤ 31) :
    Calls Tryz.prog 149 #[.int .u32 (u x), .int .i64 n] w fun e w' => e = .returned (.int .u32 (u (rr x n.toNat))) ∧ w' = w := by
  have h0 := u_lo x
  have h1 := u_hi x
  have e := andk n n0 n1
  have hr : bits BinOp.or IntKind.u32 (u x * 2 ^ (32 - n).toNat % 4294967296) (u x / 2 ^ (32 - (32 - n)).toNat) = u (rr x n.toNat) := by
    rw [u_lf x _ (by omega), u_rt x _ (by omega), u_or, rr]
    have e1 : (32 - n).toNat = 32 - n.toNat := by omega
    have e2 : (32 - (32 - n)).toNat = n.toNat := by omega
    rw [e1, e2]
  have H := hide hr
  clear hr
  go_enter Tryz.func149, Tryz.ntmps149
  go_wp2_with (go_in)
  go_ret
  exact ⟨ret_intH (unhide H), rfl⟩
def stp (x : UInt32) : UInt32 := if x &&& 1 = 1 then xr (rtK x 1) 3988292384 else rtK x 1
theorem and1 (x : UInt32) : (bits .and .u32 (u x) 1 == 1) = decide (x &&& 1 = 1) := by
  have e : (1 : Int) = u 1 := rfl
  rw [e, u_and]
  rw [Bool.eq_iff_iff]
  simp only [beq_iff_eq, decide_eq_true_eq]
  constructor
  · intro h; exact u_inj h
  · intro h; rw [an, h]
set_option maxHeartbeats 400000 in
theorem step_anyK (x : UInt32) (w : World) :
    Calls Tryz.prog 142 #[.int .u32 (u x)] w fun e w' => e = .returned (.int .u32 (u (stp x))) ∧ w' = w := by
  have h0 := u_lo x
  have h1 := u_hi x
  have e0 : u x / 2 = u (rtK x 1) := u_rt x 1 (by omega)
  have e1 : bits .xor .u32 (u x / 2) 3988292384 = u (xr (rtK x 1) 3988292384) := by
    rw [e0]; exact u_xor _ 3988292384
  have a := and1 x
  have H0 := hide e0
  have H1 := hide e1
  clear e0 e1
  by_cases hx : x &&& 1 = 1
  · have a' : (bits .and .u32 (u x) 1 == 1) = true := by rw [a]; simp [hx]
    have HS : Hid (stp x = xr (rtK x 1) 3988292384) := hide (by rw [stp, if_pos hx])
    clear a hx
    go_enter Tryz.func142, Tryz.ntmps142
    go_wp2
    go_ret
    exact ⟨ret_intH (by rw [unhide HS]; exact unhide H1), rfl⟩
  · have a' : (bits .and .u32 (u x) 1 == 1) = false := by rw [a]; simp [hx]
    have HS : Hid (stp x = rtK x 1) := hide (by rw [stp, if_neg hx])
    clear a hx
    go_enter Tryz.func142, Tryz.ntmps142
    go_wp2
    go_ret
    exact ⟨ret_intH (by rw [unhide HS]; exact unhide H0), rfl⟩
end Go.Proofs.YtmjaobddgaglhaaGreatDoor
