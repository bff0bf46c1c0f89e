import Derived.Test.YtjopnhhdemfniaaGreatDoorHsp
import Derived.Test.YtjopnhhdemfniaaGreatDoorCob
import Derived.WalkKit
namespace Go.Proofs.YtjopnhhdemfniaaGreatDoor
open Go.RowKit
open Sha
/-- A word as the number that the program has. -/
def u (x : UInt32) : Int := (x.toNat : Int)
theorem u_lo (x : UInt32) : 0 ≤ u x := by unfold u; omega
theorem u_hi (x : UInt32) : u x < 4294967296 := by have := x.toNat_lt; unfold u; omega
theorem u_xor (a b : UInt32) : bits .xor .u32 (u a) (u b) = u (xr a b) := by
  rw [u, u, u32_xor_nat _ _ a.toNat_lt b.toNat_lt, u, xr, UInt32.toNat_xor]
theorem u_and (a b : UInt32) : bits .and .u32 (u a) (u b) = u (an a b) := by
  rw [u, u, u32_and_nat _ _ a.toNat_lt b.toNat_lt, u, an, UInt32.toNat_and]
theorem u_rt (a : UInt32) (n : Nat) (h : n < 32) : u a / 2 ^ n = u (rt a n) := by
  have hm : (UInt32.ofNat n).toNat = n := by rw [UInt32.toNat_ofNat']; omega
  simp only [u, rt, UInt32.toNat_shiftRight, hm, Nat.mod_eq_of_lt h, Nat.shiftRight_eq_div_pow, Int.natCast_ediv, Int.natCast_pow]
  rfl
theorem u_ub (c : UInt8) : (c.toNat : Int) = u (ub c) := by simp [u, ub]
theorem u_inj {a b : UInt32} (h : u a = u b) : a = b := UInt32.toNat_inj.1 (by unfold u at h; omega)
end Go.Proofs.YtjopnhhdemfniaaGreatDoor
namespace Go.Proofs.YtjopnhhdemfniaaGreatDoor
open Go.RowKit
open Sha
def cst (x : UInt32) : UInt32 := if x &&& 1 = 1 then xr (rt x 1) 3988292384 else rt x 1
theorem and1 (x : UInt32) : (bits .and .u32 (u x) 1 == 1) = decide (x &&& 1 = 1) := by
  have e : (1 : Int) = u 1 := rfl
  rw [e, u_and]
  rw [Bool.eq_iff_iff]
  simp only [beq_iff_eq, decide_eq_true_eq]
  constructor
  · intro h; exact u_inj h
  · intro h; rw [an, h]
set_option maxHeartbeats 400000 in
theorem step_any (x : UInt32) (w : World) :
    Calls Tryz.prog 200 #[.int .u32 (u x)] w fun e w' => e = .returned (.int .u32 (u (cst x))) ∧ w' = w := by
  have h0 := u_lo x
  have h1 := u_hi x
  have e0 : u x / 2 = u (rt x 1) := u_rt x 1 (by omega)
  have e1 : bits .xor .u32 (u x / 2) 3988292384 = u (xr (rt x 1) 3988292384) := by
    rw [e0]; exact u_xor _ 3988292384
  have a := and1 x
  have H0 := hide e0
  have H1 := hide e1
  clear e0 e1
  by_cases hx : x &&& 1 = 1
  · have a' : (bits .and .u32 (u x) 1 == 1) = true := by rw [a]; simp [hx]
    have HS : Hid (cst x = xr (rt x 1) 3988292384) := hide (by rw [cst, if_pos hx])
    clear a hx
    go_enter Tryz.func200, Tryz.ntmps200
    go_wp2
    go_ret
    exact ⟨ret_int (by rw [unhide HS]; exact unhide H1), rfl⟩
  · have a' : (bits .and .u32 (u x) 1 == 1) = false := by rw [a]; simp [hx]
    have HS : Hid (cst x = rt x 1) := hide (by rw [cst, if_neg hx])
    clear a hx
    go_enter Tryz.func200, Tryz.ntmps200
    go_wp2
    go_ret
    exact ⟨ret_int (by rw [unhide HS]; exact unhide H0), rfl⟩
end Go.Proofs.YtjopnhhdemfniaaGreatDoor
namespace Go.Proofs.YtjopnhhdemfniaaGreatDoor
open Go.RowKit
open Sha
def stN (r : UInt32) : Nat → UInt32
  | 0 => r
  | k + 1 => cst (stN r k)
def crcB (r : UInt32) (c : UInt8) : UInt32 := stN (xr r (ub c)) 8
def crcR (l : List UInt8) : UInt32 := l.foldl crcB 0xffffffff
def crc (l : List UInt8) : UInt32 := nt (crcR l)
theorem crcR_next (l : List UInt8) (k : Nat) (h : k < l.length) : crcR (l.take (k + 1)) = crcB (crcR (l.take k)) l[k] := by
  rw [List.take_succ_eq_append_getElem h, crcR, List.foldl_append]
  rfl
theorem u_notc (a : UInt32) : bits .xor .u32 4294967295 (u a) = u (nt a) := by
  have e : (4294967295 : Int) = u 4294967295 := rfl
  rw [e, u_xor]
  refine congrArg u ?_
  apply UInt32.eq_of_toBitVec_eq
  unfold xr nt
  rw [UInt32.toBitVec_xor, UInt32.toBitVec_not]
  exact BitVec.allOnes_xor
theorem byte_uc (c : UInt8) : (c.toNat : Int) % 4294967296 = u (ub c) := by
  rw [← u_ub]; have := c.toNat_lt; omega
set_option maxHeartbeats 1000000 in
theorem crc_any (l : List UInt8) (w : World) (hl : l.length ≤ 9223372036854775807) :
    Calls Tryz.prog 144 #[.string ⟨l.toArray⟩] w fun e w' => e = .returned (.int .u32 (u (crc l))) ∧ w' = w := by
  have hnot : (if IntKind.u32.signed = true then (-1 : Int) else IntKind.u32.max) = 4294967295 := rfl
  go_enter Tryz.func144, Tryz.ntmps144
  go_wp2
  go_loopw [3, 7] (fun r i wr => ∃ k : Nat, k ≤ l.length ∧ i = .int .i64 k ∧ r = .int .u32 (u (crcR (l.take k))) ∧ wr = w) (fun _ i _ => l.length - (intOf i).toNat)
  case atStart => exact ⟨0, by omega, rfl, rfl, rfl⟩
  case round =>
    obtain ⟨k, hk, rfl, rfl, rfl⟩ := hrel
    by_cases hlt : k < l.length
    · have hnx := hide (crcR_next l k hlt)
      generalize crcR (l.take k) = R at *
      go_wp2
      have hs : k < (ByteArray.mk l.toArray).size := by simpa [ByteArray.size] using hlt
      have hC0 : (ByteArray.mk l.toArray)[k]'hs = l[k] := rfl
      generalize hC : (ByteArray.mk l.toArray)[k]'hs = C at *
      have HC := hide hC0
      clear hC0 hC
      rw [byte_uc, u_xor]
      generalize hX : xr R (ub C) = X at *
      have HX := hide hX
      clear hX
      go_loopw [3, 16] (fun r i w2 => ∃ j : Nat, j ≤ 8 ∧ i = .int .i64 j ∧ r = .int .u32 (u (stN X j)) ∧ w2 = wr) (fun _ i _ => 8 - (intOf i).toNat)
      case atStart => exact ⟨0, by omega, rfl, rfl, rfl⟩
      case round =>
        obtain ⟨j, hj, rfl, rfl, rfl⟩ := hrel
        by_cases hlj : j < 8
        · go_wp2_with (go_at_call 200; refine (step_any _ _).mono ?_; rintro e w' ⟨rfl, rfl⟩)
          go_roundw
          case rel => exact ⟨j + 1, by omega, by go_num, rfl, trivial⟩
          case measure => simp [intOf]; omega
        · have hj8 : j = 8 := by omega
          have hd : decide ((j : Int) < 8) = false := by simp; omega
          have HE : Hid (crcR (l.take (k + 1)) = stN X j) := hide (by rw [unhide hnx, ← unhide HC, crcB, unhide HX, hj8])
          clear hj8 hlj
          go_wp2
          go_roundw
          case rel => exact ⟨k + 1, by omega, by go_num, by rw [unhide HE], trivial⟩
          case measure => simp [intOf]; omega
    · have hkl : k = l.length := by omega
      have HE : Hid (crcR l = crcR (l.take k)) := hide (by rw [List.take_of_length_le (by omega)])
      generalize crcR (l.take k) = R at *
      go_wp2
      go_ret
      exact ⟨ret_int (by rw [crc, unhide HE]; exact u_notc R), rfl⟩
end Go.Proofs.YtjopnhhdemfniaaGreatDoor
