import Derived.Test.YtmjaobddgaglhaaGreatDoorZhnum
import Derived.Test.YtmjaobddgaglhaaGreatDoorHrow
namespace Go.Proofs.YtmjaobddgaglhaaGreatDoor
open Go.RowKit
open Sha
def stN (r : UInt32) : Nat → UInt32
  | 0 => r
  | k + 1 => stp (stN r k)
def crcB (r : UInt32) (c : UInt8) : UInt32 := stN (xr r (ub c)) 8
def crcR (l : List UInt8) : UInt32 := l.foldl crcB 0xffffffff
def crc (l : List UInt8) : UInt32 := nt (crcR l)
theorem crcR_next (l : List UInt8) (k : Nat) (h : k < l.length) : crcR (l.take (k + 1)) = crcB (crcR (l.take k)) l[k] := by
  rw [List.take_succ_eq_append_getElem h, crcR, List.foldl_append]
  rfl
theorem u_notc (a : UInt32) : bits .xor .u32 4294967295 (u a) = u (nt a) := by
  have e : (4294967295 : Int) = u 4294967295 := rfl
  rw [e, u_xor]
  refine congrArg u ?_
  apply UInt32.eq_of_toBitVec_eq
  unfold xr nt
  rw [UInt32.toBitVec_xor, UInt32.toBitVec_not]
  exact BitVec.allOnes_xor
theorem byte_uc (c : UInt8) : (c.toNat : Int) % 4294967296 = u (ub c) := by
  rw [← u_ub]; have := c.toNat_lt; omega
set_option maxHeartbeats 1000000 in
theorem crc_any (l : List UInt8) (w : World) (hl : l.length ≤ 9223372036854775807) :
    Calls Tryz.prog 127 #[.string ⟨l.toArray⟩] w fun e w' => e = .returned (.int .u32 (u (crc l))) ∧ w' = w := by
  have hnot : (if IntKind.u32.signed = true then (-1 : Int) else IntKind.u32.max) = 4294967295 := rfl
  go_enter Tryz.func127, Tryz.ntmps127
  go_wp2
  go_loopw [3, 7] (fun r i wr => ∃ k : Nat, k ≤ l.length ∧ i = .int .i64 k ∧ r = .int .u32 (u (crcR (l.take k))) ∧ wr = w) (fun _ i _ => l.length - (intOf i).toNat)
  case atStart => exact ⟨0, by omega, rfl, rfl, rfl⟩
  case round =>
    obtain ⟨k, hk, rfl, rfl, rfl⟩ := hrel
    by_cases hlt : k < l.length
    · have hnx := hide (crcR_next l k hlt)
      generalize crcR (l.take k) = R at *
      go_wp2
      have hs : k < (ByteArray.mk l.toArray).size := by simpa [ByteArray.size] using hlt
      have hC0 : (ByteArray.mk l.toArray)[k]'hs = l[k] := rfl
      generalize hC : (ByteArray.mk l.toArray)[k]'hs = C at *
      have HC := hide hC0
      clear hC0 hC
      rw [byte_uc, u_xor]
      generalize hX : xr R (ub C) = X at *
      have HX := hide hX
      clear hX
      go_loopw [3, 16] (fun r i w2 => ∃ j : Nat, j ≤ 8 ∧ i = .int .i64 j ∧ r = .int .u32 (u (stN X j)) ∧ w2 = wr) (fun _ i _ => 8 - (intOf i).toNat)
      case atStart => exact ⟨0, by omega, rfl, rfl, rfl⟩
      case round =>
        obtain ⟨j, hj, rfl, rfl, rfl⟩ := hrel
        by_cases hlj : j < 8
        · go_wp2_with (go_at_call 142; refine (step_anyK _ _).mono ?_; rintro e w' ⟨rfl, rfl⟩)
          go_roundw
          case rel => exact ⟨j + 1, by omega, by go_num, rfl, trivial⟩
          case measure => simp [intOf]; omega
        · have hj8 : j = 8 := by omega
          have hd : decide ((j : Int) < 8) = false := by simp; omega
          have HE : Hid (crcR (l.take (k + 1)) = stN X j) := hide (by rw [unhide hnx, ← unhide HC, crcB, unhide HX, hj8])
          clear hj8 hlj
          go_wp2
          go_roundw
          case rel => exact ⟨k + 1, by omega, by go_num, by rw [unhide HE], trivial⟩
          case measure => simp [intOf]; omega
    · have hkl : k = l.length := by omega
      have HE : Hid (crcR l = crcR (l.take k)) := hide (by rw [List.take_of_length_le (by omega)])
      generalize crcR (l.take k) = R at *
      go_wp2
      go_ret
      exact ⟨ret_intH (by rw [crc, unhide HE]; exact u_notc R), rfl⟩
end Go.Proofs.YtmjaobddgaglhaaGreatDoor
namespace Go.Proofs.YtmjaobddgaglhaaGreatDoor
open Go.RowKit
open Sha
theorem ofInt_i64H (a : Nat) (ha : a < 9223372036854775808) : (BitVec.ofInt 64 (a : Int)).toNat = a := by
  rw [BitVec.toNat_ofInt]; omega
theorem i64_xor_nat (a b : Nat) (ha : a < 9223372036854775808) (hb : b < 9223372036854775808) : bits .xor .i64 (a : Int) (b : Int) = ((a ^^^ b : Nat) : Int) := by
  have hx : a ^^^ b < 2 ^ 63 := Nat.xor_lt_two_pow ha hb
  have h1 := ofInt_i64H a ha
  have h2 := ofInt_i64H b hb
  have hb' : bits .xor .i64 (a : Int) (b : Int) = IntKind.i64.wrap (((BitVec.ofInt 64 (a : Int)) ^^^ (BitVec.ofInt 64 (b : Int))).toNat : Int) := rfl
  rw [hb', BitVec.toNat_xor, h1, h2, IntKind.wrap_i64]; omega
theorem i64_and_natH (a b : Nat) (ha : a < 9223372036854775808) (hb : b < 9223372036854775808) : bits .and .i64 (a : Int) (b : Int) = ((a &&& b : Nat) : Int) := by
  have hx : a &&& b < 2 ^ 63 := Nat.and_lt_two_pow a hb
  have h1 := ofInt_i64H a ha
  have h2 := ofInt_i64H b hb
  have hb' : bits .and .i64 (a : Int) (b : Int) = IntKind.i64.wrap (((BitVec.ofInt 64 (a : Int)) &&& (BitVec.ofInt 64 (b : Int))).toNat : Int) := rfl
  rw [hb', BitVec.toNat_and, h1, h2, IntKind.wrap_i64]; omega
theorem i64_or_natH (a b : Nat) (ha : a < 9223372036854775808) (hb : b < 9223372036854775808) : bits .or .i64 (a : Int) (b : Int) = ((a ||| b : Nat) : Int) := by
  have hx : a ||| b < 2 ^ 63 := Nat.or_lt_two_pow ha hb
  have h1 := ofInt_i64H a ha
  have h2 := ofInt_i64H b hb
  have hb' : bits .or .i64 (a : Int) (b : Int) = IntKind.i64.wrap (((BitVec.ofInt 64 (a : Int)) ||| (BitVec.ofInt 64 (b : Int))).toNat : Int) := rfl
  rw [hb', BitVec.toNat_or, h1, h2, IntKind.wrap_i64]; omega
theorem lt63 (a : UInt32) : a.toNat < 9223372036854775808 := by have := a.toNat_lt; omega
theorem v_xor (a b : UInt32) : bits .xor .i64 (u a) (u b) = u (xr a b) := by
  rw [u, u, i64_xor_nat _ _ (lt63 a) (lt63 b), u, xr, UInt32.toNat_xor]
theorem v_and (a b : UInt32) : bits .and .i64 (u a) (u b) = u (an a b) := by
  rw [u, u, i64_and_natH _ _ (lt63 a) (lt63 b), u, an, UInt32.toNat_and]
theorem v_or (a b : UInt32) : bits .or .i64 (u a) (u b) = u (oo a b) := by
  rw [u, u, i64_or_natH _ _ (lt63 a) (lt63 b), u, oo, UInt32.toNat_or]
theorem wrap_cH (c : UInt8) : wrap64 (c.toNat : Int) = (c.toNat : Int) := IntWalk.wrap64_in _ (by have := c.toNat_lt; omega)
theorem odd_u (x : UInt32) : (u x % 2 == 1) = decide (x &&& 1 = 1) := by
  rw [← and1]
  have e : (1 : Int) = u 1 := rfl
  have h : bits .and .u32 (u x) 1 = u x % 2 := by
    conv => lhs; rw [e, u_and]
    rw [u, an, UInt32.toNat_and, u]
    have : (1 : UInt32).toNat = 1 := rfl
    rw [this, Nat.and_one_is_mod]
    omega
  rw [h]
set_option maxHeartbeats 1000000 in
theorem refcrc_any (l : List UInt8) (w : World) (hl : l.length ≤ 9223372036854775807) :
    Calls Tryz.prog 116 #[.string ⟨l.toArray⟩] w fun e w' => e = .returned (.int .u32 (u (crc l))) ∧ w' = w := by
  go_enter Tryz.func116, Tryz.ntmps116
  go_wp2
  go_loopw [3, 4] (fun r i wr => ∃ k : Nat, k ≤ l.length ∧ i = .int .i64 k ∧ r = .int .i64 (u (crcR (l.take k))) ∧ wr = w) (fun _ i _ => l.length - (intOf i).toNat)
  case atStart => exact ⟨0, by omega, rfl, rfl, rfl⟩
  case round =>
    obtain ⟨k, hk, rfl, rfl, rfl⟩ := hrel
    by_cases hlt : k < l.length
    · have hnx := hide (crcR_next l k hlt)
      generalize crcR (l.take k) = R at *
      go_wp2
      have hs : k < (ByteArray.mk l.toArray).size := by simpa [ByteArray.size] using hlt
      have hC0 : (ByteArray.mk l.toArray)[k]'hs = l[k] := rfl
      generalize hC : (ByteArray.mk l.toArray)[k]'hs = C at *
      have HC := hide hC0
      clear hC0 hC
      rw [wrap_cH, u_ub, v_xor]
      generalize hX : xr R (ub C) = X at *
      have HX := hide hX
      clear hX
      go_loopw [3, 5] (fun r i w2 => ∃ j : Nat, j ≤ 8 ∧ i = .int .i64 j ∧ r = .int .i64 (u (stN X j)) ∧ w2 = wr) (fun _ i _ => 8 - (intOf i).toNat)
      case atStart => exact ⟨0, by omega, rfl, rfl, rfl⟩
      case round =>
        obtain ⟨j, hj, rfl, rfl, rfl⟩ := hrel
        by_cases hlj : j < 8
        · have HS : Hid (stN X (j + 1) = stp (stN X j)) := hide rfl
          have ho : ((u (stN X j)).tmod 2 == 1) = decide (stN X j &&& 1 = 1) := by rw [Int.tmod_eq_emod_of_nonneg (u_lo _)]; exact odd_u _
          have e2 : u (stN X j) / 2 = u (rtK (stN X j) 1) := u_rt _ 1 (by omega)
          have E2 := hide e2
          generalize stN X j = Y at *
          clear e2
          by_cases hy : Y &&& 1 = 1
          · have ho' : ((u Y).tmod 2 == 1) = true := by rw [ho]; simp [hy]
            have HY : Hid (stp Y = xr (rtK Y 1) 3988292384) := hide (by rw [stp, if_pos hy])
            clear ho hy
            go_wp2
            go_roundw
            case rel =>
              refine ⟨j + 1, by omega, by go_num, ?_, trivial⟩
              rw [unhide HS, unhide HY, unhide E2]
              rw [show (3988292384 : Int) = u 3988292384 from rfl, v_xor]
            case measure => simp [intOf]; omega
          · have ho' : ((u Y).tmod 2 == 1) = false := by rw [ho]; simp [hy]
            have HY : Hid (stp Y = rtK Y 1) := hide (by rw [stp, if_neg hy])
            clear ho hy
            go_wp2
            go_roundw
            case rel =>
              refine ⟨j + 1, by omega, by go_num, ?_, trivial⟩
              rw [unhide HS, unhide HY, unhide E2]
            case measure => simp [intOf]; omega
        · have hj8 : j = 8 := by omega
          have hd : decide ((j : Int) < 8) = false := by simp; omega
          have HE : Hid (crcR (l.take (k + 1)) = stN X j) := hide (by rw [unhide hnx, ← unhide HC, crcB, unhide HX, hj8])
          clear hj8 hlj
          go_wp2
          go_roundw
          case rel => exact ⟨k + 1, by omega, by go_num, by rw [unhide HE], trivial⟩
          case measure => simp [intOf]; omega
    · have hkl : k = l.length := by omega
      have HE : Hid (crcR l = crcR (l.take k)) := hide (by rw [List.take_of_length_le (by omega)])
      generalize crcR (l.take k) = R at *
      go_wp2
      go_ret
      refine ⟨ret_intH ?_, rfl⟩
      rw [crc, unhide HE, show (4294967295 : Int) = u 4294967295 from rfl, v_xor, Int.emod_eq_of_lt (u_lo _) (u_hi _), ← u_notc, show (4294967295 : Int) = u 4294967295 from rfl, u_xor]
      unfold xr
      rw [UInt32.xor_comm]
end Go.Proofs.YtmjaobddgaglhaaGreatDoor
