import Derived.Test.YtbeionikiiccpaaDoorHlea
import Derived.Test.YtbeionikiiccpaaDoorHrow
namespace Go.Proofs.YtbeionikiiccpaaDoor
open Go.RowKit
open Sha
def stN (r : UInt32) : Nat → UInt32
  | 0 => r
  | k + 1 => stp (stN r k)
def crcB (r : UInt32) (c : UInt8) : UInt32 := stN (xr r (ub c)) 8
def crcR (l : List UInt8) : UInt32 := l.foldl crcB 0xffffffff
def crc (l : List UInt8) : UInt32 := nt (crcR l)
theorem crcR_next (l : List UInt8) (k : Nat) (h : k < l.length) : crcR (l.take (k + 1)) = crcB (crcR (l.take k)) l[k] := by
  rw [List.take_succ_eq_append_getElem h, crcR, List.foldl_append]
  rfl
theorem u_notc (a : UInt32) : bits .xor .u32 4294967295 (u a) = u (nt a) := by
  have e : (4294967295 : Int) = u 4294967295 := rfl
  rw [e, u_xor]
  refine congrArg u ?_
  apply UInt32.eq_of_toBitVec_eq
  unfold xr nt
  rw [UInt32.toBitVec_xor, UInt32.toBitVec_not]
  exact BitVec.allOnes_xor
theorem byte_uc (c : UInt8) : (c.toNat : Int) % 4294967296 = u (ub c) := by
  rw [← u_ub]; have := c.toNat_lt; omega
set_option maxHeartbeats 1000000 in
theorem crc_any (l : List UInt8) (w : World) (hl : l.length ≤ 9223372036854775807) :
    Calls Tryd.prog 57 #[.string ⟨l.toArray⟩] w fun e w' => e = .returned (.int .u32 (u (crc l))) ∧ w' = w := by
  have hnot : (if IntKind.u32.signed = true then (-1 : Int) else IntKind.u32.max) = 4294967295 := rfl
  go_enter Tryd.func57, Tryd.ntmps57
  go_wp2
  go_loopw [3, 7] (fun r i wr => ∃ k : Nat, k ≤ l.length ∧ i = .int .i64 k ∧ r = .int .u32 (u (crcR (l.take k))) ∧ wr = w) (fun _ i _ => l.length - (intOf i).toNat)
  case atStart => exact ⟨0, by omega, rfl, rfl, rfl⟩
  case round =>
    obtain ⟨k, hk, rfl, rfl, rfl⟩ := hrel
    by_cases hlt : k < l.length
    · have hnx := hide (crcR_next l k hlt)
      generalize crcR (l.take k) = R at *
      go_wp2
      have hs : k < (ByteArray.mk l.toArray).size := by simpa [ByteArray.size] using hlt
      have hC0 : (ByteArray.mk l.toArray)[k]'hs = l[k] := rfl
      generalize hC : (ByteArray.mk l.toArray)[k]'hs = C at *
      have HC := hide hC0
      clear hC0 hC
      rw [byte_uc, u_xor]
      generalize hX : xr R (ub C) = X at *
      have HX := hide hX
      clear hX
      go_loopw [3, 16] (fun r i w2 => ∃ j : Nat, j ≤ 8 ∧ i = .int .i64 j ∧ r = .int .u32 (u (stN X j)) ∧ w2 = wr) (fun _ i _ => 8 - (intOf i).toNat)
      case atStart => exact ⟨0, by omega, rfl, rfl, rfl⟩
      case round =>
        obtain ⟨j, hj, rfl, rfl, rfl⟩ := hrel
        by_cases hlj : j < 8
        · go_wp2_with (go_at_call 71; refine (step_any _ _).mono ?_; rintro e w' ⟨rfl, rfl⟩)
          go_roundw
          case rel => exact ⟨j + 1, by omega, by go_num, rfl, trivial⟩
          case measure => simp [intOf]; omega
        · have hj8 : j = 8 := by omega
          have hd : decide ((j : Int) < 8) = false := by simp; omega
          have HE : Hid (crcR (l.take (k + 1)) = stN X j) := hide (by rw [unhide hnx, ← unhide HC, crcB, unhide HX, hj8])
          clear hj8 hlj
          go_wp2
          go_roundw
          case rel => exact ⟨k + 1, by omega, by go_num, by rw [unhide HE], trivial⟩
          case measure => simp [intOf]; omega
    · have hkl : k = l.length := by omega
      have HE : Hid (crcR l = crcR (l.take k)) := hide (by rw [List.take_of_length_le (by omega)])
      generalize crcR (l.take k) = R at *
      go_wp2
      go_ret
      exact ⟨ret_intH (by rw [crc, unhide HE]; exact u_notc R), rfl⟩
/-- What of two texts of one length is unlike, all bits together. -/
def unl (a b : List UInt8) : Nat → UInt8
  | 0 => 0
  | k + 1 => unl a b k ||| ((a.getD k 0) ^^^ (b.getD k 0))
theorem u8_or_B (a b : UInt8) : bits .or .u8 (a.toNat : Int) (b.toNat : Int) = ((a ||| b).toNat : Int) := by
  rw [u8_or_nat _ _ a.toNat_lt b.toNat_lt, UInt8.toNat_or]
theorem u8_xor_C (a b : UInt8) : bits .xor .u8 (a.toNat : Int) (b.toNat : Int) = ((a ^^^ b).toNat : Int) := by
  rw [u8_xor_nat _ _ a.toNat_lt b.toNat_lt, UInt8.toNat_xor]
theorem or_zero8 (a b : UInt8) : a ||| b = 0 ↔ a = 0 ∧ b = 0 := by
  constructor
  · intro h
    have := congrArg UInt8.toBitVec h
    rw [UInt8.toBitVec_or] at this
    have h2 := BitVec.or_eq_zero_iff.1 this
    exact ⟨UInt8.eq_of_toBitVec_eq h2.1, UInt8.eq_of_toBitVec_eq h2.2⟩
  · rintro ⟨rfl, rfl⟩; rfl
theorem xor_zero8 (a b : UInt8) : a ^^^ b = 0 ↔ a = b := by
  constructor
  · intro h
    have := congrArg UInt8.toBitVec h
    rw [UInt8.toBitVec_xor] at this
    exact UInt8.eq_of_toBitVec_eq (BitVec.xor_eq_zero_iff.1 this)
  · rintro rfl; simp
theorem unl_zero (a b : List UInt8) : ∀ k, unl a b k = 0 ↔ ∀ i, i < k → a.getD i 0 = b.getD i 0
  | 0 => by simp [unl]
  | k + 1 => by
    rw [unl, or_zero8, unl_zero a b k, xor_zero8]
    constructor
    · rintro ⟨h1, h2⟩ i hi
      by_cases e : i = k
      · subst e; exact h2
      · exact h1 i (by omega)
    · intro h
      exact ⟨fun i hi => h i (by omega), h k (by omega)⟩
theorem unl_eq (a b : List UInt8) (h : a.length = b.length) : (((unl a b a.length).toNat : Int) == 0) = decide (a = b) := by
  rw [Bool.eq_iff_iff]
  simp only [beq_iff_eq, decide_eq_true_eq]
  have e : ((unl a b a.length).toNat : Int) = 0 ↔ unl a b a.length = 0 := by
    constructor
    · intro q; exact UInt8.toNat_inj.1 (by have h0 : (0 : UInt8).toNat = 0 := rfl; omega)
    · intro q; rw [q]; rfl
  rw [e, unl_zero]
  constructor
  · intro q
    apply List.ext_getElem h
    intro i h1 h2
    have := q i h1
    simpa [h1, h2] using this
  · rintro rfl; intro i _; rfl
end Go.Proofs.YtbeionikiiccpaaDoor
