import Derived.Test.YtmjaobddgaglhaaGreatDoorHspe
import Derived.Test.YtmjaobddgaglhaaGreatDoorZdsa
import Derived.WalkKit
import Derived.Test.YtmjaobddgaglhaaGreatDoorProg
import Derived.Deep.WholeRow
import Derived.Deep.MidRow
import Derived.BigQuiet
import Derived.Deep.QuietTactic
namespace Go.Proofs.YtmjaobddgaglhaaGreatDoor
open Go.RowKit
open Sha
/-- A word as the number that the program has. -/
def u (x : UInt32) : Int := (x.toNat : Int)
theorem u_lo (x : UInt32) : 0 ≤ u x := by unfold u; omega
theorem u_hi (x : UInt32) : u x < 4294967296 := by have := x.toNat_lt; unfold u; omega
theorem u_xor (a b : UInt32) : bits .xor .u32 (u a) (u b) = u (xr a b) := by
  rw [u, u, u32_xor_nat _ _ a.toNat_lt b.toNat_lt, u, xr, UInt32.toNat_xor]
theorem u_and (a b : UInt32) : bits .and .u32 (u a) (u b) = u (an a b) := by
  rw [u, u, u32_and_nat _ _ a.toNat_lt b.toNat_lt, u, an, UInt32.toNat_and]
theorem u_or (a b : UInt32) : bits .or .u32 (u a) (u b) = u (oo a b) := by
  rw [u, u, u32_or_nat _ _ a.toNat_lt b.toNat_lt, u, oo, UInt32.toNat_or]
theorem u_add (a b : UInt32) : (u a + u b) % 4294967296 = u (ad a b) := by
  simp only [u, ad, UInt32.toNat_add]; omega
theorem u_lf (a : UInt32) (n : Nat) (h : n < 32) : u a * 2 ^ n % 4294967296 = u (lf a n) := by
  have hm : (UInt32.ofNat n).toNat = n := by rw [UInt32.toNat_ofNat']; omega
  simp only [u, lf, UInt32.toNat_shiftLeft, hm, Nat.mod_eq_of_lt h, Nat.shiftLeft_eq, Int.natCast_emod, Int.natCast_mul, Int.natCast_pow]
  rfl
theorem u_rt (a : UInt32) (n : Nat) (h : n < 32) : u a / 2 ^ n = u (rtK a n) := by
  have hm : (UInt32.ofNat n).toNat = n := by rw [UInt32.toNat_ofNat']; omega
  simp only [u, rtK, UInt32.toNat_shiftRight, hm, Nat.mod_eq_of_lt h, Nat.shiftRight_eq_div_pow, Int.natCast_ediv, Int.natCast_pow]
  rfl
theorem u_ub (c : UInt8) : (c.toNat : Int) = u (ub c) := by simp [u, ub]
theorem u_inj {a b : UInt32} (h : u a = u b) : a = b := UInt32.toNat_inj.1 (by unfold u at h; omega)
theorem andk (n : Int) (h0 : 1 ≤ n) (h1 : n ≤ 31) : bits BinOp.and IntKind.u64 (IntKind.u64.wrap (-n)) 31 = 32 - n := by
  obtain ⟨m, rfl⟩ := Int.eq_ofNat_of_zero_le (show 0 ≤ n by omega)
  have h : ∀ m : Nat, m < 32 → 1 ≤ m → bits BinOp.and IntKind.u64 (IntKind.u64.wrap (-(m : Int))) 31 = 32 - (m : Int) := by decide
  exact h m (by omega) (by omega)
/-- Cells of words and of bytes. -/
def U (x : UInt32) : Value := .int .u32 (u x)
def cU (l : List UInt32) : Array Value := (l.map U).toArray
def cB (l : List UInt8) : Array Value := (l.map B).toArray
theorem cU_size (l : List UInt32) : (cU l).size = l.length := by simp [cU]
theorem cB_size (l : List UInt8) : (cB l).size = l.length := by simp [cB]
theorem cU_get (l : List UInt32) (i : Nat) (h : i < l.length) : (cU l)[i]? = some (.int .u32 (u (l.getD i 0))) := by
  simp [cU, U, h]
theorem cB_get (l : List UInt8) (i : Nat) (h : i < l.length) : (cB l)[i]? = some (.int .u8 ((l.getD i 0).toNat : Int)) := by
  simp [cB, B, h]
theorem cU_set (l : List UInt32) (i : Nat) (x : UInt32) : (cU l).setIfInBounds i (.int .u32 (u x)) = cU (l.set i x) := by
  simp [cU, List.map_set, U]
end Go.Proofs.YtmjaobddgaglhaaGreatDoor
namespace Go.Proofs.YtmjaobddgaglhaaGreatDoor
open Go.RowKit
open Sha
theorem ret_intH {k : IntKind} {a b : Int} (h : a = b) : Ending.returned (.int k a) = .returned (.int k b) := by rw [h]
set_option maxHeartbeats 400000 in
theorem turn_any (x : UInt32) (n : Int) (w : World) (n0 : 1 ≤ n) (n1 : n ≤ 31) :
    Calls Tryz.prog 149 #[.int .u32 (u x), .int .i64 n] w fun e w' => e = .returned (.int .u32 (u (rr x n.toNat))) ∧ w' = w := by
  have h0 := u_lo x
  have h1 := u_hi x
  have e := andk n n0 n1
  have hr : bits BinOp.or IntKind.u32 (u x * 2 ^ (32 - n).toNat % 4294967296) (u x / 2 ^ (32 - (32 - n)).toNat) = u (rr x n.toNat) := by
    rw [u_lf x _ (by omega), u_rt x _ (by omega), u_or, rr]
    have e1 : (32 - n).toNat = 32 - n.toNat := by omega
    have e2 : (32 - (32 - n)).toNat = n.toNat := by omega
    rw [e1, e2]
  have H := hide hr
  clear hr
  go_enter Tryz.func149, Tryz.ntmps149
  go_wp2_with (go_in)
  go_ret
  exact ⟨ret_intH (unhide H), rfl⟩
def stp (x : UInt32) : UInt32 := if x &&& 1 = 1 then xr (rtK x 1) 3988292384 else rtK x 1
theorem and1 (x : UInt32) : (bits .and .u32 (u x) 1 == 1) = decide (x &&& 1 = 1) := by
  have e : (1 : Int) = u 1 := rfl
  rw [e, u_and]
  rw [Bool.eq_iff_iff]
  simp only [beq_iff_eq, decide_eq_true_eq]
  constructor
  · intro h; exact u_inj h
  · intro h; rw [an, h]
set_option maxHeartbeats 400000 in
theorem step_anyK (x : UInt32) (w : World) :
    Calls Tryz.prog 142 #[.int .u32 (u x)] w fun e w' => e = .returned (.int .u32 (u (stp x))) ∧ w' = w := by
  have h0 := u_lo x
  have h1 := u_hi x
  have e0 : u x / 2 = u (rtK x 1) := u_rt x 1 (by omega)
  have e1 : bits .xor .u32 (u x / 2) 3988292384 = u (xr (rtK x 1) 3988292384) := by
    rw [e0]; exact u_xor _ 3988292384
  have a := and1 x
  have H0 := hide e0
  have H1 := hide e1
  clear e0 e1
  by_cases hx : x &&& 1 = 1
  · have a' : (bits .and .u32 (u x) 1 == 1) = true := by rw [a]; simp [hx]
    have HS : Hid (stp x = xr (rtK x 1) 3988292384) := hide (by rw [stp, if_pos hx])
    clear a hx
    go_enter Tryz.func142, Tryz.ntmps142
    go_wp2
    go_ret
    exact ⟨ret_intH (by rw [unhide HS]; exact unhide H1), rfl⟩
  · have a' : (bits .and .u32 (u x) 1 == 1) = false := by rw [a]; simp [hx]
    have HS : Hid (stp x = rtK x 1) := hide (by rw [stp, if_neg hx])
    clear a hx
    go_enter Tryz.func142, Tryz.ntmps142
    go_wp2
    go_ret
    exact ⟨ret_intH (by rw [unhide HS]; exact unhide H0), rfl⟩
end Go.Proofs.YtmjaobddgaglhaaGreatDoor
namespace Go.Proofs.YtmjaobddgaglhaaGreatDoor
open Go.RowKit
open Sha
theorem below_row {B : Nat} {a w : World} (h : Below B a w) {g : Nat} (hg : B ≤ g) (cs : Array Value) : Below B a (w.setRow g cs) :=
  h.trans ⟨rfl, rfl, rfl, by simp, fun k hk => Go.setRow_other w g k cs (by omega)⟩
/-- A block that holds just these cells, none of them frozen. -/
def RowK (w : World) (b : Nat) (cs : Array Value) (t : TypeId) : Prop := w.heap[b]? = some (.cells cs t (0, 0))
theorem RowK.cell {w : World} {b : Nat} {cs : Array Value} {t : TypeId} (h : RowK w b cs t) (j : Nat) : w.cell? ⟨b, j, none⟩ = cs[j]? := cell_of_row w b j cs t (0, 0) h
theorem RowK.frozen {w : World} {b : Nat} {cs : Array Value} {t : TypeId} (h : RowK w b cs t) (j : Nat) : w.frozen? ⟨b, j, none⟩ = false := frozen_of_row w b j cs t h
theorem RowK.lt {w : World} {b : Nat} {cs : Array Value} {t : TypeId} (h : RowK w b cs t) : b < w.heap.size := by
  unfold RowK at h
  exact (Array.getElem?_eq_some_iff.1 h).1
theorem RowK.drew {w : World} {b : Nat} {cs : Array Value} {t : TypeId} (h : RowK w b cs t) : RowK w.drew b cs t := h
theorem RowK.drewN {w : World} {b : Nat} {cs : Array Value} {t : TypeId} (h : RowK w b cs t) (n : Nat) : RowK (w.drewN n) b cs t := by
  unfold RowK at *
  rw [show (w.drewN n).heap = w.heap from by simp]; exact h
theorem RowK.alloc {w : World} {b : Nat} {cs : Array Value} {t : TypeId} (h : RowK w b cs t) (o : Obj) : RowK (w.alloc o) b cs t := by
  unfold RowK at *
  rw [Below.heap_alloc w o b (RowK.lt h)]; exact h
theorem RowK.new (w : World) (cs : Array Value) (t : TypeId) : RowK (w.alloc (.cells cs t)) w.heap.size cs t := heap_alloc_new w _
theorem RowK.set {w : World} {b : Nat} {cs : Array Value} {t : TypeId} (h : RowK w b cs t) (j : Nat) (v : Value) : RowK (w.setCell ⟨b, j, none⟩ v) b (cs.setIfInBounds j v) t := by
  have := heap_setCell_same w b j cs t v h
  exact this
theorem RowK.set_other {w : World} {b : Nat} {cs : Array Value} {t : TypeId} (h : RowK w b cs t) (a : Addr) (v : Value) (hn : b ≠ a.block) : RowK (w.setCell a v) b cs t := by
  unfold RowK at *
  rw [heap_setCell_other w a b v hn]; exact h
theorem RowK.below {w w' : World} {B b : Nat} {cs : Array Value} {t : TypeId} (h : RowK w b cs t) (hb : Below B w w') (hl : b < B) : RowK w' b cs t := (hb.block b hl).trans h
theorem RowK.setRow {w : World} {b : Nat} {old : Array Value} {t : TypeId} (h : RowK w b old t) (cs : Array Value) : RowK (w.setRow b cs) b cs t := setRow_heap w b old cs t (0, 0) h
theorem RowK.setRow_other {w : World} {b : Nat} {cs : Array Value} {t : TypeId} (h : RowK w b cs t) (g : Nat) (c : Array Value) (hn : b ≠ g) : RowK (w.setRow g c) b cs t := (Go.setRow_other w g b c hn).trans h
end Go.Proofs.YtmjaobddgaglhaaGreatDoor
namespace Go.Proofs.YtmjaobddgaglhaaGreatDoor
open Go.RowKit
open Sha
def stN (r : UInt32) : Nat → UInt32
  | 0 => r
  | k + 1 => stp (stN r k)
def crcB (r : UInt32) (c : UInt8) : UInt32 := stN (xr r (ub c)) 8
def crcR (l : List UInt8) : UInt32 := l.foldl crcB 0xffffffff
def crc (l : List UInt8) : UInt32 := nt (crcR l)
theorem crcR_next (l : List UInt8) (k : Nat) (h : k < l.length) : crcR (l.take (k + 1)) = crcB (crcR (l.take k)) l[k] := by
  rw [List.take_succ_eq_append_getElem h, crcR, List.foldl_append]
  rfl
theorem u_notc (a : UInt32) : bits .xor .u32 4294967295 (u a) = u (nt a) := by
  have e : (4294967295 : Int) = u 4294967295 := rfl
  rw [e, u_xor]
  refine congrArg u ?_
  apply UInt32.eq_of_toBitVec_eq
  unfold xr nt
  rw [UInt32.toBitVec_xor, UInt32.toBitVec_not]
  exact BitVec.allOnes_xor
theorem byte_uc (c : UInt8) : (c.toNat : Int) % 4294967296 = u (ub c) := by
  rw [← u_ub]; have := c.toNat_lt; omega
set_option maxHeartbeats 1000000 in
theorem crc_any (l : List UInt8) (w : World) (hl : l.length ≤ 9223372036854775807) :
    Calls Tryz.prog 127 #[.string ⟨l.toArray⟩] w fun e w' => e = .returned (.int .u32 (u (crc l))) ∧ w' = w := by
  have hnot : (if IntKind.u32.signed = true then (-1 : Int) else IntKind.u32.max) = 4294967295 := rfl
  go_enter Tryz.func127, Tryz.ntmps127
  go_wp2
  go_loopw [3, 7] (fun r i wr => ∃ k : Nat, k ≤ l.length ∧ i = .int .i64 k ∧ r = .int .u32 (u (crcR (l.take k))) ∧ wr = w) (fun _ i _ => l.length - (intOf i).toNat)
  case atStart => exact ⟨0, by omega, rfl, rfl, rfl⟩
  case round =>
    obtain ⟨k, hk, rfl, rfl, rfl⟩ := hrel
    by_cases hlt : k < l.length
    · have hnx := hide (crcR_next l k hlt)
      generalize crcR (l.take k) = R at *
      go_wp2
      have hs : k < (ByteArray.mk l.toArray).size := by simpa [ByteArray.size] using hlt
      have hC0 : (ByteArray.mk l.toArray)[k]'hs = l[k] := rfl
      generalize hC : (ByteArray.mk l.toArray)[k]'hs = C at *
      have HC := hide hC0
      clear hC0 hC
      rw [byte_uc, u_xor]
      generalize hX : xr R (ub C) = X at *
      have HX := hide hX
      clear hX
      go_loopw [3, 16] (fun r i w2 => ∃ j : Nat, j ≤ 8 ∧ i = .int .i64 j ∧ r = .int .u32 (u (stN X j)) ∧ w2 = wr) (fun _ i _ => 8 - (intOf i).toNat)
      case atStart => exact ⟨0, by omega, rfl, rfl, rfl⟩
      case round =>
        obtain ⟨j, hj, rfl, rfl, rfl⟩ := hrel
        by_cases hlj : j < 8
        · go_wp2_with (go_at_call 142; refine (step_anyK _ _).mono ?_; rintro e w' ⟨rfl, rfl⟩)
          go_roundw
          case rel => exact ⟨j + 1, by omega, by go_num, rfl, trivial⟩
          case measure => simp [intOf]; omega
        · have hj8 : j = 8 := by omega
          have hd : decide ((j : Int) < 8) = false := by simp; omega
          have HE : Hid (crcR (l.take (k + 1)) = stN X j) := hide (by rw [unhide hnx, ← unhide HC, crcB, unhide HX, hj8])
          clear hj8 hlj
          go_wp2
          go_roundw
          case rel => exact ⟨k + 1, by omega, by go_num, by rw [unhide HE], trivial⟩
          case measure => simp [intOf]; omega
    · have hkl : k = l.length := by omega
      have HE : Hid (crcR l = crcR (l.take k)) := hide (by rw [List.take_of_length_le (by omega)])
      generalize crcR (l.take k) = R at *
      go_wp2
      go_ret
      exact ⟨ret_intH (by rw [crc, unhide HE]; exact u_notc R), rfl⟩
end Go.Proofs.YtmjaobddgaglhaaGreatDoor
namespace Go.Proofs.YtmjaobddgaglhaaGreatDoor
open Sha
def x3 (a b c : UInt32) : UInt32 := xr (xr a b) c
end Go.Proofs.YtmjaobddgaglhaaGreatDoor
namespace Go.Proofs.YtmjaobddgaglhaaGreatDoor
open Go.RowKit
open Sha
theorem ofInt_i64H (a : Nat) (ha : a < 9223372036854775808) : (BitVec.ofInt 64 (a : Int)).toNat = a := by
  rw [BitVec.toNat_ofInt]; omega
theorem i64_xor_nat (a b : Nat) (ha : a < 9223372036854775808) (hb : b < 9223372036854775808) : bits .xor .i64 (a : Int) (b : Int) = ((a ^^^ b : Nat) : Int) := by
  have hx : a ^^^ b < 2 ^ 63 := Nat.xor_lt_two_pow ha hb
  have h1 := ofInt_i64H a ha
  have h2 := ofInt_i64H b hb
  have hb' : bits .xor .i64 (a : Int) (b : Int) = IntKind.i64.wrap (((BitVec.ofInt 64 (a : Int)) ^^^ (BitVec.ofInt 64 (b : Int))).toNat : Int) := rfl
  rw [hb', BitVec.toNat_xor, h1, h2, IntKind.wrap_i64]; omega
theorem i64_and_natH (a b : Nat) (ha : a < 9223372036854775808) (hb : b < 9223372036854775808) : bits .and .i64 (a : Int) (b : Int) = ((a &&& b : Nat) : Int) := by
  have hx : a &&& b < 2 ^ 63 := Nat.and_lt_two_pow a hb
  have h1 := ofInt_i64H a ha
  have h2 := ofInt_i64H b hb
  have hb' : bits .and .i64 (a : Int) (b : Int) = IntKind.i64.wrap (((BitVec.ofInt 64 (a : Int)) &&& (BitVec.ofInt 64 (b : Int))).toNat : Int) := rfl
  rw [hb', BitVec.toNat_and, h1, h2, IntKind.wrap_i64]; omega
theorem i64_or_natH (a b : Nat) (ha : a < 9223372036854775808) (hb : b < 9223372036854775808) : bits .or .i64 (a : Int) (b : Int) = ((a ||| b : Nat) : Int) := by
  have hx : a ||| b < 2 ^ 63 := Nat.or_lt_two_pow ha hb
  have h1 := ofInt_i64H a ha
  have h2 := ofInt_i64H b hb
  have hb' : bits .or .i64 (a : Int) (b : Int) = IntKind.i64.wrap (((BitVec.ofInt 64 (a : Int)) ||| (BitVec.ofInt 64 (b : Int))).toNat : Int) := rfl
  rw [hb', BitVec.toNat_or, h1, h2, IntKind.wrap_i64]; omega
theorem lt63 (a : UInt32) : a.toNat < 9223372036854775808 := by have := a.toNat_lt; omega
theorem v_xor (a b : UInt32) : bits .xor .i64 (u a) (u b) = u (xr a b) := by
  rw [u, u, i64_xor_nat _ _ (lt63 a) (lt63 b), u, xr, UInt32.toNat_xor]
theorem v_and (a b : UInt32) : bits .and .i64 (u a) (u b) = u (an a b) := by
  rw [u, u, i64_and_natH _ _ (lt63 a) (lt63 b), u, an, UInt32.toNat_and]
theorem v_or (a b : UInt32) : bits .or .i64 (u a) (u b) = u (oo a b) := by
  rw [u, u, i64_or_natH _ _ (lt63 a) (lt63 b), u, oo, UInt32.toNat_or]
theorem wrap_cH (c : UInt8) : wrap64 (c.toNat : Int) = (c.toNat : Int) := IntWalk.wrap64_in _ (by have := c.toNat_lt; omega)
theorem odd_u (x : UInt32) : (u x % 2 == 1) = decide (x &&& 1 = 1) := by
  rw [← and1]
  have e : (1 : Int) = u 1 := rfl
  have h : bits .and .u32 (u x) 1 = u x % 2 := by
    conv => lhs; rw [e, u_and]
    rw [u, an, UInt32.toNat_and, u]
    have : (1 : UInt32).toNat = 1 := rfl
    rw [this, Nat.and_one_is_mod]
    omega
  rw [h]
set_option maxHeartbeats 1000000 in
theorem refcrc_any (l : List UInt8) (w : World) (hl : l.length ≤ 9223372036854775807) :
    Calls Tryz.prog 116 #[.string ⟨l.toArray⟩] w fun e w' => e = .returned (.int .u32 (u (crc l))) ∧ w' = w := by
  go_enter Tryz.func116, Tryz.ntmps116
  go_wp2
  go_loopw [3, 4] (fun r i wr => ∃ k : Nat, k ≤ l.length ∧ i = .int .i64 k ∧ r = .int .i64 (u (crcR (l.take k))) ∧ wr = w) (fun _ i _ => l.length - (intOf i).toNat)
  case atStart => exact ⟨0, by omega, rfl, rfl, rfl⟩
  case round =>
    obtain ⟨k, hk, rfl, rfl, rfl⟩ := hrel
    by_cases hlt : k < l.length
    · have hnx := hide (crcR_next l k hlt)
      generalize crcR (l.take k) = R at *
      go_wp2
      have hs : k < (ByteArray.mk l.toArray).size := by simpa [ByteArray.size] using hlt
      have hC0 : (ByteArray.mk l.toArray)[k]'hs = l[k] := rfl
      generalize hC : (ByteArray.mk l.toArray)[k]'hs = C at *
      have HC := hide hC0
      clear hC0 hC
      rw [wrap_cH, u_ub, v_xor]
      generalize hX : xr R (ub C) = X at *
      have HX := hide hX
      clear hX
      go_loopw [3, 5] (fun r i w2 => ∃ j : Nat, j ≤ 8 ∧ i = .int .i64 j ∧ r = .int .i64 (u (stN X j)) ∧ w2 = wr) (fun _ i _ => 8 - (intOf i).toNat)
      case atStart => exact ⟨0, by omega, rfl, rfl, rfl⟩
      case round =>
        obtain ⟨j, hj, rfl, rfl, rfl⟩ := hrel
        by_cases hlj : j < 8
        · have HS : Hid (stN X (j + 1) = stp (stN X j)) := hide rfl
          have ho : ((u (stN X j)).tmod 2 == 1) = decide (stN X j &&& 1 = 1) := by rw [Int.tmod_eq_emod_of_nonneg (u_lo _)]; exact odd_u _
          have e2 : u (stN X j) / 2 = u (rtK (stN X j) 1) := u_rt _ 1 (by omega)
          have E2 := hide e2
          generalize stN X j = Y at *
          clear e2
          by_cases hy : Y &&& 1 = 1
          · have ho' : ((u Y).tmod 2 == 1) = true := by rw [ho]; simp [hy]
            have HY : Hid (stp Y = xr (rtK Y 1) 3988292384) := hide (by rw [stp, if_pos hy])
            clear ho hy
            go_wp2
            go_roundw
            case rel =>
              refine ⟨j + 1, by omega, by go_num, ?_, trivial⟩
              rw [unhide HS, unhide HY, unhide E2]
              rw [show (3988292384 : Int) = u 3988292384 from rfl, v_xor]
            case measure => simp [intOf]; omega
          · have ho' : ((u Y).tmod 2 == 1) = false := by rw [ho]; simp [hy]
            have HY : Hid (stp Y = rtK Y 1) := hide (by rw [stp, if_neg hy])
            clear ho hy
            go_wp2
            go_roundw
            case rel =>
              refine ⟨j + 1, by omega, by go_num, ?_, trivial⟩
              rw [unhide HS, unhide HY, unhide E2]
            case measure => simp [intOf]; omega
        · have hj8 : j = 8 := by omega
          have hd : decide ((j : Int) < 8) = false := by simp; omega
          have HE : Hid (crcR (l.take (k + 1)) = stN X j) := hide (by rw [unhide hnx, ← unhide HC, crcB, unhide HX, hj8])
          clear hj8 hlj
          go_wp2
          go_roundw
          case rel => exact ⟨k + 1, by omega, by go_num, by rw [unhide HE], trivial⟩
          case measure => simp [intOf]; omega
    · have hkl : k = l.length := by omega
      have HE : Hid (crcR l = crcR (l.take k)) := hide (by rw [List.take_of_length_le (by omega)])
      generalize crcR (l.take k) = R at *
      go_wp2
      go_ret
      refine ⟨ret_intH ?_, rfl⟩
      rw [crc, unhide HE, show (4294967295 : Int) = u 4294967295 from rfl, v_xor, Int.emod_eq_of_lt (u_lo _) (u_hi _), ← u_notc, show (4294967295 : Int) = u 4294967295 from rfl, u_xor]
      unfold xr
      rw [UInt32.xor_comm]
end Go.Proofs.YtmjaobddgaglhaaGreatDoor
namespace Go.Proofs.YtmjaobddgaglhaaGreatDoor
open Go.RowKit
open Sha
set_option maxRecDepth 8000
def z64 : List UInt32 := List.replicate 64 0
structure WR (w wr : World) (b : List UInt8) (l : List UInt32) : Prop where
  rb : RowK wr w.heap.size (cB b) 171
  rz : RowK wr (w.heap.size + 1) (cU z64) 196
  rl : RowK wr (w.heap.size + 1 + 1) (cU l) 196
  be : Below w.heap.size w wr
  sz : wr.heap.size = w.heap.size + 3
theorem WR.start (w : World) (b : List UInt8) : WR w (((w.alloc (.cells (cB b) 171)).alloc (.cells (cU z64) 196)).alloc (.cells (cU z64) 196)) b (w1 b 0) := by
  refine ⟨?_, ?_, ?_, ?_, ?_⟩
  · exact ((RowK.new w (cB b) 171).alloc _).alloc _
  · have := (RowK.new (w.alloc (.cells (cB b) 171)) (cU z64) 196).alloc (.cells (cU z64) 196)
    simpa using this
  · have := RowK.new ((w.alloc (.cells (cB b) 171)).alloc (.cells (cU z64) 196)) (cU z64) 196
    simp only [World.size_alloc] at this
    exact this
  · exact (((Below.refl _ _).alloc (Nat.le_refl _) _).alloc (by simp) _).alloc (by simp; omega) _
  · simp
theorem z64_lit : cU z64 = #[.int .u32 0, .int .u32 0, .int .u32 0, .int .u32 0, .int .u32 0, .int .u32 0, .int .u32 0, .int .u32 0, .int .u32 0, .int .u32 0, .int .u32 0, .int .u32 0, .int .u32 0, .int .u32 0, .int .u32 0, .int .u32 0, .int .u32 0, .int .u32 0, .int .u32 0, .int .u32 0, .int .u32 0, .int .u32 0, .int .u32 0, .int .u32 0, .int .u32 0, .int .u32 0, .int .u32 0, .int .u32 0, .int .u32 0, .int .u32 0, .int .u32 0, .int .u32 0, .int .u32 0, .int .u32 0, .int .u32 0, .int .u32 0, .int .u32 0, .int .u32 0, .int .u32 0, .int .u32 0, .int .u32 0, .int .u32 0, .int .u32 0, .int .u32 0, .int .u32 0, .int .u32 0, .int .u32 0, .int .u32 0, .int .u32 0, .int .u32 0, .int .u32 0, .int .u32 0, .int .u32 0, .int .u32 0, .int .u32 0, .int .u32 0, .int .u32 0, .int .u32 0, .int .u32 0, .int .u32 0, .int .u32 0, .int .u32 0, .int .u32 0, .int .u32 0] := by rfl
theorem WR.store {w wr : World} {b : List UInt8} {l : List UInt32} (h : WR w wr b l) (n k : Nat) (x : UInt32) : WR w ((wr.setCell ⟨w.heap.size + 1 + 1, k, none⟩ (.int .u32 (u x))).drewN n) b (l.set k x) := by
  refine ⟨?_, ?_, ?_, ?_, ?_⟩
  · exact (h.rb.set_other _ _ (by simp; omega)).drewN n
  · exact (h.rz.set_other _ _ (by simp)).drewN n
  · have := (h.rl.set k (.int .u32 (u x))).drewN n
    rwa [cU_set] at this
  · exact ⟨h.be.os, h.be.tape, h.be.output, by simpa [World.setCell] using h.be.size, (h.be.setCell (p := ⟨w.heap.size + 1 + 1, k, none⟩) (by simp; omega) (.int .u32 (u x))).block⟩
  · simpa [World.setCell] using h.sz
theorem info196 : (Tryz.prog.info? 196).map (·.size) = some 64 := by kernel_rfl
theorem sz74 {l : List UInt32} (h : l.length = 64) : (Tryz.prog.info? 196).map (·.size) = some (cU l).size := by rw [cU_size, h]; exact info196
theorem cU_one (l : List UInt32) : (cU l).all (·.oneCell') = true := by
  simp [cU, U, Value.oneCell']
theorem byte_u (c : UInt8) : (c.toNat : Int) % 4294967296 = u (ub c) := by
  rw [← u_ub]; have := c.toNat_lt; omega
theorem be_eq (b : List UInt8) (k : Nat) : bits BinOp.or IntKind.u32
                (bits BinOp.or IntKind.u32
                  (bits BinOp.or IntKind.u32 (↑(b[4 * k]?.getD 0).toNat % 4294967296 * 16777216 % 4294967296)
                    (↑(b[4 * k + 1]?.getD 0).toNat % 4294967296 * 65536 % 4294967296))
                  (↑(b[4 * k + 2]?.getD 0).toNat % 4294967296 * 256 % 4294967296))
                (↑(b[4 * k + 3]?.getD 0).toNat % 4294967296) = u (be b k) := by
  have e24 (x : UInt32) : u x * 16777216 % 4294967296 = u (lf x 24) := u_lf x 24 (by omega)
  have e16 (x : UInt32) : u x * 65536 % 4294967296 = u (lf x 16) := u_lf x 16 (by omega)
  have e8 (x : UInt32) : u x * 256 % 4294967296 = u (lf x 8) := u_lf x 8 (by omega)
  simp only [byte_u, e24, e16, e8, u_or, be, List.getD_eq_getElem?_getD]
theorem u_add4 (a b c d : UInt32) : (u a + u b + u c + u d) % 4294967296 = u (ad (ad (ad a b) c) d) := by
  simp only [u, ad, UInt32.toNat_add]; omega
theorem nx_eq (l : List UInt32) (i j k m t : Nat) (hi : i = t - 16) (hj : j = t - 15) (hk : k = t - 7) (hm : m = t - 2) :
    (u (l[i]?.getD 0) + bits BinOp.xor IntKind.u32 (bits BinOp.xor IntKind.u32 (u (rr (l[j]?.getD 0) 7)) (u (rr (l[j]?.getD 0) 18))) (u (l[j]?.getD 0) / 8) + u (l[k]?.getD 0) +
      bits BinOp.xor IntKind.u32 (bits BinOp.xor IntKind.u32 (u (rr (l[m]?.getD 0) 17)) (u (rr (l[m]?.getD 0) 19))) (u (l[m]?.getD 0) / 1024)) % 4294967296 = u (nx l t) := by
  subst hi hj hk hm
  have e3 (x : UInt32) : u x / 8 = u (rtK x 3) := u_rt x 3 (by omega)
  have e10 (x : UInt32) : u x / 1024 = u (rtK x 10) := u_rt x 10 (by omega)
  simp only [e3, e10, u_xor, u_add4, nx, List.getD_eq_getElem?_getD]
theorem w2_next (b : List UInt8) (m : Nat) (h : 16 ≤ m) : w2 b (m + 1 - 16) = (w2 b (m - 16)).set m (nx (w2 b (m - 16)) m) := by
  obtain ⟨k, rfl⟩ : ∃ k, m = 16 + k := ⟨m - 16, by omega⟩
  rw [show 16 + k + 1 - 16 = k + 1 from by omega, show 16 + k - 16 = k from by omega, w2]
set_option maxHeartbeats 1000000 in
theorem words_any (b : List UInt8) (w : World) (hb : b.length = 64) :
    Calls Tryz.prog 147 #[.agg (cB b)] w fun e w' => e = .returned (.agg (cU (ws b))) ∧ Below w.heap.size w w' := by
  have hst := WR.start w b
  rw [z64_lit] at hst
  have HST := hide hst
  clear hst
  go_enter Tryz.func147, Tryz.ntmps147
  go_wp2
  go_loopw [8] (fun i wr => ∃ k : Nat, k ≤ 16 ∧ i = .int .i64 k ∧ WR w wr b (w1 b k)) (fun i _ => 16 - (intOf i).toNat)
  case atStart => exact ⟨0, by omega, rfl, unhide HST⟩
  case round =>
    clear HST
    obtain ⟨k, hk, rfl, h1⟩ := hrel
    by_cases hlt : k < 16
    · have f0 : wr.cell? ⟨w.heap.size, 4 * k, none⟩ = some (.int .u8 ((b.getD (4 * k) 0).toNat : Int)) := by rw [h1.rb.cell]; exact cB_get b _ (by omega)
      have f1 : wr.cell? ⟨w.heap.size, 4 * k + 1, none⟩ = some (.int .u8 ((b.getD (4 * k + 1) 0).toNat : Int)) := by rw [h1.rb.cell]; exact cB_get b _ (by omega)
      have f2 : wr.cell? ⟨w.heap.size, 4 * k + 2, none⟩ = some (.int .u8 ((b.getD (4 * k + 2) 0).toNat : Int)) := by rw [h1.rb.cell]; exact cB_get b _ (by omega)
      have f3 : wr.cell? ⟨w.heap.size, 4 * k + 3, none⟩ = some (.int .u8 ((b.getD (4 * k + 3) 0).toNat : Int)) := by rw [h1.rb.cell]; exact cB_get b _ (by omega)
      have f4 : wr.cell? ⟨w.heap.size + 1 + 1, k, none⟩ = some (.int .u32 (u ((w1 b k).getD k 0))) := by rw [h1.rl.cell]; exact cU_get _ _ (by rw [w1_len]; omega)
      have f5 : wr.frozen? ⟨w.heap.size + 1 + 1, k, none⟩ = false := h1.rl.frozen k
      have hsz := h1.sz
      go_wp2
      go_region
      all_goals (go_wp2; go_roundw)
      case rel =>
        refine ⟨k + 1, by omega, by go_num, ?_⟩
        rw [be_eq]
        exact h1.store 1 k _
      case measure => simp [intOf]; omega
    · have hk16 : k = 16 := by omega
      have H16 := hide hk16
      have hd : decide ((k : Int) < 16) = false := by simp; omega
      clear hlt hk hk16
      go_wp2
      go_loopw [5] (fun i wr => ∃ m : Nat, 16 ≤ m ∧ m ≤ 64 ∧ i = .int .i64 m ∧ WR w wr b (w2 b (m - 16))) (fun i _ => 64 - (intOf i).toNat)
      case atStart => exact ⟨16, by omega, by omega, rfl, by rw [unhide H16] at h1; exact h1⟩
      case round =>
        clear h1 H16
        obtain ⟨m, hm1, hm2, rfl, hrel⟩ := hrel
        by_cases hlt : m < 64
        · have hl := w2_len b (m - 16)
          have f0 : wr.cell? ⟨w.heap.size + 1 + 1, m - 15, none⟩ = some (.int .u32 (u ((w2 b (m - 16)).getD (m - 15) 0))) := by rw [hrel.rl.cell]; exact cU_get _ _ (by omega)
          have f1 : wr.cell? ⟨w.heap.size + 1 + 1, m - 2, none⟩ = some (.int .u32 (u ((w2 b (m - 16)).getD (m - 2) 0))) := by rw [hrel.rl.cell]; exact cU_get _ _ (by omega)
          have f2 : wr.cell? ⟨w.heap.size + 1 + 1, m - 16, none⟩ = some (.int .u32 (u ((w2 b (m - 16)).getD (m - 16) 0))) := by rw [hrel.rl.cell]; exact cU_get _ _ (by omega)
          have f3 : wr.cell? ⟨w.heap.size + 1 + 1, m - 7, none⟩ = some (.int .u32 (u ((w2 b (m - 16)).getD (m - 7) 0))) := by rw [hrel.rl.cell]; exact cU_get _ _ (by omega)
          have f4 : wr.cell? ⟨w.heap.size + 1 + 1, m, none⟩ = some (.int .u32 (u ((w2 b (m - 16)).getD m 0))) := by rw [hrel.rl.cell]; exact cU_get _ _ (by omega)
          have f5 : wr.frozen? ⟨w.heap.size + 1 + 1, m, none⟩ = false := hrel.rl.frozen m
          clear hl
          go_wp2
          go_region
          go_wp2_with (go_at_call 149; refine (turn_any _ _ _ (by omega) (by omega)).mono ?_; rintro e w' ⟨rfl, rfl⟩)
          go_region
          all_goals (go_wp2; go_roundw)
          case rel =>
            refine ⟨m + 1, by omega, by omega, by go_num, ?_⟩
            rw [nx_eq _ _ _ _ _ m rfl rfl rfl rfl, w2_next b m hm1]
            exact hrel.store 2 m _
          case measure => simp [intOf]; omega
        · have hm : m = 64 := by omega
          subst hm
          go_wp2_with (first | (refine wpList_load_row rfl 196 (.tmp 3) rfl (w.heap.size + 1 + 1) rfl 196 (cU (w2 b 48)) (0, 0) _ hrel.rl Tryz.underlying196 rfl (sz74 (w2_len b 48)) ?_) | (refine wpList_store_row rfl 196 (.tmp 2) (.tmp 86) rfl (w.heap.size + 1) (cU (w2 b 48)) rfl rfl 196 (cU z64) hrel.rz (sz74 (w2_len b 48)) (by rw [cU_size, cU_size, w2_len]; rfl) (cU_one _) ?_))
          have hr := hrel.rz.setRow (cU (w2 b 48))
          exact bodyPost_ret (v := .agg (cU (ws b))) (results_cell_row Tryz.results147 _ _ (w.heap.size + 1) 196 (cU (w2 b 48)) (0, 0) _ rfl hr Tryz.underlying196 rfl (sz74 (w2_len b 48))) rfl ⟨rfl, below_row hrel.be (by omega) _⟩
end Go.Proofs.YtmjaobddgaglhaaGreatDoor
namespace Go.Proofs.YtmjaobddgaglhaaGreatDoor
open Go.RowKit
open Sha
set_option maxRecDepth 8000
theorem ks_len : ks.length = 64 := by rfl
set_option maxHeartbeats 1000000 in
set_option maxRecDepth 100000 in
theorem rounds_any (w : World) :
    Calls Tryz.prog 148 #[] w fun e w' => e = .returned (.agg (cU ks)) ∧ Below w.heap.size w w' := by
  have hr := RowK.new w (cU z64) 196
  rw [z64_lit] at hr
  go_enter Tryz.func148, Tryz.ntmps148
  go_wp2_with (first | (refine wpList_build rfl 196 _ rfl (by kernel_rfl) ?_) | (refine wpList_store_row rfl 196 (.tmp 0) (.tmp 1) rfl w.heap.size (cU ks) rfl (by kernel_rfl) 196 _ hr (sz74 ks_len) (by rw [cU_size, ks_len]; rfl) (cU_one _) ?_))
  have hs := hr.setRow (cU ks)
  exact bodyPost_ret (v := .agg (cU ks)) (results_cell_row Tryz.results148 _ _ w.heap.size 196 (cU ks) (0, 0) _ rfl hs Tryz.underlying196 rfl (sz74 ks_len)) rfl ⟨rfl, below_row ((Below.refl _ _).alloc (Nat.le_refl _) _) (Nat.le_refl _) _⟩
theorem s0_lit : cU s0.l = #[.int .u32 1779033703, .int .u32 3144134277, .int .u32 1013904242, .int .u32 2773480762, .int .u32 1359893119, .int .u32 2600822924, .int .u32 528734635, .int .u32 1541459225] := by rfl
set_option maxHeartbeats 1000000 in
theorem start_any (w : World) :
    Calls Tryz.prog 130 #[] w fun e w' => e = .returned (.agg (cU s0.l)) ∧ Below w.heap.size w w' := by
  rw [s0_lit]
  go_enter Tryz.func130, Tryz.ntmps130
  go_wp2
  exact bodyPost_ret (v := .agg #[.int .u32 1779033703, .int .u32 3144134277, .int .u32 1013904242, .int .u32 2773480762, .int .u32 1359893119, .int .u32 2600822924, .int .u32 528734635, .int .u32 1541459225]) (by simp [results, Tryz.results130, go_sem]) rfl ⟨rfl, (Below.refl _ _).alloc (Nat.le_refl _) _⟩
end Go.Proofs.YtmjaobddgaglhaaGreatDoor
namespace Go.Proofs.YtmjaobddgaglhaaGreatDoor
open Go.RowKit
open Sha
set_option maxRecDepth 8000
theorem wpList_convH {P : Program} {ops : Array Oper} {rest : List Oper} {o : Oper} {a : Act} {w : World} {Q : Exit → Act → World → Prop} (hgd : o.guard = none) (src dst : TypeId) (x : Operand) (ho : o.op = .convert src dst x)
    (v v' : Value) (hx : a.eval x = v) (hrun : (convert src dst v).run P w = .ok v' w)
    (h : wpList P ops Q rest (a.put o.dst v') w) : wpList P ops Q (o :: rest) a w :=
  wpList_plain hgd fun _ hK => by
    unfold Oper.wp execOp
    simp only [ho, hx, Sem.run_bind, hrun, Result.andThen_ok]
    exact hK _ _ h
theorem fold_pushH (l : List UInt8) (r : ByteArray) : (l.map fun c => (c.toNat : Int)).foldl (fun r n => r.push (UInt8.ofNat n.toNat)) r = ⟨r.data ++ l.toArray⟩ := by
  induction l generalizing r with
  | nil => simp
  | cons c l ih =>
    simp only [List.map_cons, List.foldl_cons, ih]
    simp [ByteArray.push]
/-- What lies in memory as bytes is the text of them. -/
theorem run_textH (w : World) (g o len cap : Nat) (l : List UInt8) (hl : l.length = len) (h : ∀ j, j < len → w.cell? ⟨g, o + j, none⟩ = some (.int .u8 ((l.getD j 0).toNat : Int))) :
    (convert 101 9 (.slice (some ⟨g, o, none⟩) len cap)).run Tryz.prog w = .ok (.string ⟨l.toArray⟩) w := by
  rw [run_convert_bytes_string w 101 9 5 _ _ _ Tryz.underlying101 Tryz.underlying5 Tryz.underlying9]
  have hload : (loadCells ⟨g, o, none⟩ len).run Tryz.prog w = .ok ((l.map fun c => (c.toNat : Int)).map (Value.int .u8)).toArray w := by
    have := run_loadCells_list (P := Tryz.prog) w ⟨g, o, none⟩ ((l.map fun c => (c.toNat : Int)).map (Value.int .u8)) (fun j v hv => by
      have hadd : (⟨g, o, none⟩ : Addr).add j = ⟨g, o + j, none⟩ := by unfold Addr.add; split <;> simp_all
      rw [hadd]
      have hj : j < len := by
        have := (List.getElem?_eq_some_iff.1 hv).1
        simpa [hl] using this
      rw [h j hj, ← hv]
      simp [List.getElem?_map, List.getElem?_eq_getElem (by omega : j < l.length)])
    simpa [hl] using this
  rw [run_bytesToString w _ _ _ _ hload, fold_pushH]
  simp
/-- The bytes of a number that are laid down first. -/
def nbk (n size k : Nat) : List UInt8 := (List.range size).map fun i => if i < k then UInt8.ofNat (n / 2 ^ (8 * (size - 1 - i))) else 0
theorem nbk_len (n size k : Nat) : (nbk n size k).length = size := by simp [nbk]
theorem nbk_all (n size : Nat) : nbk n size size = nb n size := by
  unfold nbk nb
  apply List.map_congr_left
  intro i hi
  rw [if_pos (by simpa using hi)]
theorem nbk_next (n size k : Nat) (h : k < size) : nbk n size (k + 1) = (nbk n size k).set k (UInt8.ofNat (n / 2 ^ (8 * (size - 1 - k)))) := by
  apply List.ext_getElem?
  intro i
  rw [List.getElem?_set]
  by_cases hi : i < size
  · by_cases e : k = i
    · subst e; simp [nbk, h]
    · have : (i < k + 1) = (i < k) := by simp; omega
      simp [nbk, hi, e, this]
  · simp [nbk, hi]; omega
theorem info5H : (Tryz.prog.info? 5).map (fun i => (i.zero, i.size, i.bytes)) = some (some (.int .u8 0), 1, 1) := by kernel_rfl
theorem made_zero (size : Nat) : (madeCells (Value.int .u8 0).cells (size * 1)).toList = (nbk 0 size 0).map B := by
  have e1 : (madeCells (Value.int .u8 0).cells (size * 1)).toList = List.replicate size (Value.int .u8 0) := by
    apply List.ext_getElem
    · simp [madeCells]
    · intro i h1 h2
      simp [madeCells, Value.cells, Nat.mod_one]
  have e2 : (nbk 0 size 0).map B = List.replicate size (Value.int .u8 0) := by
    apply List.ext_getElem
    · simp [nbk]
    · intro i h1 h2
      simp [nbk, B]
  rw [e1, e2]
theorem byte_ofH (n m : Nat) : ((n : Int) / 2 ^ m % 256) = ((UInt8.ofNat (n / 2 ^ m)).toNat : Int) := by
  rw [UInt8.toNat_ofNat']
  simp
theorem nbk_zero (n size : Nat) : nbk n size 0 = nbk 0 size 0 := by simp [nbk]
set_option maxHeartbeats 1000000 in
theorem number_anyH (n size : Nat) (w : World) (_hn : n < 18446744073709551616) (h1 : 1 ≤ size) (h8 : size ≤ 8) :
    Calls Tryz.prog 151 #[.int .u64 n, .int .i64 size] w fun e w' => e = .returned (.string ⟨(nb n size).toArray⟩) ∧ Below w.heap.size w w' := by
  obtain ⟨i0, hi, hz0, hz1, hz2⟩ := info_parts info5H
  go_enter Tryz.func151, Tryz.ntmps151
  go_wp2_with (refine wpList_make_full _ rfl (.tmp 7) (.tmp 7) 101 rfl w.heap.size 5 i0 (.int .u8 0) 1 Tryz.underlying101 hi hz0 hz1 .i64 .i64 size size size (by rfl) (by rfl) rfl rfl (by rw [hz2]; omega) (by unfold maxLen; omega) (Nat.le_refl _) ?_; intro w1 hown hgrow)
  rw [made_zero, ← nbk_zero n] at hown
  have hbe : Below w.heap.size w w1 := (Below.refl _ _).grown hgrow (Nat.le_refl _) (fun k e => by cases e)
  have HO := hide hown
  clear hown hgrow
  go_loopw [11] (fun i wr => ∃ k : Nat, k ≤ size ∧ i = .int .i64 k ∧ wr.ownsRow w.heap.size 5 1 (.slice (some ⟨w.heap.size, 0, none⟩) size size) size ((nbk n size k).map B) ∧ Below w.heap.size w wr) (fun i _ => size - (intOf i).toNat)
  case atStart => exact ⟨0, by omega, rfl, unhide HO, hbe⟩
  case round =>
    clear HO hbe
    obtain ⟨k, hk, rfl, hown, hbe⟩ := hrel
    by_cases hlt : k < size
    · have c0 : wr.cell? ⟨w.heap.size, k, none⟩ = some (.int .u8 (((nbk n size k).getD k 0).toNat : Int)) := by
        rw [hown.cellAt k (by omega)]
        simp [B, nbk_len, hlt]
      have z0 : wr.frozen? ⟨w.heap.size, k, none⟩ = false := hown.frozenAt k
      have HO := hide hown
      clear hown
      go_wp2
      go_roundw
      case rel =>
        rw [byte_ofH]
        have hs := (unhide HO).stored k (B (UInt8.ofNat (n / 2 ^ (8 * (size - 1 - k)))))
        refine ⟨k + 1, by omega, by go_num, ?_, hbe.setCell (Nat.le_refl _) _⟩
        rw [nbk_next n size k hlt, List.map_set]
        exact hs.1
      case measure => simp [intOf]; omega
    · have hkk : k = size := by omega
      have hc : (convert 101 9 (.slice (some ⟨w.heap.size, 0, none⟩) size size)).run Tryz.prog wr = .ok (.string ⟨(nb n size).toArray⟩) wr := by
        refine run_textH wr w.heap.size 0 size size (nb n size) (by simp [nb]) ?_
        intro j hj
        rw [Nat.zero_add, hown.cellAt j (by omega), hkk, nbk_all]
        simp [nb, B, hj]
      have HC := hide hc
      clear hc hown hkk
      go_wp2_with (refine wpList_convH rfl 101 9 (.tmp 26) rfl _ _ (by rfl) (unhide HC) ?_)
      go_ret
      exact ⟨rfl, hbe⟩
end Go.Proofs.YtmjaobddgaglhaaGreatDoor
