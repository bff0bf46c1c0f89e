import Derived.Test.YtbeionikiiccpaaDoorHcrc
namespace Go.Proofs.YtbeionikiiccpaaDoor
open Sha
def x3 (a b c : UInt32) : UInt32 := xr (xr a b) c
theorem and1_01 (x : UInt32) : x &&& 1 = 0 ∨ x &&& 1 = 1 := by
  have h : (x &&& 1).toNat = x.toNat % 2 := by
    rw [UInt32.toNat_and, show (1 : UInt32).toNat = 1 from rfl, Nat.and_one_is_mod]
  rcases Nat.mod_two_eq_zero_or_one x.toNat with q | q
  · left; exact UInt32.toNat_inj.1 (by rw [h, q]; rfl)
  · right; exact UInt32.toNat_inj.1 (by rw [h, q]; rfl)
theorem stp_eq (x : UInt32) : stp x = (x >>> 1) ^^^ (if x &&& 1 = 1 then 3988292384 else 0) := by
  unfold stp xr rt
  split
  · rfl
  · rw [UInt32.xor_zero]; rfl
theorem xor_and1 (x y : UInt32) : (x ^^^ y) &&& 1 = (x &&& 1) ^^^ (y &&& 1) := by
  apply UInt32.eq_of_toBitVec_eq
  simp only [UInt32.toBitVec_and, UInt32.toBitVec_xor]
  ext i
  simp
  cases x.toBitVec[i] <;> cases y.toBitVec[i] <;> simp
theorem xor_shift1 (x y : UInt32) : (x ^^^ y) >>> 1 = (x >>> 1) ^^^ (y >>> 1) := by
  apply UInt32.eq_of_toBitVec_eq
  simp only [UInt32.toBitVec_shiftRight, UInt32.toBitVec_xor]
  exact BitVec.ushiftRight_xor_distrib _ _ _
theorem stp_xor (x y : UInt32) : stp (xr x y) = xr (stp x) (stp y) := by
  unfold xr
  rw [stp_eq, stp_eq, stp_eq, xor_shift1, xor_and1]
  have p : ∀ a b q : UInt32, (a ^^^ q) ^^^ b = (a ^^^ b) ^^^ q := fun a b q => by rw [UInt32.xor_assoc, UInt32.xor_comm q b, ← UInt32.xor_assoc]
  rcases and1_01 x with hx | hx <;> rcases and1_01 y with hy | hy <;> rw [hx, hy]
  · simp
  · simp [UInt32.xor_assoc]
  · simp [p]
  · have : ∀ a b q : UInt32, (a ^^^ q) ^^^ (b ^^^ q) = a ^^^ b := fun a b q => by rw [← UInt32.xor_assoc, p a b q, UInt32.xor_assoc, UInt32.xor_self, UInt32.xor_zero]
    simp [this]
theorem stN_xor (x y : UInt32) : ∀ k, stN (xr x y) k = xr (stN x k) (stN y k)
  | 0 => rfl
  | k + 1 => by rw [stN, stN_xor x y k, stp_xor]; rfl
theorem ub_xor (a b : UInt8) : ub (a ^^^ b) = xr (ub a) (ub b) := by
  unfold ub xr
  exact UInt8.toUInt32_xor a b
theorem xr4 (a b c d : UInt32) : xr (xr a b) (xr c d) = xr (xr a c) (xr b d) := by
  unfold xr
  rw [UInt32.xor_assoc, ← UInt32.xor_assoc b, UInt32.xor_comm b c, UInt32.xor_assoc c, ← UInt32.xor_assoc]
theorem crcB_xor (r s : UInt32) (a b : UInt8) : crcB (xr r s) (a ^^^ b) = xr (crcB r a) (crcB s b) := by
  unfold crcB
  rw [ub_xor, xr4, stN_xor]
def xz (a b c : List UInt8) : List UInt8 := (List.range a.length).map fun i => (a.getD i 0) ^^^ (b.getD i 0) ^^^ (c.getD i 0)
theorem crcR_fold (a : List UInt8) : ∀ (b c : List UInt8) (r s t : UInt32), a.length = b.length → a.length = c.length →
    (xz a b c).foldl crcB (x3 r s t) = x3 (a.foldl crcB r) (b.foldl crcB s) (c.foldl crcB t) := by
  induction a with
  | nil => intro b c r s t hb hc; cases b <;> cases c <;> simp_all [xz]
  | cons x a ih =>
    intro b c r s t hb hc
    cases b with
    | nil => simp at hb
    | cons y b =>
      cases c with
      | nil => simp at hc
      | cons z c =>
        have e : xz (x :: a) (y :: b) (z :: c) = (x ^^^ y ^^^ z) :: xz a b c := by
          simp [xz, List.range_succ_eq_map]
        rw [e, List.foldl_cons, List.foldl_cons, List.foldl_cons, List.foldl_cons]
        have e2 : crcB (x3 r s t) (x ^^^ y ^^^ z) = x3 (crcB r x) (crcB s y) (crcB t z) := by
          unfold x3; rw [crcB_xor, crcB_xor]
        rw [e2]
        exact ih b c _ _ _ (by simpa using hb) (by simpa using hc)
theorem nt_xr (a : UInt32) : nt a = xr a 4294967295 := by
  apply UInt32.eq_of_toBitVec_eq
  unfold nt xr
  rw [UInt32.toBitVec_not, UInt32.toBitVec_xor]
  exact BitVec.xor_allOnes.symm
theorem crc_x3 (a b c : List UInt8) (hb : a.length = b.length) (hc : a.length = c.length) : crc (xz a b c) = xr (xr (crc a) (crc b)) (crc c) := by
  have h := crcR_fold a b c 0xffffffff 0xffffffff 0xffffffff hb hc
  have e : x3 0xffffffff 0xffffffff 0xffffffff = 0xffffffff := by decide
  rw [e] at h
  unfold crc crcR
  rw [h]
  unfold x3
  rw [nt_xr, nt_xr, nt_xr, nt_xr]
  rw [xr4 (List.foldl crcB 4294967295 a), show xr (4294967295 : UInt32) 4294967295 = 0 from by decide]
  unfold xr
  rw [UInt32.xor_zero, UInt32.xor_assoc]
end Go.Proofs.YtbeionikiiccpaaDoor
