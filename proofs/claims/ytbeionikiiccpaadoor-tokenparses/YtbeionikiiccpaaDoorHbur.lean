import Derived.Test.YtbeionikiiccpaaDoorHlin
namespace Go.Proofs.YtbeionikiiccpaaDoor
open Sha
theorem stp_half (x : UInt32) (h : (stp x).toNat < 2147483648) : x.toNat = 2 * (stp x).toNat := by
  have hs : (x >>> 1).toNat = x.toNat / 2 := by
    rw [UInt32.toNat_shiftRight]
    simp [Nat.shiftRight_eq_div_pow]
  have hx := x.toNat_lt
  have hm : (x &&& 1).toNat = x.toNat % 2 := by
    rw [UInt32.toNat_and, show (1 : UInt32).toNat = 1 from rfl, Nat.and_one_is_mod]
  rcases and1_01 x with q | q
  · rw [stp_eq, q] at h ⊢
    have : x.toNat % 2 = 0 := by rw [← hm, q]; rfl
    simp [hs] at h ⊢
    omega
  · exfalso
    rw [stp_eq, q] at h
    simp only [if_true] at h
    rw [UInt32.toNat_xor, hs] at h
    have hb : (x.toNat / 2).testBit 31 = false := Nat.testBit_lt_two_pow (by omega)
    have h31 : (x.toNat / 2 ^^^ (3988292384 : UInt32).toNat).testBit 31 = true := by
      rw [Nat.testBit_xor, hb]; decide
    have := Nat.testBit_lt_two_pow (i := 31) (show x.toNat / 2 ^^^ (3988292384 : UInt32).toNat < 2 ^ 31 from h)
    rw [h31] at this
    cases this
theorem stN_low (x : UInt32) : ∀ k, k ≤ 32 → (stN x k).toNat < 2 ^ (32 - k) → x.toNat = 2 ^ k * (stN x k).toNat
  | 0, _, _ => by simp [stN]
  | k + 1, hk, h => by
    have hp : 2 ^ (32 - (k + 1)) ≤ 2 ^ 31 := Nat.pow_le_pow_right (by omega) (by omega)
    have h1 := stp_half (stN x k) (by rw [stN] at h; omega)
    have e : 2 ^ (32 - k) = 2 * 2 ^ (32 - (k + 1)) := by
      rw [show 32 - k = (32 - (k + 1)) + 1 from by omega, Nat.pow_succ]; omega
    have h2 := stN_low x k (by omega) (by rw [h1, e]; rw [stN] at h; omega)
    rw [h2, h1, stN, Nat.pow_succ]
    rw [Nat.mul_assoc]
theorem l8_low (x : UInt32) (h : (stN x 8).toNat < 16777216) : x.toNat = 256 * (stN x 8).toNat := stN_low x 8 (by omega) h
theorem ub_lt (c : UInt8) : (ub c).toNat < 256 := by
  have := c.toNat_lt
  unfold ub
  simpa using this
theorem fold_low : ∀ (zs : List UInt8) (d : UInt32), zs.length ≤ 4 → zs.foldl crcB d = 0 → d.toNat < 2 ^ (8 * zs.length)
  | [], d, _, h => by simp at h; subst h; decide
  | z :: zs, d, hl, h => by
    simp only [List.length_cons] at hl
    have ih := fold_low zs (crcB d z) (by omega) h
    have h24 : (crcB d z).toNat < 16777216 := by
      have : 2 ^ (8 * zs.length) ≤ 2 ^ 24 := Nat.pow_le_pow_right (by omega) (by omega)
      omega
    have e := l8_low (xr d (ub z)) h24
    have hx : (xr d (ub z)).toNat < 2 ^ (8 * (zs.length + 1)) := by
      rw [e, show 8 * (zs.length + 1) = 8 * zs.length + 8 from by omega, Nat.pow_add]
      have : (stN (xr d (ub z)) 8).toNat < 2 ^ (8 * zs.length) := ih
      omega
    have hz : (ub z).toNat < 2 ^ (8 * (zs.length + 1)) := by
      have := ub_lt z
      have : 2 ^ 8 ≤ 2 ^ (8 * (zs.length + 1)) := Nat.pow_le_pow_right (by omega) (by omega)
      omega
    have ed : d = xr (xr d (ub z)) (ub z) := by unfold xr; rw [UInt32.xor_assoc, UInt32.xor_self, UInt32.xor_zero]
    rw [List.length_cons, ed]
    unfold xr
    rw [UInt32.toNat_xor]
    exact Nat.xor_lt_two_pow hx hz
theorem fold_zero : ∀ (zs : List UInt8), zs.length ≤ 4 → zs.foldl crcB 0 = 0 → ∀ c ∈ zs, c = 0
  | [], _, _ => by simp
  | z :: zs, hl, h => by
    simp only [List.length_cons] at hl
    have hd := fold_low zs (crcB 0 z) (by omega) h
    have h24 : (crcB 0 z).toNat < 16777216 := by
      have : 2 ^ (8 * zs.length) ≤ 2 ^ 24 := Nat.pow_le_pow_right (by omega) (by omega)
      omega
    have e := l8_low (xr 0 (ub z)) h24
    have e0 : xr 0 (ub z) = ub z := by unfold xr; rw [UInt32.zero_xor]
    have hz := ub_lt z
    have hc : (crcB 0 z).toNat = 0 := by
      have : (ub z).toNat = 256 * (crcB 0 z).toNat := by rw [← e0]; exact e
      omega
    have hz0 : z = 0 := by
      have : (ub z).toNat = 0 := by
        have : (ub z).toNat = 256 * (crcB 0 z).toNat := by rw [← e0]; exact e
        omega
      apply UInt8.toNat_inj.1
      unfold ub at this
      simpa using this
    have hc0 : crcB 0 z = 0 := UInt32.toNat_inj.1 (by rw [hc]; rfl)
    have ih := fold_zero zs (by omega) (by rw [List.foldl_cons, hc0] at h; exact h)
    intro c hcm
    rcases List.mem_cons.1 hcm with q | q
    · rw [q]; exact hz0
    · exact ih c q
theorem fold_zip : ∀ (a b : List UInt8) (r s : UInt32), a.length = b.length → (List.zipWith (· ^^^ ·) a b).foldl crcB (xr r s) = xr (a.foldl crcB r) (b.foldl crcB s)
  | [], [], _, _, _ => rfl
  | x :: a, y :: b, r, s, h => by
    rw [List.zipWith_cons_cons, List.foldl_cons, List.foldl_cons, List.foldl_cons, crcB_xor]
    exact fold_zip a b _ _ (by simpa using h)
theorem xr_zero {a b : UInt32} (h : xr a b = 0) : a = b := by
  unfold xr at h
  have : (a ^^^ b) ^^^ b = 0 ^^^ b := by rw [h]
  rwa [UInt32.xor_assoc, UInt32.xor_self, UInt32.xor_zero, UInt32.zero_xor] at this
theorem stp_inj {x y : UInt32} (h : stp x = stp y) : x = y := by
  apply xr_zero
  have e : stp (xr x y) = 0 := by rw [stp_xor, h]; unfold xr; exact UInt32.xor_self
  apply UInt32.toNat_inj.1
  rw [stp_half _ (by rw [e]; decide), e]
  rfl
theorem stN_inj {x y : UInt32} : ∀ k, stN x k = stN y k → x = y
  | 0, h => h
  | k + 1, h => stN_inj k (stp_inj h)
theorem crcB_inj {r s : UInt32} {c : UInt8} (h : crcB r c = crcB s c) : r = s := by
  have := stN_inj 8 h
  unfold xr at this
  have e : (r ^^^ ub c) ^^^ ub c = (s ^^^ ub c) ^^^ ub c := by rw [this]
  simpa [UInt32.xor_assoc] using e
theorem fold_inj : ∀ (l : List UInt8) (r s : UInt32), l.foldl crcB r = l.foldl crcB s → r = s
  | [], _, _, h => h
  | _ :: l, _, _, h => crcB_inj (fold_inj l _ _ h)
theorem burst (p q q' s : List UInt8) (hl : q.length = q'.length) (h4 : q.length ≤ 4) (h : crc (p ++ q ++ s) = crc (p ++ q' ++ s)) : q = q' := by
  have h1 : crcR (p ++ q ++ s) = crcR (p ++ q' ++ s) := by
    unfold crc at h
    have e : ∀ a : UInt32, nt (nt a) = a := fun a => by unfold nt; simp
    rw [← e (crcR (p ++ q ++ s)), h, e]
  unfold crcR at h1
  rw [List.foldl_append, List.foldl_append, List.foldl_append, List.foldl_append] at h1
  have h2 := fold_inj s _ _ h1
  have hz := fold_zip q q' (p.foldl crcB 0xffffffff) (p.foldl crcB 0xffffffff) hl
  rw [h2] at hz
  have e0 : ∀ a : UInt32, xr a a = 0 := fun a => by unfold xr; exact UInt32.xor_self
  rw [e0, e0] at hz
  have hall := fold_zero _ (by simp; omega) hz
  apply List.ext_getElem hl
  intro i i1 i2
  have := hall (q[i] ^^^ q'[i]) (by rw [List.mem_iff_getElem]; exact ⟨i, by simp; omega, by simp⟩)
  exact (xor_zero8 _ _).1 this
end Go.Proofs.YtbeionikiiccpaaDoor
