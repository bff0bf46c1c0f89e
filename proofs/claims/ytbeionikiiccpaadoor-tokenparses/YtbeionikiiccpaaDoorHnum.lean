import Derived.Test.YtbeionikiiccpaaDoorHspe
import Derived.Test.YtbeionikiiccpaaDoorCob
import Derived.WalkKit
namespace Go.Proofs.YtbeionikiiccpaaDoor
open Go.RowKit
open Sha
/-- A word as the number that the program has. -/
def u (x : UInt32) : Int := (x.toNat : Int)
theorem u_lo (x : UInt32) : 0 ≤ u x := by unfold u; omega
theorem u_hi (x : UInt32) : u x < 4294967296 := by have := x.toNat_lt; unfold u; omega
theorem u_xor (a b : UInt32) : bits .xor .u32 (u a) (u b) = u (xr a b) := by
  rw [u, u, u32_xor_nat _ _ a.toNat_lt b.toNat_lt, u, xr, UInt32.toNat_xor]
theorem u_and (a b : UInt32) : bits .and .u32 (u a) (u b) = u (an a b) := by
  rw [u, u, u32_and_nat _ _ a.toNat_lt b.toNat_lt, u, an, UInt32.toNat_and]
theorem u_or (a b : UInt32) : bits .or .u32 (u a) (u b) = u (oo a b) := by
  rw [u, u, u32_or_nat _ _ a.toNat_lt b.toNat_lt, u, oo, UInt32.toNat_or]
theorem u_add (a b : UInt32) : (u a + u b) % 4294967296 = u (ad a b) := by
  simp only [u, ad, UInt32.toNat_add]; omega
theorem u_lf (a : UInt32) (n : Nat) (h : n < 32) : u a * 2 ^ n % 4294967296 = u (lf a n) := by
  have hm : (UInt32.ofNat n).toNat = n := by rw [UInt32.toNat_ofNat']; omega
  simp only [u, lf, UInt32.toNat_shiftLeft, hm, Nat.mod_eq_of_lt h, Nat.shiftLeft_eq, Int.natCast_emod, Int.natCast_mul, Int.natCast_pow]
  rfl
theorem u_rt (a : UInt32) (n : Nat) (h : n < 32) : u a / 2 ^ n = u (rt a n) := by
  have hm : (UInt32.ofNat n).toNat = n := by rw [UInt32.toNat_ofNat']; omega
  simp only [u, rt, UInt32.toNat_shiftRight, hm, Nat.mod_eq_of_lt h, Nat.shiftRight_eq_div_pow, Int.natCast_ediv, Int.natCast_pow]
  rfl
theorem u_ub (c : UInt8) : (c.toNat : Int) = u (ub c) := by simp [u, ub]
theorem u_inj {a b : UInt32} (h : u a = u b) : a = b := UInt32.toNat_inj.1 (by unfold u at h; omega)
theorem andk (n : Int) (h0 : 1 ≤ n) (h1 : n ≤ 31) : bits BinOp.and IntKind.u64 (IntKind.u64.wrap (-n)) 31 = 32 - n := by
  obtain ⟨m, rfl⟩ := Int.eq_ofNat_of_zero_le (show 0 ≤ n by omega)
  have h : ∀ m : Nat, m < 32 → 1 ≤ m → bits BinOp.and IntKind.u64 (IntKind.u64.wrap (-(m : Int))) 31 = 32 - (m : Int) := by decide
  exact h m (by omega) (by omega)
/-- Cells of words and of bytes. -/
def U (x : UInt32) : Value := .int .u32 (u x)
def cU (l : List UInt32) : Array Value := (l.map U).toArray
def cB (l : List UInt8) : Array Value := (l.map B).toArray
theorem cU_size (l : List UInt32) : (cU l).size = l.length := by simp [cU]
theorem cB_size (l : List UInt8) : (cB l).size = l.length := by simp [cB]
theorem cU_get (l : List UInt32) (i : Nat) (h : i < l.length) : (cU l)[i]? = some (.int .u32 (u (l.getD i 0))) := by
  simp [cU, U, h]
theorem cB_get (l : List UInt8) (i : Nat) (h : i < l.length) : (cB l)[i]? = some (.int .u8 ((l.getD i 0).toNat : Int)) := by
  simp [cB, B, h]
theorem cU_set (l : List UInt32) (i : Nat) (x : UInt32) : (cU l).setIfInBounds i (.int .u32 (u x)) = cU (l.set i x) := by
  simp [cU, List.map_set, U]
theorem cB_set (l : List UInt8) (i : Nat) (x : UInt8) : (cB l).setIfInBounds i (.int .u8 (x.toNat : Int)) = cB (l.set i x) := by
  simp [cB, List.map_set, B]
end Go.Proofs.YtbeionikiiccpaaDoor
