import Derived.Test.YtfaahjbkdlkmjaaDoorJec
import Derived.Laws.BitsLemmas
/- Jot: digits of sixteen. -/
namespace Go.Proofs.YtfaahjbkdlkmjaaDoor
open Go Go.RowKit Go.Lib
set_option linter.unusedVariables false
set_option linter.unusedSimpArgs false
def hexs : Bs := [48, 49, 50, 51, 52, 53, 54, 55, 56, 57, 97, 98, 99, 100, 101, 102]
theorem wth_up : ∀ c : UInt8, 65 ≤ c.toNat → c.toNat ≤ 70 → indexByte hexs ((c.toNat : Int) + 32).toNat.toUInt8 = wth c := all_u8 (by decide +kernel)
theorem wth_low : ∀ c : UInt8, ¬ (65 ≤ c.toNat ∧ c.toNat ≤ 70) → indexByte hexs (c.toNat : Int).toNat.toUInt8 = wth c := all_u8 (by decide +kernel)
theorem worth_any (c : UInt8) (w : World) : Calls Tryd.prog 87 #[.int .u8 (c.toNat : Int)] w fun e w' => e = .returned (I (wth c)) ∧ w' = w := by
  have hc := c.toNat_lt
  by_cases h1 : 65 ≤ c.toNat ∧ c.toNat ≤ 70
  · have HI := hide (Tryd.strings_IndexByte ⟨hexs.toArray⟩ ((c.toNat : Int) + 32) w)
    rw [show (⟨hexs.toArray⟩ : ByteArray).data.toList = hexs from rfl, wth_up c h1.1 h1.2] at HI
    obtain ⟨h1, h2⟩ := h1
    generalize wth c = v at *
    generalize c.toNat = n at *
    have i1 : (65 : Int) ≤ (n : Int) := by omega
    have i2 : (n : Int) ≤ 70 := by omega
    go_enter Tryd.func87, Tryd.ntmps87
    go_wp2_with fail
    refine (unhide HI).mono ?_
    rintro e w1 ⟨rfl, hw⟩
    rw [hw]
    clear hw
    go_wp2_with fail
    go_ret
    exact ⟨rfl, rfl⟩
  · have HI := hide (Tryd.strings_IndexByte ⟨hexs.toArray⟩ (c.toNat : Int) w)
    rw [show (⟨hexs.toArray⟩ : ByteArray).data.toList = hexs from rfl, wth_low c h1] at HI
    generalize wth c = v at *
    generalize c.toNat = n at *
    by_cases h2 : 65 ≤ n
    · have i1 : (65 : Int) ≤ (n : Int) := by omega
      have i2 : ¬ (n : Int) ≤ 70 := by omega
      clear h1
      go_enter Tryd.func87, Tryd.ntmps87
      go_wp2_with fail
      refine (unhide HI).mono ?_
      rintro e w1 ⟨rfl, hw⟩
      rw [hw]
      clear hw
      go_wp2_with fail
      go_ret
      exact ⟨rfl, rfl⟩
    · have i1 : ¬ (65 : Int) ≤ (n : Int) := by omega
      clear h1
      go_enter Tryd.func87, Tryd.ntmps87
      go_wp2_with fail
      refine (unhide HI).mono ?_
      rintro e w1 ⟨rfl, hw⟩
      rw [hw]
      clear hw
      go_wp2_with fail
      go_ret
      exact ⟨rfl, rfl⟩
theorem i32_or_nat (a b : Nat) (ha : a < 2147483648) (hb : b < 2147483648) : bits .or .i32 (a : Int) (b : Int) = ((a ||| b : Nat) : Int) := by
  have h1 : BitVec.ofInt 32 (a : Int) = BitVec.ofNat 32 a := by simp
  have h2 : BitVec.ofInt 32 (b : Int) = BitVec.ofNat 32 b := by simp
  have hb' : bits .or .i32 (a : Int) (b : Int) = IntKind.i32.wrap (((BitVec.ofInt 32 (a : Int)) ||| (BitVec.ofInt 32 (b : Int))).toNat : Int) := rfl
  have hlt : a ||| b < 2147483648 := Nat.or_lt_two_pow (n := 31) ha hb
  rw [hb', h1, h2, BitVec.toNat_or, BitVec.toNat_ofNat, BitVec.toNat_ofNat, Nat.mod_eq_of_lt (by omega), Nat.mod_eq_of_lt (by omega), IntKind.wrap_i32]
  omega
theorem or16 (a d : Nat) (ha : a < 65536) (hd : d < 16) : bits .or .i32 ((a * 16 : Nat) : Int) (d : Int) = ((a * 16 + d : Nat) : Int) := by
  rw [i32_or_nat _ _ (by omega) (by omega)]
  have := Nat.two_pow_add_eq_or_of_lt (i := 4) (by omega : d < 2 ^ 4) a
  have e : (2 ^ 4 * a : Nat) = a * 16 := by omega
  rw [e] at this
  rw [this]
theorem run_shl4 (a : Nat) (ha : a < 65536) (W : World) : (binOp .shl 21 (.int .i32 (a : Int)) (.int .u64 4)).run Tryd.prog W = .ok (.int .i32 ((a * 16 : Nat) : Int)) W := by
  simp [binOp, go_sem]
  rw [IntKind.wrap_i32]
  omega
theorem run_or (a d : Nat) (ha : a < 65536) (hd : d < 16) (W : World) : (binOp .or 21 (.int .i32 ((a * 16 : Nat) : Int)) (.int .i32 (d : Int))).run Tryd.prog W = .ok (.int .i32 ((a * 16 + d : Nat) : Int)) W := by
  rw [← or16 a d ha hd]
  rfl
end Go.Proofs.YtfaahjbkdlkmjaaDoor
