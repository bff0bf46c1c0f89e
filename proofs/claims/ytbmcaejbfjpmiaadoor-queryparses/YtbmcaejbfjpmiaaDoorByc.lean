import Derived.Test.YtbmcaejbfjpmiaaDoorBase
import Derived.Test.YtbmcaejbfjpmiaaDoorPurc
namespace Go.Proofs.YtbmcaejbfjpmiaaDoor
open Go.RowKit Go.Lib

set_option maxHeartbeats 4000000 in
theorem digit_any (c : UInt8) (w : World) : Calls Tryd.prog 37 #[.int .u8 (c.toNat : Int)] w fun e w' => e = .returned (.int .i64 (dg c)) ∧ w' = w := by
  have hlt := c.toNat_lt
  unfold dg
  generalize c.toNat = n at *
  have hb : ∀ {a : Int}, a = (if 48 ≤ n ∧ n ≤ 57 then (n : Int) - 48 else if 97 ≤ n ∧ n ≤ 102 then (n : Int) - 87 else if 65 ≤ n ∧ n ≤ 70 then (n : Int) - 55 else -1) → (Ending.returned (.int .i64 a) = .returned (.int .i64 (if 48 ≤ n ∧ n ≤ 57 then (n : Int) - 48 else if 97 ≤ n ∧ n ≤ 102 then (n : Int) - 87 else if 65 ≤ n ∧ n ≤ 70 then (n : Int) - 55 else -1))) := fun h => by rw [h]
  generalize hq : (if 48 ≤ n ∧ n ≤ 57 then (n : Int) - 48 else if 97 ≤ n ∧ n ≤ 102 then (n : Int) - 87 else if 65 ≤ n ∧ n ≤ 70 then (n : Int) - 55 else -1) = Q at *
  have HQ := hide hq
  clear hq
  go_enter Tryd.func37, Tryd.ntmps37
  rcases (by omega : (48 ≤ n ∧ n ≤ 57) ∨ (97 ≤ n ∧ n ≤ 102) ∨ (65 ≤ n ∧ n ≤ 70) ∨ n < 48 ∨ (57 < n ∧ n < 65) ∨ (70 < n ∧ n < 97) ∨ 102 < n) with h | h | h | h | h | h | h
  all_goals
    go_wp2
    go_ret
    refine ⟨hb ?_, rfl⟩
    rw [← unhide HQ]
    repeat' split
    all_goals omega
theorem liteIndexByte_any (A : List UInt8) (c : UInt8) (w : World) :
    Calls Tryd.prog 49 #[.string ⟨A.toArray⟩, .int .u8 (c.toNat : Int)] w fun e w' => e = .returned (.int .i64 (indexByte A c)) ∧ w' = w := by
  go_enter Tryd.func49, Tryd.ntmps49
  go_wp2
  rw [run_callFunc_extern Tryd.func53 (by kernel_rfl) (by kernel_rfl) (by kernel_rfl) (e := Extern.BytealgIndexByte.indexByte) (by kernel_rfl), Lib.run_indexByteString]
  simp only [Result.andThen]
  rw [Oper.upon_value]
  go_wp2
  go_ret
  refine ⟨?_, rfl⟩
  simp
theorem indexByte_any (A : List UInt8) (c : UInt8) (w : World) :
    Calls Tryd.prog 48 #[.string ⟨A.toArray⟩, .int .u8 (c.toNat : Int)] w fun e w' => e = .returned (.int .i64 (indexByte A c)) ∧ w' = w := by
  go_enter Tryd.func48, Tryd.ntmps48
  go_wp2_with (go_at_call 49; refine (liteIndexByte_any A c _).mono ?_; rintro e w' ⟨rfl, rfl⟩)
  go_ret
  exact ⟨rfl, rfl⟩
theorem low_nat (c : UInt8) : ((low c).toNat : Int) = if 97 ≤ c.toNat ∧ c.toNat ≤ 102 then (c.toNat : Int) - 32 else c.toNat := by
  unfold low
  split
  · have : (UInt8.ofNat (c.toNat - 32)).toNat = c.toNat - 32 := by
      simp
      have := c.toNat_lt
      omega
    rw [this]
    omega
  · rfl
set_option maxHeartbeats 4000000 in
theorem worth_any (c : UInt8) (w : World) : Calls Tryd.prog 44 #[.int .u8 (c.toNat : Int)] w fun e w' => e = .returned (.int .i64 (dg c)) ∧ w' = w := by
  have hlt := c.toNat_lt
  have hl := low_nat c
  have HI := hide (indexByte_any hexs (low c) w)
  rw [worth_dg] at HI
  go_enter Tryd.func44, Tryd.ntmps44
  rcases (by omega : (97 ≤ c.toNat ∧ c.toNat ≤ 102) ∨ c.toNat < 97 ∨ 102 < c.toNat) with h | h | h
  · rw [if_pos (by omega)] at hl
    rw [hl] at HI
    clear hl
    go_wp2_with (go_at_call 48; refine (unhide HI).mono ?_; rintro e w' ⟨rfl, rfl⟩)
    go_ret
    exact ⟨rfl, rfl⟩
  · rw [if_neg (by omega)] at hl
    rw [hl] at HI
    clear hl
    go_wp2_with (go_at_call 48; refine (unhide HI).mono ?_; rintro e w' ⟨rfl, rfl⟩)
    go_ret
    exact ⟨rfl, rfl⟩
  · rw [if_neg (by omega)] at hl
    rw [hl] at HI
    clear hl
    go_wp2_with (go_at_call 48; refine (unhide HI).mono ?_; rintro e w' ⟨rfl, rfl⟩)
    go_ret
    exact ⟨rfl, rfl⟩
end Go.Proofs.YtbmcaejbfjpmiaaDoor
