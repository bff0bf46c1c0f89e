import Derived.Test.YthlacailhfhjnaaGreatDoorWdd
import Derived.Test.YthlacailhfhjnaaGreatDoorWcd
import Derived.Test.YthlacailhfhjnaaGreatDoorWcf
namespace Go.Proofs.YthlacailhfhjnaaGreatDoor
open Go.RowKit Go.Lib
def addv (n m : Int) : Int := if 2147483647 - n < m then 2147483648 else n + m
theorem addv_bd {n m : Int} (h0 : 0 ≤ n) (h1 : 0 ≤ m) (h2 : n ≤ 2147483648) : 0 ≤ addv n m ∧ addv n m ≤ 2147483648 := by
  unfold addv
  split <;> omega
theorem addv_le {n m : Int} (h : addv n m ≤ 2147483647) : n + m ≤ 2147483647 := by
  unfold addv at h
  split at h <;> omega
set_option maxHeartbeats 2000000 in
theorem add_any (n m : Int) (w : World) (h0 : 0 ≤ n) (h1 : 0 ≤ m) (h2 : n ≤ 2147483648) (h3 : m ≤ 9000000000000000000) : Calls Tryz.prog 8 #[.int .i64 n, .int .i64 m] w fun e w' => e = .returned (.int .i64 (addv n m)) ∧ w' = w := by
  unfold addv
  by_cases h : 2147483647 - n < m
  · rw [if_pos h]
    go_enter Tryz.func8, Tryz.ntmps8
    go_wp2
    go_ret
    exact ⟨rfl, rfl⟩
  · rw [if_neg h]
    go_enter Tryz.func8, Tryz.ntmps8
    go_wp2
    go_ret
    exact ⟨rfl, rfl⟩
def pkv (c : Int) (n : Nat) : Nat := ((if c < 0 then -(c + 1) else c) % n).toNat
theorem pkv_lt (c : Int) (n : Nat) (h : 0 < n) : pkv c n < n := by
  unfold pkv
  have h1 := Int.emod_lt_of_pos (if c < 0 then -(c + 1) else c) (show (0 : Int) < n by omega)
  have h2 := Int.emod_nonneg (if c < 0 then -(c + 1) else c) (show (n : Int) ≠ 0 by omega)
  omega
set_option maxHeartbeats 2000000 in
theorem pick_any (c : Int) (n : Nat) (w : World) (hn : 0 < n) (hn2 : n ≤ 9000000000000000000) (h1 : -9223372036854775808 ≤ c) (h2 : c ≤ 9223372036854775807) : Calls Tryz.prog 15 #[.int .i64 c, .int .i64 (n : Int)] w fun e w' => e = .returned (.int .i64 (pkv c n : Nat)) ∧ w' = w := by
  have hni : ¬ (n : Int) = 0 := by omega
  by_cases h : c < 0
  · have e : ((pkv c n : Nat) : Int) = Int.tmod (-(c + 1)) n := by
      unfold pkv
      rw [if_pos h, Int.tmod_eq_emod_of_nonneg (by omega)]
      have := Int.emod_nonneg (-(c + 1)) (show (n : Int) ≠ 0 by omega)
      omega
    have HE := hide e
    clear e
    go_enter Tryz.func15, Tryz.ntmps15
    go_wp2
    go_ret
    exact ⟨ret_int (by rw [unhide HE, Int.neg_tmod]), rfl⟩
  · have e : ((pkv c n : Nat) : Int) = c % n := by
      unfold pkv
      rw [if_neg h]
      have := Int.emod_nonneg c (show (n : Int) ≠ 0 by omega)
      omega
    have HE := hide e
    clear e
    go_enter Tryz.func15, Tryz.ntmps15
    go_wp2
    go_ret
    exact ⟨ret_int (unhide HE).symm, rfl⟩
set_option maxHeartbeats 2000000 in
theorem cut4_any (s : Bs) (w : World) (hs : s.length ≤ 9223372036854775807) : Calls Tryz.prog 41 #[S s, .int .i64 4000] w fun e w' => e = .returned (S (s.take 4000)) ∧ w' = w := by
  by_cases h : 4000 < s.length
  · have h' : (4000 : Int) < (s.length : Int) := by omega
    have h'' : (4000 : Int) ≤ (s.length : Int) := by omega
    have HX : Hid ((ByteArray.mk s.toArray).extract 0 4000 = ⟨(s.take 4000).toArray⟩) := hide (by rw [extract_eq]; simp)
    go_enter Tryz.func41, Tryz.ntmps41
    go_wp2
    go_ret
    exact ⟨by show Ending.returned (.string ((ByteArray.mk s.toArray).extract 0 4000)) = _; rw [unhide HX], rfl⟩
  · have h' : ¬ (4000 : Int) < (s.length : Int) := by omega
    have HX := hide (List.take_of_length_le (show s.length ≤ 4000 by omega))
    go_enter Tryz.func41, Tryz.ntmps41
    go_wp2
    go_ret
    exact ⟨by rw [unhide HX]; rfl, rfl⟩
end Go.Proofs.YthlacailhfhjnaaGreatDoor
