import Derived.Test.YtfaahjbkdlkmjaaDoorJbb
import Derived.BigQuiet
import Derived.RegionTactic
/- Jot: what stands for a byte. -/
namespace Go.Proofs.YtfaahjbkdlkmjaaDoor
open Go Go.RowKit Go.Lib
set_option linter.unusedVariables false
set_option linter.unusedSimpArgs false
theorem ret_S {a b : Bs} (h : a = b) : Ending.returned (S a) = .returned (S b) := by rw [h]
set_option maxHeartbeats 4000000 in
set_option maxRecDepth 20000 in
theorem instead_any (c : UInt8) (w : World) : Calls Tryd.prog 38 #[.int .u8 (c.toNat : Int)] w fun e w' => e = .returned (S (ins c)) ∧ ∃ q, w' = w.drewN q := by
  have hc := c.toNat_lt
  obtain ⟨n, hn⟩ : ∃ n, c.toNat = n := ⟨_, rfl⟩
  have hcn : c = UInt8.ofNat n := by rw [← hn]; simp
  rw [hcn]
  have hn2 : (UInt8.ofNat n).toNat = n := by rw [← hcn, hn]
  rw [hn2]
  rw [hn] at hc
  clear hn hcn hn2
  by_cases hlt : n < 32
  · have key : ∀ m : Nat, m < 32 → True := fun _ _ => trivial
    have h32 : (n : Int) < 32 := by omega
    have h34 : ¬ (n : Int) = 34 := by omega
    have h92 : ¬ (n : Int) = 92 := by omega
    by_cases h8 : n = 8
    · subst h8; go_enter Tryd.func38, Tryd.ntmps38; go_wp2; go_ret; exact ⟨rfl, 0, rfl⟩
    by_cases h9 : n = 9
    · subst h9; go_enter Tryd.func38, Tryd.ntmps38; go_wp2; go_ret; exact ⟨rfl, 0, rfl⟩
    by_cases h10 : n = 10
    · subst h10; go_enter Tryd.func38, Tryd.ntmps38; go_wp2; go_ret; exact ⟨rfl, 0, rfl⟩
    by_cases h12 : n = 12
    · subst h12; go_enter Tryd.func38, Tryd.ntmps38; go_wp2; go_ret; exact ⟨rfl, 0, rfl⟩
    by_cases h13 : n = 13
    · subst h13; go_enter Tryd.func38, Tryd.ntmps38; go_wp2; go_ret; exact ⟨rfl, 0, rfl⟩
    have h : n = 0 ∨ n = 1 ∨ n = 2 ∨ n = 3 ∨ n = 4 ∨ n = 5 ∨ n = 6 ∨ n = 7 ∨ n = 11 ∨ n = 14 ∨ n = 15 ∨ n = 16 ∨ n = 17 ∨ n = 18 ∨ n = 19 ∨ n = 20 ∨ n = 21 ∨ n = 22 ∨ n = 23 ∨ n = 24 ∨ n = 25 ∨ n = 26 ∨ n = 27 ∨ n = 28 ∨ n = 29 ∨ n = 30 ∨ n = 31 := by omega
    clear h32 h34 h92 h8 h9 h10 h12 h13 hlt hc key
    rcases h with rfl | rfl | rfl | rfl | rfl | rfl | rfl | rfl | rfl | rfl | rfl | rfl | rfl | rfl | rfl | rfl | rfl | rfl | rfl | rfl | rfl | rfl | rfl | rfl | rfl | rfl | rfl
    all_goals
      go_enter Tryd.func38, Tryd.ntmps38
      go_upto_region 17 with fail
      go_quiet (fail)
      go_wp2
      go_ret
      exact ⟨rfl, nq, rfl⟩
  · have h32 : ¬ (n : Int) < 32 := by omega
    by_cases h34 : n = 34
    · subst h34; go_enter Tryd.func38, Tryd.ntmps38; go_wp2; go_ret; exact ⟨rfl, 0, rfl⟩
    by_cases h92 : n = 92
    · subst h92; go_enter Tryd.func38, Tryd.ntmps38; go_wp2; go_ret; exact ⟨rfl, 0, rfl⟩
    have j34 : ¬ (n : Int) = 34 := by omega
    have j92 : ¬ (n : Int) = 92 := by omega
    have i8 : ¬ (n : Int) = 8 := by omega
    have i9 : ¬ (n : Int) = 9 := by omega
    have i10 : ¬ (n : Int) = 10 := by omega
    have i12 : ¬ (n : Int) = 12 := by omega
    have i13 : ¬ (n : Int) = 13 := by omega
    have he : ins (UInt8.ofNat n) = [] := by
      have q : ∀ m : Fin 256, ¬ m.val < 32 → m.val ≠ 34 → m.val ≠ 92 → ins (UInt8.ofNat m.val) = [] := by decide +kernel
      exact q ⟨n, hc⟩ hlt h34 h92
    rw [he]
    go_enter Tryd.func38, Tryd.ntmps38
    go_wp2
    go_ret
    exact ⟨rfl, 0, rfl⟩
end Go.Proofs.YtfaahjbkdlkmjaaDoor
