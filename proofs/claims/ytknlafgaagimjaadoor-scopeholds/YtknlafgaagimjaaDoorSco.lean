import Derived.Test.YtknlafgaagimjaaDoorScn
namespace Go.Proofs.YtknlafgaagimjaaDoor
open Go.RowKit Go.Lib
def ads (n m : Nat) : Nat := if n ≤ 2147483647 ∧ m ≤ 2147483647 then n + m else 2147483648
theorem ads_any (n m : Nat) (hn : n ≤ 9223372036854775807) (hm : m ≤ 9223372036854775807) (w : World) : Calls Tryd.prog 8 #[.int .i64 (n : Int), .int .i64 (m : Int)] w fun e w' => e = .returned (.int .i64 (ads n m : Int)) ∧ w' = w := addsUp_any n m hn hm w
theorem ads_bd (n m : Nat) : ads n m ≤ 4294967294 := by unfold ads; split <;> omega
theorem ads_le {n m : Nat} (h : ads n m ≤ 2147483647) : n ≤ 2147483647 ∧ m ≤ 2147483647 ∧ ads n m = n + m := by
  unfold ads at h ⊢
  split
  · rename_i q; exact ⟨q.1, q.2, rfl⟩
  · rename_i q; rw [if_neg q] at h; omega
def lsum : List Bs → Nat
  | [] => 0
  | x :: r => x.length + lsum r
theorem lsum_append (u v : List Bs) : lsum (u ++ v) = lsum u + lsum v := by
  induction u with
  | nil => simp [lsum]
  | cons a r ih => simp [lsum, ih]; omega
theorem lsum_step (l : List Bs) (k : Nat) (h : k < l.length) : lsum (l.take (k + 1)) = lsum (l.take k) + (l.getD k []).length := by
  rw [take_snoc l k h, lsum_append]
  simp [lsum, h]
theorem lsum_mem {l : List Bs} {x : Bs} (h : x ∈ l) : x.length ≤ lsum l := by
  induction l with
  | nil => simp at h
  | cons a r ih =>
    rcases List.mem_cons.1 h with q | q
    · subst q; simp [lsum]
    · have := ih q; simp [lsum]; omega
set_option maxHeartbeats 4000000 in
set_option maxRecDepth 8000 in
theorem weighs_any (a : Option Addr) (n cap : Nat) (l : List Bs) (w : World) (hp : Sts w a n l) (hn : n ≤ 9223372036854775806) (hL : Lns l) :
    Calls Tryd.prog 14 #[.slice a n cap] w fun e w' => ∃ r : Nat, e = .returned (.int .i64 r) ∧ r ≤ 4294967294 ∧ (r ≤ 2147483647 → r = n + lsum l) ∧ w' = w := by
  have HN := hide hp.1
  have HP := hide hp
  have HA := hide (ads_any 0 n (by omega) (by omega) w)
  have hA0 := ads_bd 0 n
  have hA1 := @ads_le 0 n
  rw [show ((0 : Nat) : Int) = 0 from rfl] at HA
  generalize ads 0 n = A at *
  clear hp
  go_enter Tryd.func14, Tryd.ntmps14
  go_wp2_with fail
  refine (unhide HA).mono ?_
  rintro e w' ⟨rfl, rfl⟩
  clear HA
  go_wp2
  go_loop [3, 4] (fun c i => ∃ (k r : Nat), k ≤ n ∧ i = .int .i64 k ∧ c = .int .i64 r ∧ r ≤ 4294967294 ∧ (r ≤ 2147483647 → r = n + lsum (l.take k))) (fun _ i => n - (Go.RowKit.intOf i).toNat)
  case atStart => exact ⟨0, A, by omega, rfl, rfl, hA0, fun h => by have := (hA1 h).2.2; simp [lsum]; omega⟩
  case round =>
    obtain ⟨k, r, hk, rfl, rfl, hr0, hr⟩ := hrel
    clear hA0 hA1
    by_cases hlt : k < n
    · by_cases hm : r ≤ 2147483647
      · obtain ⟨p, o, rfl, _, hc0⟩ := (unhide HP).at hlt
        have hsa := hide (lsum_step l k (by have := unhide HN; omega))
        have hX := hL k
        have hr' := hide (hr hm)
        generalize l.getD k [] = x at *
        have A1 := hide (fun W => ads_any r x.length (by omega) (by omega) W)
        have hb1 := ads_bd r x.length
        have hl1 := hide (@ads_le r x.length)
        generalize ads r x.length = D at *
        have hlt' : (k : Int) < (n : Int) := by omega
        have hm' : decide ((r : Int) ≤ 2147483647) = true := by rw [decide_eq_true_eq]; omega
        clear hr
        go_wp2_with (first | (go_at_call 8; refine (unhide A1 _).mono ?_; rintro e w2 ⟨rfl, rfl⟩))
        go_round
        case rel =>
          refine ⟨k + 1, D, by omega, by go_num, rfl, hb1, fun h => ?_⟩
          have h1 := (unhide hl1 h).2.2
          rw [unhide hsa]
          have := unhide hr'
          omega
        case measure => simp [Go.RowKit.intOf]; omega
      · have hm' : decide ((r : Int) ≤ 2147483647) = false := by rw [decide_eq_false_iff_not]; omega
        have hlt' : (k : Int) < (n : Int) := by omega
        go_wp2
        go_ret
        exact ⟨r, rfl, hr0, fun h => by omega, rfl⟩
    · have hd : ¬ (k : Int) < (n : Int) := by omega
      have HR := hide hr
      clear hr
      go_wp2
      go_ret
      refine ⟨r, rfl, hr0, fun h => ?_, rfl⟩
      have h1 := unhide HR h
      rw [List.take_of_length_le (by have := unhide HN; omega)] at h1
      omega
end Go.Proofs.YtknlafgaagimjaaDoor
