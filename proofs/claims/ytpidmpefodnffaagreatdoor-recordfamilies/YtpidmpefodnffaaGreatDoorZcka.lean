import Derived.Test.YtpidmpefodnffaaGreatDoorDsa
import Derived.WalkKit
import Derived.Laws.EntriesVeiled
namespace Go.Proofs.YtpidmpefodnffaaGreatDoor
open Go.RowKit
/-- The nearest time. -/
def nr (n : Int) : Int := if n < 0 then 0 else if 1099511627776 < n then 1099511627776 else n
def st (n : Int) : Int := if n < -1099511627776 then -1099511627776 else if 1099511627776 < n then 1099511627776 else n
def addv (t d : Int) : Int := nr (nr t + st d)
theorem nr_b (n : Int) : 0 ≤ nr n ∧ nr n ≤ 1099511627776 := by unfold nr; split; omega; split <;> omega
theorem st_b (n : Int) : -1099511627776 ≤ st n ∧ st n ≤ 1099511627776 := by unfold st; split; omega; split <;> omega
set_option maxHeartbeats 2000000
theorem nearest_any (n : Int) (w : World) : Calls Tryz.prog 145 #[I n] w fun e w' => e = .returned (I (nr n)) ∧ w' = w := by
  go_enter Tryz.func145, Tryz.ntmps145
  go_wp2
  all_goals go_ret
  all_goals refine ⟨ret_int ?_, rfl⟩
  all_goals (unfold nr; repeat' split)
  all_goals first | rfl | omega
theorem step_any (n : Int) (w : World) : Calls Tryz.prog 146 #[I n] w fun e w' => e = .returned (I (st n)) ∧ w' = w := by
  go_enter Tryz.func146, Tryz.ntmps146
  go_wp2
  all_goals go_ret
  all_goals refine ⟨ret_int ?_, rfl⟩
  all_goals (unfold st; repeat' split)
  all_goals first | rfl | omega
end Go.Proofs.YtpidmpefodnffaaGreatDoor
namespace Go.Proofs.YtpidmpefodnffaaGreatDoor
open Go.RowKit
set_option maxHeartbeats 2000000
theorem cadd_any (t d : Int) (w : World) : Calls Tryz.prog 83 #[I t, I d] w fun e w' => e = .returned (I (addv t d)) ∧ w' = w := by
  have b1 := nr_b t
  have b2 := st_b d
  have H1 := hide (fun W => nearest_any t W)
  have H2 := hide (fun W => step_any d W)
  have H3 := hide (fun W => nearest_any (nr t + st d) W)
  unfold addv
  generalize nr t = x at *
  generalize st d = y at *
  go_enter Tryz.func83, Tryz.ntmps83
  go_wp2_with fail
  refine (unhide H1 _).mono ?_
  rintro e w' ⟨rfl, rfl⟩
  go_wp2_with fail
  refine (unhide H2 _).mono ?_
  rintro e w' ⟨rfl, rfl⟩
  go_wp2_with fail
  refine (unhide H3 _).mono ?_
  rintro e w' ⟨rfl, rfl⟩
  go_wp2
  go_ret
  exact ⟨rfl, rfl⟩
end Go.Proofs.YtpidmpefodnffaaGreatDoor
namespace Go.Proofs.YtpidmpefodnffaaGreatDoor
open Go.RowKit
set_option maxHeartbeats 4000000
set_option maxRecDepth 8000
/-- Numbers in memory. -/
def Ns (w : World) (a : Option Addr) (n : Nat) (l : List Int) : Prop :=
  n = l.length ∧ (0 < n → ∃ p o, a = some ⟨p, o, none⟩ ∧ ∀ j, j < n → w.cell? ⟨p, o + j, none⟩ = some (I (l.getD j 0)))
theorem Ns.at {w : World} {a : Option Addr} {n : Nat} {l : List Int} (h : Ns w a n l) {j : Nat} (hj : j < n) : ∃ p o, a = some ⟨p, o, none⟩ ∧ p < w.heap.size ∧ w.cell? ⟨p, o + j, none⟩ = some (I (l.getD j 0)) := by
  obtain ⟨p, o, e, hc⟩ := h.2 (by omega)
  exact ⟨p, o, e, block_lt_of_cell (hc j hj), hc j hj⟩
def mn (m t : Int) : Int := if nr t < m then nr t else m
def firstv (l : List Int) : Int := l.foldl mn 1099511627776
theorem fold_b (l : List Int) : ∀ m : Int, 0 ≤ m → m ≤ 1099511627776 → 0 ≤ l.foldl mn m ∧ l.foldl mn m ≤ 1099511627776 := by
  induction l with
  | nil => intro m h1 h2; exact ⟨h1, h2⟩
  | cons x l ih =>
    intro m h1 h2
    have := nr_b x
    refine ih _ ?_ ?_ <;> (unfold mn; split <;> omega)
theorem first_b (l : List Int) : 0 ≤ firstv l ∧ firstv l ≤ 1099511627776 := fold_b l _ (by omega) (by omega)
theorem first_next (l : List Int) (k : Nat) (h : k < l.length) : firstv (l.take (k + 1)) = mn (firstv (l.take k)) (l.getD k 0) := by
  unfold firstv
  rw [List.take_succ_eq_append_getElem h, List.foldl_append]
  simp [h]
theorem first_any (a : Option Addr) (n cap : Nat) (l : List Int) (w : World) (hp : Ns w a n l) (hn : n ≤ 9223372036854775806) : Calls Tryz.prog 82 #[.slice a n cap] w fun e w' => e = .returned (I (firstv l)) ∧ w' = w := by
  have HP := hide hp
  have HN := hide hp.1
  clear hp
  go_enter Tryz.func82, Tryz.ntmps82
  go_wp2
  go_loopw [3, 8] (fun m i wr => ∃ k : Nat, k ≤ n ∧ i = .int .i64 k ∧ m = I (firstv (l.take k)) ∧ wr = w) (fun _ i _ => n - (intOf i).toNat)
  case atStart => exact ⟨0, by omega, rfl, rfl, rfl⟩
  case round =>
    obtain ⟨k, hkn, rfl, rfl, rfl⟩ := hrel
    by_cases hlt : k < n
    · obtain ⟨p, o, rfl, hpl, hc1⟩ := (unhide HP).at hlt
      have hnx := hide (first_next l k (by have := unhide HN; omega))
      have HQ := hide (fun W => nearest_any (l.getD k 0) W)
      have hb := first_b (l.take k)
      generalize l.getD k 0 = X at *
      generalize firstv (l.take k) = C at *
      have hb2 := nr_b X
      unfold mn at hnx
      generalize nr X = Y at *
      go_wp2_with (refine (unhide HQ _).mono ?_; rintro e w' ⟨rfl, rfl⟩)
      all_goals go_roundw
      all_goals first | (simp [intOf]; omega) | skip
      all_goals
        refine ⟨k + 1, by omega, by go_num, ?_, trivial⟩
        show I _ = I _
        refine congrArg I ?_
        refine Eq.trans ?_ (unhide hnx).symm
        repeat' split
        all_goals omega
    · have e : l.take k = l := List.take_of_length_le (by have := unhide HN; omega)
      rw [e]
      have hklt : ¬ (k : Int) < (n : Int) := by omega
      go_wp2
      go_ret
      exact ⟨rfl, rfl⟩
end Go.Proofs.YtpidmpefodnffaaGreatDoor
