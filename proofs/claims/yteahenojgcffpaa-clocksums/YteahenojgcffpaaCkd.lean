import Derived.Test.YteahenojgcffpaaCkc
import Derived.Laws.CopyRow
import Derived.Laws.MakeOwn
namespace Go.Proofs.Yteahenojgcffpaa
open Go.RowKit
set_option maxHeartbeats 4000000
set_option maxRecDepth 8000
theorem awake_any (w : World) : Calls Try.prog 7 #[] w fun e w' => e = .returned (.bool true) ∧ Below w.heap.size w w' := by
  have H0 := hide (new_any 5 w)
  have HA := hide (fun W => add_any 10 5 W)
  have HL := hide (fun W => left_any 3 10 W)
  have HW := hide (fun W => within_any 10 10 1 W)
  have e1 : addv 10 5 = 15 := by decide
  have e2 : leftv 3 10 = 7 := by decide
  have e3 : inv 10 10 1 = true := by decide
  have e5 : nr 5 = 5 := by decide
  rw [e1] at HA
  rw [e2] at HL
  rw [e3] at HW
  rw [e5] at H0
  clear e1 e2 e3 e5
  go_enter Try.func7, Try.ntmps7
  go_wp2_with fail
  refine (unhide H0).mono ?_
  rintro e w1 ⟨rfl, c1, b1⟩
  have S1 := hide (see_any w.heap.size 5 9 w1 c1)
  have e1 : mx 5 9 = 9 := by decide
  rw [e1] at S1
  have B1 := hide b1
  clear b1 c1 e1
  go_wp2_with fail
  refine (unhide S1).mono ?_
  rintro e w2 ⟨rfl, c2, o2⟩
  have B2 := hide (o2.below (unhide B1) (unhide B1).size (fun k e => by omega))
  have S2 := hide (see_any w.heap.size 9 7 w2 c2)
  have e1 : mx 9 7 = 9 := by decide
  rw [e1] at S2
  clear e1 c2 o2
  go_wp2_with fail
  refine (unhide S2).mono ?_
  rintro e w3 ⟨rfl, c3, o3⟩
  have B3 := hide (o3.below (unhide B2) (unhide B2).size (fun k e => by omega))
  clear c3 o3
  go_wp2_with fail
  refine (unhide HA _).mono ?_
  rintro e w4 ⟨rfl, rfl⟩
  go_wp2_with fail
  refine (unhide HL _).mono ?_
  rintro e w4 ⟨rfl, rfl⟩
  go_wp2_with fail
  refine (unhide HW _).mono ?_
  rintro e w4 ⟨rfl, rfl⟩
  go_wp2
  go_ret
  exact ⟨rfl, unhide B3⟩
/-- Numbers in memory. -/
def Ns (w : World) (a : Option Addr) (n : Nat) (l : List Int) : Prop :=
  n = l.length ∧ (0 < n → ∃ p o, a = some ⟨p, o, none⟩ ∧ ∀ j, j < n → w.cell? ⟨p, o + j, none⟩ = some (I (l.getD j 0)))
theorem blk_lt {w : World} {p o : Nat} {v : Value} (h : w.cell? ⟨p, o, none⟩ = some v) : p < w.heap.size := block_lt_of_cell h
theorem Ns.at {w : World} {a : Option Addr} {n : Nat} {l : List Int} (h : Ns w a n l) {j : Nat} (hj : j < n) : ∃ p o, a = some ⟨p, o, none⟩ ∧ p < w.heap.size ∧ w.cell? ⟨p, o + j, none⟩ = some (I (l.getD j 0)) := by
  obtain ⟨p, o, e, hc⟩ := h.2 (by omega)
  exact ⟨p, o, e, blk_lt (hc j hj), hc j hj⟩
theorem Ns.below {w w' : World} {a : Option Addr} {n : Nat} {l : List Int} (h : Ns w a n l) (hb : Below w.heap.size w w') : Ns w' a n l := by
  refine ⟨h.1, fun hn => ?_⟩
  obtain ⟨p, o, e, hc⟩ := h.2 hn
  exact ⟨p, o, e, fun j hj => (hb.cell (by exact blk_lt (hc j hj))).trans (hc j hj)⟩
def mn (m t : Int) : Int := if nr t < m then nr t else m
def firstv (l : List Int) : Int := l.foldl mn 1099511627776
theorem fold_b (l : List Int) : ∀ m : Int, 0 ≤ m → m ≤ 1099511627776 → 0 ≤ l.foldl mn m ∧ l.foldl mn m ≤ 1099511627776 := by
  induction l with
  | nil => intro m h1 h2; exact ⟨h1, h2⟩
  | cons x l ih =>
    intro m h1 h2
    have := nr_b x
    refine ih _ ?_ ?_ <;> (unfold mn; split <;> omega)
theorem first_b (l : List Int) : 0 ≤ firstv l ∧ firstv l ≤ 1099511627776 := fold_b l _ (by omega) (by omega)
theorem first_next (l : List Int) (k : Nat) (h : k < l.length) : firstv (l.take (k + 1)) = mn (firstv (l.take k)) (l.getD k 0) := by
  unfold firstv
  rw [List.take_succ_eq_append_getElem h, List.foldl_append]
  simp [h]
theorem first_any (a : Option Addr) (n cap : Nat) (l : List Int) (w : World) (hp : Ns w a n l) (hn : n ≤ 9223372036854775806) : Calls Try.prog 15 #[.slice a n cap] w fun e w' => e = .returned (I (firstv l)) ∧ w' = w := by
  have HP := hide hp
  have HN := hide hp.1
  clear hp
  go_enter Try.func15, Try.ntmps15
  go_wp2
  go_loopw [3, 8] (fun m i wr => ∃ k : Nat, k ≤ n ∧ i = .int .i64 k ∧ m = I (firstv (l.take k)) ∧ wr = w) (fun _ i _ => n - (intOf i).toNat)
  case atStart => exact ⟨0, by omega, rfl, rfl, rfl⟩
  case round =>
    obtain ⟨k, hkn, rfl, rfl, rfl⟩ := hrel
    by_cases hlt : k < n
    · obtain ⟨p, o, rfl, hpl, hc1⟩ := (unhide HP).at hlt
      have hnx := hide (first_next l k (by have := unhide HN; omega))
      have HQ := hide (fun W => nearest_any (l.getD k 0) W)
      have hb := first_b (l.take k)
      generalize l.getD k 0 = X at *
      generalize firstv (l.take k) = C at *
      have hb2 := nr_b X
      unfold mn at hnx
      generalize nr X = Y at *
      go_wp2_with (refine (unhide HQ _).mono ?_; rintro e w' ⟨rfl, rfl⟩)
      all_goals go_roundw
      all_goals first | (simp [intOf]; omega) | skip
      all_goals
        refine ⟨k + 1, by omega, by go_num, ?_, trivial⟩
        show I _ = I _
        refine congrArg I ?_
        refine Eq.trans ?_ (unhide hnx).symm
        repeat' split
        all_goals omega
    · have e : l.take k = l := List.take_of_length_le (by have := unhide HN; omega)
      rw [e]
      have hklt : ¬ (k : Int) < (n : Int) := by omega
      go_wp2
      go_ret
      exact ⟨rfl, rfl⟩
theorem refFirst_any (a : Option Addr) (n cap : Nat) (l : List Int) (w : World) (hp : Ns w a n l) (hn : n ≤ 9223372036854775806) : Calls Try.prog 17 #[.slice a n cap] w fun e w' => e = .returned (I (firstv l)) ∧ w' = w := by
  have HP := hide hp
  have HN := hide hp.1
  clear hp
  go_enter Try.func17, Try.ntmps17
  go_wp2
  go_loopw [3, 4] (fun m i wr => ∃ k : Nat, k ≤ n ∧ i = .int .i64 k ∧ m = I (firstv (l.take k)) ∧ wr = w) (fun _ i _ => n - (intOf i).toNat)
  case atStart => exact ⟨0, by omega, rfl, rfl, rfl⟩
  case round =>
    obtain ⟨k, hkn, rfl, rfl, rfl⟩ := hrel
    by_cases hlt : k < n
    · obtain ⟨p, o, rfl, hpl, hc1⟩ := (unhide HP).at hlt
      have hnx := hide (first_next l k (by have := unhide HN; omega))
      have HQ := hide (fun W => refNearest_any (l.getD k 0) W)
      have hb := first_b (l.take k)
      generalize l.getD k 0 = X at *
      generalize firstv (l.take k) = C at *
      have hb2 := nr_b X
      unfold mn at hnx
      generalize nr X = Y at *
      by_cases hy : Y < C
      · rw [if_pos hy] at hnx
        go_wp2_with (refine (unhide HQ _).mono ?_; rintro e w' ⟨rfl, rfl⟩)
        go_roundw
        case rel => exact ⟨k + 1, by omega, by go_num, by rw [unhide hnx], trivial⟩
        case measure => simp [intOf]; omega
      · rw [if_neg hy] at hnx
        go_wp2_with (refine (unhide HQ _).mono ?_; rintro e w' ⟨rfl, rfl⟩)
        go_roundw
        case rel => exact ⟨k + 1, by omega, by go_num, by rw [unhide hnx], trivial⟩
        case measure => simp [intOf]; omega
    · have e : l.take k = l := List.take_of_length_le (by have := unhide HN; omega)
      rw [e]
      have hklt : ¬ (k : Int) < (n : Int) := by omega
      go_wp2
      go_ret
      exact ⟨rfl, rfl⟩
end Go.Proofs.Yteahenojgcffpaa
