import Derived.Test.YtjopnhhdemfniaaGreatDoorZpic
import Derived.BigRegion
import Derived.RegionTactic
namespace Go.Proofs.YtjopnhhdemfniaaGreatDoor
open Go.RowKit
set_option maxHeartbeats 8000000
set_option maxRecDepth 8000
/-- Do the first k and one rise? -/
def rsk (l : List Int) (k : Nat) : Bool := (List.range k).all fun i => decide (l.getD i 0 < l.getD (i + 1) 0)
def rsg (l : List Int) : Bool := rsk l (l.length - 1)
theorem rsk_next (l : List Int) (k : Nat) : rsk l (k + 1) = (rsk l k && decide (l.getD k 0 < l.getD (k + 1) 0)) := by
  unfold rsk
  rw [List.range_succ, List.all_append]
  simp
theorem rsk_bad (l : List Int) (k m : Nat) (hk : k < m) (h : ¬ l.getD k 0 < l.getD (k + 1) 0) : rsk l m = false := by
  rw [Bool.eq_false_iff]
  intro q
  have := List.all_eq_true.1 q k (List.mem_range.2 hk)
  simp only [decide_eq_true_eq] at this
  exact h this
theorem rises_any (a : Option Addr) (n cap : Nat) (l : List Int) (w : World) (hp : Ins w a n l) (hn : n ≤ 1000000000000) :
    Calls Tryz.prog 125 #[.slice a n cap] w fun e w' => e = .returned (.bool (rsg l)) ∧ Below w.heap.size w w' := by
  have hN := hp.1
  subst hN
  have HP := hide hp
  clear hp
  have HE := hide (show rsg l = rsk l (l.length - 1) from rfl)
  generalize rsg l = R at *
  go_enter Tryz.func125, Tryz.ntmps125
  go_wp2
  go_loopw [7] (fun i wr => ∃ k : Nat, k ≤ l.length - 1 ∧ i = .int .i64 k ∧ rsk l k = true ∧ Below w.heap.size w wr) (fun i _ => l.length - (Go.RowKit.intOf i).toNat)
  case atStart => exact ⟨0, by omega, rfl, rfl, Below.refl _ _⟩
  case round =>
    obtain ⟨k, hk, rfl, ha, hb⟩ := hrel
    by_cases hlt : k < l.length - 1
    · have hlt' : (k : Int) < (l.length : Int) - 1 := by omega
      have hlt2 : (k : Int) < (l.length : Int) := by omega
      have hlt3 : (k : Int) + 1 < (l.length : Int) := by omega
      obtain ⟨p, o, rfl, hpl, hc0⟩ := ((unhide HP).below hb).at (show k < l.length by omega)
      obtain ⟨p', o', e', hpl', hc1⟩ := ((unhide HP).below hb).at (show k + 1 < l.length by omega)
      obtain ⟨rfl, rfl⟩ : p' = p ∧ o' = o := by cases e'; exact ⟨rfl, rfl⟩
      have HN := hide (rsk_next l k)
      have HW := hide (rsk_bad l k (l.length - 1) hlt)
      have HA := hide ha
      have HB := hide hb
      clear e' ha hb
      generalize l.getD k 0 = x at *
      generalize l.getD (k + 1) 0 = y at *
      by_cases hxy : x < y
      · have hxy' : ¬ y ≤ x := by omega
        have HA2 := hide (show rsk l (k + 1) = true by rw [unhide HN, unhide HA]; simp [hxy])
        go_wp2
        go_region
        all_goals go_wp2
        all_goals (
          go_round
          case measure => simp [Go.RowKit.intOf]; omega
          case rel => exact ⟨k + 1, by omega, by simp, unhide HA2, (unhide HB).drew⟩)
      · have hxy' : y ≤ x := by omega
        have HW2 := hide (unhide HW hxy)
        go_wp2
        go_region
        all_goals go_wp2
        all_goals (
          go_ret
          exact ⟨ret_bool (by rw [unhide HE, unhide HW2]), (unhide HB).drew⟩)
    · have hlt' : ¬ (k : Int) < (l.length : Int) - 1 := by omega
      obtain rfl : k = l.length - 1 := by omega
      have HA := hide ha
      have HB := hide hb
      clear ha hb
      generalize hkk : l.length - 1 = kk at *
      clear hkk
      go_wp2
      go_ret
      exact ⟨ret_bool (by rw [unhide HE, unhide HA]), unhide HB⟩
/-- Are the first k the same? -/
def eqk (a b : List Int) (k : Nat) : Bool := (List.range k).all fun i => a.getD i 0 == b.getD i 0
theorem eqk_next (a b : List Int) (k : Nat) : eqk a b (k + 1) = (eqk a b k && (a.getD k 0 == b.getD k 0)) := by
  unfold eqk
  rw [List.range_succ, List.all_append]
  simp
theorem eqk_bad (a b : List Int) (k : Nat) (h : ¬ a.getD k 0 = b.getD k 0) : decide (a = b) = false := by
  rw [decide_eq_false_iff_not]
  intro q
  rw [q] at h
  exact h rfl
theorem eqk_all (a b : List Int) (hl : a.length = b.length) (h : eqk a b a.length = true) : decide (a = b) = true := by
  rw [decide_eq_true_eq]
  apply List.ext_getElem hl
  intro i h1 h2
  have := List.all_eq_true.1 h i (List.mem_range.2 h1)
  simp [h1, h2] at this
  exact this
theorem equal_any (a a2 : Option Addr) (n n2 cap cap2 : Nat) (l l2 : List Int) (w : World) (hp : Ins w a n l) (hp2 : Ins w a2 n2 l2) (hn : n ≤ 1000000000000) (hn2 : n2 ≤ 1000000000000) :
    Calls Tryz.prog 126 #[.slice a n cap, .slice a2 n2 cap2] w fun e w' => e = .returned (.bool (decide (l = l2))) ∧ Below w.heap.size w w' := by
  have hN := hp.1
  have hN2 := hp2.1
  subst hN hN2
  have HP := hide hp
  have HP2 := hide hp2
  clear hp hp2
  have HE := hide (rfl : decide (l = l2) = decide (l = l2))
  by_cases hl : l.length = l2.length
  · have HAll := hide (eqk_all l l2 hl)
    have HBad := hide (eqk_bad l l2)
    generalize decide (l = l2) = R at *
    have hli : (l.length : Int) = (l2.length : Int) := by omega
    have hl2 : l2.length = l.length := hl.symm
    rw [hl2]
    clear hl hli
    have HL2 := hide hl2
    clear hl2
    go_enter Tryz.func126, Tryz.ntmps126
    go_wp2
    go_loopw [13] (fun i wr => ∃ k : Nat, k ≤ l.length ∧ i = .int .i64 k ∧ eqk l l2 k = true ∧ Below w.heap.size w wr) (fun i _ => l.length - (Go.RowKit.intOf i).toNat)
    case atStart => exact ⟨0, by omega, rfl, rfl, Below.refl _ _⟩
    case round =>
      obtain ⟨k, hk, rfl, ha, hb⟩ := hrel
      by_cases hlt : k < l.length
      · have hlt' : (k : Int) < (l.length : Int) := by omega
        obtain ⟨p, o, rfl, hpl, hc0⟩ := ((unhide HP).below hb).at hlt
        obtain ⟨p2, o2, rfl, hpl2, hc2⟩ := ((unhide HP2).below hb).at (show k < l2.length by have := unhide HL2; omega)
        have HN := hide (eqk_next l l2 k)
        have HW := hide (unhide HBad k)
        have HA := hide ha
        have HB := hide hb
        clear ha hb
        generalize l.getD k 0 = x at *
        generalize l2.getD k 0 = y at *
        by_cases hxy : x = y
        · subst hxy
          have HA2 := hide (show eqk l l2 (k + 1) = true by rw [unhide HN, unhide HA]; simp)
          go_wp2
          go_region
          all_goals go_wp2
          all_goals (
            go_round
            case measure => simp [Go.RowKit.intOf]; omega
            case rel => exact ⟨k + 1, by omega, by simp, unhide HA2, (unhide HB).drew⟩)
        · have hxy' : (x == y) = false := by rw [beq_eq_false_iff_ne]; exact hxy
          have HW2 := hide (unhide HW hxy)
          go_wp2
          go_region
          all_goals go_wp2
          all_goals (
            go_ret
            exact ⟨ret_bool (unhide HW2).symm, (unhide HB).drew⟩)
      · have hlt' : ¬ (k : Int) < (l.length : Int) := by omega
        obtain rfl : k = l.length := by omega
        have HA := hide (unhide HAll ha)
        have HB := hide hb
        clear ha hb
        go_wp2
        go_ret
        exact ⟨ret_bool (unhide HA).symm, unhide HB⟩
  · have hR : decide (l = l2) = false := by
      rw [decide_eq_false_iff_not]
      intro q
      exact hl (by rw [q])
    rw [hR]
    have hli : ((l.length : Int) == (l2.length : Int)) = false := by rw [beq_eq_false_iff_ne]; omega
    generalize l.length = m at *
    generalize l2.length = m2 at *
    go_enter Tryz.func126, Tryz.ntmps126
    go_wp2
    go_ret
    exact ⟨rfl, Below.refl _ _⟩
end Go.Proofs.YtjopnhhdemfniaaGreatDoor
