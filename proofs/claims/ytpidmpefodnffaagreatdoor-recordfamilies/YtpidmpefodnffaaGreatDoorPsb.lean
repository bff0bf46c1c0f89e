import Derived.Test.YtpidmpefodnffaaGreatDoorZcob
import Derived.Lib.Split
import Derived.Lib.SplitLaws
namespace Go.Proofs.YtpidmpefodnffaaGreatDoor
open Go.Lib
theorem occ_iff (s : Bs) (j : Nat) : occAt s [32] j = true ↔ s[j]? = some 32 := by
  have e : s[j]? = (s.drop j)[0]? := by simp
  rw [e]
  unfold occAt
  cases s.drop j with
  | nil => simp [List.isPrefixOf]
  | cons c r =>
    simp only [List.isPrefixOf, List.getElem?_cons_zero, Option.some.injEq, Bool.and_true, beq_iff_eq]
    exact eq_comm
theorem splitK_spl : ∀ (n : Nat) (s : Bs), s.length ≤ n → splitK [32] 0 (count s [32]) s = spl s := by
  intro n
  induction n with
  | zero =>
    intro s hs
    have : s = [] := List.eq_nil_of_length_eq_zero (by omega)
    subst this
    rfl
  | succ n ih =>
    intro s hs
    rcases index_spec s [32] with ⟨h1, h2⟩ | ⟨i, h1, h2, h3, h4⟩
    · rw [count_miss h1]
      have hno : ∀ c ∈ s, c ≠ 32 := by
        intro c hc e
        subst e
        obtain ⟨j, hj, he⟩ := List.getElem_of_mem hc
        have := h2 j (by omega)
        have h5 := (occ_iff s j).2 (by rw [List.getElem?_eq_getElem hj, he])
        rw [this] at h5; cases h5
      rw [spl_one hno]
      rfl
    · have h5 := (occ_iff s i).1 h3
      obtain ⟨hi, he⟩ := List.getElem?_eq_some_iff.1 h5
      rw [count_hit (by simp) h1, Nat.add_comm]
      have hm : ¬ (index s [32] == -1) = true := fun e => by have := beq_iff_eq.1 e; omega
      have e : (index s [32]).toNat = i := by omega
      rw [splitK, if_neg hm, e, Nat.add_zero]
      show s.take i :: splitK [32] 0 (count (s.drop (i + 1)) [32]) (s.drop (i + 1)) = spl s
      rw [ih _ (by rw [List.length_drop]; omega)]
      have hno : ∀ c ∈ s.take i, c ≠ 32 := by
        intro c hc e
        subst e
        obtain ⟨j, hj, he⟩ := List.getElem_of_mem hc
        rw [List.length_take] at hj
        rw [List.getElem_take] at he
        have h6 := h4 j (by omega)
        have h7 := (occ_iff s j).2 (by rw [List.getElem?_eq_getElem (by omega), he])
        rw [h6] at h7; cases h7
      have hs2 : s = s.take i ++ 32 :: s.drop (i + 1) := by
        conv => lhs; rw [← List.take_append_drop i s]
        rw [List.drop_eq_getElem_cons hi, he]
      conv => rhs; rw [hs2]
      rw [spl_word hno]
theorem splitB_spl (s : Bs) : (splitB ⟨#[32]⟩ 0 (countB ⟨s.toArray⟩ ⟨#[32]⟩) ⟨s.toArray⟩).map (·.data.toList) = spl s := by
  rw [splitB_data]
  exact splitK_spl s.length s (Nat.le_refl _)
theorem splitB_cells (s : Bs) : (splitB ⟨#[32]⟩ 0 (countB ⟨s.toArray⟩ ⟨#[32]⟩) ⟨s.toArray⟩).map Value.string = (spl s).map fun l => Value.string ⟨l.toArray⟩ := by
  rw [← splitB_spl, List.map_map]
  rfl
theorem count_spl (s : Bs) : countB ⟨s.toArray⟩ ⟨#[32]⟩ + 1 = (spl s).length := by
  have h := splitB_all ⟨#[32]⟩ (by decide) 0 _ ⟨s.toArray⟩ rfl
  have e := congrArg List.length (splitB_spl s)
  rw [List.length_map, h] at e
  exact e
end Go.Proofs.YtpidmpefodnffaaGreatDoor
