import Derived.Test.YthddilflldkmfaaDoorPasa
namespace Go.Proofs.YthddilflldkmfaaDoor
open Go.RowKit Go.Lib
theorem ahd_nat (m n : Nat) (h : m ≤ 65535) (hn : n ≤ m) : n < 256 ^ ahd m := by
  unfold ahd
  split
  · have : (256 : Nat) ^ 1 = 256 := by decide
    omega
  · have : (256 : Nat) ^ 2 = 65536 := by decide
    omega
theorem rNumE_ok (x : Itm) (h : x.Ok) (R : List UInt8) : rNumE x.size (be x.size x.num ++ R) = 0 := by
  have h1 := h.s1
  have h8 := h.s8
  unfold rNumE
  rw [if_pos ⟨by omega, by omega⟩, if_neg (by rw [List.length_append, be_len]; omega)]
  by_cases e : x.size = 8
  · have := be_top x.num h.n0 R
    rw [e, if_neg (by omega)]
  · rw [if_neg (by omega)]
theorem rTextE_ok (x : Itm) (h : x.Ok) (R : List UInt8) : rTextE x.most (be (ahd x.most) x.cut.length ++ x.cut ++ R) = 0 ∧ rTextS x.most (be (ahd x.most) x.cut.length ++ x.cut ++ R) = x.cut ∧ rTextK x.most (be (ahd x.most) x.cut.length ++ x.cut ++ R) = ahd x.most + x.cut.length := by
  have h1 := h.m1
  have h2 : x.cut.length ≤ x.most := h.m2
  have e : (be (ahd x.most) x.cut.length ++ x.cut ++ R).take (ahd x.most) = be (ahd x.most) x.cut.length := by
    rw [List.append_assoc]; exact take_app _ _ _ (be_len _ _).symm
  have n : nat (be (ahd x.most) x.cut.length) = x.cut.length := by
    rw [nat_be]; exact Nat.mod_eq_of_lt (ahd_nat x.most _ h1 h2)
  refine ⟨?_, ?_, ?_⟩
  · unfold rTextE
    rw [e, n, if_pos ⟨by omega, by omega⟩]
    simp only [List.length_append, be_len]
    rw [if_neg (by omega), if_neg (by omega), if_neg (by omega)]
  · unfold rTextS
    rw [e, n, List.append_assoc, drop_app _ _ _ (be_len _ _).symm]
    exact take_app _ _ _ rfl
  · unfold rTextK
    rw [e, n]
theorem Itm.e0 (x : Itm) (hk : x.kind = 0) : x.laid = be x.size x.num ∧ (∀ R E, x.go R E = rGo R E (rNumE x.size R) x.size) ∧ (∀ R E, x.same R E = ((if fine E (rNumE x.size R) then (nat (R.take x.size) : Int) else 0) == (x.num : Int))) ∧ ∀ R E X F, x.put R E X F = wPut X F (numE x.size (if fine E (rNumE x.size R) then (nat (R.take x.size) : Int) else 0)) (numY x.size (if fine E (rNumE x.size R) then (nat (R.take x.size) : Int) else 0)) := by
  unfold Itm.laid Itm.go Itm.same Itm.put
  rw [hk]
  exact ⟨rfl, fun _ _ => rfl, fun _ _ => rfl, fun _ _ _ _ => rfl⟩
theorem Itm.e1 (x : Itm) (hk : x.kind = 1) : x.laid = be (ahd x.most) x.cut.length ++ x.cut ∧ (∀ R E, x.go R E = rGo R E (rTextE x.most R) (rTextK x.most R)) ∧ (∀ R E, x.same R E = decide ((if fine E (rTextE x.most R) then rTextS x.most R else []) = x.txt.take 65535)) ∧ ∀ R E X F, x.put R E X F = wPut X F (textE x.most (if fine E (rTextE x.most R) then rTextS x.most R else []).length) (textY x.most (if fine E (rTextE x.most R) then rTextS x.most R else [])) := by
  unfold Itm.laid Itm.go Itm.same Itm.put
  rw [hk]
  exact ⟨rfl, fun _ _ => rfl, fun _ _ => rfl, fun _ _ _ _ => rfl⟩
theorem Itm.e2 (x : Itm) (h0 : x.kind ≠ 0) (h1 : x.kind ≠ 1) : x.laid = x.txt ∧ (∀ R E, x.go R E = rGo R E (rRawE x.txt.length R) x.txt.length) ∧ (∀ R E, x.same R E = decide ((if fine E (rRawE x.txt.length R) then R.take x.txt.length else []) = x.txt)) ∧ ∀ R E X F, x.put R E X F = wPut X F 0 (if fine E (rRawE x.txt.length R) then R.take x.txt.length else []) := by
  refine ⟨?_, fun R E => ?_, fun R E => ?_, fun R E X F => ?_⟩
  · unfold Itm.laid
    split
    · exact absurd (by assumption) h0
    · exact absurd (by assumption) h1
    · rfl
  · unfold Itm.go
    split
    · exact absurd (by assumption) h0
    · exact absurd (by assumption) h1
    · rfl
  · unfold Itm.same
    split
    · exact absurd (by assumption) h0
    · exact absurd (by assumption) h1
    · rfl
  · unfold Itm.put
    split
    · exact absurd (by assumption) h0
    · exact absurd (by assumption) h1
    · rfl
theorem Itm.kinds (x : Itm) : x.kind = 0 ∨ x.kind = 1 ∨ (x.kind ≠ 0 ∧ x.kind ≠ 1) := by omega
/-- An item is read as it was laid. -/
theorem Itm.go_laid (x : Itm) (h : x.Ok) (R : List UInt8) : x.go (x.laid ++ R) 0 = (R, 0) ∧ x.same (x.laid ++ R) 0 = true := by
  rcases x.kinds with hk | hk | ⟨h0, h1⟩
  · obtain ⟨l, g, m, _⟩ := x.e0 hk
    rw [l, g, m]
    rw [rNumE_ok x h R, rGo_ok, fine_ok, if_pos rfl, drop_app _ _ _ (be_len _ _).symm, take_app _ _ _ (be_len _ _).symm, nat_be, Nat.mod_eq_of_lt h.n1]
    exact ⟨rfl, by simp⟩
  · obtain ⟨l, g, m, _⟩ := x.e1 hk
    rw [l, g, m]
    obtain ⟨a, b, c⟩ := rTextE_ok x h R
    rw [a, b, c, rGo_ok, fine_ok, if_pos rfl]
    refine ⟨?_, decide_eq_true rfl⟩
    rw [drop_app _ _ _ (by rw [List.length_append, be_len])]
  · obtain ⟨l, g, m, _⟩ := x.e2 h0 h1
    rw [l, g, m]
    have e : rRawE x.txt.length (x.txt ++ R) = 0 := by
      unfold rRawE
      rw [if_neg (by omega), if_neg (by rw [List.length_append]; omega)]
    rw [e, rGo_ok, fine_ok, if_pos rfl, drop_app _ _ _ rfl, take_app _ _ _ rfl]
    exact ⟨rfl, decide_eq_true rfl⟩
/-- One byte less, and it ends in 22. -/
theorem Itm.go_short (x : Itm) (h : x.Ok) (hl : x.laid ≠ []) : (x.go x.laid.dropLast 0).2 = 22 := by
  have hp := List.length_pos_iff.2 hl
  rcases x.kinds with hk | hk | ⟨h0, h1⟩
  · obtain ⟨l, g, _, _⟩ := x.e0 hk
    rw [l] at hp ⊢
    rw [g]
    have h1 := h.s1
    have h8 := h.s8
    have e : rNumE x.size (be x.size x.num).dropLast = 22 := by
      unfold rNumE
      rw [if_pos ⟨by omega, by omega⟩, if_pos (by rw [List.length_dropLast, be_len]; omega)]
    rw [e, rGo_bad (by decide)]
  · obtain ⟨l, g, _, _⟩ := x.e1 hk
    rw [l] at hp ⊢
    rw [g]
    have h1 := h.m1
    have h2 : x.cut.length ≤ x.most := h.m2
    have ha := ahd_le x.most
    have e : rTextE x.most (be (ahd x.most) x.cut.length ++ x.cut).dropLast = 22 := by
      unfold rTextE
      rw [if_pos ⟨by omega, by omega⟩]
      by_cases hc : x.cut = []
      · rw [if_pos (by rw [List.length_dropLast, List.length_append, be_len, hc]; simp; omega)]
      · have hc0 := List.length_pos_iff.2 hc
        have e : ((be (ahd x.most) x.cut.length ++ x.cut).dropLast).take (ahd x.most) = be (ahd x.most) x.cut.length := by
          rw [List.dropLast_append_of_ne_nil hc]; exact take_app _ _ _ (be_len _ _).symm
        have n : nat (be (ahd x.most) x.cut.length) = x.cut.length := by
          rw [nat_be]; exact Nat.mod_eq_of_lt (ahd_nat x.most _ h1 h2)
        rw [e, n, List.length_dropLast, List.length_append, be_len, if_neg (by omega), if_neg (by omega), if_pos (by omega)]
    rw [e, rGo_bad (by decide)]
  · obtain ⟨l, g, _, _⟩ := x.e2 h0 h1
    rw [l] at hp ⊢
    rw [g]
    have e : rRawE x.txt.length x.txt.dropLast = 22 := by
      unfold rRawE
      rw [if_neg (by omega), if_pos (by rw [List.length_dropLast]; omega)]
    rw [e, rGo_bad (by decide)]
/-- What is read off any text, laid again, is what was taken. -/
theorem Itm.go_again (x : Itm) (h : x.Ok) (R X : List UInt8) (hE : (x.go R 0).2 = 0) : ∃ Y, R = Y ++ (x.go R 0).1 ∧ x.put R 0 X 0 = (X ++ Y, 0) := by
  rcases x.kinds with hk | hk | ⟨h0, h1⟩
  · obtain ⟨_, g, _, p⟩ := x.e0 hk
    rw [g] at hE ⊢
    rw [p]
    have h1 := h.s1
    have h8 := h.s8
    have e : rNumE x.size R = 0 := by
      by_cases q : rNumE x.size R = 0
      · exact q
      · rw [rGo_bad q] at hE; exact absurd hE q
    have hl : x.size ≤ R.length := by
      unfold rNumE at e
      rw [if_pos ⟨by omega, by omega⟩] at e
      split at e
      · cases e
      · omega
    have ht : (R.take x.size).length = x.size := by rw [List.length_take]; omega
    have hn := nat_lt (R.take x.size)
    rw [ht] at hn
    refine ⟨R.take x.size, ?_, ?_⟩
    · rw [e, rGo_ok]; exact (List.take_append_drop _ _).symm
    · simp only [e, fine_ok, if_true]
      have e2 : numE x.size (nat (R.take x.size)) = 0 := by
        unfold numE stnB
        rw [if_pos ⟨by omega, by omega⟩, if_pos]
        rw [decide_eq_true_iff, Int.toNat_natCast]
        refine ⟨Int.natCast_nonneg _, ?_⟩; have hz := Int.ofNat_lt.2 hn; rw [Int.natCast_pow] at hz; exact hz
      have e3 : numY x.size (nat (R.take x.size)) = R.take x.size := by
        unfold numY
        rw [Int.toNat_natCast, Int.toNat_natCast]
        have := be_nat (R.take x.size)
        rw [ht] at this
        exact this
      rw [e2, e3, wPut_ok]
  · obtain ⟨_, g, _, p⟩ := x.e1 hk
    rw [g] at hE ⊢
    rw [p]
    have h1 := h.m1
    have e : rTextE x.most R = 0 := by
      by_cases q : rTextE x.most R = 0
      · exact q
      · rw [rGo_bad q] at hE; exact absurd hE q
    have hl : ahd x.most ≤ R.length ∧ nat (R.take (ahd x.most)) ≤ x.most ∧ nat (R.take (ahd x.most)) ≤ R.length - ahd x.most := by
      unfold rTextE at e
      rw [if_pos ⟨by omega, by omega⟩] at e
      split at e
      · cases e
      · split at e
        · cases e
        · split at e
          · cases e
          · omega
    obtain ⟨l1, l2, l3⟩ := hl
    have ht : (R.take (ahd x.most)).length = ahd x.most := by rw [List.length_take]; omega
    have hs : (rTextS x.most R).length = nat (R.take (ahd x.most)) := by
      unfold rTextS; rw [List.length_take, List.length_drop]; omega
    have hb : be (ahd x.most) (nat (R.take (ahd x.most))) = R.take (ahd x.most) := by
      have := be_nat (R.take (ahd x.most))
      rw [ht] at this
      exact this
    refine ⟨R.take (ahd x.most) ++ rTextS x.most R, ?_, ?_⟩
    · rw [e, rGo_ok]
      unfold rTextS rTextK
      rw [← List.drop_drop, List.append_assoc, List.take_append_drop, List.take_append_drop]
    · simp only [e, fine_ok, if_true]
      have e2 : textE x.most (rTextS x.most R).length = 0 := by
        unfold textE
        rw [if_pos ⟨by omega, by omega⟩, if_pos (by omega)]
      have e3 : textY x.most (rTextS x.most R) = R.take (ahd x.most) ++ rTextS x.most R := by
        unfold textY
        rw [hs, hb]
      rw [e2, e3, wPut_ok]
  · obtain ⟨_, g, _, p⟩ := x.e2 h0 h1
    rw [g] at hE ⊢
    rw [p]
    have e : rRawE x.txt.length R = 0 := by
      by_cases q : rRawE x.txt.length R = 0
      · exact q
      · rw [rGo_bad q] at hE; exact absurd hE q
    refine ⟨R.take x.txt.length, ?_, ?_⟩
    · rw [e, rGo_ok]; exact (List.take_append_drop _ _).symm
    · rw [e, fine_ok, if_pos rfl, wPut_ok]
end Go.Proofs.YthddilflldkmfaaDoor
