import Derived.Test.YteahenojgcffpaaCke
namespace Go.Proofs.Yteahenojgcffpaa
open Go.RowKit
set_option maxHeartbeats 4000000
set_option maxRecDepth 8000
theorem nr_id {x : Int} (h : 0 ≤ x ∧ x ≤ 1099511627776) : nr x = x := by unfold nr; rw [if_neg (by omega), if_neg (by omega)]
theorem st_id {x : Int} (h : -1099511627776 ≤ x ∧ x ≤ 1099511627776) : st x = x := by unfold st; rw [if_neg (by omega), if_neg (by omega)]
theorem add_id {x y : Int} (h : 0 ≤ x ∧ x ≤ 1099511627776) (k : -1099511627776 ≤ y ∧ y ≤ 1099511627776) : addv x y = nr (x + y) := by unfold addv; rw [nr_id h, st_id k]
theorem left_id {x y : Int} (h : 0 ≤ x ∧ x ≤ 1099511627776) (k : 0 ≤ y ∧ y ≤ 1099511627776) : leftv x y = if y ≤ x then 0 else y - x := by unfold leftv; rw [nr_id h, nr_id k]
theorem fold_le (l : List Int) : ∀ m : Int, l.foldl mn m ≤ m ∧ ∀ x ∈ l, l.foldl mn m ≤ nr x := by
  induction l with
  | nil => intro m; exact ⟨Int.le_refl _, fun x h => by simp at h⟩
  | cons y l ih =>
    intro m
    have h1 := ih (mn m y)
    have h2 : mn m y ≤ m ∧ mn m y ≤ nr y := by unfold mn; split <;> omega
    simp only [List.foldl_cons]
    refine ⟨by omega, fun x hx => ?_⟩
    rcases List.mem_cons.1 hx with rfl | hx
    · omega
    · exact h1.2 x hx
theorem fold_is (l : List Int) : ∀ m : Int, l.foldl mn m = m ∨ ∃ x ∈ l, nr x = l.foldl mn m := by
  induction l with
  | nil => intro m; exact .inl rfl
  | cons y l ih =>
    intro m
    simp only [List.foldl_cons]
    rcases ih (mn m y) with h | ⟨x, hx, h⟩
    · rw [h]
      unfold mn
      split
      · exact .inr ⟨y, by simp, rfl⟩
      · exact .inl rfl
    · exact .inr ⟨x, by simp [hx], h⟩
theorem first_is (l : List Int) (h : 0 < l.length) : ∃ x ∈ l, nr x = firstv l := by
  rcases fold_is l 1099511627776 with h1 | h1
  · match l, h with
    | y :: l, _ =>
      refine ⟨y, by simp, ?_⟩
      have := (fold_le (y :: l) 1099511627776).2 y (by simp)
      have hb := nr_b y
      unfold firstv
      omega
  · exact h1
/-- Is one of them the earliest? -/
def th (l : List Int) (k : Nat) : Bool := decide (l.length = 0) || (l.take k).any fun x => nr x == firstv l
theorem th_next (l : List Int) (k : Nat) (h : k < l.length) : th l (k + 1) = (th l k || nr (l.getD k 0) == firstv l) := by
  unfold th
  rw [List.take_succ_eq_append_getElem h, List.any_append]
  simp [h, Bool.or_assoc]
theorem th_all (l : List Int) : th l l.length = true := by
  unfold th
  rw [List.take_length]
  by_cases h : l.length = 0
  · simp [h]
  · obtain ⟨x, hx, e⟩ := first_is l (by omega)
    have : l.any (fun x => nr x == firstv l) = true := List.any_eq_true.2 ⟨x, hx, by simp [e]⟩
    simp [this]
theorem agrees_any (t d q : Int) (a : Option Addr) (n cap : Nat) (l : List Int) (w : World) (hp : Ns w a n l) (hn : n ≤ 9223372036854775806) : Calls Try.prog 6 #[I t, I d, I q, .slice a n cap] w fun e w' => e = .returned (.bool true) ∧ Below w.heap.size w w' := by
  have HP := hide hp
  have HN := hide hp.1
  clear hp
  have hF := nr_b t
  have hM := nr_b d
  have hQ := nr_b q
  have H1 := hide (fun W => lawNearest_any t W)
  have H2 := hide (fun W => lawNearest_any d W)
  have H3 := hide (fun W => lawNearest_any q W)
  have H4 := hide (fun W => add_any (nr t) (nr d) W)
  have H5 := hide (fun W => left_any (nr t) (addv (nr t) (nr d)) W)
  have H6 := hide (fun W => left_any (addv (nr t) (nr d)) (nr t) W)
  have H7 := hide (fun W => add_any (addv (nr t) (nr d)) (-(nr d)) W)
  have H8 := hide (fun W => within_any q t (nr d) W)
  have H9 := hide (fun W => within_any q t (if 0 < d then 0 else d) W)
  have e9 : inv q t (if 0 < d then 0 else d) = false := by
    unfold inv
    rw [Bool.and_eq_false_iff]
    by_cases h : 0 ≤ nr q - nr t
    · right; rw [decide_eq_false_iff_not]; split <;> omega
    · left; simpa using h
  rw [e9] at H9
  have hadd := add_id hF (y := nr d) (by omega)
  rw [hadd] at H4 H5 H6 H7
  have hSb := nr_b (nr t + nr d)
  have hS : nr (nr t + nr d) = if 1099511627776 < nr t + nr d then 1099511627776 else nr t + nr d := by
    rw [nr.eq_def (nr t + nr d), if_neg (by omega)]
  have e5 : leftv (nr t) (nr (nr t + nr d)) = nr (nr t + nr d) - nr t := by
    rw [left_id hF hSb, hS]
    repeat' split
    all_goals omega
  have e6 : leftv (nr (nr t + nr d)) (nr t) = 0 := by
    rw [left_id hSb hF, if_pos (by rw [hS]; split <;> omega)]
  rw [e5] at H5
  rw [e6] at H6
  have e7 := add_id hSb (y := -(nr d)) (by omega)
  rw [e7] at H7
  have hback : nr t + nr d ≤ 1099511627776 → nr (nr (nr t + nr d) + -(nr d)) = nr t := by
    intro h
    rw [hS, if_neg (by omega), show nr t + nr d + -(nr d) = nr t by omega, nr_id hF]
  have hin : inv q t (nr d) = (decide (nr t ≤ nr q) && (decide (nr q < nr (nr t + nr d)) || decide (1099511627776 < nr t + nr d))) := by
    unfold inv
    rw [hS, Bool.eq_iff_iff]
    split <;> simp <;> omega
  clear e5 e6 e7 e9 hadd
  generalize inv q t (nr d) = W8 at *
  generalize nr (nr (nr t + nr d) + -(nr d)) = R at *
  generalize nr (nr t + nr d) = S at *
  generalize nr t = F at *
  generalize nr d = M at *
  generalize nr q = Q at *

  go_enter Try.func6, Try.ntmps6
  go_wp2_with fail
  refine (awake_any _).mono ?_
  rintro e w1 ⟨rfl, b1⟩
  have B1 := hide b1
  have HP1 := hide ((unhide HP).below b1)
  clear b1 HP
  go_wp2_with fail
  refine (unhide H1 _).mono ?_
  rintro e w2 ⟨rfl, rfl⟩
  go_wp2_with fail
  refine (unhide H2 _).mono ?_
  rintro e w2 ⟨rfl, rfl⟩
  go_wp2_with fail
  refine (unhide H4 _).mono ?_
  rintro e w2 ⟨rfl, rfl⟩
  have g1 : ¬ S < F := by rw [hS]; split <;> omega
  have g2 : ¬ 1099511627776 < S := by omega
  have HF := hide (fun a' n' cap' w' (h : Ns w' a' n' l) (h' : n' ≤ 9223372036854775806) => first_any a' n' cap' l w' h h')
  have hfb := first_b l
  have hle := fold_le l 1099511627776
  have HLe := hide (show ∀ x ∈ l, leftv x (firstv l) = 0 from fun x hx => by
    have h1 := hle.2 x hx
    unfold leftv
    rw [nr_id (first_b l)]
    exact if_pos h1)
  have HT := hide (fun k (h : k < l.length) => th_next l k h)
  have HA := hide (th_all l)
  have HT0 := hide (show 0 < l.length → th l 0 = false from fun h => by unfold th; simp; intro e; subst e; simp at h)
  have HF0 := hide (show l.length = 0 → firstv l = 1099511627776 from fun h => by rw [List.eq_nil_of_length_eq_zero h]; rfl)
  clear hle
  have HS := hide hS
  have HB := hide hback
  have HI := hide hin
  clear hS hback hin
  generalize hE : firstv l = E at *
  have HE := hide hE
  clear hE
  by_cases hc : F + M ≤ 1099511627776
  · have hS := unhide HS
    rw [if_neg (by omega)] at hS
    have hR := unhide HB hc
    subst hR
    rw [show S - R = M by omega] at H5
    have g3 : ¬ 1099511627776 - R < M := by omega
    have g4 : ¬ 1099511627776 < R + M := by omega
    clear hS
    go_wp2_with fail
    refine (unhide H5 _).mono ?_
    rintro e w2 ⟨rfl, rfl⟩
    go_wp2_with fail
    refine (unhide H6 _).mono ?_
    rintro e w2 ⟨rfl, rfl⟩
    go_wp2_with fail
    refine (unhide H7 _).mono ?_
    rintro e w2 ⟨rfl, rfl⟩
    go_wp2_with fail
    refine (unhide H3 _).mono ?_
    rintro e w2 ⟨rfl, rfl⟩
    have hw8 := unhide HI
    rw [decide_eq_false (show ¬ 1099511627776 < R + M by omega), Bool.or_false] at hw8
    have cases3 : (R ≤ Q ∧ Q < S ∧ W8 = true) ∨ (R ≤ Q ∧ ¬ Q < S ∧ W8 = false) ∨ (¬ R ≤ Q ∧ W8 = false) := by
      rw [hw8]
      by_cases q1 : R ≤ Q
      · by_cases q2 : Q < S
        · exact .inl ⟨q1, q2, by simp [q1, q2]⟩
        · exact .inr (.inl ⟨q1, q2, by simp [q2]⟩)
      · exact .inr (.inr ⟨q1, by simp [q1]⟩)
    clear hw8
    rcases cases3 with ⟨q1, q2, rfl⟩ | ⟨q1, q2, rfl⟩ | ⟨q1, rfl⟩
    all_goals
      go_wp2_with fail
      refine (unhide H8 _).mono ?_
      rintro e w2 ⟨rfl, rfl⟩
      generalize hm9 : (if 0 < d then (0 : Int) else d) = m9 at H9
      go_wp2_with fail
      refine (unhide H9 _).mono ?_
      rintro e w2 ⟨rfl, rfl⟩
      clear hm9
      go_wp2_with fail
      refine (unhide HF _ _ _ _ (unhide HP1) hn).mono ?_
      rintro e w2 ⟨rfl, rfl⟩
      by_cases h0 : n = 0
      · have hE0 := unhide HF0 (by have := unhide HN; omega)
        have hl0 : l = [] := List.eq_nil_of_length_eq_zero (by have := unhide HN; omega)
        subst h0
        subst hE0
        go_wp2
        go_loopw [17, 18] (fun b i wr => b = .bool true ∧ i = .int .i64 0 ∧ wr = w2) (fun _ _ _ => 0)
        case atStart => exact ⟨rfl, rfl, rfl⟩
        case round =>
          obtain ⟨rfl, rfl, rfl⟩ := hrel
          go_wp2
          go_ret
          exact ⟨rfl, unhide B1⟩
      · have hn0 : ((n : Int) == 0) = false := by rw [beq_eq_false_iff_ne]; omega
        go_wp2
        go_loopw [17, 18] (fun b i wr => ∃ k : Nat, k ≤ n ∧ i = .int .i64 k ∧ b = .bool (th l k) ∧ wr = w2) (fun _ i _ => n - (intOf i).toNat)
        case atStart => exact ⟨0, by omega, rfl, by rw [unhide HT0 (by have := unhide HN; omega)], rfl⟩
        case round =>
          obtain ⟨k, hkn, rfl, rfl, rfl⟩ := hrel
          by_cases hlt : k < n
          · obtain ⟨p, o, rfl, hpl, hc1⟩ := (unhide HP1).at hlt
            have hkl : k < l.length := by have := unhide HN; omega
            have hnx := hide (unhide HT k hkl)
            have HQ := hide (fun W => lawNearest_any (l.getD k 0) W)
            have HLf := hide (fun W => left_any (l.getD k 0) E W)
            have hmem : l.getD k 0 ∈ l := by
              rw [List.getD_eq_getElem?_getD, List.getElem?_eq_getElem hkl]
              exact List.getElem_mem hkl
            have hl0 := unhide HLe _ hmem
            rw [hl0] at HLf
            clear hl0 hmem hkl
            generalize l.getD k 0 = X at *
            generalize th l k = b at *
            generalize nr X = Y at *
            by_cases hb : b = true
            · subst hb
              go_wp2_with (first | (refine (unhide HLf _).mono ?_; rintro e w' ⟨rfl, rfl⟩) | (refine (unhide HQ _).mono ?_; rintro e w' ⟨rfl, rfl⟩))
              refine ⟨⟨k + 1, by omega, by go_num, by rw [unhide hnx]; simp, trivial⟩, ?_⟩
              simp [intOf]; omega
            · have hb' : b = false := by simpa using hb
              subst hb'
              clear hb
              go_wp2_with fail
              refine (unhide HQ _).mono ?_
              rintro e w' ⟨rfl, rfl⟩
              go_wp2_with fail
              refine (unhide HLf _).mono ?_
              rintro e w' ⟨rfl, rfl⟩
              go_wp2
              refine ⟨⟨k + 1, by omega, by go_num, by rw [unhide hnx]; simp, trivial⟩, ?_⟩
              simp [intOf]; omega
          · have hklt : ¬ (k : Int) < (n : Int) := by omega
            have e : th l k = true := by
              have := unhide HA
              rw [show k = l.length by have := unhide HN; omega]
              exact this
            rw [e]
            go_wp2
            go_ret
            exact ⟨rfl, unhide B1⟩
  · have hS := unhide HS
    rw [if_pos (by omega)] at hS
    subst hS
    have g3 : 1099511627776 - F < M := by omega
    have g4 : 1099511627776 < F + M := by omega
    go_wp2_with fail
    refine (unhide H5 _).mono ?_
    rintro e w2 ⟨rfl, rfl⟩
    go_wp2_with fail
    refine (unhide H6 _).mono ?_
    rintro e w2 ⟨rfl, rfl⟩
    go_wp2_with fail
    refine (unhide H7 _).mono ?_
    rintro e w2 ⟨rfl, rfl⟩
    go_wp2_with fail
    refine (unhide H3 _).mono ?_
    rintro e w2 ⟨rfl, rfl⟩
    have hw8 := unhide HI
    rw [decide_eq_true (show 1099511627776 < F + M by omega), Bool.or_true, Bool.and_true] at hw8
    have cases3 : (F ≤ Q ∧ Q < 1099511627776 ∧ W8 = true) ∨ (F ≤ Q ∧ ¬ Q < 1099511627776 ∧ W8 = true) ∨ (¬ F ≤ Q ∧ W8 = false) := by
      rw [hw8]
      by_cases q1 : F ≤ Q
      · by_cases q2 : Q < 1099511627776
        · exact .inl ⟨q1, q2, by simp [q1]⟩
        · exact .inr (.inl ⟨q1, q2, by simp [q1]⟩)
      · exact .inr (.inr ⟨q1, by simp [q1]⟩)
    clear hw8
    rcases cases3 with ⟨q1, q2, rfl⟩ | ⟨q1, q2, rfl⟩ | ⟨q1, rfl⟩
    all_goals
      go_wp2_with fail
      refine (unhide H8 _).mono ?_
      rintro e w2 ⟨rfl, rfl⟩
      generalize hm9 : (if 0 < d then (0 : Int) else d) = m9 at H9
      go_wp2_with fail
      refine (unhide H9 _).mono ?_
      rintro e w2 ⟨rfl, rfl⟩
      clear hm9
      go_wp2_with fail
      refine (unhide HF _ _ _ _ (unhide HP1) hn).mono ?_
      rintro e w2 ⟨rfl, rfl⟩
      by_cases h0 : n = 0
      · have hE0 := unhide HF0 (by have := unhide HN; omega)
        have hl0 : l = [] := List.eq_nil_of_length_eq_zero (by have := unhide HN; omega)
        subst h0
        subst hE0
        go_wp2
        go_loopw [17, 18] (fun b i wr => b = .bool true ∧ i = .int .i64 0 ∧ wr = w2) (fun _ _ _ => 0)
        case atStart => exact ⟨rfl, rfl, rfl⟩
        case round =>
          obtain ⟨rfl, rfl, rfl⟩ := hrel
          go_wp2
          go_ret
          exact ⟨rfl, unhide B1⟩
      · have hn0 : ((n : Int) == 0) = false := by rw [beq_eq_false_iff_ne]; omega
        go_wp2
        go_loopw [17, 18] (fun b i wr => ∃ k : Nat, k ≤ n ∧ i = .int .i64 k ∧ b = .bool (th l k) ∧ wr = w2) (fun _ i _ => n - (intOf i).toNat)
        case atStart => exact ⟨0, by omega, rfl, by rw [unhide HT0 (by have := unhide HN; omega)], rfl⟩
        case round =>
          obtain ⟨k, hkn, rfl, rfl, rfl⟩ := hrel
          by_cases hlt : k < n
          · obtain ⟨p, o, rfl, hpl, hc1⟩ := (unhide HP1).at hlt
            have hkl : k < l.length := by have := unhide HN; omega
            have hnx := hide (unhide HT k hkl)
            have HQ := hide (fun W => lawNearest_any (l.getD k 0) W)
            have HLf := hide (fun W => left_any (l.getD k 0) E W)
            have hmem : l.getD k 0 ∈ l := by
              rw [List.getD_eq_getElem?_getD, List.getElem?_eq_getElem hkl]
              exact List.getElem_mem hkl
            have hl0 := unhide HLe _ hmem
            rw [hl0] at HLf
            clear hl0 hmem hkl
            generalize l.getD k 0 = X at *
            generalize th l k = b at *
            generalize nr X = Y at *
            by_cases hb : b = true
            · subst hb
              go_wp2_with (first | (refine (unhide HLf _).mono ?_; rintro e w' ⟨rfl, rfl⟩) | (refine (unhide HQ _).mono ?_; rintro e w' ⟨rfl, rfl⟩))
              refine ⟨⟨k + 1, by omega, by go_num, by rw [unhide hnx]; simp, trivial⟩, ?_⟩
              simp [intOf]; omega
            · have hb' : b = false := by simpa using hb
              subst hb'
              clear hb
              go_wp2_with fail
              refine (unhide HQ _).mono ?_
              rintro e w' ⟨rfl, rfl⟩
              go_wp2_with fail
              refine (unhide HLf _).mono ?_
              rintro e w' ⟨rfl, rfl⟩
              go_wp2
              refine ⟨⟨k + 1, by omega, by go_num, by rw [unhide hnx]; simp, trivial⟩, ?_⟩
              simp [intOf]; omega
          · have hklt : ¬ (k : Int) < (n : Int) := by omega
            have e : th l k = true := by
              have := unhide HA
              rw [show k = l.length by have := unhide HN; omega]
              exact this
            rw [e]
            go_wp2
            go_ret
            exact ⟨rfl, unhide B1⟩
end Go.Proofs.Yteahenojgcffpaa
