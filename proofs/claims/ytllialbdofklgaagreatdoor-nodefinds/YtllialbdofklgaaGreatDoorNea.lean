import Derived.Test.YtllialbdofklgaaGreatDoorNdt
namespace Go.Proofs.YtllialbdofklgaaGreatDoor
open Go.RowKit
set_option maxHeartbeats 8000000
set_option maxRecDepth 8000
theorem refRises_any (a : Option Addr) (n cap : Nat) (l : List Bs) (w : World) (hp : Sts w a n l) (hn : n ≤ 4294967296) :
    Calls Tryz.prog 53 #[.slice a n cap] w fun e w' => e = .returned (.bool (up l)) ∧ ∃ q, w' = w.drewN q := by
  have hN := hp.1
  subst hN
  have HP := hide hp
  clear hp
  go_enter Tryz.func53, Tryz.ntmps53
  go_wp2
  go_loopw [3] (fun i wr => ∃ k q : Nat, (k ≤ l.length ∨ k = 1) ∧ 1 ≤ k ∧ i = .int .i64 k ∧ up (l.take k) = true ∧ wr = w.drewN q) (fun i _ => l.length - (Go.RowKit.intOf i).toNat)
  case atStart => exact ⟨1, 0, .inr rfl, by omega, rfl, up_one l, rfl⟩
  case round =>
    obtain ⟨k, q, hk, hk1, rfl, ha, rfl⟩ := hrel
    by_cases hlt : k < l.length
    · have hlt' : (k : Int) < (l.length : Int) := by omega
      obtain ⟨j, rfl⟩ : ∃ j, k = j + 1 := ⟨k - 1, by omega⟩
      obtain ⟨p, o, rfl, hpl, hc0⟩ := (unhide HP).at hlt
      obtain ⟨p', o', e1, _, hc1⟩ := (unhide HP).at (show j < l.length by omega)
      cases e1
      have HN := hide (up_next j hlt ha)
      have HW := hide (up_bad j hlt)
      clear ha
      generalize l.getD (j + 1) [] = y at *
      generalize l.getD j [] = x at *
      have hq := fun W => run_leq y x W
      by_cases hxy : x < y
      · rw [show decide (¬ x < y) = false by simp [hxy]] at hq
        have HA := hide (unhide HN hxy)
        clear HN HW hxy
        go_wp2
        go_quiet (fail)
        go_wp2
        go_round
        case measure => simp [Go.RowKit.intOf]; omega
        case rel => exact ⟨j + 2, q + nq, .inl (by omega), by omega, by simp; omega, unhide HA, by simp⟩
      · rw [show decide (¬ x < y) = true by simp [hxy]] at hq
        have HA := hide (unhide HW hxy)
        clear HN HW hxy
        go_wp2
        go_quiet (fail)
        go_wp2
        go_ret
        exact ⟨ret_bool (unhide HA).symm, q + nq, by simp⟩
    · have hlt' : ¬ (k : Int) < (l.length : Int) := by omega
      have HA := hide ha
      clear ha
      go_wp2
      go_ret
      refine ⟨ret_bool ?_, q, rfl⟩
      have := unhide HA
      rw [List.take_of_length_le (by omega)] at this
      exact this.symm
theorem refBetween_any (a b : Bs) (w : World) (_ha : a.length ≤ 4294967296) (hb : b.length ≤ 4294967296) :
    Calls Tryz.prog 28 #[S a, S b] w fun e w' => e = .returned (S (btw a b)) ∧ w' = w := by
  unfold btw
  by_cases h : a < b
  · rw [if_pos h]
    have hs : Op.bytesLess a b = true := by rw [less_eq]; exact decide_eq_true h
    have hl := alk_lt h
    have HP := hide (fun k hk => pre_lt a b k hk)
    have HG := hide (btw_gt h)
    generalize alk a b = K at *
    clear h
    go_enter Tryz.func28, Tryz.ntmps28
    go_wp2
    go_loopw [5] (fun i wr => ∃ k : Nat, k ≤ K ∧ i = .int .i64 k ∧ wr = w) (fun i _ => b.length - (Go.RowKit.intOf i).toNat)
    case atStart => exact ⟨0, by omega, rfl, rfl⟩
    case round =>
      obtain ⟨k, hk, rfl, rfl⟩ := hrel
      have h1' : decide ((k : Int) < (b.length : Int)) = true := by rw [decide_eq_true_eq]; omega
      have f1 := fun W => run_gtr (b.take (k + 1)) a W
      by_cases h2 : k < K
      · rw [show decide (a < b.take (k + 1)) = false from decide_eq_false (unhide HP (k + 1) (by omega))] at f1
        have e1 : ∀ W, (binOp .gtr 9 (.string ((⟨b.toArray⟩ : ByteArray).extract 0 (k + 1))) (S a)).run Tryz.prog W = .ok (.bool false) W := fun W => by rw [ext0]; exact f1 W
        clear f1
        go_wp2
        go_round
        case measure => simp [Go.RowKit.intOf]; omega
        case rel => exact ⟨k + 1, by omega, by simp, by first | trivial | rfl⟩
      · obtain rfl : k = K := by omega
        rw [show decide (a < b.take (k + 1)) = true from decide_eq_true (unhide HG)] at f1
        have e1 : ∀ W, (binOp .gtr 9 (.string ((⟨b.toArray⟩ : ByteArray).extract 0 (k + 1))) (S a)).run Tryz.prog W = .ok (.bool true) W := fun W => by rw [ext0]; exact f1 W
        clear f1
        go_wp2
        go_ret
        exact ⟨by rw [ext0]; rfl, rfl⟩
  · rw [if_neg h]
    have hs : Op.bytesLess a b = false := by rw [less_eq]; exact decide_eq_false h
    clear h
    by_cases h0 : 0 < b.length
    · have h0' : decide ((0 : Int) < (b.length : Int)) = true := by rw [decide_eq_true_eq]; omega
      go_enter Tryz.func28, Tryz.ntmps28
      go_wp2
      go_loopw [5] (fun i wr => i = .int .i64 0 ∧ wr = w) (fun _ _ => 0)
      case atStart => exact ⟨rfl, rfl⟩
      case round =>
        obtain ⟨rfl, rfl⟩ := hrel
        go_wp2
        go_ret
        exact ⟨rfl, rfl⟩
    · have h0' : decide ((0 : Int) < (b.length : Int)) = false := by rw [decide_eq_false_iff_not]; omega
      go_enter Tryz.func28, Tryz.ntmps28
      go_wp2
      go_loopw [5] (fun i wr => i = .int .i64 0 ∧ wr = w) (fun _ _ => 0)
      case atStart => exact ⟨rfl, rfl⟩
      case round =>
        obtain ⟨rfl, rfl⟩ := hrel
        go_wp2
        go_ret
        exact ⟨rfl, rfl⟩
/-- How many bytes and items texts are, as far as it is reckoned. -/
def wsum : Nat → List Bs → Nat
  | n, [] => n
  | n, x :: r => if n ≤ 2147483647 then wsum (add3 n x.length) r else n
def wei (l : List Bs) : Nat := wsum (add3 0 l.length) l
theorem add3_le (n m : Nat) : add3 n m ≤ 4294967294 ∨ add3 n m = 2147483648 := by
  unfold add3
  split
  · exact .inr rfl
  · left; omega
theorem add3_sm {n m : Nat} (h : add3 n m ≤ 2147483647) : n + m ≤ 2147483647 := by
  unfold add3 at h
  split at h <;> omega
theorem wsum_sm : ∀ (l : List Bs) (n : Nat), wsum n l ≤ 2147483647 → n + tot l ≤ 2147483647
  | [], n, h => by simpa [wsum, tot] using h
  | x :: r, n, h => by
    unfold wsum at h
    by_cases q : n ≤ 2147483647
    · rw [if_pos q] at h
      have h1 := wsum_sm r _ h
      have e : tot (x :: r) = x.length + tot r := by simp [tot]
      have h2 : add3 n x.length ≤ 2147483647 := by omega
      have h3 := add3_sm h2
      unfold add3 at h1
      rw [if_neg (by omega)] at h1
      omega
    · rw [if_neg q] at h; omega
theorem wei_sm {l : List Bs} (h : wei l ≤ 2147483647) : l.length + tot l ≤ 2147483647 := by
  have h1 := wsum_sm l _ h
  have h2 : add3 0 l.length ≤ 2147483647 := by omega
  have h3 := add3_sm h2
  unfold add3 at h1
  rw [if_neg (by omega)] at h1
  omega
theorem wsum_le : ∀ (l : List Bs) (n : Nat), n ≤ 4294967296 → wsum n l ≤ 4294967296
  | [], n, h => h
  | x :: r, n, h => by
    unfold wsum
    split
    · exact wsum_le r _ (by rcases add3_le n x.length with q | q <;> omega)
    · exact h
theorem wei_le (l : List Bs) : wei l ≤ 4294967296 := wsum_le l _ (by rcases add3_le 0 l.length with q | q <;> omega)
theorem weighs_any (a : Option Addr) (n cap : Nat) (l : List Bs) (w : World) (hp : Sts w a n l) (hn : n ≤ 9223372036854775807) (hL : ∀ j, (l.getD j []).length ≤ 9223372036854775807) :
    Calls Tryz.prog 42 #[.slice a n cap] w fun e w' => e = .returned (I (wei l)) ∧ w' = w := by
  have hN := hp.1
  subst hN
  have HP := hide hp
  have HL := hide hL
  have H0 := hide (addsUp_any 0 l.length w (by omega) hn)
  have HE := hide (show wsum (add3 0 l.length) (l.drop 0) = wei l from rfl)
  have hb0 : add3 0 l.length ≤ 4294967296 := by rcases add3_le 0 l.length with q | q <;> omega
  generalize wei l = R at *
  clear hp hL
  go_enter Tryz.func42, Tryz.ntmps42
  go_wp2_with fail
  refine (unhide H0).mono ?_
  rintro e w1 ⟨rfl, rfl⟩
  clear H0
  generalize add3 0 l.length = T0 at *
  go_wp2
  go_loopw [3, 4] (fun s i wr => ∃ k T : Nat, k ≤ l.length ∧ T ≤ 4294967296 ∧ i = .int .i64 k ∧ s = .int .i64 T ∧ wsum T (l.drop k) = R ∧ wr = w1) (fun _ i _ => l.length - (Go.RowKit.intOf i).toNat)
  case atStart => exact ⟨0, T0, by omega, hb0, rfl, rfl, unhide HE, rfl⟩
  case round =>
    clear HE
    obtain ⟨k, T, hk, hT, rfl, rfl, he, rfl⟩ := hrel
    by_cases hlt : k < l.length
    · have hlt' : decide ((k : Int) < (l.length : Int)) = true := by rw [decide_eq_true_eq]; omega
      have hd : l.drop k = l.getD k [] :: l.drop (k + 1) := by
        rw [List.drop_eq_getElem_cons hlt, List.getD_eq_getElem?_getD, List.getElem?_eq_getElem hlt]; rfl
      rw [hd] at he
      unfold wsum at he
      by_cases hs : T ≤ 2147483647
      · have hs' : decide ((T : Int) ≤ 2147483647) = true := by rw [decide_eq_true_eq]; omega
        rw [if_pos hs] at he
        obtain ⟨p, o, rfl, hpl, hc0⟩ := (unhide HP).at hlt
        have hxl := unhide HL k
        generalize l.getD k [] = x at *
        have H1 := hide (addsUp_any T x.length wr (by omega) hxl)
        have hb : add3 T x.length ≤ 4294967296 := by rcases add3_le T x.length with q | q <;> omega
        generalize add3 T x.length = T2 at *
        have HE := hide he
        clear he hd
        go_wp2_with fail
        refine (unhide H1).mono ?_
        rintro e w2 ⟨rfl, rfl⟩
        go_wp2
        go_round
        case measure => simp [Go.RowKit.intOf]; omega
        case rel => exact ⟨k + 1, T2, by omega, hb, by simp, rfl, unhide HE, by first | trivial | rfl⟩
      · have hs' : decide ((T : Int) ≤ 2147483647) = false := by rw [decide_eq_false_iff_not]; omega
        rw [if_neg hs] at he
        have HE := hide he
        clear he hd
        go_wp2
        go_ret
        exact ⟨ret_int (by rw [unhide HE]), rfl⟩
    · have hlt' : decide ((k : Int) < (l.length : Int)) = false := by rw [decide_eq_false_iff_not]; omega
      rw [List.drop_of_length_le (by omega)] at he
      have HE := hide (show T = R from he)
      clear he
      go_wp2
      go_ret
      exact ⟨ret_int (by rw [unhide HE]), rfl⟩
/-- How many bytes and items a node is. -/
def nwe (n : Nd) : Nat := add3 (add3 (wei n.keys) (wei n.vals)) n.kids.length
theorem nwe_sm {n : Nd} (h : nwe n ≤ 2147483647) : n.keys.length + tot n.keys ≤ 2147483647 ∧ n.vals.length + tot n.vals ≤ 2147483647 ∧ n.kids.length ≤ 2147483647 := by
  have h1 := add3_sm h
  have h2 : add3 (wei n.keys) (wei n.vals) ≤ 2147483647 := by omega
  have h3 := add3_sm h2
  exact ⟨wei_sm (by omega), wei_sm (by omega), by omega⟩
theorem nwe_le (n : Nd) : nwe n ≤ 4294967296 := by
  unfold nwe
  rcases add3_le (add3 (wei n.keys) (wei n.vals)) n.kids.length with q | q <;> omega
theorem nwe_nb {n : Nd} (h : nwe n ≤ 2147483647) : NB n := by
  have := nwe_sm h
  exact ⟨by omega, by omega, by omega, by omega, by omega⟩
theorem nodeWeighs_any (n : Nd) (ka va ia : Option Addr) (kc vc ic : Nat) (w : World) (h : NA n ka va ia w) (b1 : n.keys.length ≤ 9223372036854775807) (b2 : n.vals.length ≤ 9223372036854775807) (b3 : n.kids.length ≤ 9223372036854775807) (L1 : ∀ j, (n.keys.getD j []).length ≤ 9223372036854775807) (L2 : ∀ j, (n.vals.getD j []).length ≤ 9223372036854775807) :
    Calls Tryz.prog 11 #[nda n ka va ia kc vc ic] w fun e w' => e = .returned (I (nwe n)) ∧ Below w.heap.size w w' := by
  have hA := (Below.refl w.heap.size w).alloc (Nat.le_refl _) (.cells #[.bool n.leaf, .slice ka n.keys.length kc, .slice va n.vals.length vc, .slice ia n.kids.length ic] 25)
  have hn := h.below hA
  have H1 := hide (fun q => weighs_any ka _ kc n.keys ((w.alloc (.cells #[.bool n.leaf, .slice ka n.keys.length kc, .slice va n.vals.length vc, .slice ia n.kids.length ic] 25)).drewN q) hn.ks b1 L1)
  have H2 := hide (fun q => weighs_any va _ vc n.vals ((w.alloc (.cells #[.bool n.leaf, .slice ka n.keys.length kc, .slice va n.vals.length vc, .slice ia n.kids.length ic] 25)).drewN q) hn.vs b2 L2)
  have w1 := wei_le n.keys
  have w2 := wei_le n.vals
  have H3 := hide (fun W => addsUp_any (wei n.keys) (wei n.vals) W (by omega) (by omega))
  have w3 : add3 (wei n.keys) (wei n.vals) ≤ 4294967296 := by rcases add3_le (wei n.keys) (wei n.vals) with q | q <;> omega
  have H4 := hide (fun W => addsUp_any (add3 (wei n.keys) (wei n.vals)) n.kids.length W (by omega) b3)
  have HA := hide hA
  clear h hA hn
  unfold nda nwe
  generalize add3 (add3 (wei n.keys) (wei n.vals)) n.kids.length = R at *
  generalize add3 (wei n.keys) (wei n.vals) = Q at *
  generalize wei n.keys = wk at *
  generalize wei n.vals = wv at *
  generalize n.keys.length = kl at *
  generalize n.vals.length = vl at *
  generalize n.kids.length = il at *
  generalize n.leaf = lf at *
  clear L1 L2 n
  go_enter Tryz.func11, Tryz.ntmps11
  go_wp2
  go_quiet ((first | (go_at_call 42; with_reducible first | exact Calls.quiet_of_same (unhide H1 _) | exact Calls.quiet_of_same (unhide H2 _)) | (go_at_call 10; with_reducible first | exact Calls.quiet_of_same (unhide H3 _) | exact Calls.quiet_of_same (unhide H4 _))))
  go_wp2
  go_ret
  exact ⟨by first | rfl | simp, bel_q (unhide HA) _⟩
end Go.Proofs.YtllialbdofklgaaGreatDoor
