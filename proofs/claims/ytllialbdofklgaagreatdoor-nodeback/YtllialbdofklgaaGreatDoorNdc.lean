import Derived.Test.YtllialbdofklgaaGreatDoorNdb
namespace Go.Proofs.YtllialbdofklgaaGreatDoor
open Go.RowKit
set_option maxHeartbeats 4000000
set_option maxRecDepth 8000
theorem rise_any (a : Option Addr) (n cap : Nat) (l : List Bs) (w : World) (hp : Sts w a n l) (hn : n ≤ 4294967296) :
    Calls Tryz.prog 52 #[.slice a n cap] w fun e w' => e = .returned (.bool (up l)) ∧ ∃ q, w' = w.drewN q := by
  have hN := hp.1
  subst hN
  have HP := hide hp
  clear hp
  go_enter Tryz.func52, Tryz.ntmps52
  go_wp2
  go_loopw [6] (fun i wr => ∃ k q : Nat, k ≤ l.length ∧ i = .int .i64 k ∧ up (l.take k) = true ∧ wr = w.drewN q) (fun i _ => l.length - (Go.RowKit.intOf i).toNat)
  case atStart => exact ⟨0, 0, by omega, rfl, rfl, rfl⟩
  case round =>
    obtain ⟨k, q, hk, rfl, ha, rfl⟩ := hrel
    by_cases hlt : k < l.length
    · have hlt' : (k : Int) < (l.length : Int) := by omega
      by_cases h0 : k = 0
      · subst h0
        have HA := hide (up_one l)
        clear ha
        go_wp2
        go_quiet (fail)
        go_wp2
        go_round
        case measure => simp [Go.RowKit.intOf]; omega
        case rel => exact ⟨1, q + nq, by omega, by simp, unhide HA, by simp⟩
      · obtain ⟨j, rfl⟩ : ∃ j, k = j + 1 := ⟨k - 1, by omega⟩
        obtain ⟨p, o, rfl, hpl, hc0⟩ := (unhide HP).at hlt
        obtain ⟨p', o', e1, _, hc1⟩ := (unhide HP).at (show j < l.length by omega)
        cases e1
        have HN := hide (up_next j hlt ha)
        have HW := hide (up_bad j hlt)
        have h0' : decide ((0 : Int) < ((j + 1 : Nat) : Int)) = true := by rw [decide_eq_true_eq]; omega
        clear ha
        generalize l.getD (j + 1) [] = y at *
        generalize l.getD j [] = x at *
        have hq := fun W => run_geq x y W
        by_cases hxy : x < y
        · rw [show decide (¬ x < y) = false by simp [hxy]] at hq
          have HA := hide (unhide HN hxy)
          clear HN HW hxy
          go_wp2
          go_quiet (fail)
          go_wp2
          go_round
          case measure => simp [Go.RowKit.intOf]; omega
          case rel => exact ⟨j + 2, q + nq, by omega, by simp; omega, unhide HA, by simp⟩
        · rw [show decide (¬ x < y) = true by simp [hxy]] at hq
          have HA := hide (unhide HW hxy)
          clear HN HW hxy
          go_wp2
          go_quiet (fail)
          go_wp2
          go_ret
          exact ⟨ret_bool (unhide HA).symm, q + nq, by simp⟩
    · have hlt' : ¬ (k : Int) < (l.length : Int) := by omega
      have HA := hide ha
      clear ha
      go_wp2
      go_ret
      refine ⟨ret_bool ?_, q, rfl⟩
      have := unhide HA
      rw [List.take_of_length_le (by omega)] at this
      exact this.symm
theorem kok_eq (l : List Bs) : kok l = (!anyB noKey l && up l) := by
  unfold kok anyB
  congr 1
  simp [List.all_eq_not_any_not]
theorem keysMayBe_any (a : Option Addr) (n cap : Nat) (l : List Bs) (w : World) (hp : Sts w a n l) (hn : n ≤ 4294967296) (ht : tot l ≤ 4294967296) :
    Calls Tryz.prog 70 #[.slice a n cap] w fun e w' => e = .returned (.bool (kok l)) ∧ ∃ q, w' = w.drewN q := by
  have H1 := hide (containsFuncK_any a n cap l w hp hn ht)
  have H2 := hide (rise_any a n cap l w hp hn)
  rw [kok_eq]
  clear hp
  go_enter Tryz.func70, Tryz.ntmps70
  cases hx : anyB noKey l
  · rw [hx] at H1
    clear hx
    generalize up l = u at *
    go_wp2_with fail
    refine (unhide H1).mono ?_
    rintro e w1 ⟨rfl, rfl⟩
    go_wp2_with fail
    refine (unhide H2).mono ?_
    rintro e w1 ⟨rfl, q, rfl⟩
    go_wp2
    go_ret
    exact ⟨rfl, q, rfl⟩
  · rw [hx] at H1
    clear hx
    go_wp2_with fail
    refine (unhide H1).mono ?_
    rintro e w1 ⟨rfl, rfl⟩
    go_wp2
    go_ret
    exact ⟨rfl, 0, rfl⟩
theorem bget (a : Bs) (k : Nat) (h : k < a.length) : (⟨a.toArray⟩ : ByteArray)[k]'(by simpa [ByteArray.size] using h) = a.getD k 0 := by
  rw [List.getD_eq_getElem?_getD, List.getElem?_eq_getElem h]
  rfl
theorem alike_any (a b : Bs) (w : World) (ha : a.length ≤ 4294967296) (_hb : b.length ≤ 4294967296) :
    Calls Tryz.prog 55 #[S a, S b] w fun e w' => e = .returned (I (alk a b)) ∧ ∃ q, w' = w.drewN q := by
  have HL := hide (alk_le a b)
  go_enter Tryz.func55, Tryz.ntmps55
  go_wp2
  go_loopw [5] (fun i wr => ∃ k q : Nat, k ≤ alk a b ∧ i = .int .i64 k ∧ wr = w.drewN q) (fun i _ => a.length - (Go.RowKit.intOf i).toNat)
  case atStart => exact ⟨0, 0, by omega, rfl, rfl⟩
  case round =>
    obtain ⟨k, q, hk, rfl, rfl⟩ := hrel
    have hl := unhide HL
    by_cases h1 : k < a.length
    · have h1' : decide ((k : Int) < (a.length : Int)) = true := by rw [decide_eq_true_eq]; omega
      by_cases h2 : k < b.length
      · have h2' : decide ((k : Int) < (b.length : Int)) = true := by rw [decide_eq_true_eq]; omega
        by_cases h3 : a.getD k 0 = b.getD k 0
        · have HK := hide (show k + 1 ≤ alk a b by
            rcases Nat.lt_or_ge k (alk a b) with q | q
            · omega
            · obtain rfl : k = alk a b := by omega
              exact absurd h3 (alk_end a b h1 h2))
          have h3' : ((((⟨a.toArray⟩ : ByteArray)[k]'(by simpa [ByteArray.size] using h1)).toNat : Int) == (((⟨b.toArray⟩ : ByteArray)[k]'(by simpa [ByteArray.size] using h2)).toNat : Int)) = true := by rw [bget a k h1, bget b k h2, h3]; simp
          go_wp2
          go_quiet (fail)
          go_wp2
          go_round
          case measure => simp [Go.RowKit.intOf]; omega
          case rel => exact ⟨k + 1, _, unhide HK, by simp, by first | rfl | simp⟩
        · have HK := hide (show alk a b = k by
            rcases Nat.lt_or_ge k (alk a b) with q | q
            · exact absurd (alk_at a b k q) h3
            · omega)
          have h3' : ((((⟨a.toArray⟩ : ByteArray)[k]'(by simpa [ByteArray.size] using h1)).toNat : Int) == (((⟨b.toArray⟩ : ByteArray)[k]'(by simpa [ByteArray.size] using h2)).toNat : Int)) = false := by
            rw [bget a k h1, bget b k h2, beq_eq_false_iff_ne]
            intro e
            exact h3 (UInt8.toNat_inj.1 (by omega))
          go_wp2
          go_quiet (fail)
          go_wp2
          go_ret
          exact ⟨ret_int (by rw [unhide HK]), q + nq, by simp⟩
      · have h2' : decide ((k : Int) < (b.length : Int)) = false := by rw [decide_eq_false_iff_not]; omega
        go_wp2
        go_quiet (fail)
        go_wp2
        go_ret
        exact ⟨ret_int (by omega), q + nq, by simp⟩
    · have h1' : decide ((k : Int) < (a.length : Int)) = false := by rw [decide_eq_false_iff_not]; omega
      go_wp2
      go_quiet (fail)
      go_wp2
      go_ret
      exact ⟨ret_int (by omega), q + nq, by simp⟩
end Go.Proofs.YtllialbdofklgaaGreatDoor
