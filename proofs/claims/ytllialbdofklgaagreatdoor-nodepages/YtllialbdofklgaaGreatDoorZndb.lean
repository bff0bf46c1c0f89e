import Derived.Test.YtllialbdofklgaaGreatDoorZdsa
import Derived.Test.YtllialbdofklgaaGreatDoorZnst
import Derived.BigQuiet
import Derived.Deep.QuietTactic
import Derived.Lib.Strings
namespace Go.Proofs.YtllialbdofklgaaGreatDoor
open Go.RowKit
set_option maxHeartbeats 4000000
set_option maxRecDepth 8000
theorem bel_q {B : Nat} {w wr : World} (h : Below B w wr) (q : Nat) : Below B w (wr.drewN q) := h.trans ⟨rfl, rfl, rfl, Nat.le_refl _, fun _ _ => rfl⟩
theorem bytesIn_any (a : Option Addr) (n cap : Nat) (l : List Bs) (w : World) (hp : Sts w a n l) (hn : n ≤ 4294967296) (ht : tot l ≤ 4294967296) :
    Calls Tryz.prog 74 #[.slice a n cap] w fun e w' => e = .returned (I (tot l)) ∧ w' = w := by
  have hN := hp.1
  subst hN
  have HP := hide hp
  clear hp
  go_enter Tryz.func74, Tryz.ntmps74
  go_wp2
  go_loopw [3, 8] (fun s i wr => ∃ k : Nat, k ≤ l.length ∧ i = .int .i64 k ∧ s = .int .i64 (tot (l.take k) : Nat) ∧ wr = w) (fun _ i _ => l.length - (Go.RowKit.intOf i).toNat)
  case atStart => exact ⟨0, by omega, rfl, rfl, rfl⟩
  case round =>
    obtain ⟨k, hk, rfl, rfl, rfl⟩ := hrel
    by_cases hlt : k < l.length
    · obtain ⟨p, o, rfl, hpl, hc0⟩ := (unhide HP).at hlt
      have hlt' : (k : Int) < (l.length : Int) := by omega
      have h1 := tot_next l k hlt
      have h2 := tot_take l (k + 1)
      have HN := hide h1
      generalize l.getD k [] = x at *
      generalize tot (l.take k) = T at *
      rw [h1] at h2
      clear h1
      go_wp2
      go_round
      case measure => simp [Go.RowKit.intOf]; omega
      case rel => exact ⟨k + 1, by omega, by simp, by rw [unhide HN]; simp, by first | trivial | rfl⟩
    · have hlt' : ¬ (k : Int) < (l.length : Int) := by omega
      go_wp2
      go_ret
      exact ⟨ret_int (by rw [List.take_of_length_le (by omega)]), rfl⟩
theorem isNoKey_any (x : Bs) (w : World) (hx : x.length ≤ 4294967296) :
    Calls Tryz.prog 71 #[S x] w fun e w' => e = .returned (.bool (noKey x)) ∧ w' = w := by
  go_enter Tryz.func71, Tryz.ntmps71
  unfold noKey
  by_cases h1 : x.length < 1
  · have h1' : decide ((x.length : Int) < 1) = true := by rw [decide_eq_true_eq]; omega
    go_wp2
    go_ret
    exact ⟨ret_bool (by simp [h1]), rfl⟩
  · have h1' : decide ((x.length : Int) < 1) = false := by rw [decide_eq_false_iff_not]; omega
    go_wp2
    go_ret
    exact ⟨ret_bool (by rw [show decide (x.length < 1) = false by simp [h1], Bool.false_or]; rw [Bool.eq_iff_iff]; simp only [decide_eq_true_eq]; omega), rfl⟩
def lng (x : Bs) : Bool := decide (200 < x.length)
theorem isLong_any (x : Bs) (w : World) (hx : x.length ≤ 4294967296) :
    Calls Tryz.prog 118 #[S x] w fun e w' => e = .returned (.bool (lng x)) ∧ w' = w := by
  go_enter Tryz.func118, Tryz.ntmps118
  go_wp2
  go_ret
  exact ⟨ret_bool (by unfold lng; rw [Bool.eq_iff_iff]; simp only [decide_eq_true_eq]; omega), rfl⟩
def anyB (f : Bs → Bool) (l : List Bs) : Bool := l.any f
theorem anyb_next (f : Bs → Bool) (l : List Bs) (k : Nat) (hk : k < l.length) : anyB f (l.take (k + 1)) = (anyB f (l.take k) || f (l.getD k [])) := by
  unfold anyB
  rw [List.take_succ_eq_append_getElem hk, List.any_append]
  simp [hk]
theorem anyb_hit (f : Bs → Bool) (l : List Bs) (k : Nat) (hk : k < l.length) (h : f (l.getD k []) = true) : anyB f l = true := by
  unfold anyB
  rw [List.any_eq_true]
  exact ⟨l.getD k [], by rw [List.getD_eq_getElem?_getD, List.getElem?_eq_getElem hk]; exact List.getElem_mem hk, h⟩
theorem tot_at (l : List Bs) (k : Nat) : (l.getD k []).length ≤ tot l := by
  by_cases hk : k < l.length
  · have := tot_next l k hk
    have := tot_take l (k + 1)
    omega
  · simp [List.getD_eq_getElem?_getD, List.getElem?_eq_none (show l.length ≤ k by omega)]
theorem indexFuncK_any (a : Option Addr) (n cap : Nat) (l : List Bs) (w : World) (hp : Sts w a n l) (hn : n ≤ 4294967296) (ht : tot l ≤ 4294967296) :
    Calls Tryz.prog 121 #[.slice a n cap, .func (.func 71) #[] #[]] w fun e w' => ∃ i : Int, e = .returned (I i) ∧ (0 ≤ i ↔ anyB noKey l = true) ∧ w' = w := by
  have hN := hp.1
  subst hN
  have HP := hide hp
  have HT := hide (fun k => Nat.le_trans (tot_at l k) ht)
  clear hp ht
  go_enter Tryz.func121, Tryz.ntmps121
  go_wp2
  go_loopw [8] (fun i wr => ∃ k : Nat, k ≤ l.length ∧ i = .int .i64 k ∧ anyB noKey (l.take k) = false ∧ wr = w) (fun i _ => l.length - (Go.RowKit.intOf i).toNat)
  case atStart => exact ⟨0, by omega, rfl, rfl, rfl⟩
  case round =>
    obtain ⟨k, hk, rfl, ha, rfl⟩ := hrel
    by_cases hlt : k < l.length
    · obtain ⟨p, o, rfl, hpl, hc0⟩ := (unhide HP).at hlt
      have hlt' : (k : Int) < (l.length : Int) := by omega
      have HN := hide (anyb_next noKey l k hlt)
      have HW := hide (anyb_hit noKey l k hlt)
      have hxl := unhide HT k
      generalize l.getD k [] = x at *
      have H1 := hide (fun W => isNoKey_any x W hxl)
      have HA := hide ha
      clear ha
      cases hx : noKey x
      · rw [hx] at H1
        have HA2 := hide (show anyB noKey (l.take (k + 1)) = false by rw [unhide HN, unhide HA, hx]; rfl)
        clear hx
        go_wp2_with fail
        refine (unhide H1 _).mono ?_
        rintro e w2 ⟨rfl, rfl⟩
        go_wp2
        go_round
        case measure => simp [Go.RowKit.intOf]; omega
        case rel => exact ⟨k + 1, by omega, by simp, unhide HA2, by first | trivial | rfl⟩
      · rw [hx] at H1
        have HX := hide hx
        clear hx
        go_wp2_with fail
        refine (unhide H1 _).mono ?_
        rintro e w2 ⟨rfl, rfl⟩
        go_wp2
        go_ret
        exact ⟨k, rfl, ⟨fun _ => unhide HW (unhide HX), fun _ => by omega⟩, rfl⟩
    · have hlt' : ¬ (k : Int) < (l.length : Int) := by omega
      have HA := hide ha
      clear ha
      go_wp2
      go_ret
      refine ⟨-1, rfl, ⟨fun h => by omega, fun h => ?_⟩, rfl⟩
      have := unhide HA
      rw [List.take_of_length_le (by omega), h] at this
      cases this
theorem containsFuncK_any (a : Option Addr) (n cap : Nat) (l : List Bs) (w : World) (hp : Sts w a n l) (hn : n ≤ 4294967296) (ht : tot l ≤ 4294967296) :
    Calls Tryz.prog 102 #[.slice a n cap, .func (.func 71) #[] #[]] w fun e w' => e = .returned (.bool (anyB noKey l)) ∧ w' = w := by
  have H := hide (indexFuncK_any a n cap l w hp hn ht)
  clear hp
  go_enter Tryz.func102, Tryz.ntmps102
  go_wp2_with fail
  refine (unhide H).mono ?_
  rintro e w1 ⟨i, rfl, hi, rfl⟩
  by_cases h0 : 0 ≤ i
  · have HI := hide (hi.1 h0)
    clear hi
    go_wp2
    go_ret
    exact ⟨ret_bool (by rw [unhide HI]; first | done | rfl | simpa using h0), rfl⟩
  · have HI := hide (show anyB noKey l = false by
      cases q : anyB noKey l
      · rfl
      · exact absurd (hi.2 q) h0)
    clear hi
    go_wp2
    go_ret
    exact ⟨ret_bool (by rw [unhide HI]; first | done | rfl | simpa using h0), rfl⟩
theorem indexFuncL_any (a : Option Addr) (n cap : Nat) (l : List Bs) (w : World) (hp : Sts w a n l) (hn : n ≤ 4294967296) (ht : tot l ≤ 4294967296) :
    Calls Tryz.prog 121 #[.slice a n cap, .func (.func 118) #[] #[]] w fun e w' => ∃ i : Int, e = .returned (I i) ∧ (0 ≤ i ↔ anyB lng l = true) ∧ w' = w := by
  have hN := hp.1
  subst hN
  have HP := hide hp
  have HT := hide (fun k => Nat.le_trans (tot_at l k) ht)
  clear hp ht
  go_enter Tryz.func121, Tryz.ntmps121
  go_wp2
  go_loopw [8] (fun i wr => ∃ k : Nat, k ≤ l.length ∧ i = .int .i64 k ∧ anyB lng (l.take k) = false ∧ wr = w) (fun i _ => l.length - (Go.RowKit.intOf i).toNat)
  case atStart => exact ⟨0, by omega, rfl, rfl, rfl⟩
  case round =>
    obtain ⟨k, hk, rfl, ha, rfl⟩ := hrel
    by_cases hlt : k < l.length
    · obtain ⟨p, o, rfl, hpl, hc0⟩ := (unhide HP).at hlt
      have hlt' : (k : Int) < (l.length : Int) := by omega
      have HN := hide (anyb_next lng l k hlt)
      have HW := hide (anyb_hit lng l k hlt)
      have hxl := unhide HT k
      generalize l.getD k [] = x at *
      have H1 := hide (fun W => isLong_any x W hxl)
      have HA := hide ha
      clear ha
      cases hx : lng x
      · rw [hx] at H1
        have HA2 := hide (show anyB lng (l.take (k + 1)) = false by rw [unhide HN, unhide HA, hx]; rfl)
        clear hx
        go_wp2_with fail
        refine (unhide H1 _).mono ?_
        rintro e w2 ⟨rfl, rfl⟩
        go_wp2
        go_round
        case measure => simp [Go.RowKit.intOf]; omega
        case rel => exact ⟨k + 1, by omega, by simp, unhide HA2, by first | trivial | rfl⟩
      · rw [hx] at H1
        have HX := hide hx
        clear hx
        go_wp2_with fail
        refine (unhide H1 _).mono ?_
        rintro e w2 ⟨rfl, rfl⟩
        go_wp2
        go_ret
        exact ⟨k, rfl, ⟨fun _ => unhide HW (unhide HX), fun _ => by omega⟩, rfl⟩
    · have hlt' : ¬ (k : Int) < (l.length : Int) := by omega
      have HA := hide ha
      clear ha
      go_wp2
      go_ret
      refine ⟨-1, rfl, ⟨fun h => by omega, fun h => ?_⟩, rfl⟩
      have := unhide HA
      rw [List.take_of_length_le (by omega), h] at this
      cases this
theorem containsFuncL_any (a : Option Addr) (n cap : Nat) (l : List Bs) (w : World) (hp : Sts w a n l) (hn : n ≤ 4294967296) (ht : tot l ≤ 4294967296) :
    Calls Tryz.prog 102 #[.slice a n cap, .func (.func 118) #[] #[]] w fun e w' => e = .returned (.bool (anyB lng l)) ∧ w' = w := by
  have H := hide (indexFuncL_any a n cap l w hp hn ht)
  clear hp
  go_enter Tryz.func102, Tryz.ntmps102
  go_wp2_with fail
  refine (unhide H).mono ?_
  rintro e w1 ⟨i, rfl, hi, rfl⟩
  by_cases h0 : 0 ≤ i
  · have HI := hide (hi.1 h0)
    clear hi
    go_wp2
    go_ret
    exact ⟨ret_bool (by rw [unhide HI]; first | done | rfl | simpa using h0), rfl⟩
  · have HI := hide (show anyB lng l = false by
      cases q : anyB lng l
      · rfl
      · exact absurd (hi.2 q) h0)
    clear hi
    go_wp2
    go_ret
    exact ⟨ret_bool (by rw [unhide HI]; first | done | rfl | simpa using h0), rfl⟩
end Go.Proofs.YtllialbdofklgaaGreatDoor
namespace Go.Proofs.YtllialbdofklgaaGreatDoor
open Go.RowKit
set_option maxHeartbeats 4000000
set_option maxRecDepth 8000
theorem rise_any (a : Option Addr) (n cap : Nat) (l : List Bs) (w : World) (hp : Sts w a n l) (hn : n ≤ 4294967296) :
    Calls Tryz.prog 52 #[.slice a n cap] w fun e w' => e = .returned (.bool (up l)) ∧ ∃ q, w' = w.drewN q := by
  have hN := hp.1
  subst hN
  have HP := hide hp
  clear hp
  go_enter Tryz.func52, Tryz.ntmps52
  go_wp2
  go_loopw [6] (fun i wr => ∃ k q : Nat, k ≤ l.length ∧ i = .int .i64 k ∧ up (l.take k) = true ∧ wr = w.drewN q) (fun i _ => l.length - (Go.RowKit.intOf i).toNat)
  case atStart => exact ⟨0, 0, by omega, rfl, rfl, rfl⟩
  case round =>
    obtain ⟨k, q, hk, rfl, ha, rfl⟩ := hrel
    by_cases hlt : k < l.length
    · have hlt' : (k : Int) < (l.length : Int) := by omega
      by_cases h0 : k = 0
      · subst h0
        have HA := hide (up_one l)
        clear ha
        go_wp2
        go_quiet (fail)
        go_wp2
        go_round
        case measure => simp [Go.RowKit.intOf]; omega
        case rel => exact ⟨1, q + nq, by omega, by simp, unhide HA, by simp⟩
      · obtain ⟨j, rfl⟩ : ∃ j, k = j + 1 := ⟨k - 1, by omega⟩
        obtain ⟨p, o, rfl, hpl, hc0⟩ := (unhide HP).at hlt
        obtain ⟨p', o', e1, _, hc1⟩ := (unhide HP).at (show j < l.length by omega)
        cases e1
        have HN := hide (up_next j hlt ha)
        have HW := hide (up_bad j hlt)
        have h0' : decide ((0 : Int) < ((j + 1 : Nat) : Int)) = true := by rw [decide_eq_true_eq]; omega
        clear ha
        generalize l.getD (j + 1) [] = y at *
        generalize l.getD j [] = x at *
        have hq := fun W => run_geq x y W
        by_cases hxy : x < y
        · rw [show decide (¬ x < y) = false by simp [hxy]] at hq
          have HA := hide (unhide HN hxy)
          clear HN HW hxy
          go_wp2
          go_quiet (fail)
          go_wp2
          go_round
          case measure => simp [Go.RowKit.intOf]; omega
          case rel => exact ⟨j + 2, q + nq, by omega, by simp; omega, unhide HA, by simp⟩
        · rw [show decide (¬ x < y) = true by simp [hxy]] at hq
          have HA := hide (unhide HW hxy)
          clear HN HW hxy
          go_wp2
          go_quiet (fail)
          go_wp2
          go_ret
          exact ⟨ret_bool (unhide HA).symm, q + nq, by simp⟩
    · have hlt' : ¬ (k : Int) < (l.length : Int) := by omega
      have HA := hide ha
      clear ha
      go_wp2
      go_ret
      refine ⟨ret_bool ?_, q, rfl⟩
      have := unhide HA
      rw [List.take_of_length_le (by omega)] at this
      exact this.symm
theorem kok_eq (l : List Bs) : kok l = (!anyB noKey l && up l) := by
  unfold kok anyB
  congr 1
  simp [List.all_eq_not_any_not]
theorem keysMayBe_any (a : Option Addr) (n cap : Nat) (l : List Bs) (w : World) (hp : Sts w a n l) (hn : n ≤ 4294967296) (ht : tot l ≤ 4294967296) :
    Calls Tryz.prog 70 #[.slice a n cap] w fun e w' => e = .returned (.bool (kok l)) ∧ ∃ q, w' = w.drewN q := by
  have H1 := hide (containsFuncK_any a n cap l w hp hn ht)
  have H2 := hide (rise_any a n cap l w hp hn)
  rw [kok_eq]
  clear hp
  go_enter Tryz.func70, Tryz.ntmps70
  cases hx : anyB noKey l
  · rw [hx] at H1
    clear hx
    generalize up l = u at *
    go_wp2_with fail
    refine (unhide H1).mono ?_
    rintro e w1 ⟨rfl, rfl⟩
    go_wp2_with fail
    refine (unhide H2).mono ?_
    rintro e w1 ⟨rfl, q, rfl⟩
    go_wp2
    go_ret
    exact ⟨rfl, q, rfl⟩
  · rw [hx] at H1
    clear hx
    go_wp2_with fail
    refine (unhide H1).mono ?_
    rintro e w1 ⟨rfl, rfl⟩
    go_wp2
    go_ret
    exact ⟨rfl, 0, rfl⟩
theorem bget (a : Bs) (k : Nat) (h : k < a.length) : (⟨a.toArray⟩ : ByteArray)[k]'(by simpa [ByteArray.size] using h) = a.getD k 0 := by
  rw [List.getD_eq_getElem?_getD, List.getElem?_eq_getElem h]
  rfl
theorem alike_any (a b : Bs) (w : World) (ha : a.length ≤ 4294967296) (_hb : b.length ≤ 4294967296) :
    Calls Tryz.prog 55 #[S a, S b] w fun e w' => e = .returned (I (alk a b)) ∧ ∃ q, w' = w.drewN q := by
  have HL := hide (alk_le a b)
  go_enter Tryz.func55, Tryz.ntmps55
  go_wp2
  go_loopw [5] (fun i wr => ∃ k q : Nat, k ≤ alk a b ∧ i = .int .i64 k ∧ wr = w.drewN q) (fun i _ => a.length - (Go.RowKit.intOf i).toNat)
  case atStart => exact ⟨0, 0, by omega, rfl, rfl⟩
  case round =>
    obtain ⟨k, q, hk, rfl, rfl⟩ := hrel
    have hl := unhide HL
    by_cases h1 : k < a.length
    · have h1' : decide ((k : Int) < (a.length : Int)) = true := by rw [decide_eq_true_eq]; omega
      by_cases h2 : k < b.length
      · have h2' : decide ((k : Int) < (b.length : Int)) = true := by rw [decide_eq_true_eq]; omega
        by_cases h3 : a.getD k 0 = b.getD k 0
        · have HK := hide (show k + 1 ≤ alk a b by
            rcases Nat.lt_or_ge k (alk a b) with q | q
            · omega
            · obtain rfl : k = alk a b := by omega
              exact absurd h3 (alk_end a b h1 h2))
          have h3' : ((((⟨a.toArray⟩ : ByteArray)[k]'(by simpa [ByteArray.size] using h1)).toNat : Int) == (((⟨b.toArray⟩ : ByteArray)[k]'(by simpa [ByteArray.size] using h2)).toNat : Int)) = true := by rw [bget a k h1, bget b k h2, h3]; simp
          go_wp2
          go_quiet (fail)
          go_wp2
          go_round
          case measure => simp [Go.RowKit.intOf]; omega
          case rel => exact ⟨k + 1, _, unhide HK, by simp, by first | rfl | simp⟩
        · have HK := hide (show alk a b = k by
            rcases Nat.lt_or_ge k (alk a b) with q | q
            · exact absurd (alk_at a b k q) h3
            · omega)
          have h3' : ((((⟨a.toArray⟩ : ByteArray)[k]'(by simpa [ByteArray.size] using h1)).toNat : Int) == (((⟨b.toArray⟩ : ByteArray)[k]'(by simpa [ByteArray.size] using h2)).toNat : Int)) = false := by
            rw [bget a k h1, bget b k h2, beq_eq_false_iff_ne]
            intro e
            exact h3 (UInt8.toNat_inj.1 (by omega))
          go_wp2
          go_quiet (fail)
          go_wp2
          go_ret
          exact ⟨ret_int (by rw [unhide HK]), q + nq, by simp⟩
      · have h2' : decide ((k : Int) < (b.length : Int)) = false := by rw [decide_eq_false_iff_not]; omega
        go_wp2
        go_quiet (fail)
        go_wp2
        go_ret
        exact ⟨ret_int (by omega), q + nq, by simp⟩
    · have h1' : decide ((k : Int) < (a.length : Int)) = false := by rw [decide_eq_false_iff_not]; omega
      go_wp2
      go_quiet (fail)
      go_wp2
      go_ret
      exact ⟨ret_int (by omega), q + nq, by simp⟩
end Go.Proofs.YtllialbdofklgaaGreatDoor
namespace Go.Proofs.YtllialbdofklgaaGreatDoor
open Go.RowKit
set_option maxHeartbeats 4000000
set_option maxRecDepth 8000
theorem ext0 (b : Bs) (k : Nat) : (⟨b.toArray⟩ : ByteArray).extract 0 k = ⟨(b.take k).toArray⟩ := by
  rw [Go.Lib.extract_eq]
  simp
theorem between_any (a b : Bs) (w : World) (ha : a.length ≤ 4294967296) (hb : b.length ≤ 4294967296) :
    Calls Tryz.prog 27 #[S a, S b] w fun e w' => e = .returned (S (btw a b)) ∧ Below w.heap.size w w' := by
  have hq := fun W => run_geq a b W
  have H1 := hide (alike_any a b w ha hb)
  unfold btw
  by_cases h : a < b
  · rw [show decide (¬ a < b) = false by simp [h]] at hq
    rw [if_pos h]
    have hl := alk_lt h
    generalize alk a b = k at *
    have H2 := fun W => hide (clone_any (b.take (k + 1)) W (by simp; omega))
    clear h
    go_enter Tryz.func27, Tryz.ntmps27
    go_wp2_with fail
    refine (unhide H1).mono ?_
    rintro e w1 ⟨rfl, q, rfl⟩
    go_wp2_with fail
    rw [ext0]
    refine (unhide (H2 _)).mono ?_
    rintro e w1 ⟨rfl, b2⟩
    have HB := hide (show Below w.heap.size w w1 from (bel_q (Below.refl _ _) q).trans b2)
    clear b2
    go_wp2
    go_ret
    exact ⟨rfl, unhide HB⟩
  · rw [show decide (¬ a < b) = true by simp [h]] at hq
    rw [if_neg h]
    have H2 := fun W => hide (clone_any b W (by omega))
    clear h H1
    go_enter Tryz.func27, Tryz.ntmps27
    go_wp2_with fail
    refine (unhide (H2 _)).mono ?_
    rintro e w1 ⟨rfl, b2⟩
    have HB := hide b2
    clear b2
    go_wp2
    go_ret
    exact ⟨rfl, unhide HB⟩
/-- A node in memory. -/
def nda (n : Nd) (ka va ia : Option Addr) (kc vc ic : Nat) : Value := .agg #[.bool n.leaf, .slice ka n.keys.length kc, .slice va n.vals.length vc, .slice ia n.kids.length ic]
structure NA (n : Nd) (ka va ia : Option Addr) (w : World) : Prop where
  ks : Sts w ka n.keys.length n.keys
  vs : Sts w va n.vals.length n.vals
  is : Ins w ia n.kids.length n.kids
theorem NA.below {n : Nd} {ka va ia : Option Addr} {w w' : World} (h : NA n ka va ia w) (hb : Below w.heap.size w w') : NA n ka va ia w' := ⟨h.ks.below hb, h.vs.below hb, h.is.below hb⟩
/-- It is no greater than the document's bound. -/
structure NB (n : Nd) : Prop where
  k : n.keys.length ≤ 4294967296
  v : n.vals.length ≤ 4294967296
  i : n.kids.length ≤ 4294967296
  kt : tot n.keys ≤ 4294967296
  vt : tot n.vals ≤ 4294967296
theorem box4 {B g : Nat} {a b c d : Value} {w0 w : World} (h : w0.heap[g]? = some (.cells #[a, b, c, d] 25 (0, 0))) (hb : Below B w0 w) (hg : g < B) : w.cell? ⟨g, 0, none⟩ = some a ∧ w.cell? ⟨g, 1, none⟩ = some b ∧ w.cell? ⟨g, 2, none⟩ = some c ∧ w.cell? ⟨g, 3, none⟩ = some d := by
  have h2 : w.heap[g]? = some (.cells #[a, b, c, d] 25 (0, 0)) := (hb.block g hg).trans h
  have := fun j => cell_of_row w g j _ 25 (0, 0) h2
  refine ⟨?_, ?_, ?_, ?_⟩ <;> (rw [this]; rfl)
theorem size_any (n : Nd) (ka va ia : Option Addr) (kc vc ic : Nat) (w : World) (h : NA n ka va ia w) (hb : NB n) :
    Calls Tryz.prog 43 #[nda n ka va ia kc vc ic] w fun e w' => e = .returned (I n.siz) ∧ Below w.heap.size w w' := by
  obtain ⟨lf, ks, vs, is⟩ := n
  have hA := (Below.refl w.heap.size w).alloc (Nat.le_refl _) (.cells #[.bool lf, .slice ka ks.length kc, .slice va vs.length vc, .slice ia is.length ic] 25)
  have hn := h.below hA
  obtain ⟨b1, b2, b3, b4, b5⟩ := hb
  have h1 := hn.ks
  have h2 := hn.vs
  simp only at h1 h2 b1 b2 b3 b4 b5
  have H1 := hide (fun q => bytesIn_any ka _ kc ks ((w.alloc (.cells #[.bool lf, .slice ka ks.length kc, .slice va vs.length vc, .slice ia is.length ic] 25)).drewN q) h1 b1 b4)
  have H2 := hide (fun q => bytesIn_any va _ vc vs ((w.alloc (.cells #[.bool lf, .slice ka ks.length kc, .slice va vs.length vc, .slice ia is.length ic] 25)).drewN q) h2 b2 b5)
  have HA := hide hA
  clear h hA hn h1 h2
  unfold nda Nd.siz
  simp only
  generalize tot ks = tk at *
  generalize tot vs = tv at *
  generalize hkl : ks.length = kl at *
  generalize hvl : vs.length = vl at *
  generalize hil : is.length = il at *
  clear hkl hvl hil ks vs is
  cases lf
  · go_enter Tryz.func43, Tryz.ntmps43
    go_wp2
    go_quiet ((go_at_call 74; exact Calls.quiet_of_same (unhide H1 _)))
    go_wp2
    go_ret
    exact ⟨ret_int (by simp), bel_q (unhide HA) _⟩
  · go_enter Tryz.func43, Tryz.ntmps43
    go_wp2
    go_quiet ((go_at_call 74; with_reducible first | exact Calls.quiet_of_same (unhide H1 _) | exact Calls.quiet_of_same (unhide H2 _)))
    go_wp2
    go_ret
    exact ⟨ret_int (by omega), bel_q (unhide HA) _⟩
end Go.Proofs.YtllialbdofklgaaGreatDoor
namespace Go.Proofs.YtllialbdofklgaaGreatDoor
open Go.RowKit
set_option maxHeartbeats 4000000
set_option maxRecDepth 8000
/-- A leaf whose lists go together. -/
def agl (n : Nd) : Bool := decide (n.vals.length = n.keys.length) && decide (n.kids.length = 0) && !anyB lng n.vals
theorem agrees_leaf (n : Nd) (ka va ia : Option Addr) (kc vc ic : Nat) (w : World) (h : NA n ka va ia w) (hb : NB n) (hl : n.leaf = true) :
    Calls Tryz.prog 101 #[nda n ka va ia kc vc ic] w fun e w' => e = .returned (.bool (agl n)) ∧ Below w.heap.size w w' := by
  obtain ⟨lf, ks, vs, is⟩ := n
  simp only at hl
  subst hl
  have hA := (Below.refl w.heap.size w).alloc (Nat.le_refl _) (.cells #[.bool true, .slice ka ks.length kc, .slice va vs.length vc, .slice ia is.length ic] 25)
  have hvs := (h.below hA).vs
  have H1 := hide (containsFuncL_any va vs.length vc vs _ hvs hb.v hb.vt)
  have b1 := hb.k
  have b2 := hb.v
  have b3 := hb.i
  simp only at b1 b2 b3
  have HA := hide hA
  have HF := hide (show agl ⟨true, ks, vs, is⟩ = (decide (vs.length = ks.length) && decide (is.length = 0) && !anyB lng vs) from rfl)
  generalize agl ⟨true, ks, vs, is⟩ = F at *
  clear h hA hvs hb
  unfold nda
  simp only
  generalize hal : anyB lng vs = al at *
  generalize hkl : ks.length = kl at *
  generalize hvl : vs.length = vl at *
  generalize hil : is.length = il at *
  clear hkl hvl hil hal ks vs is
  by_cases h1 : vl = kl
  · subst h1
    by_cases h2 : il = 0
    · subst h2
      go_enter Tryz.func101, Tryz.ntmps101
      go_wp2_with fail
      refine (unhide H1).mono ?_
      rintro e w1 ⟨rfl, rfl⟩
      go_wp2
      go_ret
      exact ⟨ret_bool (by rw [unhide HF]; simp), unhide HA⟩
    · have h2' : ((il : Int) == 0) = false := by simp; omega
      go_enter Tryz.func101, Tryz.ntmps101
      go_wp2
      go_ret
      exact ⟨ret_bool (by rw [unhide HF]; simp [h2]), unhide HA⟩
  · have h1' : ((vl : Int) == (kl : Int)) = false := by simp; omega
    go_enter Tryz.func101, Tryz.ntmps101
    go_wp2
    go_ret
    exact ⟨ret_bool (by rw [unhide HF]; simp [h1]), unhide HA⟩
/-- A leaf that has its form. -/
def hfl (n : Nd) : Bool := decide (0 < n.keys.length) && agl n
theorem hasForm_leaf (n : Nd) (ka va ia : Option Addr) (kc vc ic : Nat) (w : World) (h : NA n ka va ia w) (hb : NB n) (hl : n.leaf = true) :
    Calls Tryz.prog 87 #[nda n ka va ia kc vc ic] w fun e w' => e = .returned (.bool (hfl n)) ∧ Below w.heap.size w w' := by
  have hA := (Below.refl w.heap.size w).alloc (Nat.le_refl _) (.cells #[.bool n.leaf, .slice ka n.keys.length kc, .slice va n.vals.length vc, .slice ia n.kids.length ic] 25)
  have H1 := hide (agrees_leaf n ka va ia kc vc ic _ (h.below hA) hb hl)
  have b1 := hb.k
  have HA := hide hA
  unfold hfl
  generalize agl n = ag at *
  clear h hA hb hl
  unfold nda at *
  generalize n.keys.length = kl at *
  generalize n.vals.length = vl at *
  generalize n.kids.length = il at *
  generalize n.leaf = lf at *
  by_cases h1 : 0 < kl
  · have h1' : decide ((0 : Int) < (kl : Int)) = true := by rw [decide_eq_true_eq]; omega
    go_enter Tryz.func87, Tryz.ntmps87
    go_wp2_with fail
    refine (unhide H1).mono ?_
    rintro e w1 ⟨rfl, b⟩
    have HB := hide ((unhide HA).trans (b.mono (unhide HA).size))
    clear b
    go_wp2
    go_ret
    exact ⟨ret_bool (by simp [h1]), unhide HB⟩
  · have h1' : decide ((0 : Int) < (kl : Int)) = false := by rw [decide_eq_false_iff_not]; omega
    go_enter Tryz.func87, Tryz.ntmps87
    go_wp2
    go_ret
    exact ⟨ret_bool (by simp [h1]), unhide HA⟩
/-- Why a leaf is not right. -/
def wrl (n : Nd) : Nat := if hfl n then (if kok n.keys then (if 480 < n.siz then 102 else 0) else 101) else 100
theorem wrong_leaf (n : Nd) (ka va ia : Option Addr) (kc vc ic : Nat) (w : World) (h : NA n ka va ia w) (hb : NB n) (hl : n.leaf = true) :
    Calls Tryz.prog 59 #[nda n ka va ia kc vc ic] w fun e w' => e = .returned (I (wrl n)) ∧ Below w.heap.size w w' := by
  have hA := (Below.refl w.heap.size w).alloc (Nat.le_refl _) (.cells #[.bool n.leaf, .slice ka n.keys.length kc, .slice va n.vals.length vc, .slice ia n.kids.length ic] 25)
  have hg := heap_alloc_new w (.cells #[.bool n.leaf, .slice ka n.keys.length kc, .slice va n.vals.length vc, .slice ia n.kids.length ic] 25)
  have hz := lt_of_row hg
  have hna := h.below hA
  have H1 := hide (hasForm_leaf n ka va ia kc vc ic _ hna hb hl)
  have H2 := hide (fun W (b : Below (w.alloc (.cells #[.bool n.leaf, .slice ka n.keys.length kc, .slice va n.vals.length vc, .slice ia n.kids.length ic] 25)).heap.size (w.alloc (.cells #[.bool n.leaf, .slice ka n.keys.length kc, .slice va n.vals.length vc, .slice ia n.kids.length ic] 25)) W) => keysMayBe_any ka _ kc n.keys W (hna.below b).ks hb.k hb.kt)
  have H3 := hide (fun W (b : Below (w.alloc (.cells #[.bool n.leaf, .slice ka n.keys.length kc, .slice va n.vals.length vc, .slice ia n.kids.length ic] 25)).heap.size (w.alloc (.cells #[.bool n.leaf, .slice ka n.keys.length kc, .slice va n.vals.length vc, .slice ia n.kids.length ic] 25)) W) => size_any n ka va ia kc vc ic W (hna.below b) hb)
  have HA := hide hA
  have HG := hide hg
  have hsz : n.siz ≤ 100000000000 := by
    obtain ⟨b1, b2, b3, b4, b5⟩ := hb
    unfold Nd.siz
    split <;> omega
  unfold wrl
  generalize hfl n = c1 at *
  generalize kok n.keys = c2 at *
  generalize n.siz = sz at *
  clear h hA hb hl hna hg
  unfold nda at *
  generalize n.keys.length = kl at *
  generalize n.vals.length = vl at *
  generalize n.kids.length = il at *
  generalize n.leaf = lf at *
  clear n
  go_enter Tryz.func59, Tryz.ntmps59
  go_wp2_with fail
  refine (unhide H1).mono ?_
  rintro e w1 ⟨rfl, b⟩
  have HB1 := hide b
  obtain ⟨d0, d1, d2, d3⟩ := box4 (unhide HG) b hz
  have hz1 : w.heap.size < w1.heap.size := Nat.lt_of_lt_of_le hz b.size
  have h2 := hide (unhide H2 w1 b)
  clear b H2
  cases c1
  · go_wp2
    go_ret
    exact ⟨rfl, (unhide HA).trans ((unhide HB1).mono (unhide HA).size)⟩
  · go_wp2_with fail
    refine (unhide h2).mono ?_
    rintro e w2 ⟨rfl, q, rfl⟩
    have HB2 := hide (bel_q (unhide HB1) q)
    have h3 := hide (unhide H3 _ (bel_q (unhide HB1) q))
    clear H3
    cases c2
    · go_wp2
      go_ret
      exact ⟨rfl, (unhide HA).trans ((unhide HB2).mono (unhide HA).size)⟩
    · go_wp2_with fail
      refine (unhide h3).mono ?_
      rintro e w3 ⟨rfl, b3⟩
      have HB3 := hide ((unhide HA).trans (((unhide HB2).trans (b3.mono (unhide HB2).size)).mono (unhide HA).size))
      clear b3
      by_cases h : 480 < sz
      · have h' : decide ((480 : Int) < (sz : Int)) = true := by rw [decide_eq_true_eq]; omega
        go_wp2
        go_ret
        exact ⟨ret_int (by simp), unhide HB3⟩
      · have h' : decide ((480 : Int) < (sz : Int)) = false := by rw [decide_eq_false_iff_not]; omega
        go_wp2
        go_ret
        exact ⟨ret_int (by simp), unhide HB3⟩
end Go.Proofs.YtllialbdofklgaaGreatDoor
namespace Go.Proofs.YtllialbdofklgaaGreatDoor
open Go.RowKit
set_option maxHeartbeats 4000000
set_option maxRecDepth 8000
theorem find_any (n : Nd) (ka va ia : Option Addr) (kc vc ic : Nat) (key : Bs) (w : World) (h : NA n ka va ia w) (hb : NB n) :
    Calls Tryz.prog 25 #[nda n ka va ia kc vc ic, S key] w fun e w' => e = .returned (.tuple #[I (fnd n key).1, .bool (fnd n key).2]) ∧ Below w.heap.size w w' := by
  obtain ⟨lf, ks, vs, is⟩ := n
  have hA := (Below.refl w.heap.size w).alloc (Nat.le_refl _) (.cells #[.bool lf, .slice ka ks.length kc, .slice va vs.length vc, .slice ia is.length ic] 25)
  have hg := heap_alloc_new w (.cells #[.bool lf, .slice ka ks.length kc, .slice va vs.length vc, .slice ia is.length ic] 25)
  have hz := lt_of_row hg
  have hks := (h.below hA).ks
  have H1 := hide (rise_any ka ks.length kc ks _ hks hb.k)
  have hkl := hb.k
  simp only at hkl hks
  have HA := hide hA
  have HK := hide hks
  have HG := hide hg
  clear h hA hks hg hb
  have HF := hide (show fnd ⟨lf, ks, vs, is⟩ key = if up ks then (if lf then (blw ks key, decide (blw ks key < ks.length ∧ ks.getD (blw ks key) [] = key)) else (if decide (blw ks key < ks.length ∧ ks.getD (blw ks key) [] = key) then blw ks key + 1 else blw ks key, false)) else (0, false) from rfl)
  generalize fnd ⟨lf, ks, vs, is⟩ key = F at *
  unfold nda
  simp only
  cases hu : up ks
  · rw [hu] at H1 HF
    clear hu
    go_enter Tryz.func25, Tryz.ntmps25
    go_wp2_with fail
    refine (unhide H1).mono ?_
    rintro e w1 ⟨rfl, q, rfl⟩
    have HB := hide (bel_q (unhide HA) q)
    go_wp2
    go_ret2
    have hf := unhide HF
    simp only [Bool.false_eq_true, if_false] at hf
    subst hf
    exact ⟨rfl, unhide HB⟩
  · rw [hu] at H1 HF
    rw [if_pos rfl] at HF
    clear hu
    have HL := hide (blw_le ks key)
    have HLT := hide (blw_lt ks key)
    have HEN := hide (blw_end ks key)
    have HOF := hide (fun k h hk => @blw_of ks key k h hk)
    generalize blw ks key = K at *
    go_enter Tryz.func25, Tryz.ntmps25
    go_wp2_with fail
    refine (unhide H1).mono ?_
    rintro e w1 ⟨rfl, q, rfl⟩
    have HB := hide (bel_q (unhide HA) q)
    have hk1 : Sts ((w.alloc (.cells #[.bool lf, .slice ka ks.length kc, .slice va vs.length vc, .slice ia is.length ic] 25)).drewN q) ka ks.length ks := (unhide HK).below (bel_q (Below.refl _ _) q)
    have HK1 := hide hk1
    have hd := box4 (unhide HG) (bel_q (Below.refl _ _) q) hz
    have hz1 : w.heap.size < ((w.alloc (.cells #[.bool lf, .slice ka ks.length kc, .slice va vs.length vc, .slice ia is.length ic] 25)).drewN q).heap.size := hz
    clear hz HG HK HA hk1
    generalize (w.alloc (.cells #[.bool lf, .slice ka ks.length kc, .slice va vs.length vc, .slice ia is.length ic] 25)).drewN q = W at *
    obtain ⟨d0, d1, d2, d3⟩ := hd
    go_wp2
    go_loopw [6] (fun i wr => ∃ k : Nat, k ≤ K ∧ i = .int .i64 k ∧ wr = W) (fun i _ => ks.length - (Go.RowKit.intOf i).toNat)
    case atStart => exact ⟨0, by omega, rfl, rfl⟩
    case round =>
      obtain ⟨k, hk, rfl, rfl⟩ := hrel
      have hl := unhide HL
      by_cases h1 : k < ks.length
      · have h1' : decide ((k : Int) < (ks.length : Int)) = true := by rw [decide_eq_true_eq]; omega
        obtain ⟨p, o, rfl, hpl, hc0⟩ := (unhide HK1).at h1
        have HX : Hid (ks.getD k [] < key → k < K) := by
          intro h
          rcases Nat.lt_or_ge k K with q | q
          · exact q
          · obtain rfl : k = K := by omega
            exact absurd h (unhide HEN h1)
        have HY : Hid (¬ ks.getD k [] < key → K = k) := by
          intro h
          rcases Nat.lt_or_ge k K with q | q
          · exact absurd (unhide HLT k q) h
          · omega
        have HG : Hid (ks.getD k [] = ks.getD k []) := rfl
        generalize hx : ks.getD k [] = x at *
        by_cases h2 : x < key
        · have hs : Op.bytesLess x key = true := by rw [less_eq]; simp [h2]
          have h3 := unhide HX h2
          clear HX HY HG h2
          go_wp2
          go_round
          case measure => simp [Go.RowKit.intOf]; omega
          case rel => exact ⟨k + 1, by omega, by simp, by first | trivial | rfl⟩
        · have hs : Op.bytesLess x key = false := by rw [less_eq]; simp [h2]
          have h3 := unhide HY h2
          clear HX HY HG h2 hk hl
          subst h3
          rw [show (decide (K < ks.length ∧ ks.getD K [] = key)) = (x == key) by rw [hx, Bool.eq_iff_iff]; simp [h1]] at HF
          clear HL HLT HEN HOF hx
          generalize hv : (x == key) = v at *
          cases lf
          · cases v
            · go_wp2
              go_ret2
              exact ⟨by rw [unhide HF]; rfl, unhide HB⟩
            · go_wp2
              go_ret2
              exact ⟨by rw [unhide HF]; rfl, unhide HB⟩
          · go_wp2
            go_ret2
            exact ⟨by rw [unhide HF]; rfl, unhide HB⟩
      · have h1' : decide ((k : Int) < (ks.length : Int)) = false := by rw [decide_eq_false_iff_not]; omega
        have h3 : K = k := by omega
        subst h3
        rw [show (decide (K < ks.length ∧ ks.getD K [] = key)) = false by simp [h1]] at HF
        clear HL HLT HEN HOF hl
        cases lf
        · go_wp2
          go_ret2
          exact ⟨by rw [unhide HF]; rfl, unhide HB⟩
        · go_wp2
          go_ret2
          exact ⟨by rw [unhide HF]; rfl, unhide HB⟩
end Go.Proofs.YtllialbdofklgaaGreatDoor
