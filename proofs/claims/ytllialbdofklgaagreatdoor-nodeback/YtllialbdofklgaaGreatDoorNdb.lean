import Derived.Test.YtllialbdofklgaaGreatDoorNda
import Derived.Test.YtllialbdofklgaaGreatDoorNin
import Derived.BigQuiet
import Derived.Deep.QuietTactic
namespace Go.Proofs.YtllialbdofklgaaGreatDoor
open Go.RowKit
set_option maxHeartbeats 4000000
set_option maxRecDepth 8000
theorem bel_q {B : Nat} {w wr : World} (h : Below B w wr) (q : Nat) : Below B w (wr.drewN q) := h.trans ⟨rfl, rfl, rfl, Nat.le_refl _, fun _ _ => rfl⟩
theorem bytesIn_any (a : Option Addr) (n cap : Nat) (l : List Bs) (w : World) (hp : Sts w a n l) (hn : n ≤ 4294967296) (ht : tot l ≤ 4294967296) :
    Calls Tryz.prog 74 #[.slice a n cap] w fun e w' => e = .returned (I (tot l)) ∧ w' = w := by
  have hN := hp.1
  subst hN
  have HP := hide hp
  clear hp
  go_enter Tryz.func74, Tryz.ntmps74
  go_wp2
  go_loopw [3, 8] (fun s i wr => ∃ k : Nat, k ≤ l.length ∧ i = .int .i64 k ∧ s = .int .i64 (tot (l.take k) : Nat) ∧ wr = w) (fun _ i _ => l.length - (Go.RowKit.intOf i).toNat)
  case atStart => exact ⟨0, by omega, rfl, rfl, rfl⟩
  case round =>
    obtain ⟨k, hk, rfl, rfl, rfl⟩ := hrel
    by_cases hlt : k < l.length
    · obtain ⟨p, o, rfl, hpl, hc0⟩ := (unhide HP).at hlt
      have hlt' : (k : Int) < (l.length : Int) := by omega
      have h1 := tot_next l k hlt
      have h2 := tot_take l (k + 1)
      have HN := hide h1
      generalize l.getD k [] = x at *
      generalize tot (l.take k) = T at *
      rw [h1] at h2
      clear h1
      go_wp2
      go_round
      case measure => simp [Go.RowKit.intOf]; omega
      case rel => exact ⟨k + 1, by omega, by simp, by rw [unhide HN]; simp, by first | trivial | rfl⟩
    · have hlt' : ¬ (k : Int) < (l.length : Int) := by omega
      go_wp2
      go_ret
      exact ⟨ret_int (by rw [List.take_of_length_le (by omega)]), rfl⟩
theorem isNoKey_any (x : Bs) (w : World) (hx : x.length ≤ 4294967296) :
    Calls Tryz.prog 71 #[S x] w fun e w' => e = .returned (.bool (noKey x)) ∧ w' = w := by
  go_enter Tryz.func71, Tryz.ntmps71
  unfold noKey
  by_cases h1 : x.length < 1
  · have h1' : decide ((x.length : Int) < 1) = true := by rw [decide_eq_true_eq]; omega
    go_wp2
    go_ret
    exact ⟨ret_bool (by simp [h1]), rfl⟩
  · have h1' : decide ((x.length : Int) < 1) = false := by rw [decide_eq_false_iff_not]; omega
    go_wp2
    go_ret
    exact ⟨ret_bool (by rw [show decide (x.length < 1) = false by simp [h1], Bool.false_or]; rw [Bool.eq_iff_iff]; simp only [decide_eq_true_eq]; omega), rfl⟩
def lng (x : Bs) : Bool := decide (200 < x.length)
theorem isLong_any (x : Bs) (w : World) (hx : x.length ≤ 4294967296) :
    Calls Tryz.prog 118 #[S x] w fun e w' => e = .returned (.bool (lng x)) ∧ w' = w := by
  go_enter Tryz.func118, Tryz.ntmps118
  go_wp2
  go_ret
  exact ⟨ret_bool (by unfold lng; rw [Bool.eq_iff_iff]; simp only [decide_eq_true_eq]; omega), rfl⟩
def anyB (f : Bs → Bool) (l : List Bs) : Bool := l.any f
theorem anyb_next (f : Bs → Bool) (l : List Bs) (k : Nat) (hk : k < l.length) : anyB f (l.take (k + 1)) = (anyB f (l.take k) || f (l.getD k [])) := by
  unfold anyB
  rw [List.take_succ_eq_append_getElem hk, List.any_append]
  simp [hk]
theorem anyb_hit (f : Bs → Bool) (l : List Bs) (k : Nat) (hk : k < l.length) (h : f (l.getD k []) = true) : anyB f l = true := by
  unfold anyB
  rw [List.any_eq_true]
  exact ⟨l.getD k [], by rw [List.getD_eq_getElem?_getD, List.getElem?_eq_getElem hk]; exact List.getElem_mem hk, h⟩
theorem tot_at (l : List Bs) (k : Nat) : (l.getD k []).length ≤ tot l := by
  by_cases hk : k < l.length
  · have := tot_next l k hk
    have := tot_take l (k + 1)
    omega
  · simp [List.getD_eq_getElem?_getD, List.getElem?_eq_none (show l.length ≤ k by omega)]
theorem indexFuncK_any (a : Option Addr) (n cap : Nat) (l : List Bs) (w : World) (hp : Sts w a n l) (hn : n ≤ 4294967296) (ht : tot l ≤ 4294967296) :
    Calls Tryz.prog 121 #[.slice a n cap, .func (.func 71) #[] #[]] w fun e w' => ∃ i : Int, e = .returned (I i) ∧ (0 ≤ i ↔ anyB noKey l = true) ∧ w' = w := by
  have hN := hp.1
  subst hN
  have HP := hide hp
  have HT := hide (fun k => Nat.le_trans (tot_at l k) ht)
  clear hp ht
  go_enter Tryz.func121, Tryz.ntmps121
  go_wp2
  go_loopw [8] (fun i wr => ∃ k : Nat, k ≤ l.length ∧ i = .int .i64 k ∧ anyB noKey (l.take k) = false ∧ wr = w) (fun i _ => l.length - (Go.RowKit.intOf i).toNat)
  case atStart => exact ⟨0, by omega, rfl, rfl, rfl⟩
  case round =>
    obtain ⟨k, hk, rfl, ha, rfl⟩ := hrel
    by_cases hlt : k < l.length
    · obtain ⟨p, o, rfl, hpl, hc0⟩ := (unhide HP).at hlt
      have hlt' : (k : Int) < (l.length : Int) := by omega
      have HN := hide (anyb_next noKey l k hlt)
      have HW := hide (anyb_hit noKey l k hlt)
      have hxl := unhide HT k
      generalize l.getD k [] = x at *
      have H1 := hide (fun W => isNoKey_any x W hxl)
      have HA := hide ha
      clear ha
      cases hx : noKey x
      · rw [hx] at H1
        have HA2 := hide (show anyB noKey (l.take (k + 1)) = false by rw [unhide HN, unhide HA, hx]; rfl)
        clear hx
        go_wp2_with fail
        refine (unhide H1 _).mono ?_
        rintro e w2 ⟨rfl, rfl⟩
        go_wp2
        go_round
        case measure => simp [Go.RowKit.intOf]; omega
        case rel => exact ⟨k + 1, by omega, by simp, unhide HA2, by first | trivial | rfl⟩
      · rw [hx] at H1
        have HX := hide hx
        clear hx
        go_wp2_with fail
        refine (unhide H1 _).mono ?_
        rintro e w2 ⟨rfl, rfl⟩
        go_wp2
        go_ret
        exact ⟨k, rfl, ⟨fun _ => unhide HW (unhide HX), fun _ => by omega⟩, rfl⟩
    · have hlt' : ¬ (k : Int) < (l.length : Int) := by omega
      have HA := hide ha
      clear ha
      go_wp2
      go_ret
      refine ⟨-1, rfl, ⟨fun h => by omega, fun h => ?_⟩, rfl⟩
      have := unhide HA
      rw [List.take_of_length_le (by omega), h] at this
      cases this
theorem containsFuncK_any (a : Option Addr) (n cap : Nat) (l : List Bs) (w : World) (hp : Sts w a n l) (hn : n ≤ 4294967296) (ht : tot l ≤ 4294967296) :
    Calls Tryz.prog 102 #[.slice a n cap, .func (.func 71) #[] #[]] w fun e w' => e = .returned (.bool (anyB noKey l)) ∧ w' = w := by
  have H := hide (indexFuncK_any a n cap l w hp hn ht)
  clear hp
  go_enter Tryz.func102, Tryz.ntmps102
  go_wp2_with fail
  refine (unhide H).mono ?_
  rintro e w1 ⟨i, rfl, hi, rfl⟩
  by_cases h0 : 0 ≤ i
  · have HI := hide (hi.1 h0)
    clear hi
    go_wp2
    go_ret
    exact ⟨ret_bool (by rw [unhide HI]; first | done | rfl | simpa using h0), rfl⟩
  · have HI := hide (show anyB noKey l = false by
      cases q : anyB noKey l
      · rfl
      · exact absurd (hi.2 q) h0)
    clear hi
    go_wp2
    go_ret
    exact ⟨ret_bool (by rw [unhide HI]; first | done | rfl | simpa using h0), rfl⟩
theorem indexFuncL_any (a : Option Addr) (n cap : Nat) (l : List Bs) (w : World) (hp : Sts w a n l) (hn : n ≤ 4294967296) (ht : tot l ≤ 4294967296) :
    Calls Tryz.prog 121 #[.slice a n cap, .func (.func 118) #[] #[]] w fun e w' => ∃ i : Int, e = .returned (I i) ∧ (0 ≤ i ↔ anyB lng l = true) ∧ w' = w := by
  have hN := hp.1
  subst hN
  have HP := hide hp
  have HT := hide (fun k => Nat.le_trans (tot_at l k) ht)
  clear hp ht
  go_enter Tryz.func121, Tryz.ntmps121
  go_wp2
  go_loopw [8] (fun i wr => ∃ k : Nat, k ≤ l.length ∧ i = .int .i64 k ∧ anyB lng (l.take k) = false ∧ wr = w) (fun i _ => l.length - (Go.RowKit.intOf i).toNat)
  case atStart => exact ⟨0, by omega, rfl, rfl, rfl⟩
  case round =>
    obtain ⟨k, hk, rfl, ha, rfl⟩ := hrel
    by_cases hlt : k < l.length
    · obtain ⟨p, o, rfl, hpl, hc0⟩ := (unhide HP).at hlt
      have hlt' : (k : Int) < (l.length : Int) := by omega
      have HN := hide (anyb_next lng l k hlt)
      have HW := hide (anyb_hit lng l k hlt)
      have hxl := unhide HT k
      generalize l.getD k [] = x at *
      have H1 := hide (fun W => isLong_any x W hxl)
      have HA := hide ha
      clear ha
      cases hx : lng x
      · rw [hx] at H1
        have HA2 := hide (show anyB lng (l.take (k + 1)) = false by rw [unhide HN, unhide HA, hx]; rfl)
        clear hx
        go_wp2_with fail
        refine (unhide H1 _).mono ?_
        rintro e w2 ⟨rfl, rfl⟩
        go_wp2
        go_round
        case measure => simp [Go.RowKit.intOf]; omega
        case rel => exact ⟨k + 1, by omega, by simp, unhide HA2, by first | trivial | rfl⟩
      · rw [hx] at H1
        have HX := hide hx
        clear hx
        go_wp2_with fail
        refine (unhide H1 _).mono ?_
        rintro e w2 ⟨rfl, rfl⟩
        go_wp2
        go_ret
        exact ⟨k, rfl, ⟨fun _ => unhide HW (unhide HX), fun _ => by omega⟩, rfl⟩
    · have hlt' : ¬ (k : Int) < (l.length : Int) := by omega
      have HA := hide ha
      clear ha
      go_wp2
      go_ret
      refine ⟨-1, rfl, ⟨fun h => by omega, fun h => ?_⟩, rfl⟩
      have := unhide HA
      rw [List.take_of_length_le (by omega), h] at this
      cases this
theorem containsFuncL_any (a : Option Addr) (n cap : Nat) (l : List Bs) (w : World) (hp : Sts w a n l) (hn : n ≤ 4294967296) (ht : tot l ≤ 4294967296) :
    Calls Tryz.prog 102 #[.slice a n cap, .func (.func 118) #[] #[]] w fun e w' => e = .returned (.bool (anyB lng l)) ∧ w' = w := by
  have H := hide (indexFuncL_any a n cap l w hp hn ht)
  clear hp
  go_enter Tryz.func102, Tryz.ntmps102
  go_wp2_with fail
  refine (unhide H).mono ?_
  rintro e w1 ⟨i, rfl, hi, rfl⟩
  by_cases h0 : 0 ≤ i
  · have HI := hide (hi.1 h0)
    clear hi
    go_wp2
    go_ret
    exact ⟨ret_bool (by rw [unhide HI]; first | done | rfl | simpa using h0), rfl⟩
  · have HI := hide (show anyB lng l = false by
      cases q : anyB lng l
      · rfl
      · exact absurd (hi.2 q) h0)
    clear hi
    go_wp2
    go_ret
    exact ⟨ret_bool (by rw [unhide HI]; first | done | rfl | simpa using h0), rfl⟩
end Go.Proofs.YtllialbdofklgaaGreatDoor
