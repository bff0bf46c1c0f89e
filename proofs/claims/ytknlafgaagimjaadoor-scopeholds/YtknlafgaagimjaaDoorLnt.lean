import Derived.Test.YtknlafgaagimjaaDoorBlk
namespace Go.Proofs.YtknlafgaagimjaaDoor
open Go.RowKit Go.Lib
def spare : Bs := [115, 112, 97, 114, 101]
/-- How far the spare texts are laid. -/
def mid (l : List Bs) (j : Nat) : List Bs := l ++ (List.replicate j spare ++ List.replicate (4 - j) [])
theorem mid_len (l : List Bs) (j : Nat) (h : j ≤ 4) : (mid l j).length = l.length + 4 := by simp [mid]; omega
theorem mid_set (l : List Bs) (j : Nat) (h : j < 4) : (mid l j).set (l.length + j) spare = mid l (j + 1) := by
  have e : 4 - j = (4 - (j + 1)) + 1 := by omega
  unfold mid
  rw [List.set_append, if_neg (by omega), Nat.add_sub_cancel_left, List.set_append, if_neg (by simp)]
  simp only [List.length_replicate, Nat.sub_self]
  rw [e, List.replicate_succ, List.set_cons_zero, List.replicate_succ' (n := j), List.append_assoc]
  rfl
theorem frz {w : World} {g : Nat} {cs : Array Value} {t : TypeId} (h : w.heap[g]? = some (.cells cs t (0, 0))) (k : Nat) : w.frozen? ⟨g, k, none⟩ = false := by simp [World.frozen?, h]
set_option maxHeartbeats 4000000 in
set_option maxRecDepth 8000 in
theorem lent_any (a : Option Addr) (n cap : Nat) (l : List Bs) (w : World) (hp : Sts w a n l) (hnone : a = none → cap = 0) (hn : n ≤ 100000000000) :
    Calls Tryd.prog 15 #[.slice a n cap] w fun e w' => e = .returned (.slice (some ⟨w.heap.size, 0, none⟩) (n + 4) (n + 4)) ∧ Blk w.heap.size (mid l 4) w' ∧ Below w.heap.size w w' := by
  have HN := hide hp.1
  have HP := hide hp
  have HO := hide hnone
  clear hp hnone
  go_enter Tryd.func15, Tryd.ntmps15
  go_wp2_with (first | (refine makeS rfl (.tmp 7) (.tmp 7) rfl _ _ (n + 4) (by rfl) (by rfl) (by omega) (by omega) (by omega) ?_; intro w1 hb1 k1; have HB1 := hide hb1; have HK1 := hide k1; clear hb1 k1) | (refine copyS rfl (.tmp 9) (.tmp 10) rfl w.heap.size (n + 4) (n + 4) a n cap (by rfl) (by rfl) (List.replicate (n + 4) []) l (unhide HB1) ((unhide HP).below (unhide HK1)) (unhide HO) (by simp) ?_; intro w2 hb2 k2; have HB2 := hide hb2; have HK2 := hide k2; clear hb2 k2))
  have hb3 : Blk w.heap.size (mid l 0) w2 := by
    have hb2 := unhide HB2
    have e1 : min n (n + 4) = n := by omega
    rw [e1, List.take_of_length_le (by have := unhide HN; omega), List.drop_replicate, show n + 4 - n = 4 by omega] at hb2
    exact hb2
  have HB3 := hide hb3
  have K3 := hide ((unhide HK2).below (unhide HK1) (unhide HK1).size (fun k e => by omega))
  clear HB1 HK1 HB2 HK2 hb3
  go_loopw [4] (fun i wq => ∃ j : Nat, j ≤ 4 ∧ i = .int .i64 ((n + j : Nat) : Int) ∧ Blk w.heap.size (mid l j) wq ∧ Below w.heap.size w wq) (fun i _ => n + 4 - (Go.RowKit.intOf i).toNat)
  case atStart => exact ⟨0, by omega, by simp, unhide HB3, unhide K3⟩
  case round =>
    obtain ⟨j, hj, rfl, hb, hbr⟩ := hrel
    clear HB3 K3
    obtain ⟨k, hk⟩ : ∃ k, k = n + j := ⟨_, rfl⟩
    rw [← hk]
    by_cases hlt : j < 4
    · have hc0 := hb.at k (by rw [mid_len l j hj, ← unhide HN]; omega)
      have hz := frz hb k
      have hset := hb.set k spare
      rw [hk, unhide HN, mid_set l j hlt, ← unhide HN, ← hk] at hset
      have HS := hide hset
      have HK := hide (hbr.setCell (p := ⟨w.heap.size, k, none⟩) (Nat.le_refl _) (S spare))
      have i1 : (k : Int) < (n : Int) + 4 := by omega
      generalize (mid l j).getD k [] = old at *
      clear hset hb
      have HKk := hide hk
      clear hk
      go_wp2
      have := unhide HKk
      refine ⟨⟨j + 1, by omega, ?_, unhide HS, unhide HK⟩, ?_⟩
      · congr 1; omega
      · simp [Go.RowKit.intOf]; omega
    · obtain rfl : j = 4 := by omega
      have hd2 : ¬ (k : Int) < (n : Int) + 4 := by omega
      have HB := hide hb
      clear hb hk
      go_wp2
      go_ret
      exact ⟨rfl, unhide HB, hbr⟩
theorem mid_at (l : List Bs) (k j : Nat) (hk : k = l.length + j) (hj : j < 4) : (mid l 4).getD k [] = spare := by
  rw [hk, List.getD_eq_getElem?_getD]
  unfold mid
  rw [List.getElem?_append_right (by omega), Nat.add_sub_cancel_left]
  rcases (by omega : j = 0 ∨ j = 1 ∨ j = 2 ∨ j = 3) with rfl | rfl | rfl | rfl <;> rfl
theorem Blk.part {g : Nat} {l : List Bs} {w : World} (h : Blk g (mid l 4) w) : Sts w (some ⟨g, 0, none⟩) l.length l := by
  have := h.sts.take l.length (by rw [mid_len l 4 (by omega)]; omega)
  have e : (mid l 4).take l.length = l := by unfold mid; rw [List.take_left']; rfl
  rw [e] at this
  exact this
set_option maxHeartbeats 4000000 in
set_option maxRecDepth 8000 in
theorem whole_any (g : Nat) (a : Option Addr) (n cap : Nat) (l : List Bs) (w : World) (hb : Blk g (mid l 4) w) (hp : Sts w a n l) (hn : n ≤ 100000000000) :
    Calls Tryd.prog 17 #[.slice (some ⟨g, 0, none⟩) (n + 4) (n + 4), .slice a n cap] w fun e w' => e = .returned (.bool true) ∧ Below w.heap.size w w' := by
  have HN := hide hp.1
  have hml : (mid l 4).length = n + 4 := by rw [mid_len l 4 (by omega), hp.1]
  have h1 : Sts w (some ⟨g, 0, none⟩) n l := by rw [hp.1]; exact hb.part
  have HS := hide (same_any (some ⟨g, 0, none⟩) a n n (n + 4) cap l l w h1 hp (by omega) (by omega))
  rw [decide_eq_true rfl] at HS
  have HB := hide hb
  have HML := hide hml
  clear hp hb h1 hml
  go_enter Tryd.func17, Tryd.ntmps17
  go_wp2_with fail
  refine (unhide HS).mono ?_
  rintro e w1 ⟨rfl, b1⟩
  have B1 := hide b1
  have HB1 := hide ((unhide HB).keep b1)
  clear b1 HS HB
  go_wp2
  go_loop [5, 6] (fun c i => ∃ j : Nat, j ≤ 4 ∧ i = .int .i64 ((n + j : Nat) : Int) ∧ c = .bool true) (fun _ i => n + 4 - (Go.RowKit.intOf i).toNat)
  case atStart => exact ⟨0, by omega, by simp, rfl⟩
  case round =>
    obtain ⟨j, hj, rfl, rfl⟩ := hrel
    obtain ⟨k, hk⟩ : ∃ k, k = n + j := ⟨_, rfl⟩
    rw [← hk]
    by_cases hlt : j < 4
    · have hc0 := (unhide HB1).at k (by rw [unhide HML]; omega)
      rw [mid_at l k j (by have := unhide HN; omega) hlt] at hc0
      unfold spare at hc0
      have i1 : (k : Int) < (n : Int) + 4 := by omega
      have HKk := hide hk
      clear hk
      go_wp2
      have := unhide HKk
      refine ⟨⟨j + 1, by omega, ?_, rfl⟩, ?_⟩
      · congr 1; omega
      · simp [Go.RowKit.intOf]; omega
    · obtain rfl : j = 4 := by omega
      have hd2 : ¬ (k : Int) < (n : Int) + 4 := by omega
      clear hk
      go_wp2
      go_ret
      exact ⟨rfl, unhide B1⟩
end Go.Proofs.YtknlafgaagimjaaDoor
