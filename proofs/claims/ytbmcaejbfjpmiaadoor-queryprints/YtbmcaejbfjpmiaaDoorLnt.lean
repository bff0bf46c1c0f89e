import Derived.Test.YtbmcaejbfjpmiaaDoorBlk
namespace Go.Proofs.YtbmcaejbfjpmiaaDoor
open Go.RowKit Go.Lib
def spare : Fl := ([115, 112, 97, 114, 101], [])
/-- How far the spare fields are laid. -/
def mid (fs : List Fl) (j : Nat) : List Fl := fs ++ (List.replicate j spare ++ List.replicate (4 - j) f0)
theorem mid_len (fs : List Fl) (j : Nat) (h : j ≤ 4) : (mid fs j).length = fs.length + 4 := by simp [mid]; omega
theorem mid_set (fs : List Fl) (j : Nat) (h : j < 4) : (mid fs j).set (fs.length + j) ([115, 112, 97, 114, 101], ((mid fs j).getD (fs.length + j) f0).2) = mid fs (j + 1) := by
  have e : 4 - j = (4 - (j + 1)) + 1 := by omega
  unfold mid
  rw [List.set_append, if_neg (by omega), Nat.add_sub_cancel_left, List.set_append, if_neg (by simp)]
  simp only [List.length_replicate, Nat.sub_self]
  rw [e, List.replicate_succ, List.set_cons_zero, List.replicate_succ' (n := j), List.append_assoc]
  congr 2
  simp [f0, spare]
set_option maxHeartbeats 4000000 in
set_option maxRecDepth 8000 in
theorem lent_any (a : Option Addr) (n cap : Nat) (fs : List Fl) (w : World) (hp : Fls w a n fs) (hnone : a = none → cap = 0) (hn : n ≤ 100000000000) :
    Calls Tryd.prog 19 #[.slice a n cap] w fun e w' => e = .returned (.slice (some ⟨w.heap.size, 0, none⟩) (n + 4) (n + 4)) ∧ Blk w.heap.size (mid fs 4) w' ∧ Below w.heap.size w w' := by
  have HN := hide hp.1
  have HP := hide hp
  have HO := hide hnone
  clear hp hnone
  go_enter Tryd.func19, Tryd.ntmps19
  go_wp2_with (first | (refine makeF rfl (.tmp 7) (.tmp 7) rfl _ _ (n + 4) (by rfl) (by rfl) (by omega) (by omega) (by omega) ?_; intro w1 hb1 k1) | (refine copyF rfl (.tmp 9) (.tmp 10) rfl w.heap.size (n + 4) (n + 4) a n cap (by rfl) (by rfl) (List.replicate (n + 4) f0) fs hb1 ((unhide HP).below k1) (unhide HO) (by simp) ?_; intro w2 hb2 k2))
  have hb3 : Blk w.heap.size (mid fs 0) w2 := by
    have e1 : min n (n + 4) = n := by omega
    rw [e1, List.take_of_length_le (by have := unhide HN; omega), List.drop_replicate, show n + 4 - n = 4 by omega] at hb2
    exact hb2
  have HB3 := hide hb3
  have K3 := hide (k2 _ _ (Nat.le_refl _) k1)
  clear hb1 k1 hb2 k2 hb3
  go_loopw [4] (fun i wr => ∃ j : Nat, j ≤ 4 ∧ i = .int .i64 ((n + j : Nat) : Int) ∧ Blk w.heap.size (mid fs j) wr ∧ Below w.heap.size w wr) (fun i _ => n + 4 - (Go.RowKit.intOf i).toNat)
  case atStart => exact ⟨0, by omega, by simp, unhide HB3, unhide K3⟩
  case round =>
    obtain ⟨j, hj, rfl, hb, hbr⟩ := hrel
    clear HB3 K3
    obtain ⟨k, hk⟩ : ∃ k, k = n + j := ⟨_, rfl⟩
    rw [← hk]
    by_cases hlt : j < 4
    · have hfl := hb.fls.at (j := k) (by rw [mid_len fs j hj, ← unhide HN]; omega)
      obtain ⟨p, o, e, _, hc0, _⟩ := hfl
      simp only [Option.some.injEq, Addr.mk.injEq, and_true] at e
      obtain ⟨rfl, rfl⟩ := e
      rw [Nat.zero_add] at hc0
      have hz : wr.frozen? ⟨w.heap.size, k * 2, none⟩ = false := frozen_of_heap hb (k * 2)
      have hset := hb.set k (by rw [mid_len fs j hj, ← unhide HN]; omega) [115, 112, 97, 114, 101]
      rw [hk, unhide HN, mid_set fs j hlt, ← unhide HN, ← hk] at hset
      have HS := hide hset
      have HK := hide (hbr.setCell (p := ⟨w.heap.size, k * 2, none⟩) (Nat.le_refl _) (S [115, 112, 97, 114, 101]))
      have i1 : (k : Int) < (n : Int) + 4 := by omega
      generalize ((mid fs j).getD k f0).1 = old at *
      clear hset hb
      have HKk := hide hk
      clear hk
      go_wp2
      have := unhide HKk
      refine ⟨⟨j + 1, by omega, ?_, unhide HS, unhide HK⟩, ?_⟩
      · congr 1; omega
      · simp [Go.RowKit.intOf]; omega
    · obtain rfl : j = 4 := by omega
      have hd : decide (k < n + 4) = false := by simp; omega
      have hd2 : ¬ (k : Int) < (n : Int) + 4 := by omega
      have HB := hide hb
      clear hb hk
      go_wp2
      go_ret
      exact ⟨rfl, unhide HB, hbr⟩
set_option maxHeartbeats 4000000 in
set_option maxRecDepth 8000 in
theorem whole_any (g : Nat) (a : Option Addr) (n cap : Nat) (fs : List Fl) (w : World) (hb : Blk g (mid fs 4) w) (hp : Fls w a n fs) (hn : n ≤ 100000000000) :
    Calls Tryd.prog 23 #[.slice (some ⟨g, 0, none⟩) (n + 4) (n + 4), .slice a n cap] w fun e w' => e = .returned (.bool true) ∧ Below w.heap.size w w' := by
  have HN := hide hp.1
  have hml : (mid fs 4).length = n + 4 := by rw [mid_len fs 4 (by omega), hp.1]
  have h1 : Fls w (some ⟨g, 0, none⟩) n fs := by
    have := (hb.fls).take n (by omega)
    have e : (mid fs 4).take n = fs := by
      unfold mid
      rw [hp.1, List.take_left']
      rfl
    rw [e] at this
    exact this
  have HS := hide (same_any (some ⟨g, 0, none⟩) a n n (n + 4) cap fs fs w h1 hp (by omega) (by omega))
  rw [decide_eq_true rfl] at HS
  have HB := hide hb
  clear hp hb h1
  go_enter Tryd.func23, Tryd.ntmps23
  go_wp2_with fail
  refine (unhide HS).mono ?_
  rintro e w1 ⟨rfl, b1⟩
  have B1 := hide b1
  have HB1 := hide ((unhide HB).keep b1)
  clear b1 HS HB
  go_wp2
  go_loopw [5, 6] (fun c i wr => ∃ j : Nat, j ≤ 4 ∧ i = .int .i64 ((n + j : Nat) : Int) ∧ c = .bool true ∧ wr = w1) (fun _ i _ => n + 4 - (Go.RowKit.intOf i).toNat)
  case atStart => exact ⟨0, by omega, by simp, rfl, rfl⟩
  case round =>
    obtain ⟨j, hj, rfl, rfl, rfl⟩ := hrel
    obtain ⟨k, hk⟩ : ∃ k, k = n + j := ⟨_, rfl⟩
    rw [← hk]
    by_cases hlt : j < 4
    · have hfl := (unhide HB1).fls.at (j := k) (by rw [hml]; omega)
      obtain ⟨p, o, e, _, hc0, hc1⟩ := hfl
      simp only [Option.some.injEq, Addr.mk.injEq, and_true] at e
      obtain ⟨rfl, rfl⟩ := e
      have hsp : (mid fs 4).getD k f0 = spare := by
        have hkl : k = fs.length + j := by have := unhide HN; omega
        rw [hkl, List.getD_eq_getElem?_getD]
        unfold mid
        rw [List.getElem?_append_right (by omega), Nat.add_sub_cancel_left]
        rcases (by omega : j = 0 ∨ j = 1 ∨ j = 2 ∨ j = 3) with rfl | rfl | rfl | rfl <;> rfl
      rw [hsp] at hc0 hc1
      rw [Nat.zero_add] at hc0 hc1
      have hc0' : wr.cell? ⟨g, k * 2, none⟩ = some (S [115, 112, 97, 114, 101]) := hc0
      have hc1' : wr.cell? ⟨g, k * 2 + 1, none⟩ = some (S []) := hc1
      have i1 : (k : Int) < (n : Int) + 4 := by omega
      clear hc0 hc1 hsp
      have HKk := hide hk
      clear hk
      go_wp2
      have := unhide HKk
      refine ⟨⟨j + 1, by omega, ?_, rfl, trivial⟩, ?_⟩
      · congr 1; omega
      · simp [Go.RowKit.intOf]; omega
    · obtain rfl : j = 4 := by omega
      have hd : decide (k < n + 4) = false := by simp; omega
      have hd2 : ¬ (k : Int) < (n : Int) + 4 := by omega
      clear hk
      go_wp2
      go_ret
      exact ⟨rfl, unhide B1⟩
end Go.Proofs.YtbmcaejbfjpmiaaDoor
