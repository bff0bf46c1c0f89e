import Derived.Test.YthlacailhfhjnaaGreatDoorWff
namespace Go.Proofs.YthlacailhfhjnaaGreatDoor
open Go.RowKit Go.Lib
theorem cata (D E X : Bs) : (⟨#[72, 84, 84, 80, 47, 49, 46, 49, 32]⟩ : ByteArray) ++ ⟨D.toArray⟩ ++ ⟨#[32]⟩ ++ ⟨E.toArray⟩ ++ ⟨#[13, 10]⟩ ++ ⟨X.toArray⟩ = ⟨(([72, 84, 84, 80, 47, 49, 46, 49, 32] ++ D ++ [32] ++ E) ++ ([13, 10] ++ X)).toArray⟩ := by
  show (⟨([72, 84, 84, 80, 47, 49, 46, 49, 32] : Bs).toArray⟩ : ByteArray) ++ ⟨D.toArray⟩ ++ ⟨([32] : Bs).toArray⟩ ++ ⟨E.toArray⟩ ++ ⟨([13, 10] : Bs).toArray⟩ ++ ⟨X.toArray⟩ = _
  rw [ba_append, ba_append, ba_append, ba_append, ba_append]
  simp
set_option maxHeartbeats 8000000 in
set_option maxRecDepth 8000 in
theorem rPrintAnswer_any (st : Int) (mh : List Fl) (mb : Bs) (a : Option Addr) (n cap : Nat) (w : World) (hp : Fls w a n mh) (hL : Lens mh) (h3 : mb.length ≤ 140737488351232) (hn : n ≤ 140737488351232) :
    Calls Tryz.prog 28 #[.agg #[.int .i64 st, .slice a n cap, S mb]] w fun e w' => e = .returned (.tuple #[S (pans st mh mb).1, .int .i64 (pans st mh mb).2]) ∧ Below w.heap.size w w' := by
  have b0 := (Below.refl w.heap.size w).alloc (Nat.le_refl _) (.cells #[.int .i64 st, .slice a n cap, S mb] 26)
  have x0 := heap_alloc_new w (.cells #[.int .i64 st, .slice a n cap, S mb] 26)
  have H3 := hide (rBodied_any a n cap mh mb _ (hp.below b0) hL hn (by omega))
  have HY : Hid (stat st = true → flw mh mb = true → pans st mh mb = (lay (aline st.toNat) mh mb, 0)) := hide (fun h h' => by unfold pans; rw [if_pos (by simp [h, h'])])
  have HN : Hid (stat st = false ∨ flw mh mb = false → pans st mh mb = ([], 55)) := hide (fun h => by unfold pans; rw [if_neg (by rcases h with h | h <;> simp [h])])
  generalize pans st mh mb = R at *
  have X0 := hide (And.intro b0 (And.intro x0 hp))
  clear b0 x0 hp
  go_enter Tryz.func28, Tryz.ntmps28
  go_wp2_with fail
  refine (unhide H3).mono ?_
  rintro e w1 ⟨rfl, b1⟩
  have x1 := (b1.block _ (lt_of_row (unhide X0).2.1)).trans (unhide X0).2.1
  have b1' := (unhide X0).1.trans (b1.mono (unhide X0).1.size)
  have X1 := hide (And.intro b1' (And.intro x1 ((unhide X0).2.2.below b1')))
  have d0 : w1.cell? ⟨w.heap.size, 0, none⟩ = some (.int .i64 st) := cell_of_row w1 _ 0 _ 26 (0, 0) x1
  have d1 : w1.cell? ⟨w.heap.size, 1, none⟩ = some (.slice a n cap) := cell_of_row w1 _ 1 _ 26 (0, 0) x1
  have d2 : w1.cell? ⟨w.heap.size, 2, none⟩ = some (S mb) := cell_of_row w1 _ 2 _ 26 (0, 0) x1
  clear b1 b1' x1 X0 H3
  cases hC : flw mh mb
  · have HR := hide (unhide HN (.inr hC))
    go_wp2
    go_ret2
    exact ⟨by rw [unhide HR]; rfl, (unhide X1).1⟩
  by_cases h1 : st < 100
  · have HR := hide (unhide HN (.inl (by unfold stat; exact decide_eq_false (by omega))))
    go_wp2
    go_ret2
    exact ⟨by rw [unhide HR]; rfl, (unhide X1).1⟩
  by_cases h2 : 599 < st
  · have HR := hide (unhide HN (.inl (by unfold stat; exact decide_eq_false (by omega))))
    have h1' : decide (st < 100) = false := by simpa using h1
    go_wp2
    go_ret2
    exact ⟨by rw [unhide HR]; rfl, (unhide X1).1⟩
  have HR := hide (unhide HY (by unfold stat; exact decide_eq_true (by omega)) hC)
  obtain ⟨N, rfl⟩ : ∃ N : Nat, st = (N : Int) := ⟨st.toNat, by omega⟩
  have q1 := dec_len N (by omega)
  have q2 := (rsn_shn (N : Int)).2
  have q3 := lad_len hC
  have HC := hide (cata (decDigits N) (rsn (N : Int)) (lad mh mb))
  rw [lay_lad] at HR
  obtain ⟨b1, x1, f1⟩ := unhide X1
  have B0 := hide (fun k : Nat => Calls.mono (digits_any N (w1.drewN k) (by omega)) (fun e w'' h => (⟨h.1, k, h.2⟩ : e = Ending.returned (S (decDigits N)) ∧ ∃ n, w'' = w1.drewN n)))
  have B2 := hide (fun k : Nat => Calls.mono (rReason_any (N : Int) (w1.drewN k)) (fun e w'' h => (⟨h.1, k, h.2⟩ : e = Ending.returned (S (rsn (N : Int))) ∧ ∃ n, w'' = w1.drewN n)))
  have B1 := hide (fun k : Nat => Calls.mono (laid_any a n cap mh mb (w1.drewN k) (f1.below (below_dN (Below.refl _ _) k)) hC) (fun e w'' h => (⟨h.1, by obtain ⟨q, hq⟩ := h.2; exact ⟨k + q, by rw [hq]; simp⟩⟩ : e = Ending.returned (S (lad mh mb)) ∧ ∃ n, w'' = w1.drewN n)))
  have HA : Hid (aline (N : Int).toNat = [72, 84, 84, 80, 47, 49, 46, 49, 32] ++ decDigits N ++ [32] ++ rsn (N : Int)) := hide rfl
  generalize lad mh mb = LL at *
  generalize decDigits N = DD at *
  generalize rsn (N : Int) = RR at *
  have h1' : decide ((N : Int) < 100) = false := by simpa using h1
  have h2' : decide ((599 : Int) < (N : Int)) = false := by simpa using h2
  clear hC b1 x1 f1 HY HN
  go_wp2_with fail
  go_quiet ((first | (go_at_call 60; with_reducible exact unhide B1 _) | (go_at_call 58; with_reducible exact unhide B0 _) | (go_at_call 59; with_reducible exact unhide B2 _)))
  have HZ := hide (below_dN (unhide X1).1 nq)
  generalize w1.drewN nq = wv at *
  rw [unhide HC]
  go_wp2
  go_ret2
  exact ⟨by rw [unhide HR, unhide HA]; rfl, unhide HZ⟩
end Go.Proofs.YthlacailhfhjnaaGreatDoor
