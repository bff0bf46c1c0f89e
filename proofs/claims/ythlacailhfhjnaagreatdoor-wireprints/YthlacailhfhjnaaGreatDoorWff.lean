import Derived.Test.YthlacailhfhjnaaGreatDoorWfe
namespace Go.Proofs.YthlacailhfhjnaaGreatDoor
open Go.RowKit Go.Lib
theorem lad_len {hs : List Fl} {b : Bs} (h : flw hs b = true) : (lad hs b).length ≤ 40000 := by
  obtain ⟨h1, h2, h3⟩ := flw_len h
  have h4 := dec_len b.length (by omega)
  unfold lad hln
  simp [CL]
  omega
theorem catm (m p X : Bs) : (⟨m.toArray⟩ : ByteArray) ++ ⟨#[32]⟩ ++ ⟨p.toArray⟩ ++ ⟨#[32]⟩ ++ ⟨#[72, 84, 84, 80, 47, 49, 46, 49]⟩ ++ ⟨#[13, 10]⟩ ++ ⟨X.toArray⟩ = ⟨(mline m p ++ ([13, 10] ++ X)).toArray⟩ := by
  show (⟨m.toArray⟩ : ByteArray) ++ ⟨([32] : Bs).toArray⟩ ++ ⟨p.toArray⟩ ++ ⟨([32] : Bs).toArray⟩ ++ ⟨([72, 84, 84, 80, 47, 49, 46, 49] : Bs).toArray⟩ ++ ⟨([13, 10] : Bs).toArray⟩ ++ ⟨X.toArray⟩ = _
  rw [ba_append, ba_append, ba_append, ba_append, ba_append, ba_append]
  simp [mline, vers]
set_option maxHeartbeats 8000000 in
set_option maxRecDepth 8000 in
theorem rPrintMessage_any (m : Ms) (a : Option Addr) (n cap : Nat) (w : World) (hp : Fls w a n m.hs) (hL : Lens m.hs) (h1 : m.m.length ≤ 140737488351232) (h2 : m.p.length ≤ 140737488351232) (h3 : m.b.length ≤ 140737488351232) (hn : n ≤ 140737488351232) :
    Calls Tryz.prog 37 #[.agg #[S m.m, S m.p, .slice a n cap, S m.b]] w fun e w' => e = .returned (.tuple #[S (pmsg m).1, .int .i64 (pmsg m).2]) ∧ Below w.heap.size w w' := by
  obtain ⟨mm, mp, mh, mb⟩ := m
  simp only at hp hL h1 h2 h3 ⊢
  have b0 := (Below.refl w.heap.size w).alloc (Nat.le_refl _) (.cells #[S mm, S mp, .slice a n cap, S mb] 24)
  have x0 := heap_alloc_new w (.cells #[S mm, S mp, .slice a n cap, S mb] 24)
  have H1 := hide (rMethod_any mm (w.alloc (.cells #[S mm, S mp, .slice a n cap, S mb] 24)) (by omega))
  have H2 := hide (rPath_any mp (w.alloc (.cells #[S mm, S mp, .slice a n cap, S mb] 24)) (by omega))
  have H3 := hide (rBodied_any a n cap mh mb _ (hp.below b0) hL hn (by omega))
  have HY : Hid (may ⟨mm, mp, mh, mb⟩ = true → pmsg ⟨mm, mp, mh, mb⟩ = (lay (mline mm mp) mh mb, 0)) := hide (fun h => by unfold pmsg; rw [if_pos h])
  have HN : Hid (may ⟨mm, mp, mh, mb⟩ = false → pmsg ⟨mm, mp, mh, mb⟩ = ([], 55)) := hide (fun h => by unfold pmsg; rw [if_neg (by simp [h])])
  have HM : Hid (may ⟨mm, mp, mh, mb⟩ = (meth mm && pth mp && flw mh mb)) := hide rfl
  generalize may ⟨mm, mp, mh, mb⟩ = M at *
  generalize pmsg ⟨mm, mp, mh, mb⟩ = R at *
  have X0 := hide (And.intro b0 (And.intro x0 hp))
  clear b0 x0 hp
  go_enter Tryz.func37, Tryz.ntmps37
  go_wp2_with fail
  refine (unhide H1).mono ?_
  rintro e w1 ⟨rfl, hw⟩
  rw [hw]
  clear hw w1 H1
  go_wp2_with fail
  refine (unhide H2).mono ?_
  rintro e w1 ⟨rfl, hw⟩
  rw [hw]
  clear hw w1 H2
  go_wp2_with fail
  refine (unhide H3).mono ?_
  rintro e w1 ⟨rfl, b1⟩
  have x1 := (b1.block _ (lt_of_row (unhide X0).2.1)).trans (unhide X0).2.1
  have b1' := (unhide X0).1.trans (b1.mono (unhide X0).1.size)
  have X1 := hide (And.intro b1' (And.intro x1 ((unhide X0).2.2.below b1')))
  clear b1 b1' x1 X0 H3
  cases hA : meth mm
  · have HR := hide (unhide HN (by rw [unhide HM, hA]; rfl))
    go_wp2
    go_ret2
    exact ⟨by rw [unhide HR]; rfl, (unhide X1).1⟩
  cases hB : pth mp
  · have HR := hide (unhide HN (by rw [unhide HM, hA, hB]; rfl))
    go_wp2
    go_ret2
    exact ⟨by rw [unhide HR]; rfl, (unhide X1).1⟩
  cases hC : flw mh mb
  · have HR := hide (unhide HN (by rw [unhide HM, hA, hB, hC]; rfl))
    go_wp2
    go_ret2
    exact ⟨by rw [unhide HR]; rfl, (unhide X1).1⟩
  have HR := hide (unhide HY (by rw [unhide HM, hA, hB, hC]; rfl))
  have q1 := meth_len hA
  have q2 := pth_len hB
  have q3 := lad_len hC
  have HC := hide (catm mm mp (lad mh mb))
  rw [lay_lad] at HR
  obtain ⟨b1, x1, f1⟩ := unhide X1
  have B1 := hide (fun k : Nat => Calls.mono (laid_any a n cap mh mb (w1.drewN k) (f1.below (below_dN (Below.refl _ _) k)) hC) (fun e w'' h => (⟨h.1, by obtain ⟨q, hq⟩ := h.2; exact ⟨k + q, by rw [hq]; simp⟩⟩ : e = Ending.returned (S (lad mh mb)) ∧ ∃ n, w'' = w1.drewN n)))
  generalize lad mh mb = LL at *
  have d0 : w1.cell? ⟨w.heap.size, 0, none⟩ = some (S mm) := cell_of_row w1 _ 0 _ 24 (0, 0) x1
  have d1 : w1.cell? ⟨w.heap.size, 1, none⟩ = some (S mp) := cell_of_row w1 _ 1 _ 24 (0, 0) x1
  have d2 : w1.cell? ⟨w.heap.size, 2, none⟩ = some (.slice a n cap) := cell_of_row w1 _ 2 _ 24 (0, 0) x1
  have d3 : w1.cell? ⟨w.heap.size, 3, none⟩ = some (S mb) := cell_of_row w1 _ 3 _ 24 (0, 0) x1
  clear hA hB hC b1 x1 f1 HY HN HM
  go_wp2_with fail
  go_quiet ((go_at_call 60; with_reducible exact unhide B1 _))
  have HZ := hide (below_dN (unhide X1).1 nq)
  generalize w1.drewN nq = wv at *
  rw [unhide HC]
  go_wp2
  go_ret2
  exact ⟨by rw [unhide HR]; rfl, unhide HZ⟩
end Go.Proofs.YthlacailhfhjnaaGreatDoor
