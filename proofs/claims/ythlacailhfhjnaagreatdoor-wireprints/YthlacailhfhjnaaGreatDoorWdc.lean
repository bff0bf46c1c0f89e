import Derived.Test.YthlacailhfhjnaaGreatDoorWdb
namespace Go.Proofs.YthlacailhfhjnaaGreatDoor
open Go.RowKit Go.Lib
def mline (m p : Bs) : Bs := m ++ [32] ++ p ++ [32] ++ vers
def may (m : Ms) : Bool := meth m.m && pth m.p && flw m.hs m.b
def pmsg (m : Ms) : Bs × Nat := if may m then (lay (mline m.m m.p) m.hs m.b, 0) else ([], 55)
theorem hsum_le (hs : List Fl) (h : hs.all hdr = true) : hsum hs ≤ 1002 * hs.length := by
  induction hs with
  | nil => simp [hsum]
  | cons f l ih =>
    simp only [List.all_cons, Bool.and_eq_true] at h
    have hf := h.1
    unfold hdr at hf
    simp only [Bool.and_eq_true, decide_eq_true_eq] at hf
    have := ih h.2
    have h1 := hf.1.1.1.1
    simp only [hsum, List.length_cons]
    omega
theorem flw_len {hs : List Fl} {b : Bs} (h : flw hs b = true) : (hlns hs).length ≤ 32064 ∧ hs.length ≤ 32 ∧ b.length ≤ 4000 := by
  unfold flw at h
  simp only [Bool.and_eq_true, decide_eq_true_eq] at h
  have := hsum_le hs h.2
  rw [hlns_len]
  omega
theorem meth_len {s : Bs} (h : meth s = true) : s.length ≤ 16 := by
  unfold meth at h
  simp only [Bool.and_eq_true, decide_eq_true_eq] at h
  exact h.1.2
theorem pth_len {s : Bs} (h : pth s = true) : s.length ≤ 200 := by
  unfold pth at h
  simp only [Bool.and_eq_true, decide_eq_true_eq] at h
  exact h.1.1
set_option maxHeartbeats 8000000 in
set_option maxRecDepth 8000 in
theorem printMessage_any {B : Nat} (m : Ms) (a : Option Addr) (n cap : Nat) (w : World) (hp : Fls w a n m.hs) (hE : Env B w) (hL : Lens m.hs) (h1 : m.m.length ≤ 140737488351232) (h2 : m.p.length ≤ 140737488351232) (h3 : m.b.length ≤ 140737488351232) (hn : n ≤ 140737488351232) :
    Calls Tryz.prog 31 #[.agg #[S m.m, S m.p, .slice a n cap, S m.b]] w fun e w' => e = .returned (.tuple #[S (pmsg m).1, .int .i64 (pmsg m).2]) ∧ Below w.heap.size w w' := by
  obtain ⟨mm, mp, mh, mb⟩ := m
  simp only at hp hL h1 h2 h3 ⊢
  have HM := hide (fun W => isMethod_any mm W (by omega))
  have HP := hide (fun W => isPath_any mp W (by omega))
  have b0 : Below w.heap.size w (w.alloc (.cells #[S mm, S mp, .slice a n cap, S mb] 24)) := (Below.refl _ _).alloc (Nat.le_refl _) _
  have HF := hide (fun W (h : Below w.heap.size w W) => mayFollow_any a n cap mh mb W (hp.below h) hL hn (by omega))
  have HLY := hide (fun W (h : Below w.heap.size w W) (first : Bs) (g1 : first.length ≤ 1000000000000) (g2 : (hlns mh).length ≤ 1000000000000) (g3 : mb.length ≤ 1000000000000) (g4 : n ≤ 1000000000000) => lay_any first a n cap mh mb W (hp.below h) (hE.mono.below h) g1 g2 g3 g4)
  have HNL := hide hp.1
  have HB0 := hide b0
  have HX : Hid (pmsg ⟨mm, mp, mh, mb⟩ = if meth mm && pth mp && flw mh mb then (lay (mline mm mp) mh mb, 0) else ([], 55)) := hide rfl
  generalize pmsg ⟨mm, mp, mh, mb⟩ = X at *
  clear hp hE hL b0
  by_cases hm : meth mm = true
  case neg =>
    have hm' : meth mm = false := by simpa using hm
    rw [hm'] at HM HX
    have hX : X = ([], 55) := by rw [unhide HX]; rfl
    subst hX
    go_enter Tryz.func31, Tryz.ntmps31
    go_wp2_with (first | (go_at_call 62; refine (unhide HM _).mono ?_; rintro e w' ⟨rfl, hw⟩; rw [hw]; clear hw w'))
    go_ret2
    exact ⟨rfl, unhide HB0⟩
  have hml := meth_len hm
  rw [hm] at HM HX
  by_cases hp : pth mp = true
  case neg =>
    have hp' : pth mp = false := by simpa using hp
    rw [hp'] at HP HX
    have hX : X = ([], 55) := by rw [unhide HX]; rfl
    subst hX
    go_enter Tryz.func31, Tryz.ntmps31
    go_wp2_with (first | (go_at_call 62; refine (unhide HM _).mono ?_; rintro e w' ⟨rfl, hw⟩; rw [hw]; clear hw w') | (go_at_call 63; refine (unhide HP _).mono ?_; rintro e w' ⟨rfl, hw⟩; rw [hw]; clear hw w'))
    go_ret2
    exact ⟨rfl, unhide HB0⟩
  have hpl := pth_len hp
  rw [hp] at HP HX
  by_cases hf : flw mh mb = true
  case neg =>
    have hf' : flw mh mb = false := by simpa using hf
    rw [hf'] at HF HX
    have hX : X = ([], 55) := by rw [unhide HX]; rfl
    subst hX
    go_enter Tryz.func31, Tryz.ntmps31
    go_wp2_with (first | (go_at_call 62; refine (unhide HM _).mono ?_; rintro e w' ⟨rfl, hw⟩; rw [hw]; clear hw w') | (go_at_call 63; refine (unhide HP _).mono ?_; rintro e w' ⟨rfl, hw⟩; rw [hw]; clear hw w'))
    refine (unhide HF _ (unhide HB0)).mono ?_
    rintro e w2 ⟨rfl, b2⟩
    have HB2 := hide ((unhide HB0).trans (b2.mono (by simp)))
    clear b2
    go_wp2
    go_ret2
    exact ⟨rfl, unhide HB2⟩
  have hfl := flw_len hf
  rw [hf] at HF HX
  have hX : X = (lay (mline mm mp) mh mb, 0) := by rw [unhide HX]; rfl
  have HXX := hide hX
  have HMX := hide (show ((((ByteArray.mk mm.toArray ++ ByteArray.mk #[32]) ++ ByteArray.mk mp.toArray) ++ ByteArray.mk #[32]) ++ ByteArray.mk #[72, 84, 84, 80, 47, 49, 46, 49]) = ⟨(mline mm mp).toArray⟩ from by
    show ((((ByteArray.mk mm.toArray ++ ByteArray.mk [32].toArray) ++ ByteArray.mk mp.toArray) ++ ByteArray.mk [32].toArray) ++ ByteArray.mk [72, 84, 84, 80, 47, 49, 46, 49].toArray) = _
    rw [ba_append, ba_append, ba_append, ba_append]
    rfl)
  have hmll : (mline mm mp).length ≤ 1000000000000 := by simp [mline, vers]; omega
  have HLY2 := hide (fun W h => unhide HLY W h (mline mm mp) hmll (by omega) (by omega) (by have := unhide HNL; omega))
  clear hX HX HLY hm hp hf
  go_enter Tryz.func31, Tryz.ntmps31
  go_wp2_with (first | (go_at_call 62; refine (unhide HM _).mono ?_; rintro e w' ⟨rfl, hw⟩; rw [hw]; clear hw w') | (go_at_call 63; refine (unhide HP _).mono ?_; rintro e w' ⟨rfl, hw⟩; rw [hw]; clear hw w'))
  refine (unhide HF _ (unhide HB0)).mono ?_
  rintro e w2 ⟨rfl, b2⟩
  have HB2 := hide ((unhide HB0).trans (b2.mono (by simp)))
  have hblk := (b2.block w.heap.size (by simp)).trans (heap_alloc_new w (.cells #[S mm, S mp, .slice a n cap, S mb] 24))
  have d0 : w2.cell? ⟨w.heap.size, 0, none⟩ = some (S mm) := cell_of_row w2 _ 0 _ 24 (0, 0) hblk
  have d1 : w2.cell? ⟨w.heap.size, 1, none⟩ = some (S mp) := cell_of_row w2 _ 1 _ 24 (0, 0) hblk
  have d2 : w2.cell? ⟨w.heap.size, 2, none⟩ = some (.slice a n cap) := cell_of_row w2 _ 2 _ 24 (0, 0) hblk
  have d3 : w2.cell? ⟨w.heap.size, 3, none⟩ = some (S mb) := cell_of_row w2 _ 3 _ 24 (0, 0) hblk
  clear b2 hblk
  go_wp2_with fail
  rw [unhide HMX]
  refine (unhide HLY2 w2 (unhide HB2)).mono ?_
  rintro e w3 ⟨rfl, b3⟩
  have HB3 := hide ((unhide HB2).trans (b3.mono (unhide HB2).size))
  clear b3
  go_wp2
  go_ret2
  exact ⟨by rw [unhide HXX]; rfl, unhide HB3⟩
end Go.Proofs.YthlacailhfhjnaaGreatDoor
