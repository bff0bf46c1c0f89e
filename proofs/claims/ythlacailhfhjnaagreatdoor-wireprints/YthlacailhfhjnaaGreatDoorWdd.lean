import Derived.Test.YthlacailhfhjnaaGreatDoorWdc
import Derived.Test.YthlacailhfhjnaaGreatDoorRgr
import Derived.Test.YthlacailhfhjnaaGreatDoorWca
namespace Go.Proofs.YthlacailhfhjnaaGreatDoor
open Go.RowKit Go.Lib
def aline (n : Nat) : Bs := [72, 84, 84, 80, 47, 49, 46, 49, 32] ++ decDigits n ++ [32] ++ rsn n
def pans (st : Int) (hs : List Fl) (b : Bs) : Bs × Nat := if stat st && flw hs b then (lay (aline st.toNat) hs b, 0) else ([], 55)
set_option maxHeartbeats 8000000 in
set_option maxRecDepth 8000 in
theorem printAnswer_any {B : Nat} (st : Int) (mh : List Fl) (mb : Bs) (a : Option Addr) (n cap : Nat) (w : World) (hp : Fls w a n mh) (hE : Env B w) (hL : Lens mh) (h3 : mb.length ≤ 140737488351232) (hn : n ≤ 140737488351232) :
    Calls Tryz.prog 32 #[.agg #[.int .i64 st, .slice a n cap, S mb]] w fun e w' => e = .returned (.tuple #[S (pans st mh mb).1, .int .i64 (pans st mh mb).2]) ∧ Below w.heap.size w w' := by
  have HM := hide (fun W => isStatus_any st W)
  have b0 : Below w.heap.size w (w.alloc (.cells #[.int .i64 st, .slice a n cap, S mb] 26)) := (Below.refl _ _).alloc (Nat.le_refl _) _
  have HF := hide (fun W (h : Below w.heap.size w W) => mayFollow_any a n cap mh mb W (hp.below h) hL hn (by omega))
  have HLY := hide (fun W (h : Below w.heap.size w W) (first : Bs) (g1 : first.length ≤ 1000000000000) (g2 : (hlns mh).length ≤ 1000000000000) (g3 : mb.length ≤ 1000000000000) (g4 : n ≤ 1000000000000) => lay_any first a n cap mh mb W (hp.below h) (hE.mono.below h) g1 g2 g3 g4)
  have HNL := hide hp.1
  have HB0 := hide b0
  have HE := hide hE.mono
  have HX : Hid (pans st mh mb = if stat st && flw mh mb then (lay (aline st.toNat) mh mb, 0) else ([], 55)) := hide rfl
  generalize pans st mh mb = X at *
  clear hp hE hL b0
  by_cases hm : stat st = true
  case neg =>
    have hm' : stat st = false := by simpa using hm
    rw [hm'] at HM HX
    have hX : X = ([], 55) := by rw [unhide HX]; rfl
    subst hX
    go_enter Tryz.func32, Tryz.ntmps32
    go_wp2_with (first | (go_at_call 66; refine (unhide HM _).mono ?_; rintro e w' ⟨rfl, hw⟩; rw [hw]; clear hw w'))
    go_ret2
    exact ⟨rfl, unhide HB0⟩
  have hst : 100 ≤ st ∧ st ≤ 599 := by unfold stat at hm; simpa using hm
  rw [hm] at HM HX
  by_cases hf : flw mh mb = true
  case neg =>
    have hf' : flw mh mb = false := by simpa using hf
    rw [hf'] at HF HX
    have hX : X = ([], 55) := by rw [unhide HX]; rfl
    subst hX
    go_enter Tryz.func32, Tryz.ntmps32
    go_wp2_with (first | (go_at_call 66; refine (unhide HM _).mono ?_; rintro e w' ⟨rfl, hw⟩; rw [hw]; clear hw w'))
    refine (unhide HF _ (unhide HB0)).mono ?_
    rintro e w2 ⟨rfl, b2⟩
    have HB2 := hide ((unhide HB0).trans (b2.mono (by simp)))
    clear b2
    go_wp2
    go_ret2
    exact ⟨rfl, unhide HB2⟩
  have hfl := flw_len hf
  rw [hf] at HF HX
  have hX : X = (lay (aline st.toNat) mh mb, 0) := by rw [unhide HX]; rfl
  have HXX := hide hX
  obtain ⟨N1, hN1⟩ : ∃ N1 : Nat, st = (N1 : Int) := ⟨st.toNat, by omega⟩
  have HST := hide hN1
  have hdl := itoa_len N1 (by omega)
  have hrl := (rsn_shn N1).2
  have hmll : (aline N1).length ≤ 1000000000000 := by simp [aline]; omega
  have HLY2 := hide (fun W h => unhide HLY W h (aline N1) hmll (by omega) (by omega) (by have := unhide HNL; omega))
  have hN599 : N1 ≤ 599 := by omega
  clear hX HX HLY hm hf hN1
  go_enter Tryz.func32, Tryz.ntmps32
  go_wp2_with (first | (go_at_call 66; refine (unhide HM _).mono ?_; rintro e w' ⟨rfl, hw⟩; rw [hw]; clear hw w'))
  refine (unhide HF _ (unhide HB0)).mono ?_
  rintro e w2 ⟨rfl, b2⟩
  have HB2 := hide ((unhide HB0).trans (b2.mono (by simp)))
  have HBLK := hide ((b2.block w.heap.size (by simp)).trans (heap_alloc_new w (.cells #[.int .i64 st, .slice a n cap, S mb] 26)))
  have hz2 : w.heap.size < w2.heap.size := lt_of_row (unhide HBLK)
  clear b2
  go_wp2
  have HW : ∀ W, Below w2.heap.size w2 W → Below w.heap.size w W := fun W h => (unhide HB2).trans (h.mono (by omega))
  have HC : ∀ W, Below w2.heap.size w2 W → W.heap[w.heap.size]? = some (.cells #[.int .i64 st, .slice a n cap, S mb] 26 (0, 0)) := fun W h => (h.block _ hz2).trans (unhide HBLK)
  refine rpr w.heap.size n cap st a (decDigits N1) (rsn N1) mb (lay (aline N1) mh mb) rfl rfl rfl _ _ (show 30 ≤ 30 from by decide) rfl (fun _ W => Below w2.heap.size w2 W) ((Below.refl _ _).drew) (fun _ _ _ _ h => h) (fun L W h => cell_of_row W _ 0 _ 26 (0, 0) (HC W h)) (fun L W h => cell_of_row W _ 0 _ 26 (0, 0) (HC W h)) (fun L W h => cell_of_row W _ 1 _ 26 (0, 0) (HC W h)) (fun L W h => cell_of_row W _ 2 _ 26 (0, 0) (HC W h)) (by simp; omega) (by simp; omega) (by simp; omega) ?_ ?_ ?_ ?_
  · intro L W h _
    rw [unhide HST]
    refine (itoa_any N1 W ((unhide HE).below (HW W h)) (by omega)).mono ?_
    rintro e w' ⟨rfl, b⟩
    exact ⟨rfl, h.trans (b.mono h.size)⟩
  · intro L W h _
    rw [unhide HST]
    refine (reason_any (N1 : Int) W).mono ?_
    rintro e w' ⟨rfl, rfl⟩
    exact ⟨rfl, h⟩
  · intro L W h _
    refine (unhide HLY2 W (HW W h)).mono ?_
    rintro e w' ⟨rfl, b⟩
    exact ⟨rfl, h.trans (b.mono h.size)⟩
  intro L W _ h
  have HB3 := hide (HW W h)
  clear HW HC h
  simp only [Act.put, List.setIfInBounds_toArray, List.set_cons_succ, List.set_cons_zero]
  go_wp2
  go_ret2
  exact ⟨by rw [unhide HXX]; simp only [unhide HST]; rfl, unhide HB3⟩
end Go.Proofs.YthlacailhfhjnaaGreatDoor
