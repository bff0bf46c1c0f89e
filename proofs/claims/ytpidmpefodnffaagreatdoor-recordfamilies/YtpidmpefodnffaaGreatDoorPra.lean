import Derived.Test.YtpidmpefodnffaaGreatDoorZfde
import Derived.Test.YtpidmpefodnffaaGreatDoorRib
namespace Go.Proofs.YtpidmpefodnffaaGreatDoor
open Go.RowKit
set_option maxHeartbeats 4000000
set_option maxRecDepth 8000
def keyKl (nu : Int) (_se : Bs) (_fr : Int) (_un : Int) : List Bs := [[107], be 4 nu.toNat]
def keyVl (_nu : Int) (se : Bs) (fr : Int) (un : Int) : List Bs := [se, be 6 fr.toNat, be 6 un.toNat]
def keyP (nu : Int) (se : Bs) (fr : Int) (un : Int) : (Bs × Bs) × Nat := if keyOK nu se fr un then ((cat (lx (keyKl nu se fr un)) 2, cat (lx (keyVl nu se fr un)) 3), 0) else (([], []), 140)
theorem keyB {nu : Int} {se : Bs} {fr : Int} {un : Int} (h : keyOK nu se fr un = true) : (0 ≤ nu ∧ nu < 4294967296 ∧ nu ≤ 9223372036854775807) ∧ se.length ≤ 100 ∧ (0 ≤ fr ∧ fr < 281474976710656 ∧ fr ≤ 9223372036854775807) ∧ (0 ≤ un ∧ un < 281474976710656 ∧ un ≤ 9223372036854775807) := by
  simp only [keyOK, tim, beq_iff_eq, Bool.and_eq_true, decide_eq_true_eq] at h
  omega
theorem pr101 (nu : Int) (se : Bs) (fr : Int) (un : Int) (w : World)  : Calls Tryz.prog 101 #[.agg #[I nu, S se, I fr, I un], FN 102, FN 103] w fun e w' => e = .returned (.tuple #[.agg #[S (keyP nu se fr un).1.1, S (keyP nu se fr un).1.2], I (keyP nu se fr un).2]) ∧ Below w.heap.size w w' := by
  have hb0 : Below w.heap.size w ((w.alloc (.cells #[I nu, S se, I fr, I un] 60)).alloc (.cells #[S [], S []] 30)) := ((Below.refl _ w).alloc (Nat.le_refl _) _).alloc (by simp) _
  have hT : ((w.alloc (.cells #[I nu, S se, I fr, I un] 60)).alloc (.cells #[S [], S []] 30)).heap[w.heap.size]? = some (.cells #[I nu, S se, I fr, I un] 60 (0, 0)) := by
    rw [heap_alloc_old _ _ (by simp)]; exact heap_alloc_new _ _
  have hR : ((w.alloc (.cells #[I nu, S se, I fr, I un] 60)).alloc (.cells #[S [], S []] 30)).heap[w.heap.size + 1]? = some (.cells #[S [], S []] 30 (0, 0)) := by
    have e := heap_alloc_new (w.alloc (.cells #[I nu, S se, I fr, I un] 60)) (.cells #[S [], S []] 30)
    simpa using e
  have HRt := hide (rightKey_any nu se fr un  ((w.alloc (.cells #[I nu, S se, I fr, I un] 60)).alloc (.cells #[S [], S []] 30)))
  have c0 : ((w.alloc (.cells #[I nu, S se, I fr, I un] 60)).alloc (.cells #[S [], S []] 30)).cell? ⟨w.heap.size, 0, none⟩ = some (I nu) := cellr hT rfl
  have c1 : ((w.alloc (.cells #[I nu, S se, I fr, I un] 60)).alloc (.cells #[S [], S []] 30)).cell? ⟨w.heap.size, 1, none⟩ = some (S se) := cellr hT rfl
  have c2 : ((w.alloc (.cells #[I nu, S se, I fr, I un] 60)).alloc (.cells #[S [], S []] 30)).cell? ⟨w.heap.size, 2, none⟩ = some (I fr) := cellr hT rfl
  have c3 : ((w.alloc (.cells #[I nu, S se, I fr, I un] 60)).alloc (.cells #[S [], S []] 30)).cell? ⟨w.heap.size, 3, none⟩ = some (I un) := cellr hT rfl
  generalize hW1 : ((w.alloc (.cells #[I nu, S se, I fr, I un] 60)).alloc (.cells #[S [], S []] 30)) = W1 at *
  have HT := hide hT
  have HR := hide hR
  have HB := hide hb0
  clear hT hR hb0
  go_enter Tryz.func101, Tryz.ntmps101
  go_wp2_with fail
  refine (unhide HRt).mono ?_
  rintro e w2 ⟨rfl, hw2⟩
  have HB2 := hide ((unhide HB).trans (hw2.mono (unhide HB).size))
  have hT2 := (hw2.block _ (lt_of_row (unhide HT))).trans (unhide HT)
  have hR2 := (hw2.block _ (lt_of_row (unhide HR))).trans (unhide HR)
  have HT2 := hide hT2
  have HR2 := hide hR2
  clear hw2 hT2 hR2 HRt HB HT HR c0 c1 c2 c3 hW1
  cases hok : keyOK nu se fr un
  · have HP : Hid (keyP nu se fr un = (([], []), 140)) := hide (by simp [keyP, hok])
    go_wp2_with (refine wp_st30 rfl (.tmp 6) (.tmp 12) rfl (w.heap.size + 1) (by rfl) [] [] (by rfl) #[S [], S []] rfl (unhide HR2) ?_)
    refine out2c (T := 30) (n := 2) (p := 6) (q := 7) (cs := #[S [], S []]) (fun _ => by kernel_rfl) (fun _ => by kernel_rfl) (Z := w.heap.size + 1) (by rfl) (by rfl) (by rfl) (by rfl) (setRow_row (unhide HR2)) (by rfl) ?_
    rw [unhide HP]
    exact ⟨rfl, (setRow_Only w2 (w.heap.size + 1) #[S [], S []]).below (unhide HB2) (unhide HB2).size (fun k e => by omega)⟩
  · have HP : Hid (keyP nu se fr un = ((cat (lx (keyKl nu se fr un)) 2, cat (lx (keyVl nu se fr un)) 3), 0)) := hide (by simp [keyP, hok])
    have HLy := hide (lay103 w.heap.size w2)
    have hlT : w.heap.size < w2.heap.size := lt_of_row (unhide HT2)
    have hlR : w.heap.size + 1 < w2.heap.size := lt_of_row (unhide HR2)
    have HOK := hide hok
    go_wp2_with fail
    refine (unhide HLy).mono ?_
    rintro e w3 ⟨c, rfl, hb3, hL1, ⟨hk0, hc0⟩, ⟨hk1, hc1⟩⟩
    have d0 : w3.cell? ⟨w.heap.size, 0, none⟩ = some (I nu) := cellr ((hb3.block _ hlT).trans (unhide HT2)) rfl
    have d1 : w3.cell? ⟨w.heap.size, 1, none⟩ = some (S se) := cellr ((hb3.block _ hlT).trans (unhide HT2)) rfl
    have d2 : w3.cell? ⟨w.heap.size, 2, none⟩ = some (I fr) := cellr ((hb3.block _ hlT).trans (unhide HT2)) rfl
    have d3 : w3.cell? ⟨w.heap.size, 3, none⟩ = some (I un) := cellr ((hb3.block _ hlT).trans (unhide HT2)) rfl
    have eL1 : w3.cell? ⟨w2.heap.size + 1, 0, none⟩ = some (S [107]) := cellr hL1 rfl
    obtain ⟨b0, b1, b2, b3⟩ := keyB (unhide HOK)
    have HPr := hide (pair_any (some ⟨c 0, 0, none⟩) (some ⟨c 1, 0, none⟩) 2 3 (fun i => (#[(vW ⟨w2.heap.size + 1, 0, none⟩ 1), (vI ⟨w.heap.size, 0, none⟩ 4)] : Array Value).getD i undef) (fun i => (#[(vW ⟨w.heap.size, 1, none⟩ 24), (vI ⟨w.heap.size, 2, none⟩ 6), (vI ⟨w.heap.size, 3, none⟩ 6)] : Array Value).getD i undef) (lx (keyKl nu se fr un)) (lx (keyVl nu se fr un)) w3 (by decide) (by decide)
      (fun _ => ⟨c 0, 0, rfl, fun i hi => by rw [Nat.zero_add]; unfold World.cell?; rw [hc0]; match i, hi with | 0, _ => rfl | 1, _ => rfl | (k + 2), h => exact absurd h (by omega)⟩)
      (fun _ => ⟨c 1, 0, rfl, fun i hi => by rw [Nat.zero_add]; unfold World.cell?; rw [hc1]; match i, hi with | 0, _ => rfl | 1, _ => rfl | 2, _ => rfl | (k + 3), h => exact absurd h (by omega)⟩)
      (fun W hW i hi => by match i, hi with
      | 0, _ => exact Pf.W _ 1 _ (cell_below eL1 hW (cell_lt eL1))
      | 1, _ => exact Pf.I _ 4 _ (cell_below d0 hW (cell_lt d0)) (by decide) (by decide) b0.1 (by show _ < (4294967296 : Int); exact b0.2.1) b0.2.2
      | (k + 2), h => exact absurd h (by omega))
      (fun W hW i hi => by match i, hi with
      | 0, _ => exact Pf.W _ 24 _ (cell_below d1 hW (cell_lt d1))
      | 1, _ => exact Pf.I _ 6 _ (cell_below d2 hW (cell_lt d2)) (by decide) (by decide) b2.1 (by show _ < (281474976710656 : Int); exact b2.2.1) b2.2.2
      | 2, _ => exact Pf.I _ 6 _ (cell_below d3 hW (cell_lt d3)) (by decide) (by decide) b3.1 (by show _ < (281474976710656 : Int); exact b3.2.1) b3.2.2
      | (k + 3), h => exact absurd h (by omega))
      (by simp [cat, lx, keyKl, be_len] <;> omega) (by simp [cat, lx, keyVl, be_len] <;> omega))
    have HB3 := hide ((unhide HB2).trans (hb3.mono (unhide HB2).size))
    have HR3 := hide ((hb3.block _ hlR).trans (unhide HR2))
    clear d0 d1 d2 d3 eL1 hL1 hk0 hc0 hk1 hc1 hb3 HLy HT2 HR2 HB2 HOK hok
    generalize cat (lx (keyKl nu se fr un)) 2 = kk at *
    generalize cat (lx (keyVl nu se fr un)) 3 = vv at *
    go_wp2_with fail
    refine (unhide HPr).mono ?_
    rintro e w4 ⟨rfl, hw4⟩
    have HB4 := hide ((unhide HB3).trans (hw4.mono (unhide HB3).size))
    have HR4 := hide ((hw4.block _ (lt_of_row (unhide HR3))).trans (unhide HR3))
    clear hw4 HPr HB3 HR3
    go_wp2_with (refine wp_st30 rfl (.tmp 6) (.tmp 15) rfl (w.heap.size + 1) (by rfl) kk vv (by rfl) #[S [], S []] rfl (unhide HR4) ?_)
    refine out2c (T := 30) (n := 2) (p := 6) (q := 7) (cs := #[S kk, S vv]) (fun _ => by kernel_rfl) (fun _ => by kernel_rfl) (Z := w.heap.size + 1) (by rfl) (by rfl) (by rfl) (by rfl) (setRow_row (unhide HR4)) (by rfl) ?_
    rw [unhide HP]
    exact ⟨rfl, (setRow_Only w4 (w.heap.size + 1) #[S kk, S vv]).below (unhide HB4) (unhide HB4).size (fun k e => by omega)⟩
end Go.Proofs.YtpidmpefodnffaaGreatDoor
