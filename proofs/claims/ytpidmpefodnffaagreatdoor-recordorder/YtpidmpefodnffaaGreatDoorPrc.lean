import Derived.Test.YtpidmpefodnffaaGreatDoorLyb
import Derived.Test.YtpidmpefodnffaaGreatDoorRib
import Derived.Test.YtpidmpefodnffaaGreatDoorPrh
namespace Go.Proofs.YtpidmpefodnffaaGreatDoor
open Go.RowKit
set_option maxHeartbeats 4000000
set_option maxRecDepth 8000
def memKl (fa : Int) (ge : Int) (_id : Int) : List Bs := [[109], be 8 fa.toNat, be 4 ge.toNat]
def memVl (_fa : Int) (_ge : Int) (id : Int) : List Bs := [be 8 id.toNat]
def memP (fa : Int) (ge : Int) (id : Int) : (Bs × Bs) × Nat := if memOK fa ge id then ((cat (lx (memKl fa ge id)) 3, cat (lx (memVl fa ge id)) 1), 0) else (([], []), 140)
theorem memB {fa : Int} {ge : Int} {id : Int} (h : memOK fa ge id = true) : (0 ≤ fa ∧ fa < 18446744073709551616 ∧ fa ≤ 9223372036854775807) ∧ (0 ≤ ge ∧ ge < 4294967296 ∧ ge ≤ 9223372036854775807) ∧ (0 ≤ id ∧ id < 18446744073709551616 ∧ id ≤ 9223372036854775807) := by
  simp only [memOK, idn, gnr, Bool.and_eq_true, decide_eq_true_eq] at h
  omega
theorem pr153 (fa : Int) (ge : Int) (id : Int) (w : World)  : Calls Tryz.prog 153 #[.agg #[I fa, I ge, I id], FN 121, FN 99] w fun e w' => e = .returned (.tuple #[.agg #[S (memP fa ge id).1.1, S (memP fa ge id).1.2], I (memP fa ge id).2]) ∧ Below w.heap.size w w' := by
  have hb0 : Below w.heap.size w ((w.alloc (.cells #[I fa, I ge, I id] 139)).alloc (.cells #[S [], S []] 30)) := ((Below.refl _ w).alloc (Nat.le_refl _) _).alloc (by simp) _
  have hT : ((w.alloc (.cells #[I fa, I ge, I id] 139)).alloc (.cells #[S [], S []] 30)).heap[w.heap.size]? = some (.cells #[I fa, I ge, I id] 139 (0, 0)) := by
    rw [heap_alloc_old _ _ (by simp)]; exact heap_alloc_new _ _
  have hR : ((w.alloc (.cells #[I fa, I ge, I id] 139)).alloc (.cells #[S [], S []] 30)).heap[w.heap.size + 1]? = some (.cells #[S [], S []] 30 (0, 0)) := by
    have e := heap_alloc_new (w.alloc (.cells #[I fa, I ge, I id] 139)) (.cells #[S [], S []] 30)
    simpa using e
  have HRt := hide (rightMember_any fa ge id  ((w.alloc (.cells #[I fa, I ge, I id] 139)).alloc (.cells #[S [], S []] 30)))
  have c0 : ((w.alloc (.cells #[I fa, I ge, I id] 139)).alloc (.cells #[S [], S []] 30)).cell? ⟨w.heap.size, 0, none⟩ = some (I fa) := cellr hT rfl
  have c1 : ((w.alloc (.cells #[I fa, I ge, I id] 139)).alloc (.cells #[S [], S []] 30)).cell? ⟨w.heap.size, 1, none⟩ = some (I ge) := cellr hT rfl
  have c2 : ((w.alloc (.cells #[I fa, I ge, I id] 139)).alloc (.cells #[S [], S []] 30)).cell? ⟨w.heap.size, 2, none⟩ = some (I id) := cellr hT rfl
  generalize hW1 : ((w.alloc (.cells #[I fa, I ge, I id] 139)).alloc (.cells #[S [], S []] 30)) = W1 at *
  have HT := hide hT
  have HR := hide hR
  have HB := hide hb0
  clear hT hR hb0
  go_enter Tryz.func153, Tryz.ntmps153
  go_wp2_with fail
  refine (unhide HRt).mono ?_
  rintro e w2 ⟨rfl, hw2⟩
  have HB2 := hide ((unhide HB).trans (hw2.mono (unhide HB).size))
  have hT2 := (hw2.block _ (lt_of_row (unhide HT))).trans (unhide HT)
  have hR2 := (hw2.block _ (lt_of_row (unhide HR))).trans (unhide HR)
  have HT2 := hide hT2
  have HR2 := hide hR2
  clear hw2 hT2 hR2 HRt HB HT HR c0 c1 c2 hW1
  cases hok : memOK fa ge id
  · have HP : Hid (memP fa ge id = (([], []), 140)) := hide (by simp [memP, hok])
    go_wp2_with (refine wp_st30 rfl (.tmp 6) (.tmp 12) rfl (w.heap.size + 1) (by rfl) [] [] (by rfl) #[S [], S []] rfl (unhide HR2) ?_)
    refine out2c (T := 30) (n := 2) (p := 6) (q := 7) (cs := #[S [], S []]) (fun _ => by kernel_rfl) (fun _ => by kernel_rfl) (Z := w.heap.size + 1) (by rfl) (by rfl) (by rfl) (by rfl) (setRow_row (unhide HR2)) (by rfl) ?_
    rw [unhide HP]
    exact ⟨rfl, (setRow_Only w2 (w.heap.size + 1) #[S [], S []]).below (unhide HB2) (unhide HB2).size (fun k e => by omega)⟩
  · have HP : Hid (memP fa ge id = ((cat (lx (memKl fa ge id)) 3, cat (lx (memVl fa ge id)) 1), 0)) := hide (by simp [memP, hok])
    have HLy := hide (lay99 w.heap.size w2)
    have hlT : w.heap.size < w2.heap.size := lt_of_row (unhide HT2)
    have hlR : w.heap.size + 1 < w2.heap.size := lt_of_row (unhide HR2)
    have HOK := hide hok
    go_wp2_with fail
    refine (unhide HLy).mono ?_
    rintro e w3 ⟨c, rfl, hb3, hL1, ⟨hk0, hc0⟩, ⟨hk1, hc1⟩⟩
    have d0 : w3.cell? ⟨w.heap.size, 0, none⟩ = some (I fa) := cellr ((hb3.block _ hlT).trans (unhide HT2)) rfl
    have d1 : w3.cell? ⟨w.heap.size, 1, none⟩ = some (I ge) := cellr ((hb3.block _ hlT).trans (unhide HT2)) rfl
    have d2 : w3.cell? ⟨w.heap.size, 2, none⟩ = some (I id) := cellr ((hb3.block _ hlT).trans (unhide HT2)) rfl
    have eL1 : w3.cell? ⟨w2.heap.size + 1, 0, none⟩ = some (S [109]) := cellr hL1 rfl
    obtain ⟨b0, b1, b2⟩ := memB (unhide HOK)
    have HPr := hide (pair_any (some ⟨c 0, 0, none⟩) (some ⟨c 1, 0, none⟩) 3 1 (fun i => (#[(vW ⟨w2.heap.size + 1, 0, none⟩ 1), (vI ⟨w.heap.size, 0, none⟩ 8), (vI ⟨w.heap.size, 1, none⟩ 4)] : Array Value).getD i undef) (fun i => (#[(vI ⟨w.heap.size, 2, none⟩ 8)] : Array Value).getD i undef) (lx (memKl fa ge id)) (lx (memVl fa ge id)) w3 (by decide) (by decide)
      (fun _ => ⟨c 0, 0, rfl, fun i hi => by rw [Nat.zero_add]; unfold World.cell?; rw [hc0]; match i, hi with | 0, _ => rfl | 1, _ => rfl | 2, _ => rfl | (k + 3), h => exact absurd h (by omega)⟩)
      (fun _ => ⟨c 1, 0, rfl, fun i hi => by rw [Nat.zero_add]; unfold World.cell?; rw [hc1]; match i, hi with | 0, _ => rfl | (k + 1), h => exact absurd h (by omega)⟩)
      (fun W hW i hi => by match i, hi with
      | 0, _ => exact Pf.W _ 1 _ (cell_below eL1 hW (cell_lt eL1))
      | 1, _ => exact Pf.I _ 8 _ (cell_below d0 hW (cell_lt d0)) (by decide) (by decide) b0.1 (by show _ < (18446744073709551616 : Int); exact b0.2.1) b0.2.2
      | 2, _ => exact Pf.I _ 4 _ (cell_below d1 hW (cell_lt d1)) (by decide) (by decide) b1.1 (by show _ < (4294967296 : Int); exact b1.2.1) b1.2.2
      | (k + 3), h => exact absurd h (by omega))
      (fun W hW i hi => by match i, hi with
      | 0, _ => exact Pf.I _ 8 _ (cell_below d2 hW (cell_lt d2)) (by decide) (by decide) b2.1 (by show _ < (18446744073709551616 : Int); exact b2.2.1) b2.2.2
      | (k + 1), h => exact absurd h (by omega))
      (by simp [cat, lx, memKl, be_len] <;> omega) (by simp [cat, lx, memVl, be_len] <;> omega))
    have HB3 := hide ((unhide HB2).trans (hb3.mono (unhide HB2).size))
    have HR3 := hide ((hb3.block _ hlR).trans (unhide HR2))
    clear d0 d1 d2 eL1 hL1 hk0 hc0 hk1 hc1 hb3 HLy HT2 HR2 HB2 HOK hok
    generalize cat (lx (memKl fa ge id)) 3 = kk at *
    generalize cat (lx (memVl fa ge id)) 1 = vv at *
    go_wp2_with fail
    refine (unhide HPr).mono ?_
    rintro e w4 ⟨rfl, hw4⟩
    have HB4 := hide ((unhide HB3).trans (hw4.mono (unhide HB3).size))
    have HR4 := hide ((hw4.block _ (lt_of_row (unhide HR3))).trans (unhide HR3))
    clear hw4 HPr HB3 HR3
    go_wp2_with (refine wp_st30 rfl (.tmp 6) (.tmp 15) rfl (w.heap.size + 1) (by rfl) kk vv (by rfl) #[S [], S []] rfl (unhide HR4) ?_)
    refine out2c (T := 30) (n := 2) (p := 6) (q := 7) (cs := #[S kk, S vv]) (fun _ => by kernel_rfl) (fun _ => by kernel_rfl) (Z := w.heap.size + 1) (by rfl) (by rfl) (by rfl) (by rfl) (setRow_row (unhide HR4)) (by rfl) ?_
    rw [unhide HP]
    exact ⟨rfl, (setRow_Only w4 (w.heap.size + 1) #[S kk, S vv]).below (unhide HB4) (unhide HB4).size (fun k e => by omega)⟩
def endKl (en : Int) (id : Int) : List Bs := [[120], be 6 en.toNat, be 8 id.toNat]
def endVl (_en : Int) (_id : Int) : List Bs := []
def endP (en : Int) (id : Int) : (Bs × Bs) × Nat := if endOK en id then ((cat (lx (endKl en id)) 3, cat (lx (endVl en id)) 0), 0) else (([], []), 140)
theorem endB {en : Int} {id : Int} (h : endOK en id = true) : (0 ≤ en ∧ en < 281474976710656 ∧ en ≤ 9223372036854775807) ∧ (0 ≤ id ∧ id < 18446744073709551616 ∧ id ≤ 9223372036854775807) := by
  simp only [endOK, tim, idn, Bool.and_eq_true, decide_eq_true_eq] at h
  omega
theorem pr155 (en : Int) (id : Int) (w : World)  : Calls Tryz.prog 155 #[.agg #[I en, I id], FN 124, FN 76] w fun e w' => e = .returned (.tuple #[.agg #[S (endP en id).1.1, S (endP en id).1.2], I (endP en id).2]) ∧ Below w.heap.size w w' := by
  have hb0 : Below w.heap.size w ((w.alloc (.cells #[I en, I id] 115)).alloc (.cells #[S [], S []] 30)) := ((Below.refl _ w).alloc (Nat.le_refl _) _).alloc (by simp) _
  have hT : ((w.alloc (.cells #[I en, I id] 115)).alloc (.cells #[S [], S []] 30)).heap[w.heap.size]? = some (.cells #[I en, I id] 115 (0, 0)) := by
    rw [heap_alloc_old _ _ (by simp)]; exact heap_alloc_new _ _
  have hR : ((w.alloc (.cells #[I en, I id] 115)).alloc (.cells #[S [], S []] 30)).heap[w.heap.size + 1]? = some (.cells #[S [], S []] 30 (0, 0)) := by
    have e := heap_alloc_new (w.alloc (.cells #[I en, I id] 115)) (.cells #[S [], S []] 30)
    simpa using e
  have HRt := hide (rightEnding_any en id  ((w.alloc (.cells #[I en, I id] 115)).alloc (.cells #[S [], S []] 30)))
  have c0 : ((w.alloc (.cells #[I en, I id] 115)).alloc (.cells #[S [], S []] 30)).cell? ⟨w.heap.size, 0, none⟩ = some (I en) := cellr hT rfl
  have c1 : ((w.alloc (.cells #[I en, I id] 115)).alloc (.cells #[S [], S []] 30)).cell? ⟨w.heap.size, 1, none⟩ = some (I id) := cellr hT rfl
  generalize hW1 : ((w.alloc (.cells #[I en, I id] 115)).alloc (.cells #[S [], S []] 30)) = W1 at *
  have HT := hide hT
  have HR := hide hR
  have HB := hide hb0
  clear hT hR hb0
  go_enter Tryz.func155, Tryz.ntmps155
  go_wp2_with fail
  refine (unhide HRt).mono ?_
  rintro e w2 ⟨rfl, hw2⟩
  have HB2 := hide ((unhide HB).trans (hw2.mono (unhide HB).size))
  have hT2 := (hw2.block _ (lt_of_row (unhide HT))).trans (unhide HT)
  have hR2 := (hw2.block _ (lt_of_row (unhide HR))).trans (unhide HR)
  have HT2 := hide hT2
  have HR2 := hide hR2
  clear hw2 hT2 hR2 HRt HB HT HR c0 c1 hW1
  cases hok : endOK en id
  · have HP : Hid (endP en id = (([], []), 140)) := hide (by simp [endP, hok])
    go_wp2_with (refine wp_st30 rfl (.tmp 6) (.tmp 12) rfl (w.heap.size + 1) (by rfl) [] [] (by rfl) #[S [], S []] rfl (unhide HR2) ?_)
    refine out2c (T := 30) (n := 2) (p := 6) (q := 7) (cs := #[S [], S []]) (fun _ => by kernel_rfl) (fun _ => by kernel_rfl) (Z := w.heap.size + 1) (by rfl) (by rfl) (by rfl) (by rfl) (setRow_row (unhide HR2)) (by rfl) ?_
    rw [unhide HP]
    exact ⟨rfl, (setRow_Only w2 (w.heap.size + 1) #[S [], S []]).below (unhide HB2) (unhide HB2).size (fun k e => by omega)⟩
  · have HP : Hid (endP en id = ((cat (lx (endKl en id)) 3, cat (lx (endVl en id)) 0), 0)) := hide (by simp [endP, hok])
    have HLy := hide (lay76 w.heap.size w2)
    have hlT : w.heap.size < w2.heap.size := lt_of_row (unhide HT2)
    have hlR : w.heap.size + 1 < w2.heap.size := lt_of_row (unhide HR2)
    have HOK := hide hok
    go_wp2_with fail
    refine (unhide HLy).mono ?_
    rintro e w3 ⟨c, rfl, hb3, hL1, ⟨hk0, hc0⟩⟩
    have d0 : w3.cell? ⟨w.heap.size, 0, none⟩ = some (I en) := cellr ((hb3.block _ hlT).trans (unhide HT2)) rfl
    have d1 : w3.cell? ⟨w.heap.size, 1, none⟩ = some (I id) := cellr ((hb3.block _ hlT).trans (unhide HT2)) rfl
    have eL1 : w3.cell? ⟨w2.heap.size + 1, 0, none⟩ = some (S [120]) := cellr hL1 rfl
    obtain ⟨b0, b1⟩ := endB (unhide HOK)
    have HPr := hide (pair_any (some ⟨c 0, 0, none⟩) none 3 0 (fun i => (#[(vW ⟨w2.heap.size + 1, 0, none⟩ 1), (vI ⟨w.heap.size, 0, none⟩ 6), (vI ⟨w.heap.size, 1, none⟩ 8)] : Array Value).getD i undef) (fun _ => undef) (lx (endKl en id)) (lx (endVl en id)) w3 (by decide) (by decide)
      (fun _ => ⟨c 0, 0, rfl, fun i hi => by rw [Nat.zero_add]; unfold World.cell?; rw [hc0]; match i, hi with | 0, _ => rfl | 1, _ => rfl | 2, _ => rfl | (k + 3), h => exact absurd h (by omega)⟩)
      (fun h => absurd h (by decide))
      (fun W hW i hi => by match i, hi with
      | 0, _ => exact Pf.W _ 1 _ (cell_below eL1 hW (cell_lt eL1))
      | 1, _ => exact Pf.I _ 6 _ (cell_below d0 hW (cell_lt d0)) (by decide) (by decide) b0.1 (by show _ < (281474976710656 : Int); exact b0.2.1) b0.2.2
      | 2, _ => exact Pf.I _ 8 _ (cell_below d1 hW (cell_lt d1)) (by decide) (by decide) b1.1 (by show _ < (18446744073709551616 : Int); exact b1.2.1) b1.2.2
      | (k + 3), h => exact absurd h (by omega))
      (fun W hW i hi => absurd hi (by omega))
      (by simp [cat, lx, endKl, be_len] <;> omega) (by simp [cat] <;> omega))
    have HB3 := hide ((unhide HB2).trans (hb3.mono (unhide HB2).size))
    have HR3 := hide ((hb3.block _ hlR).trans (unhide HR2))
    clear d0 d1 eL1 hL1 hk0 hc0 hb3 HLy HT2 HR2 HB2 HOK hok
    generalize cat (lx (endKl en id)) 3 = kk at *
    generalize cat (lx (endVl en id)) 0 = vv at *
    go_wp2_with fail
    refine (unhide HPr).mono ?_
    rintro e w4 ⟨rfl, hw4⟩
    have HB4 := hide ((unhide HB3).trans (hw4.mono (unhide HB3).size))
    have HR4 := hide ((hw4.block _ (lt_of_row (unhide HR3))).trans (unhide HR3))
    clear hw4 HPr HB3 HR3
    go_wp2_with (refine wp_st30 rfl (.tmp 6) (.tmp 15) rfl (w.heap.size + 1) (by rfl) kk vv (by rfl) #[S [], S []] rfl (unhide HR4) ?_)
    refine out2c (T := 30) (n := 2) (p := 6) (q := 7) (cs := #[S kk, S vv]) (fun _ => by kernel_rfl) (fun _ => by kernel_rfl) (Z := w.heap.size + 1) (by rfl) (by rfl) (by rfl) (by rfl) (setRow_row (unhide HR4)) (by rfl) ?_
    rw [unhide HP]
    exact ⟨rfl, (setRow_Only w4 (w.heap.size + 1) #[S kk, S vv]).below (unhide HB4) (unhide HB4).size (fun k e => by omega)⟩
def subKl (su : Bs) (id : Int) : List Bs := [[115], su, [0], be 8 id.toNat]
def subVl (_su : Bs) (_id : Int) : List Bs := []
def subP (su : Bs) (id : Int) : (Bs × Bs) × Nat := if subOK su id then ((cat (lx (subKl su id)) 4, cat (lx (subVl su id)) 0), 0) else (([], []), 140)
theorem subB {su : Bs} {id : Int} (h : subOK su id = true) : su.length ≤ 100 ∧ (0 ≤ id ∧ id < 18446744073709551616 ∧ id ≤ 9223372036854775807) := by
  simp only [subOK, idn, Bool.and_eq_true, decide_eq_true_eq] at h
  have := right_one h.1
  omega
theorem pr156 (su : Bs) (id : Int) (w : World) (h_su : su.length ≤ 9223372036854775807) : Calls Tryz.prog 156 #[.agg #[S su, I id], FN 126, FN 78] w fun e w' => e = .returned (.tuple #[.agg #[S (subP su id).1.1, S (subP su id).1.2], I (subP su id).2]) ∧ Below w.heap.size w w' := by
  have hb0 : Below w.heap.size w ((w.alloc (.cells #[S su, I id] 120)).alloc (.cells #[S [], S []] 30)) := ((Below.refl _ w).alloc (Nat.le_refl _) _).alloc (by simp) _
  have hT : ((w.alloc (.cells #[S su, I id] 120)).alloc (.cells #[S [], S []] 30)).heap[w.heap.size]? = some (.cells #[S su, I id] 120 (0, 0)) := by
    rw [heap_alloc_old _ _ (by simp)]; exact heap_alloc_new _ _
  have hR : ((w.alloc (.cells #[S su, I id] 120)).alloc (.cells #[S [], S []] 30)).heap[w.heap.size + 1]? = some (.cells #[S [], S []] 30 (0, 0)) := by
    have e := heap_alloc_new (w.alloc (.cells #[S su, I id] 120)) (.cells #[S [], S []] 30)
    simpa using e
  have HRt := hide (rightSubjected_any su id h_su ((w.alloc (.cells #[S su, I id] 120)).alloc (.cells #[S [], S []] 30)))
  have c0 : ((w.alloc (.cells #[S su, I id] 120)).alloc (.cells #[S [], S []] 30)).cell? ⟨w.heap.size, 0, none⟩ = some (S su) := cellr hT rfl
  have c1 : ((w.alloc (.cells #[S su, I id] 120)).alloc (.cells #[S [], S []] 30)).cell? ⟨w.heap.size, 1, none⟩ = some (I id) := cellr hT rfl
  generalize hW1 : ((w.alloc (.cells #[S su, I id] 120)).alloc (.cells #[S [], S []] 30)) = W1 at *
  have HT := hide hT
  have HR := hide hR
  have HB := hide hb0
  clear hT hR hb0
  go_enter Tryz.func156, Tryz.ntmps156
  go_wp2_with fail
  refine (unhide HRt).mono ?_
  rintro e w2 ⟨rfl, hw2⟩
  have HB2 := hide ((unhide HB).trans (hw2.mono (unhide HB).size))
  have hT2 := (hw2.block _ (lt_of_row (unhide HT))).trans (unhide HT)
  have hR2 := (hw2.block _ (lt_of_row (unhide HR))).trans (unhide HR)
  have HT2 := hide hT2
  have HR2 := hide hR2
  clear hw2 hT2 hR2 HRt HB HT HR c0 c1 hW1
  cases hok : subOK su id
  · have HP : Hid (subP su id = (([], []), 140)) := hide (by simp [subP, hok])
    go_wp2_with (refine wp_st30 rfl (.tmp 6) (.tmp 12) rfl (w.heap.size + 1) (by rfl) [] [] (by rfl) #[S [], S []] rfl (unhide HR2) ?_)
    refine out2c (T := 30) (n := 2) (p := 6) (q := 7) (cs := #[S [], S []]) (fun _ => by kernel_rfl) (fun _ => by kernel_rfl) (Z := w.heap.size + 1) (by rfl) (by rfl) (by rfl) (by rfl) (setRow_row (unhide HR2)) (by rfl) ?_
    rw [unhide HP]
    exact ⟨rfl, (setRow_Only w2 (w.heap.size + 1) #[S [], S []]).below (unhide HB2) (unhide HB2).size (fun k e => by omega)⟩
  · have HP : Hid (subP su id = ((cat (lx (subKl su id)) 4, cat (lx (subVl su id)) 0), 0)) := hide (by simp [subP, hok])
    have HLy := hide (lay78 w.heap.size w2)
    have hlT : w.heap.size < w2.heap.size := lt_of_row (unhide HT2)
    have hlR : w.heap.size + 1 < w2.heap.size := lt_of_row (unhide HR2)
    have HOK := hide hok
    go_wp2_with fail
    refine (unhide HLy).mono ?_
    rintro e w3 ⟨c, rfl, hb3, hL1, hL2, ⟨hk0, hc0⟩⟩
    have d0 : w3.cell? ⟨w.heap.size, 0, none⟩ = some (S su) := cellr ((hb3.block _ hlT).trans (unhide HT2)) rfl
    have d1 : w3.cell? ⟨w.heap.size, 1, none⟩ = some (I id) := cellr ((hb3.block _ hlT).trans (unhide HT2)) rfl
    have eL1 : w3.cell? ⟨w2.heap.size + 1, 0, none⟩ = some (S [115]) := cellr hL1 rfl
    have eL2 : w3.cell? ⟨w2.heap.size + 1 + 1, 0, none⟩ = some (S [0]) := cellr hL2 rfl
    obtain ⟨b0, b1⟩ := subB (unhide HOK)
    have HPr := hide (pair_any (some ⟨c 0, 0, none⟩) none 4 0 (fun i => (#[(vW ⟨w2.heap.size + 1, 0, none⟩ 1), (vR ⟨w.heap.size, 0, none⟩ 9), (vW ⟨w2.heap.size + 1 + 1, 0, none⟩ 1), (vI ⟨w.heap.size, 1, none⟩ 8)] : Array Value).getD i undef) (fun _ => undef) (lx (subKl su id)) (lx (subVl su id)) w3 (by decide) (by decide)
      (fun _ => ⟨c 0, 0, rfl, fun i hi => by rw [Nat.zero_add]; unfold World.cell?; rw [hc0]; match i, hi with | 0, _ => rfl | 1, _ => rfl | 2, _ => rfl | 3, _ => rfl | (k + 4), h => exact absurd h (by omega)⟩)
      (fun h => absurd h (by decide))
      (fun W hW i hi => by match i, hi with
      | 0, _ => exact Pf.W _ 1 _ (cell_below eL1 hW (cell_lt eL1))
      | 1, _ => exact Pf.R _ 9 _ (cell_below d0 hW (cell_lt d0))
      | 2, _ => exact Pf.W _ 1 _ (cell_below eL2 hW (cell_lt eL2))
      | 3, _ => exact Pf.I _ 8 _ (cell_below d1 hW (cell_lt d1)) (by decide) (by decide) b1.1 (by show _ < (18446744073709551616 : Int); exact b1.2.1) b1.2.2
      | (k + 4), h => exact absurd h (by omega))
      (fun W hW i hi => absurd hi (by omega))
      (by simp [cat, lx, subKl, be_len] <;> omega) (by simp [cat] <;> omega))
    have HB3 := hide ((unhide HB2).trans (hb3.mono (unhide HB2).size))
    have HR3 := hide ((hb3.block _ hlR).trans (unhide HR2))
    clear d0 d1 eL1 hL1 eL2 hL2 hk0 hc0 hb3 HLy HT2 HR2 HB2 HOK hok
    generalize cat (lx (subKl su id)) 4 = kk at *
    generalize cat (lx (subVl su id)) 0 = vv at *
    go_wp2_with fail
    refine (unhide HPr).mono ?_
    rintro e w4 ⟨rfl, hw4⟩
    have HB4 := hide ((unhide HB3).trans (hw4.mono (unhide HB3).size))
    have HR4 := hide ((hw4.block _ (lt_of_row (unhide HR3))).trans (unhide HR3))
    clear hw4 HPr HB3 HR3
    go_wp2_with (refine wp_st30 rfl (.tmp 6) (.tmp 15) rfl (w.heap.size + 1) (by rfl) kk vv (by rfl) #[S [], S []] rfl (unhide HR4) ?_)
    refine out2c (T := 30) (n := 2) (p := 6) (q := 7) (cs := #[S kk, S vv]) (fun _ => by kernel_rfl) (fun _ => by kernel_rfl) (Z := w.heap.size + 1) (by rfl) (by rfl) (by rfl) (by rfl) (setRow_row (unhide HR4)) (by rfl) ?_
    rw [unhide HP]
    exact ⟨rfl, (setRow_Only w4 (w.heap.size + 1) #[S kk, S vv]).below (unhide HB4) (unhide HB4).size (fun k e => by omega)⟩
end Go.Proofs.YtpidmpefodnffaaGreatDoor
