import Derived.Test.YtpidmpefodnffaaGreatDoorZfde
import Derived.Test.YtpidmpefodnffaaGreatDoorZfdi
namespace Go.Proofs.YtpidmpefodnffaaGreatDoor
open Go.RowKit
set_option maxHeartbeats 4000000
set_option maxRecDepth 8000
def chaKl (_ba : Int) (_ne : Int) (_bh : Bs) (_nh : Bs) : List Bs := [[104]]
def chaVl (ba : Int) (ne : Int) (bh : Bs) (nh : Bs) : List Bs := [be 8 ba.toNat, be 8 ne.toNat, bh, nh]
def chaP (ba : Int) (ne : Int) (bh : Bs) (nh : Bs) : (Bs × Bs) × Nat := if chaOK ba ne bh nh then ((cat (lx (chaKl ba ne bh nh)) 1, cat (lx (chaVl ba ne bh nh)) 4), 0) else (([], []), 140)
theorem chaB {ba : Int} {ne : Int} {bh : Bs} {nh : Bs} (h : chaOK ba ne bh nh = true) : (0 ≤ ba ∧ ba < 18446744073709551616 ∧ ba ≤ 9223372036854775807) ∧ (0 ≤ ne ∧ ne < 18446744073709551616 ∧ ne ≤ 9223372036854775807) ∧ bh.length ≤ 100 ∧ nh.length ≤ 100 := by
  simp only [chaOK, beq_iff_eq, Bool.and_eq_true, decide_eq_true_eq] at h
  omega
theorem pr112 (ba : Int) (ne : Int) (bh : Bs) (nh : Bs) (w : World) (h_ne : ne ≤ 9223372036854775807) : Calls Tryz.prog 112 #[.agg #[I ba, I ne, S bh, S nh], FN 113, FN 114] w fun e w' => e = .returned (.tuple #[.agg #[S (chaP ba ne bh nh).1.1, S (chaP ba ne bh nh).1.2], I (chaP ba ne bh nh).2]) ∧ Below w.heap.size w w' := by
  have hb0 : Below w.heap.size w ((w.alloc (.cells #[I ba, I ne, S bh, S nh] 64)).alloc (.cells #[S [], S []] 30)) := ((Below.refl _ w).alloc (Nat.le_refl _) _).alloc (by simp) _
  have hT : ((w.alloc (.cells #[I ba, I ne, S bh, S nh] 64)).alloc (.cells #[S [], S []] 30)).heap[w.heap.size]? = some (.cells #[I ba, I ne, S bh, S nh] 64 (0, 0)) := by
    rw [heap_alloc_old _ _ (by simp)]; exact heap_alloc_new _ _
  have hR : ((w.alloc (.cells #[I ba, I ne, S bh, S nh] 64)).alloc (.cells #[S [], S []] 30)).heap[w.heap.size + 1]? = some (.cells #[S [], S []] 30 (0, 0)) := by
    have e := heap_alloc_new (w.alloc (.cells #[I ba, I ne, S bh, S nh] 64)) (.cells #[S [], S []] 30)
    simpa using e
  have HRt := hide (rightChain_any ba ne bh nh h_ne ((w.alloc (.cells #[I ba, I ne, S bh, S nh] 64)).alloc (.cells #[S [], S []] 30)))
  have c0 : ((w.alloc (.cells #[I ba, I ne, S bh, S nh] 64)).alloc (.cells #[S [], S []] 30)).cell? ⟨w.heap.size, 0, none⟩ = some (I ba) := cellr hT rfl
  have c1 : ((w.alloc (.cells #[I ba, I ne, S bh, S nh] 64)).alloc (.cells #[S [], S []] 30)).cell? ⟨w.heap.size, 1, none⟩ = some (I ne) := cellr hT rfl
  have c2 : ((w.alloc (.cells #[I ba, I ne, S bh, S nh] 64)).alloc (.cells #[S [], S []] 30)).cell? ⟨w.heap.size, 2, none⟩ = some (S bh) := cellr hT rfl
  have c3 : ((w.alloc (.cells #[I ba, I ne, S bh, S nh] 64)).alloc (.cells #[S [], S []] 30)).cell? ⟨w.heap.size, 3, none⟩ = some (S nh) := cellr hT rfl
  generalize hW1 : ((w.alloc (.cells #[I ba, I ne, S bh, S nh] 64)).alloc (.cells #[S [], S []] 30)) = W1 at *
  have HT := hide hT
  have HR := hide hR
  have HB := hide hb0
  clear hT hR hb0
  go_enter Tryz.func112, Tryz.ntmps112
  go_wp2_with fail
  refine (unhide HRt).mono ?_
  rintro e w2 ⟨rfl, hw2⟩
  have HB2 := hide ((unhide HB).trans (hw2.mono (unhide HB).size))
  have hT2 := (hw2.block _ (lt_of_row (unhide HT))).trans (unhide HT)
  have hR2 := (hw2.block _ (lt_of_row (unhide HR))).trans (unhide HR)
  have HT2 := hide hT2
  have HR2 := hide hR2
  clear hw2 hT2 hR2 HRt HB HT HR c0 c1 c2 c3 hW1
  cases hok : chaOK ba ne bh nh
  · have HP : Hid (chaP ba ne bh nh = (([], []), 140)) := hide (by simp [chaP, hok])
    go_wp2_with (refine wp_st30 rfl (.tmp 6) (.tmp 12) rfl (w.heap.size + 1) (by rfl) [] [] (by rfl) #[S [], S []] rfl (unhide HR2) ?_)
    refine out2c (T := 30) (n := 2) (p := 6) (q := 7) (cs := #[S [], S []]) (fun _ => by kernel_rfl) (fun _ => by kernel_rfl) (Z := w.heap.size + 1) (by rfl) (by rfl) (by rfl) (by rfl) (setRow_row (unhide HR2)) (by rfl) ?_
    rw [unhide HP]
    exact ⟨rfl, (setRow_Only w2 (w.heap.size + 1) #[S [], S []]).below (unhide HB2) (unhide HB2).size (fun k e => by omega)⟩
  · have HP : Hid (chaP ba ne bh nh = ((cat (lx (chaKl ba ne bh nh)) 1, cat (lx (chaVl ba ne bh nh)) 4), 0)) := hide (by simp [chaP, hok])
    have HLy := hide (lay114 w.heap.size w2)
    have hlT : w.heap.size < w2.heap.size := lt_of_row (unhide HT2)
    have hlR : w.heap.size + 1 < w2.heap.size := lt_of_row (unhide HR2)
    have HOK := hide hok
    go_wp2_with fail
    refine (unhide HLy).mono ?_
    rintro e w3 ⟨c, rfl, hb3, hL1, ⟨hk0, hc0⟩, ⟨hk1, hc1⟩⟩
    have d0 : w3.cell? ⟨w.heap.size, 0, none⟩ = some (I ba) := cellr ((hb3.block _ hlT).trans (unhide HT2)) rfl
    have d1 : w3.cell? ⟨w.heap.size, 1, none⟩ = some (I ne) := cellr ((hb3.block _ hlT).trans (unhide HT2)) rfl
    have d2 : w3.cell? ⟨w.heap.size, 2, none⟩ = some (S bh) := cellr ((hb3.block _ hlT).trans (unhide HT2)) rfl
    have d3 : w3.cell? ⟨w.heap.size, 3, none⟩ = some (S nh) := cellr ((hb3.block _ hlT).trans (unhide HT2)) rfl
    have eL1 : w3.cell? ⟨w2.heap.size + 1, 0, none⟩ = some (S [104]) := cellr hL1 rfl
    obtain ⟨b0, b1, b2, b3⟩ := chaB (unhide HOK)
    have HPr := hide (pair_any (some ⟨c 0, 0, none⟩) (some ⟨c 1, 0, none⟩) 1 4 (fun i => (#[(vW ⟨w2.heap.size + 1, 0, none⟩ 1)] : Array Value).getD i undef) (fun i => (#[(vI ⟨w.heap.size, 0, none⟩ 8), (vI ⟨w.heap.size, 1, none⟩ 8), (vW ⟨w.heap.size, 2, none⟩ 32), (vW ⟨w.heap.size, 3, none⟩ 32)] : Array Value).getD i undef) (lx (chaKl ba ne bh nh)) (lx (chaVl ba ne bh nh)) w3 (by decide) (by decide)
      (fun _ => ⟨c 0, 0, rfl, fun i hi => by rw [Nat.zero_add]; unfold World.cell?; rw [hc0]; match i, hi with | 0, _ => rfl | (k + 1), h => exact absurd h (by omega)⟩)
      (fun _ => ⟨c 1, 0, rfl, fun i hi => by rw [Nat.zero_add]; unfold World.cell?; rw [hc1]; match i, hi with | 0, _ => rfl | 1, _ => rfl | 2, _ => rfl | 3, _ => rfl | (k + 4), h => exact absurd h (by omega)⟩)
      (fun W hW i hi => by match i, hi with
      | 0, _ => exact Pf.W _ 1 _ (cell_below eL1 hW (cell_lt eL1))
      | (k + 1), h => exact absurd h (by omega))
      (fun W hW i hi => by match i, hi with
      | 0, _ => exact Pf.I _ 8 _ (cell_below d0 hW (cell_lt d0)) (by decide) (by decide) b0.1 (by show _ < (18446744073709551616 : Int); exact b0.2.1) b0.2.2
      | 1, _ => exact Pf.I _ 8 _ (cell_below d1 hW (cell_lt d1)) (by decide) (by decide) b1.1 (by show _ < (18446744073709551616 : Int); exact b1.2.1) b1.2.2
      | 2, _ => exact Pf.W _ 32 _ (cell_below d2 hW (cell_lt d2))
      | 3, _ => exact Pf.W _ 32 _ (cell_below d3 hW (cell_lt d3))
      | (k + 4), h => exact absurd h (by omega))
      (by simp [cat, lx, chaKl] <;> omega) (by simp [cat, lx, chaVl, be_len] <;> omega))
    have HB3 := hide ((unhide HB2).trans (hb3.mono (unhide HB2).size))
    have HR3 := hide ((hb3.block _ hlR).trans (unhide HR2))
    clear d0 d1 d2 d3 eL1 hL1 hk0 hc0 hk1 hc1 hb3 HLy HT2 HR2 HB2 HOK hok
    generalize cat (lx (chaKl ba ne bh nh)) 1 = kk at *
    generalize cat (lx (chaVl ba ne bh nh)) 4 = vv at *
    go_wp2_with fail
    refine (unhide HPr).mono ?_
    rintro e w4 ⟨rfl, hw4⟩
    have HB4 := hide ((unhide HB3).trans (hw4.mono (unhide HB3).size))
    have HR4 := hide ((hw4.block _ (lt_of_row (unhide HR3))).trans (unhide HR3))
    clear hw4 HPr HB3 HR3
    go_wp2_with (refine wp_st30 rfl (.tmp 6) (.tmp 15) rfl (w.heap.size + 1) (by rfl) kk vv (by rfl) #[S [], S []] rfl (unhide HR4) ?_)
    refine out2c (T := 30) (n := 2) (p := 6) (q := 7) (cs := #[S kk, S vv]) (fun _ => by kernel_rfl) (fun _ => by kernel_rfl) (Z := w.heap.size + 1) (by rfl) (by rfl) (by rfl) (by rfl) (setRow_row (unhide HR4)) (by rfl) ?_
    rw [unhide HP]
    exact ⟨rfl, (setRow_Only w4 (w.heap.size + 1) #[S kk, S vv]).below (unhide HB4) (unhide HB4).size (fun k e => by omega)⟩
def eveKl (nu : Int) (_ti : Int) (_ki : Int) (_fa : Int) (_wh : Bs) : List Bs := [[101], be 8 nu.toNat]
def eveVl (_nu : Int) (ti : Int) (ki : Int) (fa : Int) (wh : Bs) : List Bs := [be 6 ti.toNat, be 1 ki.toNat, be 8 fa.toNat, be 1 wh.length ++ wh]
def eveP (nu : Int) (ti : Int) (ki : Int) (fa : Int) (wh : Bs) : (Bs × Bs) × Nat := if eveOK nu ti ki fa wh then ((cat (lx (eveKl nu ti ki fa wh)) 2, cat (lx (eveVl nu ti ki fa wh)) 4), 0) else (([], []), 140)
theorem eveB {nu : Int} {ti : Int} {ki : Int} {fa : Int} {wh : Bs} (h : eveOK nu ti ki fa wh = true) : (0 ≤ nu ∧ nu < 18446744073709551616 ∧ nu ≤ 9223372036854775807) ∧ (0 ≤ ti ∧ ti < 281474976710656 ∧ ti ≤ 9223372036854775807) ∧ (0 ≤ ki ∧ ki < 256 ∧ ki ≤ 9223372036854775807) ∧ (0 ≤ fa ∧ fa < 18446744073709551616 ∧ fa ≤ 9223372036854775807) ∧ wh.length ≤ 16 := by
  simp only [eveOK, tim, idn, beq_iff_eq, Bool.or_eq_true, Bool.and_eq_true, decide_eq_true_eq] at h
  obtain ⟨h1, h2, h3, h4, h5, h6⟩ := h
  have hw : wh.length ≤ 16 := by
    rcases h6 with q | q
    · subst q; simp
    · exact (right_one q).2
  omega
theorem pr106 (nu : Int) (ti : Int) (ki : Int) (fa : Int) (wh : Bs) (w : World) (h_wh : wh.length ≤ 9223372036854775807) : Calls Tryz.prog 106 #[.agg #[I nu, I ti, I ki, I fa, S wh], FN 107, FN 108] w fun e w' => e = .returned (.tuple #[.agg #[S (eveP nu ti ki fa wh).1.1, S (eveP nu ti ki fa wh).1.2], I (eveP nu ti ki fa wh).2]) ∧ Below w.heap.size w w' := by
  have hb0 : Below w.heap.size w ((w.alloc (.cells #[I nu, I ti, I ki, I fa, S wh] 62)).alloc (.cells #[S [], S []] 30)) := ((Below.refl _ w).alloc (Nat.le_refl _) _).alloc (by simp) _
  have hT : ((w.alloc (.cells #[I nu, I ti, I ki, I fa, S wh] 62)).alloc (.cells #[S [], S []] 30)).heap[w.heap.size]? = some (.cells #[I nu, I ti, I ki, I fa, S wh] 62 (0, 0)) := by
    rw [heap_alloc_old _ _ (by simp)]; exact heap_alloc_new _ _
  have hR : ((w.alloc (.cells #[I nu, I ti, I ki, I fa, S wh] 62)).alloc (.cells #[S [], S []] 30)).heap[w.heap.size + 1]? = some (.cells #[S [], S []] 30 (0, 0)) := by
    have e := heap_alloc_new (w.alloc (.cells #[I nu, I ti, I ki, I fa, S wh] 62)) (.cells #[S [], S []] 30)
    simpa using e
  have HRt := hide (rightEvent_any nu ti ki fa wh h_wh ((w.alloc (.cells #[I nu, I ti, I ki, I fa, S wh] 62)).alloc (.cells #[S [], S []] 30)))
  have c0 : ((w.alloc (.cells #[I nu, I ti, I ki, I fa, S wh] 62)).alloc (.cells #[S [], S []] 30)).cell? ⟨w.heap.size, 0, none⟩ = some (I nu) := cellr hT rfl
  have c1 : ((w.alloc (.cells #[I nu, I ti, I ki, I fa, S wh] 62)).alloc (.cells #[S [], S []] 30)).cell? ⟨w.heap.size, 1, none⟩ = some (I ti) := cellr hT rfl
  have c2 : ((w.alloc (.cells #[I nu, I ti, I ki, I fa, S wh] 62)).alloc (.cells #[S [], S []] 30)).cell? ⟨w.heap.size, 2, none⟩ = some (I ki) := cellr hT rfl
  have c3 : ((w.alloc (.cells #[I nu, I ti, I ki, I fa, S wh] 62)).alloc (.cells #[S [], S []] 30)).cell? ⟨w.heap.size, 3, none⟩ = some (I fa) := cellr hT rfl
  have c4 : ((w.alloc (.cells #[I nu, I ti, I ki, I fa, S wh] 62)).alloc (.cells #[S [], S []] 30)).cell? ⟨w.heap.size, 4, none⟩ = some (S wh) := cellr hT rfl
  generalize hW1 : ((w.alloc (.cells #[I nu, I ti, I ki, I fa, S wh] 62)).alloc (.cells #[S [], S []] 30)) = W1 at *
  have HT := hide hT
  have HR := hide hR
  have HB := hide hb0
  clear hT hR hb0
  go_enter Tryz.func106, Tryz.ntmps106
  go_wp2_with fail
  refine (unhide HRt).mono ?_
  rintro e w2 ⟨rfl, hw2⟩
  have HB2 := hide ((unhide HB).trans (hw2.mono (unhide HB).size))
  have hT2 := (hw2.block _ (lt_of_row (unhide HT))).trans (unhide HT)
  have hR2 := (hw2.block _ (lt_of_row (unhide HR))).trans (unhide HR)
  have HT2 := hide hT2
  have HR2 := hide hR2
  clear hw2 hT2 hR2 HRt HB HT HR c0 c1 c2 c3 c4 hW1
  cases hok : eveOK nu ti ki fa wh
  · have HP : Hid (eveP nu ti ki fa wh = (([], []), 140)) := hide (by simp [eveP, hok])
    go_wp2_with (refine wp_st30 rfl (.tmp 6) (.tmp 12) rfl (w.heap.size + 1) (by rfl) [] [] (by rfl) #[S [], S []] rfl (unhide HR2) ?_)
    refine out2c (T := 30) (n := 2) (p := 6) (q := 7) (cs := #[S [], S []]) (fun _ => by kernel_rfl) (fun _ => by kernel_rfl) (Z := w.heap.size + 1) (by rfl) (by rfl) (by rfl) (by rfl) (setRow_row (unhide HR2)) (by rfl) ?_
    rw [unhide HP]
    exact ⟨rfl, (setRow_Only w2 (w.heap.size + 1) #[S [], S []]).below (unhide HB2) (unhide HB2).size (fun k e => by omega)⟩
  · have HP : Hid (eveP nu ti ki fa wh = ((cat (lx (eveKl nu ti ki fa wh)) 2, cat (lx (eveVl nu ti ki fa wh)) 4), 0)) := hide (by simp [eveP, hok])
    have HLy := hide (lay108 w.heap.size w2)
    have hlT : w.heap.size < w2.heap.size := lt_of_row (unhide HT2)
    have hlR : w.heap.size + 1 < w2.heap.size := lt_of_row (unhide HR2)
    have HOK := hide hok
    go_wp2_with fail
    refine (unhide HLy).mono ?_
    rintro e w3 ⟨c, rfl, hb3, hL1, ⟨hk0, hc0⟩, ⟨hk1, hc1⟩⟩
    have d0 : w3.cell? ⟨w.heap.size, 0, none⟩ = some (I nu) := cellr ((hb3.block _ hlT).trans (unhide HT2)) rfl
    have d1 : w3.cell? ⟨w.heap.size, 1, none⟩ = some (I ti) := cellr ((hb3.block _ hlT).trans (unhide HT2)) rfl
    have d2 : w3.cell? ⟨w.heap.size, 2, none⟩ = some (I ki) := cellr ((hb3.block _ hlT).trans (unhide HT2)) rfl
    have d3 : w3.cell? ⟨w.heap.size, 3, none⟩ = some (I fa) := cellr ((hb3.block _ hlT).trans (unhide HT2)) rfl
    have d4 : w3.cell? ⟨w.heap.size, 4, none⟩ = some (S wh) := cellr ((hb3.block _ hlT).trans (unhide HT2)) rfl
    have eL1 : w3.cell? ⟨w2.heap.size + 1, 0, none⟩ = some (S [101]) := cellr hL1 rfl
    obtain ⟨b0, b1, b2, b3, b4⟩ := eveB (unhide HOK)
    have HPr := hide (pair_any (some ⟨c 0, 0, none⟩) (some ⟨c 1, 0, none⟩) 2 4 (fun i => (#[(vW ⟨w2.heap.size + 1, 0, none⟩ 1), (vI ⟨w.heap.size, 0, none⟩ 8)] : Array Value).getD i undef) (fun i => (#[(vI ⟨w.heap.size, 1, none⟩ 6), (vI ⟨w.heap.size, 2, none⟩ 1), (vI ⟨w.heap.size, 3, none⟩ 8), (vT ⟨w.heap.size, 4, none⟩ 16)] : Array Value).getD i undef) (lx (eveKl nu ti ki fa wh)) (lx (eveVl nu ti ki fa wh)) w3 (by decide) (by decide)
      (fun _ => ⟨c 0, 0, rfl, fun i hi => by rw [Nat.zero_add]; unfold World.cell?; rw [hc0]; match i, hi with | 0, _ => rfl | 1, _ => rfl | (k + 2), h => exact absurd h (by omega)⟩)
      (fun _ => ⟨c 1, 0, rfl, fun i hi => by rw [Nat.zero_add]; unfold World.cell?; rw [hc1]; match i, hi with | 0, _ => rfl | 1, _ => rfl | 2, _ => rfl | 3, _ => rfl | (k + 4), h => exact absurd h (by omega)⟩)
      (fun W hW i hi => by match i, hi with
      | 0, _ => exact Pf.W _ 1 _ (cell_below eL1 hW (cell_lt eL1))
      | 1, _ => exact Pf.I _ 8 _ (cell_below d0 hW (cell_lt d0)) (by decide) (by decide) b0.1 (by show _ < (18446744073709551616 : Int); exact b0.2.1) b0.2.2
      | (k + 2), h => exact absurd h (by omega))
      (fun W hW i hi => by match i, hi with
      | 0, _ => exact Pf.I _ 6 _ (cell_below d1 hW (cell_lt d1)) (by decide) (by decide) b1.1 (by show _ < (281474976710656 : Int); exact b1.2.1) b1.2.2
      | 1, _ => exact Pf.I _ 1 _ (cell_below d2 hW (cell_lt d2)) (by decide) (by decide) b2.1 (by show _ < (256 : Int); exact b2.2.1) b2.2.2
      | 2, _ => exact Pf.I _ 8 _ (cell_below d3 hW (cell_lt d3)) (by decide) (by decide) b3.1 (by show _ < (18446744073709551616 : Int); exact b3.2.1) b3.2.2
      | 3, _ => exact Pf.T _ 16 _ (cell_below d4 hW (cell_lt d4)) (by decide) b4
      | (k + 4), h => exact absurd h (by omega))
      (by simp [cat, lx, eveKl, be_len] <;> omega) (by simp [cat, lx, eveVl, be_len] <;> omega))
    have HB3 := hide ((unhide HB2).trans (hb3.mono (unhide HB2).size))
    have HR3 := hide ((hb3.block _ hlR).trans (unhide HR2))
    clear d0 d1 d2 d3 d4 eL1 hL1 hk0 hc0 hk1 hc1 hb3 HLy HT2 HR2 HB2 HOK hok
    generalize cat (lx (eveKl nu ti ki fa wh)) 2 = kk at *
    generalize cat (lx (eveVl nu ti ki fa wh)) 4 = vv at *
    go_wp2_with fail
    refine (unhide HPr).mono ?_
    rintro e w4 ⟨rfl, hw4⟩
    have HB4 := hide ((unhide HB3).trans (hw4.mono (unhide HB3).size))
    have HR4 := hide ((hw4.block _ (lt_of_row (unhide HR3))).trans (unhide HR3))
    clear hw4 HPr HB3 HR3
    go_wp2_with (refine wp_st30 rfl (.tmp 6) (.tmp 15) rfl (w.heap.size + 1) (by rfl) kk vv (by rfl) #[S [], S []] rfl (unhide HR4) ?_)
    refine out2c (T := 30) (n := 2) (p := 6) (q := 7) (cs := #[S kk, S vv]) (fun _ => by kernel_rfl) (fun _ => by kernel_rfl) (Z := w.heap.size + 1) (by rfl) (by rfl) (by rfl) (by rfl) (setRow_row (unhide HR4)) (by rfl) ?_
    rw [unhide HP]
    exact ⟨rfl, (setRow_Only w4 (w.heap.size + 1) #[S kk, S vv]).below (unhide HB4) (unhide HB4).size (fun k e => by omega)⟩
end Go.Proofs.YtpidmpefodnffaaGreatDoor
