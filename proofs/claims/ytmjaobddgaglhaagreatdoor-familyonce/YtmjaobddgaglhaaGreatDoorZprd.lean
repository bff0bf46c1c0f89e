import Derived.Test.YtmjaobddgaglhaaGreatDoorZfde
import Derived.Test.YtmjaobddgaglhaaGreatDoorZrgpr
namespace Go.Proofs.YtmjaobddgaglhaaGreatDoor
open Go.RowKit
set_option maxHeartbeats 4000000
set_option maxRecDepth 8000
def tokKl (id : Int) (_fa : Int) (_ge : Int) (_ha : Bs) (_mi : Int) (_sp : Bool) (_at9 : Int) (_ne : Int) (_se : Bs) : List Bs := [[116], be 8 id.toNat]
def tokVl (_id : Int) (fa : Int) (ge : Int) (ha : Bs) (mi : Int) (sp : Bool) (at9 : Int) (ne : Int) (se : Bs) : List Bs := [be 8 fa.toNat, be 4 ge.toNat, ha, be 6 mi.toNat, be 1 (bv [sp]), be 6 at9.toNat, be 8 ne.toNat, be 1 se.length ++ se]
def tokP (id : Int) (fa : Int) (ge : Int) (ha : Bs) (mi : Int) (sp : Bool) (at9 : Int) (ne : Int) (se : Bs) : (Bs × Bs) × Nat := if tokOK id fa ge ha mi sp at9 ne se then ((cat (lx (tokKl id fa ge ha mi sp at9 ne se)) 2, cat (lx (tokVl id fa ge ha mi sp at9 ne se)) 8), 0) else (([], []), 140)
theorem tokB {id : Int} {fa : Int} {ge : Int} {ha : Bs} {mi : Int} {sp : Bool} {at9 : Int} {ne : Int} {se : Bs} (h : tokOK id fa ge ha mi sp at9 ne se = true) : (0 ≤ id ∧ id < 18446744073709551616 ∧ id ≤ 9223372036854775807) ∧ (0 ≤ fa ∧ fa < 18446744073709551616 ∧ fa ≤ 9223372036854775807) ∧ (0 ≤ ge ∧ ge < 4294967296 ∧ ge ≤ 9223372036854775807) ∧ ha.length ≤ 100 ∧ (0 ≤ mi ∧ mi < 281474976710656 ∧ mi ≤ 9223372036854775807) ∧ (0 ≤ at9 ∧ at9 < 281474976710656 ∧ at9 ≤ 9223372036854775807) ∧ (0 ≤ ne ∧ ne < 18446744073709551616 ∧ ne ≤ 9223372036854775807) ∧ se.length ≤ 24 := by
  simp only [tokOK, tim, idn, gnr, beq_iff_eq, Bool.and_eq_true, decide_eq_true_eq] at h
  obtain ⟨h1, h2, h3, h4, h5, h6⟩ := h
  have hq : (0 ≤ at9 ∧ at9 ≤ 1099511627776) ∧ (0 ≤ ne ∧ ne ≤ 4611686018427387904) ∧ se.length ≤ 24 := by
    cases sp
    · simp [spOK] at h6
      obtain ⟨q1, q2, q3⟩ := h6
      subst q1 q2 q3
      simp
    · simp [spOK, tim, idn] at h6
      omega
  omega
theorem pr94 (id : Int) (fa : Int) (ge : Int) (ha : Bs) (mi : Int) (sp : Bool) (at9 : Int) (ne : Int) (se : Bs) (w : World)  : Calls Tryz.prog 78 #[.agg #[I id, I fa, I ge, S ha, I mi, .bool sp, I at9, I ne, S se], FN 79, FN 80] w fun e w' => e = .returned (.tuple #[.agg #[S (tokP id fa ge ha mi sp at9 ne se).1.1, S (tokP id fa ge ha mi sp at9 ne se).1.2], I (tokP id fa ge ha mi sp at9 ne se).2]) ∧ Below w.heap.size w w' := by
  have hb0 : Below w.heap.size w ((w.alloc (.cells #[I id, I fa, I ge, S ha, I mi, .bool sp, I at9, I ne, S se] 26)).alloc (.cells #[S [], S []] 87)) := ((Below.refl _ w).alloc (Nat.le_refl _) _).alloc (by simp) _
  have hT : ((w.alloc (.cells #[I id, I fa, I ge, S ha, I mi, .bool sp, I at9, I ne, S se] 26)).alloc (.cells #[S [], S []] 87)).heap[w.heap.size]? = some (.cells #[I id, I fa, I ge, S ha, I mi, .bool sp, I at9, I ne, S se] 26 (0, 0)) := by
    rw [heap_alloc_old _ _ (by simp)]; exact heap_alloc_new _ _
  have hR : ((w.alloc (.cells #[I id, I fa, I ge, S ha, I mi, .bool sp, I at9, I ne, S se] 26)).alloc (.cells #[S [], S []] 87)).heap[w.heap.size + 1]? = some (.cells #[S [], S []] 87 (0, 0)) := by
    have e := heap_alloc_new (w.alloc (.cells #[I id, I fa, I ge, S ha, I mi, .bool sp, I at9, I ne, S se] 26)) (.cells #[S [], S []] 87)
    simpa using e
  have HRt := hide (rightToken_any id fa ge ha mi sp at9 ne se  ((w.alloc (.cells #[I id, I fa, I ge, S ha, I mi, .bool sp, I at9, I ne, S se] 26)).alloc (.cells #[S [], S []] 87)))
  have c0 : ((w.alloc (.cells #[I id, I fa, I ge, S ha, I mi, .bool sp, I at9, I ne, S se] 26)).alloc (.cells #[S [], S []] 87)).cell? ⟨w.heap.size, 0, none⟩ = some (I id) := cellr hT rfl
  have c1 : ((w.alloc (.cells #[I id, I fa, I ge, S ha, I mi, .bool sp, I at9, I ne, S se] 26)).alloc (.cells #[S [], S []] 87)).cell? ⟨w.heap.size, 1, none⟩ = some (I fa) := cellr hT rfl
  have c2 : ((w.alloc (.cells #[I id, I fa, I ge, S ha, I mi, .bool sp, I at9, I ne, S se] 26)).alloc (.cells #[S [], S []] 87)).cell? ⟨w.heap.size, 2, none⟩ = some (I ge) := cellr hT rfl
  have c3 : ((w.alloc (.cells #[I id, I fa, I ge, S ha, I mi, .bool sp, I at9, I ne, S se] 26)).alloc (.cells #[S [], S []] 87)).cell? ⟨w.heap.size, 3, none⟩ = some (S ha) := cellr hT rfl
  have c4 : ((w.alloc (.cells #[I id, I fa, I ge, S ha, I mi, .bool sp, I at9, I ne, S se] 26)).alloc (.cells #[S [], S []] 87)).cell? ⟨w.heap.size, 4, none⟩ = some (I mi) := cellr hT rfl
  have c5 : ((w.alloc (.cells #[I id, I fa, I ge, S ha, I mi, .bool sp, I at9, I ne, S se] 26)).alloc (.cells #[S [], S []] 87)).cell? ⟨w.heap.size, 5, none⟩ = some (.bool sp) := cellr hT rfl
  have c6 : ((w.alloc (.cells #[I id, I fa, I ge, S ha, I mi, .bool sp, I at9, I ne, S se] 26)).alloc (.cells #[S [], S []] 87)).cell? ⟨w.heap.size, 6, none⟩ = some (I at9) := cellr hT rfl
  have c7 : ((w.alloc (.cells #[I id, I fa, I ge, S ha, I mi, .bool sp, I at9, I ne, S se] 26)).alloc (.cells #[S [], S []] 87)).cell? ⟨w.heap.size, 7, none⟩ = some (I ne) := cellr hT rfl
  have c8 : ((w.alloc (.cells #[I id, I fa, I ge, S ha, I mi, .bool sp, I at9, I ne, S se] 26)).alloc (.cells #[S [], S []] 87)).cell? ⟨w.heap.size, 8, none⟩ = some (S se) := cellr hT rfl
  generalize hW1 : ((w.alloc (.cells #[I id, I fa, I ge, S ha, I mi, .bool sp, I at9, I ne, S se] 26)).alloc (.cells #[S [], S []] 87)) = W1 at *
  have HT := hide hT
  have HR := hide hR
  have HB := hide hb0
  clear hT hR hb0
  go_enter Tryz.func78, Tryz.ntmps78
  go_wp2_with fail
  refine (unhide HRt).mono ?_
  rintro e w2 ⟨rfl, hw2⟩
  have HB2 := hide ((unhide HB).trans (hw2.mono (unhide HB).size))
  have hT2 := (hw2.block _ (lt_of_row (unhide HT))).trans (unhide HT)
  have hR2 := (hw2.block _ (lt_of_row (unhide HR))).trans (unhide HR)
  have HT2 := hide hT2
  have HR2 := hide hR2
  clear hw2 hT2 hR2 HRt HB HT HR c0 c1 c2 c3 c4 c5 c6 c7 c8 hW1
  cases hok : tokOK id fa ge ha mi sp at9 ne se
  · have HP : Hid (tokP id fa ge ha mi sp at9 ne se = (([], []), 140)) := hide (by simp [tokP, hok])
    go_wp2_with (refine wp_st30 rfl (.tmp 6) (.tmp 12) rfl (w.heap.size + 1) (by rfl) [] [] (by rfl) #[S [], S []] rfl (unhide HR2) ?_)
    refine out2c (T := 87) (n := 2) (p := 6) (q := 7) (cs := #[S [], S []]) (fun _ => by kernel_rfl) (fun _ => by kernel_rfl) (Z := w.heap.size + 1) (by rfl) (by rfl) (by rfl) (by rfl) (setRow_row (unhide HR2)) (by rfl) ?_
    rw [unhide HP]
    exact ⟨rfl, (setRow_Only w2 (w.heap.size + 1) #[S [], S []]).below (unhide HB2) (unhide HB2).size (fun k e => by omega)⟩
  · have HP : Hid (tokP id fa ge ha mi sp at9 ne se = ((cat (lx (tokKl id fa ge ha mi sp at9 ne se)) 2, cat (lx (tokVl id fa ge ha mi sp at9 ne se)) 8), 0)) := hide (by simp [tokP, hok])
    have HLy := hide (lay96 w.heap.size w2)
    have hlT : w.heap.size < w2.heap.size := lt_of_row (unhide HT2)
    have hlR : w.heap.size + 1 < w2.heap.size := lt_of_row (unhide HR2)
    have HOK := hide hok
    go_wp2_with fail
    refine (unhide HLy).mono ?_
    rintro e w3 ⟨c, rfl, hb3, hL1, ⟨hk0, hc0⟩, ⟨hk2, hc2⟩, ⟨hk1, hc1⟩⟩
    have d0 : w3.cell? ⟨w.heap.size, 0, none⟩ = some (I id) := cellr ((hb3.block _ hlT).trans (unhide HT2)) rfl
    have d1 : w3.cell? ⟨w.heap.size, 1, none⟩ = some (I fa) := cellr ((hb3.block _ hlT).trans (unhide HT2)) rfl
    have d2 : w3.cell? ⟨w.heap.size, 2, none⟩ = some (I ge) := cellr ((hb3.block _ hlT).trans (unhide HT2)) rfl
    have d3 : w3.cell? ⟨w.heap.size, 3, none⟩ = some (S ha) := cellr ((hb3.block _ hlT).trans (unhide HT2)) rfl
    have d4 : w3.cell? ⟨w.heap.size, 4, none⟩ = some (I mi) := cellr ((hb3.block _ hlT).trans (unhide HT2)) rfl
    have d5 : w3.cell? ⟨w.heap.size, 5, none⟩ = some (.bool sp) := cellr ((hb3.block _ hlT).trans (unhide HT2)) rfl
    have d6 : w3.cell? ⟨w.heap.size, 6, none⟩ = some (I at9) := cellr ((hb3.block _ hlT).trans (unhide HT2)) rfl
    have d7 : w3.cell? ⟨w.heap.size, 7, none⟩ = some (I ne) := cellr ((hb3.block _ hlT).trans (unhide HT2)) rfl
    have d8 : w3.cell? ⟨w.heap.size, 8, none⟩ = some (S se) := cellr ((hb3.block _ hlT).trans (unhide HT2)) rfl
    have eL1 : w3.cell? ⟨w2.heap.size + 1, 0, none⟩ = some (S [116]) := cellr hL1 rfl
    obtain ⟨b0, b1, b2, b3, b4, b6, b7, b8⟩ := tokB (unhide HOK)
    have HPr := hide (pair_any (some ⟨c 0, 0, none⟩) (some ⟨c 1, 0, none⟩) 2 8 (fun i => (#[(vW ⟨w2.heap.size + 1, 0, none⟩ 1), (vI ⟨w.heap.size, 0, none⟩ 8)] : Array Value).getD i undef) (fun i => (#[(vI ⟨w.heap.size, 1, none⟩ 8), (vI ⟨w.heap.size, 2, none⟩ 4), (vW ⟨w.heap.size, 3, none⟩ 32), (vI ⟨w.heap.size, 4, none⟩ 6), (.iface 144 (.agg #[(.slice (some ⟨c 2, 0, none⟩) 1 1), (I 1), (FN 94), (FN 110)])), (vI ⟨w.heap.size, 6, none⟩ 6), (vI ⟨w.heap.size, 7, none⟩ 8), (vT ⟨w.heap.size, 8, none⟩ 24)] : Array Value).getD i undef) (lx (tokKl id fa ge ha mi sp at9 ne se)) (lx (tokVl id fa ge ha mi sp at9 ne se)) w3 (by decide) (by decide)
      (fun _ => ⟨c 0, 0, rfl, fun i hi => by rw [Nat.zero_add]; unfold World.cell?; rw [hc0]; match i, hi with | 0, _ => rfl | 1, _ => rfl | (k + 2), h => exact absurd h (by omega)⟩)
      (fun _ => ⟨c 1, 0, rfl, fun i hi => by rw [Nat.zero_add]; unfold World.cell?; rw [hc1]; match i, hi with | 0, _ => rfl | 1, _ => rfl | 2, _ => rfl | 3, _ => rfl | 4, _ => rfl | 5, _ => rfl | 6, _ => rfl | 7, _ => rfl | (k + 8), h => exact absurd h (by omega)⟩)
      (fun W hW i hi => by match i, hi with
      | 0, _ => exact Pf.W _ 1 _ (cell_below eL1 hW (cell_lt eL1))
      | 1, _ => exact Pf.I _ 8 _ (cell_below d0 hW (cell_lt d0)) (by decide) (by decide) b0.1 (by show _ < (18446744073709551616 : Int); exact b0.2.1) b0.2.2
      | (k + 2), h => exact absurd h (by omega))
      (fun W hW i hi => by match i, hi with
      | 0, _ => exact Pf.I _ 8 _ (cell_below d1 hW (cell_lt d1)) (by decide) (by decide) b1.1 (by show _ < (18446744073709551616 : Int); exact b1.2.1) b1.2.2
      | 1, _ => exact Pf.I _ 4 _ (cell_below d2 hW (cell_lt d2)) (by decide) (by decide) b2.1 (by show _ < (4294967296 : Int); exact b2.2.1) b2.2.2
      | 2, _ => exact Pf.W _ 32 _ (cell_below d3 hW (cell_lt d3))
      | 3, _ => exact Pf.I _ 6 _ (cell_below d4 hW (cell_lt d4)) (by decide) (by decide) b4.1 (by show _ < (281474976710656 : Int); exact b4.2.1) b4.2.2
      | 4, _ => exact Pf.B (c 2) [⟨w.heap.size, 5, none⟩] [sp] rfl (by simp) (fun q hq => by match q, hq with | 0, _ => exact cell_below (show w3.cell? ⟨c 2, 0, none⟩ = _ from cellr hc2 rfl) hW (by have := lt_of_row hc2; exact this) | (k + 1), h => exact absurd h (by simp)) (fun q hq => by match q, hq with | 0, _ => exact cell_below d5 hW (cell_lt d5) | (k + 1), h => exact absurd h (by simp))
      | 5, _ => exact Pf.I _ 6 _ (cell_below d6 hW (cell_lt d6)) (by decide) (by decide) b6.1 (by show _ < (281474976710656 : Int); exact b6.2.1) b6.2.2
      | 6, _ => exact Pf.I _ 8 _ (cell_below d7 hW (cell_lt d7)) (by decide) (by decide) b7.1 (by show _ < (18446744073709551616 : Int); exact b7.2.1) b7.2.2
      | 7, _ => exact Pf.T _ 24 _ (cell_below d8 hW (cell_lt d8)) (by decide) b8
      | (k + 8), h => exact absurd h (by omega))
      (by simp [cat, lx, tokKl, be_len] <;> omega) (by simp [cat, lx, tokVl, be_len] <;> omega))
    have HB3 := hide ((unhide HB2).trans (hb3.mono (unhide HB2).size))
    have HR3 := hide ((hb3.block _ hlR).trans (unhide HR2))
    clear d0 d1 d2 d3 d4 d5 d6 d7 d8 eL1 hL1 hk0 hc0 hk2 hc2 hk1 hc1 hb3 HLy HT2 HR2 HB2 HOK hok
    generalize cat (lx (tokKl id fa ge ha mi sp at9 ne se)) 2 = kk at *
    generalize cat (lx (tokVl id fa ge ha mi sp at9 ne se)) 8 = vv at *
    go_wp2_with fail
    refine (unhide HPr).mono ?_
    rintro e w4 ⟨rfl, hw4⟩
    have HB4 := hide ((unhide HB3).trans (hw4.mono (unhide HB3).size))
    have HR4 := hide ((hw4.block _ (lt_of_row (unhide HR3))).trans (unhide HR3))
    clear hw4 HPr HB3 HR3
    go_wp2_with (refine wp_st30 rfl (.tmp 6) (.tmp 15) rfl (w.heap.size + 1) (by rfl) kk vv (by rfl) #[S [], S []] rfl (unhide HR4) ?_)
    refine out2c (T := 87) (n := 2) (p := 6) (q := 7) (cs := #[S kk, S vv]) (fun _ => by kernel_rfl) (fun _ => by kernel_rfl) (Z := w.heap.size + 1) (by rfl) (by rfl) (by rfl) (by rfl) (setRow_row (unhide HR4)) (by rfl) ?_
    rw [unhide HP]
    exact ⟨rfl, (setRow_Only w4 (w.heap.size + 1) #[S kk, S vv]).below (unhide HB4) (unhide HB4).size (fun k e => by omega)⟩
end Go.Proofs.YtmjaobddgaglhaaGreatDoor
namespace Go.Proofs.YtmjaobddgaglhaaGreatDoor
open Go.RowKit
set_option maxHeartbeats 4000000
set_option maxRecDepth 8000
theorem Print33 (id : Int) (fa : Int) (ge : Int) (ha : Bs) (mi : Int) (sp : Bool) (at9 : Int) (ne : Int) (se : Bs) (w : World)  : Calls Tryz.prog 59 #[.agg #[I id, I fa, I ge, S ha, I mi, .bool sp, I at9, I ne, S se]] w fun e w' => e = .returned (.tuple #[.agg #[S (tokP id fa ge ha mi sp at9 ne se).1.1, S (tokP id fa ge ha mi sp at9 ne se).1.2], I (tokP id fa ge ha mi sp at9 ne se).2]) ∧ Below w.heap.size w w' := by
  have hb0 : Below w.heap.size w ((w.alloc (.cells #[I id, I fa, I ge, S ha, I mi, .bool sp, I at9, I ne, S se] 26)).alloc (.cells #[S [], S []] 87)) := ((Below.refl _ w).alloc (Nat.le_refl _) _).alloc (by simp) _
  have hT : ((w.alloc (.cells #[I id, I fa, I ge, S ha, I mi, .bool sp, I at9, I ne, S se] 26)).alloc (.cells #[S [], S []] 87)).heap[w.heap.size]? = some (.cells #[I id, I fa, I ge, S ha, I mi, .bool sp, I at9, I ne, S se] 26 (0, 0)) := by
    rw [heap_alloc_old _ _ (by simp)]; exact heap_alloc_new _ _
  have hR : ((w.alloc (.cells #[I id, I fa, I ge, S ha, I mi, .bool sp, I at9, I ne, S se] 26)).alloc (.cells #[S [], S []] 87)).heap[w.heap.size + 1]? = some (.cells #[S [], S []] 87 (0, 0)) := by
    have e := heap_alloc_new (w.alloc (.cells #[I id, I fa, I ge, S ha, I mi, .bool sp, I at9, I ne, S se] 26)) (.cells #[S [], S []] 87)
    simpa using e
  have HPr := hide (pr94 id fa ge ha mi sp at9 ne se ((w.alloc (.cells #[I id, I fa, I ge, S ha, I mi, .bool sp, I at9, I ne, S se] 26)).alloc (.cells #[S [], S []] 87)) )
  have c0 : ((w.alloc (.cells #[I id, I fa, I ge, S ha, I mi, .bool sp, I at9, I ne, S se] 26)).alloc (.cells #[S [], S []] 87)).cell? ⟨w.heap.size, 0, none⟩ = some (I id) := cellr hT rfl
  have c1 : ((w.alloc (.cells #[I id, I fa, I ge, S ha, I mi, .bool sp, I at9, I ne, S se] 26)).alloc (.cells #[S [], S []] 87)).cell? ⟨w.heap.size, 1, none⟩ = some (I fa) := cellr hT rfl
  have c2 : ((w.alloc (.cells #[I id, I fa, I ge, S ha, I mi, .bool sp, I at9, I ne, S se] 26)).alloc (.cells #[S [], S []] 87)).cell? ⟨w.heap.size, 2, none⟩ = some (I ge) := cellr hT rfl
  have c3 : ((w.alloc (.cells #[I id, I fa, I ge, S ha, I mi, .bool sp, I at9, I ne, S se] 26)).alloc (.cells #[S [], S []] 87)).cell? ⟨w.heap.size, 3, none⟩ = some (S ha) := cellr hT rfl
  have c4 : ((w.alloc (.cells #[I id, I fa, I ge, S ha, I mi, .bool sp, I at9, I ne, S se] 26)).alloc (.cells #[S [], S []] 87)).cell? ⟨w.heap.size, 4, none⟩ = some (I mi) := cellr hT rfl
  have c5 : ((w.alloc (.cells #[I id, I fa, I ge, S ha, I mi, .bool sp, I at9, I ne, S se] 26)).alloc (.cells #[S [], S []] 87)).cell? ⟨w.heap.size, 5, none⟩ = some (.bool sp) := cellr hT rfl
  have c6 : ((w.alloc (.cells #[I id, I fa, I ge, S ha, I mi, .bool sp, I at9, I ne, S se] 26)).alloc (.cells #[S [], S []] 87)).cell? ⟨w.heap.size, 6, none⟩ = some (I at9) := cellr hT rfl
  have c7 : ((w.alloc (.cells #[I id, I fa, I ge, S ha, I mi, .bool sp, I at9, I ne, S se] 26)).alloc (.cells #[S [], S []] 87)).cell? ⟨w.heap.size, 7, none⟩ = some (I ne) := cellr hT rfl
  have c8 : ((w.alloc (.cells #[I id, I fa, I ge, S ha, I mi, .bool sp, I at9, I ne, S se] 26)).alloc (.cells #[S [], S []] 87)).cell? ⟨w.heap.size, 8, none⟩ = some (S se) := cellr hT rfl
  generalize hW1 : ((w.alloc (.cells #[I id, I fa, I ge, S ha, I mi, .bool sp, I at9, I ne, S se] 26)).alloc (.cells #[S [], S []] 87)) = W1 at *
  have HR := hide hR
  have HB := hide hb0
  clear hT hR hb0
  generalize tokP id fa ge ha mi sp at9 ne se = Q at *
  obtain ⟨⟨q1, q2⟩, q3⟩ := Q
  go_enter Tryz.func59, Tryz.ntmps59
  go_wp2_with fail
  refine (unhide HPr).mono ?_
  rintro e w2 ⟨rfl, hw2⟩
  have HB2 := hide ((unhide HB).trans (hw2.mono (unhide HB).size))
  have HR2 := hide ((hw2.block _ (lt_of_row (unhide HR))).trans (unhide HR))
  clear hw2 HPr HB HR c0 c1 c2 c3 c4 c5 c6 c7 c8 hW1
  go_wp2_with (refine wp_st30 rfl (.tmp 2) (.tmp 6) rfl (w.heap.size + 1) (by rfl) q1 q2 (by rfl) #[S [], S []] rfl (unhide HR2) ?_)
  refine out2c (T := 87) (n := 2) (p := 2) (q := 3) (cs := #[S q1, S q2]) (fun _ => by kernel_rfl) (fun _ => by kernel_rfl) (Z := w.heap.size + 1) (by rfl) (by rfl) (by rfl) (by rfl) (setRow_row (unhide HR2)) (by rfl) ?_
  exact ⟨rfl, (setRow_Only w2 (w.heap.size + 1) #[S q1, S q2]).below (unhide HB2) (unhide HB2).size (fun k e => by omega)⟩
end Go.Proofs.YtmjaobddgaglhaaGreatDoor
