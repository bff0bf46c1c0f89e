import Derived.Test.YtpidmpefodnffaaGreatDoorZfde
import Derived.Test.YtpidmpefodnffaaGreatDoorZria
namespace Go.Proofs.YtpidmpefodnffaaGreatDoor
open Go.RowKit
set_option maxHeartbeats 4000000
set_option maxRecDepth 8000
def codKl (id : Int) (_cl : Bs) (_su : Bs) (_sc : List Bs) (_ha : Bs) (_ch : Bs) (_un : Int) (_st : Int) (_fa : Int) : List Bs := [[97], be 8 id.toNat]
def codVl (_id : Int) (cl : Bs) (su : Bs) (sc : List Bs) (ha : Bs) (ch : Bs) (un : Int) (st : Int) (fa : Int) : List Bs := [be 1 cl.length ++ cl, be 1 su.length ++ su, be 1 (tx sc).length ++ tx sc, ha, ch, be 6 un.toNat, be 1 st.toNat, be 8 fa.toNat]
def codP (id : Int) (cl : Bs) (su : Bs) (sc : List Bs) (ha : Bs) (ch : Bs) (un : Int) (st : Int) (fa : Int) : (Bs × Bs) × Nat := if codOK id cl su sc ha ch un st fa then ((cat (lx (codKl id cl su sc ha ch un st fa)) 2, cat (lx (codVl id cl su sc ha ch un st fa)) 8), 0) else (([], []), 140)
theorem codB {id : Int} {cl : Bs} {su : Bs} {sc : List Bs} {ha : Bs} {ch : Bs} {un : Int} {st : Int} {fa : Int} (h : codOK id cl su sc ha ch un st fa = true) : (0 ≤ id ∧ id < 18446744073709551616 ∧ id ≤ 9223372036854775807) ∧ cl.length ≤ 16 ∧ su.length ≤ 16 ∧ right sc = true ∧ ha.length ≤ 100 ∧ ch.length ≤ 100 ∧ (0 ≤ un ∧ un < 281474976710656 ∧ un ≤ 9223372036854775807) ∧ (0 ≤ st ∧ st < 256 ∧ st ≤ 9223372036854775807) ∧ (0 ≤ fa ∧ fa < 18446744073709551616 ∧ fa ≤ 9223372036854775807) := by
  simp only [codOK, tim, idn, beq_iff_eq, Bool.or_eq_true, Bool.and_eq_true, decide_eq_true_eq] at h
  obtain ⟨h1, h2, h3, h4, h5, h6, h7, h8⟩ := h
  have q1 := right_one h2
  have q2 := right_one h3
  refine ⟨by omega, by omega, by omega, h4, ?_⟩
  omega
theorem pr88 (id : Int) (cl : Bs) (su : Bs) (va : Option Addr) (vc : Nat) (sc : List Bs) (ha : Bs) (ch : Bs) (un : Int) (st : Int) (fa : Int) (w : World) (h_cl : cl.length ≤ 9223372036854775807) (h_su : su.length ≤ 9223372036854775807) (hsc : Sts w va sc.length sc) (hsl : sc.length ≤ 140737488355000) (hln : Lns sc) : Calls Tryz.prog 88 #[.agg #[I id, S cl, S su, .slice va sc.length vc, S ha, S ch, I un, I st, I fa], FN 89, FN 90] w fun e w' => e = .returned (.tuple #[.agg #[S (codP id cl su sc ha ch un st fa).1.1, S (codP id cl su sc ha ch un st fa).1.2], I (codP id cl su sc ha ch un st fa).2]) ∧ Below w.heap.size w w' := by
  have hb0 : Below w.heap.size w ((w.alloc (.cells #[I id, S cl, S su, .slice va sc.length vc, S ha, S ch, I un, I st, I fa] 51)).alloc (.cells #[S [], S []] 30)) := ((Below.refl _ w).alloc (Nat.le_refl _) _).alloc (by simp) _
  have hT : ((w.alloc (.cells #[I id, S cl, S su, .slice va sc.length vc, S ha, S ch, I un, I st, I fa] 51)).alloc (.cells #[S [], S []] 30)).heap[w.heap.size]? = some (.cells #[I id, S cl, S su, .slice va sc.length vc, S ha, S ch, I un, I st, I fa] 51 (0, 0)) := by
    rw [heap_alloc_old _ _ (by simp)]; exact heap_alloc_new _ _
  have hR : ((w.alloc (.cells #[I id, S cl, S su, .slice va sc.length vc, S ha, S ch, I un, I st, I fa] 51)).alloc (.cells #[S [], S []] 30)).heap[w.heap.size + 1]? = some (.cells #[S [], S []] 30 (0, 0)) := by
    have e := heap_alloc_new (w.alloc (.cells #[I id, S cl, S su, .slice va sc.length vc, S ha, S ch, I un, I st, I fa] 51)) (.cells #[S [], S []] 30)
    simpa using e
  have HRt := hide (rightCode_any id cl su va vc sc ha ch un st fa ((w.alloc (.cells #[I id, S cl, S su, .slice va sc.length vc, S ha, S ch, I un, I st, I fa] 51)).alloc (.cells #[S [], S []] 30)) h_cl h_su (Sts.bel hsc hb0) hsl hln)
  have c0 : ((w.alloc (.cells #[I id, S cl, S su, .slice va sc.length vc, S ha, S ch, I un, I st, I fa] 51)).alloc (.cells #[S [], S []] 30)).cell? ⟨w.heap.size, 0, none⟩ = some (I id) := cellr hT rfl
  have c1 : ((w.alloc (.cells #[I id, S cl, S su, .slice va sc.length vc, S ha, S ch, I un, I st, I fa] 51)).alloc (.cells #[S [], S []] 30)).cell? ⟨w.heap.size, 1, none⟩ = some (S cl) := cellr hT rfl
  have c2 : ((w.alloc (.cells #[I id, S cl, S su, .slice va sc.length vc, S ha, S ch, I un, I st, I fa] 51)).alloc (.cells #[S [], S []] 30)).cell? ⟨w.heap.size, 2, none⟩ = some (S su) := cellr hT rfl
  have c3 : ((w.alloc (.cells #[I id, S cl, S su, .slice va sc.length vc, S ha, S ch, I un, I st, I fa] 51)).alloc (.cells #[S [], S []] 30)).cell? ⟨w.heap.size, 3, none⟩ = some (.slice va sc.length vc) := cellr hT rfl
  have c4 : ((w.alloc (.cells #[I id, S cl, S su, .slice va sc.length vc, S ha, S ch, I un, I st, I fa] 51)).alloc (.cells #[S [], S []] 30)).cell? ⟨w.heap.size, 4, none⟩ = some (S ha) := cellr hT rfl
  have c5 : ((w.alloc (.cells #[I id, S cl, S su, .slice va sc.length vc, S ha, S ch, I un, I st, I fa] 51)).alloc (.cells #[S [], S []] 30)).cell? ⟨w.heap.size, 5, none⟩ = some (S ch) := cellr hT rfl
  have c6 : ((w.alloc (.cells #[I id, S cl, S su, .slice va sc.length vc, S ha, S ch, I un, I st, I fa] 51)).alloc (.cells #[S [], S []] 30)).cell? ⟨w.heap.size, 6, none⟩ = some (I un) := cellr hT rfl
  have c7 : ((w.alloc (.cells #[I id, S cl, S su, .slice va sc.length vc, S ha, S ch, I un, I st, I fa] 51)).alloc (.cells #[S [], S []] 30)).cell? ⟨w.heap.size, 7, none⟩ = some (I st) := cellr hT rfl
  have c8 : ((w.alloc (.cells #[I id, S cl, S su, .slice va sc.length vc, S ha, S ch, I un, I st, I fa] 51)).alloc (.cells #[S [], S []] 30)).cell? ⟨w.heap.size, 8, none⟩ = some (I fa) := cellr hT rfl
  generalize hW1 : ((w.alloc (.cells #[I id, S cl, S su, .slice va sc.length vc, S ha, S ch, I un, I st, I fa] 51)).alloc (.cells #[S [], S []] 30)) = W1 at *
  have HT := hide hT
  have HR := hide hR
  have HB := hide hb0
  clear hT hR hb0
  go_enter Tryz.func88, Tryz.ntmps88
  go_wp2_with fail
  refine (unhide HRt).mono ?_
  rintro e w2 ⟨rfl, hw2⟩
  have HB2 := hide ((unhide HB).trans (hw2.mono (unhide HB).size))
  have hT2 := (hw2.block _ (lt_of_row (unhide HT))).trans (unhide HT)
  have hR2 := (hw2.block _ (lt_of_row (unhide HR))).trans (unhide HR)
  have HT2 := hide hT2
  have HR2 := hide hR2
  clear hw2 hT2 hR2 HRt HB HT HR c0 c1 c2 c3 c4 c5 c6 c7 c8 hW1
  cases hok : codOK id cl su sc ha ch un st fa
  · have HP : Hid (codP id cl su sc ha ch un st fa = (([], []), 140)) := hide (by simp [codP, hok])
    go_wp2_with (refine wp_st30 rfl (.tmp 6) (.tmp 12) rfl (w.heap.size + 1) (by rfl) [] [] (by rfl) #[S [], S []] rfl (unhide HR2) ?_)
    refine out2c (T := 30) (n := 2) (p := 6) (q := 7) (cs := #[S [], S []]) (fun _ => by kernel_rfl) (fun _ => by kernel_rfl) (Z := w.heap.size + 1) (by rfl) (by rfl) (by rfl) (by rfl) (setRow_row (unhide HR2)) (by rfl) ?_
    rw [unhide HP]
    exact ⟨rfl, (setRow_Only w2 (w.heap.size + 1) #[S [], S []]).below (unhide HB2) (unhide HB2).size (fun k e => by omega)⟩
  · have HP : Hid (codP id cl su sc ha ch un st fa = ((cat (lx (codKl id cl su sc ha ch un st fa)) 2, cat (lx (codVl id cl su sc ha ch un st fa)) 8), 0)) := hide (by simp [codP, hok])
    have HLy := hide (lay90 w.heap.size w2)
    have hlT : w.heap.size < w2.heap.size := lt_of_row (unhide HT2)
    have hlR : w.heap.size + 1 < w2.heap.size := lt_of_row (unhide HR2)
    have HOK := hide hok
    go_wp2_with fail
    refine (unhide HLy).mono ?_
    rintro e w3 ⟨c, rfl, hb3, hL1, ⟨hk0, hc0⟩, ⟨hk1, hc1⟩⟩
    have d0 : w3.cell? ⟨w.heap.size, 0, none⟩ = some (I id) := cellr ((hb3.block _ hlT).trans (unhide HT2)) rfl
    have d1 : w3.cell? ⟨w.heap.size, 1, none⟩ = some (S cl) := cellr ((hb3.block _ hlT).trans (unhide HT2)) rfl
    have d2 : w3.cell? ⟨w.heap.size, 2, none⟩ = some (S su) := cellr ((hb3.block _ hlT).trans (unhide HT2)) rfl
    have d3 : w3.cell? ⟨w.heap.size, 3, none⟩ = some (.slice va sc.length vc) := cellr ((hb3.block _ hlT).trans (unhide HT2)) rfl
    have d4 : w3.cell? ⟨w.heap.size, 4, none⟩ = some (S ha) := cellr ((hb3.block _ hlT).trans (unhide HT2)) rfl
    have d5 : w3.cell? ⟨w.heap.size, 5, none⟩ = some (S ch) := cellr ((hb3.block _ hlT).trans (unhide HT2)) rfl
    have d6 : w3.cell? ⟨w.heap.size, 6, none⟩ = some (I un) := cellr ((hb3.block _ hlT).trans (unhide HT2)) rfl
    have d7 : w3.cell? ⟨w.heap.size, 7, none⟩ = some (I st) := cellr ((hb3.block _ hlT).trans (unhide HT2)) rfl
    have d8 : w3.cell? ⟨w.heap.size, 8, none⟩ = some (I fa) := cellr ((hb3.block _ hlT).trans (unhide HT2)) rfl
    have eL1 : w3.cell? ⟨w2.heap.size + 1, 0, none⟩ = some (S [97]) := cellr hL1 rfl
    have hsc3 : Sts w3 va sc.length sc := Sts.bel hsc ((unhide HB2).trans (hb3.mono (unhide HB2).size))
    obtain ⟨b0, b1, b2, hrg, b4, b5, b6, b7, b8⟩ := codB (unhide HOK)
    have btx := (right_small hrg).2
    have HPr := hide (pair_any (some ⟨c 0, 0, none⟩) (some ⟨c 1, 0, none⟩) 2 8 (fun i => (#[(vW ⟨w2.heap.size + 1, 0, none⟩ 1), (vI ⟨w.heap.size, 0, none⟩ 8)] : Array Value).getD i undef) (fun i => (#[(vT ⟨w.heap.size, 1, none⟩ 16), (vT ⟨w.heap.size, 2, none⟩ 16), (vN ⟨w.heap.size, 3, none⟩ 60), (vW ⟨w.heap.size, 4, none⟩ 32), (vW ⟨w.heap.size, 5, none⟩ 32), (vI ⟨w.heap.size, 6, none⟩ 6), (vI ⟨w.heap.size, 7, none⟩ 1), (vI ⟨w.heap.size, 8, none⟩ 8)] : Array Value).getD i undef) (lx (codKl id cl su sc ha ch un st fa)) (lx (codVl id cl su sc ha ch un st fa)) w3 (by decide) (by decide)
      (fun _ => ⟨c 0, 0, rfl, fun i hi => by rw [Nat.zero_add]; unfold World.cell?; rw [hc0]; match i, hi with | 0, _ => rfl | 1, _ => rfl | (k + 2), h => exact absurd h (by omega)⟩)
      (fun _ => ⟨c 1, 0, rfl, fun i hi => by rw [Nat.zero_add]; unfold World.cell?; rw [hc1]; match i, hi with | 0, _ => rfl | 1, _ => rfl | 2, _ => rfl | 3, _ => rfl | 4, _ => rfl | 5, _ => rfl | 6, _ => rfl | 7, _ => rfl | (k + 8), h => exact absurd h (by omega)⟩)
      (fun W hW i hi => by match i, hi with
      | 0, _ => exact Pf.W _ 1 _ (cell_below eL1 hW (cell_lt eL1))
      | 1, _ => exact Pf.I _ 8 _ (cell_below d0 hW (cell_lt d0)) (by decide) (by decide) b0.1 (by show _ < (18446744073709551616 : Int); exact b0.2.1) b0.2.2
      | (k + 2), h => exact absurd h (by omega))
      (fun W hW i hi => by match i, hi with
      | 0, _ => exact Pf.T _ 16 _ (cell_below d1 hW (cell_lt d1)) (by decide) b1
      | 1, _ => exact Pf.T _ 16 _ (cell_below d2 hW (cell_lt d2)) (by decide) b2
      | 2, _ => exact Pf.N _ 60 va vc sc (cell_below d3 hW (cell_lt d3)) (hsc3.below hW) hrg (by decide) (by decide)
      | 3, _ => exact Pf.W _ 32 _ (cell_below d4 hW (cell_lt d4))
      | 4, _ => exact Pf.W _ 32 _ (cell_below d5 hW (cell_lt d5))
      | 5, _ => exact Pf.I _ 6 _ (cell_below d6 hW (cell_lt d6)) (by decide) (by decide) b6.1 (by show _ < (281474976710656 : Int); exact b6.2.1) b6.2.2
      | 6, _ => exact Pf.I _ 1 _ (cell_below d7 hW (cell_lt d7)) (by decide) (by decide) b7.1 (by show _ < (256 : Int); exact b7.2.1) b7.2.2
      | 7, _ => exact Pf.I _ 8 _ (cell_below d8 hW (cell_lt d8)) (by decide) (by decide) b8.1 (by show _ < (18446744073709551616 : Int); exact b8.2.1) b8.2.2
      | (k + 8), h => exact absurd h (by omega))
      (by simp [cat, lx, codKl, be_len] <;> omega) (by simp [cat, lx, codVl, be_len] <;> omega))
    have HB3 := hide ((unhide HB2).trans (hb3.mono (unhide HB2).size))
    have HR3 := hide ((hb3.block _ hlR).trans (unhide HR2))
    clear d0 d1 d2 d3 d4 d5 d6 d7 d8 eL1 hL1 hk0 hc0 hk1 hc1 hb3 HLy HT2 HR2 HB2 HOK hok
    generalize cat (lx (codKl id cl su sc ha ch un st fa)) 2 = kk at *
    generalize cat (lx (codVl id cl su sc ha ch un st fa)) 8 = vv at *
    go_wp2_with fail
    refine (unhide HPr).mono ?_
    rintro e w4 ⟨rfl, hw4⟩
    have HB4 := hide ((unhide HB3).trans (hw4.mono (unhide HB3).size))
    have HR4 := hide ((hw4.block _ (lt_of_row (unhide HR3))).trans (unhide HR3))
    clear hw4 HPr HB3 HR3
    go_wp2_with (refine wp_st30 rfl (.tmp 6) (.tmp 15) rfl (w.heap.size + 1) (by rfl) kk vv (by rfl) #[S [], S []] rfl (unhide HR4) ?_)
    refine out2c (T := 30) (n := 2) (p := 6) (q := 7) (cs := #[S kk, S vv]) (fun _ => by kernel_rfl) (fun _ => by kernel_rfl) (Z := w.heap.size + 1) (by rfl) (by rfl) (by rfl) (by rfl) (setRow_row (unhide HR4)) (by rfl) ?_
    rw [unhide HP]
    exact ⟨rfl, (setRow_Only w4 (w.heap.size + 1) #[S kk, S vv]).below (unhide HB4) (unhide HB4).size (fun k e => by omega)⟩
end Go.Proofs.YtpidmpefodnffaaGreatDoor
