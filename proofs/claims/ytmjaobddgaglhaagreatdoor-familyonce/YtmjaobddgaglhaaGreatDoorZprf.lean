import Derived.Test.YtmjaobddgaglhaaGreatDoorZfde
import Derived.Test.YtmjaobddgaglhaaGreatDoorZrgpr
namespace Go.Proofs.YtmjaobddgaglhaaGreatDoor
open Go.RowKit
set_option maxHeartbeats 4000000
set_option maxRecDepth 8000
def cliKl (na : Bs) (_pu : Bool) (_of9 : Bool) (_ha : Bs) (_ol : Bs) (_un : Int) (_sc : List Bs) (_idl : Int) (_ab : Int) (_gr : Int) (_li : Int) : List Bs := [[99], na]
def cliVl (_na : Bs) (pu : Bool) (of9 : Bool) (ha : Bs) (ol : Bs) (un : Int) (sc : List Bs) (idl : Int) (ab : Int) (gr : Int) (li : Int) : List Bs := [be 1 (bv [pu, of9]), be 1 ha.length ++ ha, be 1 ol.length ++ ol, be 6 un.toNat, be 1 (tx sc).length ++ tx sc, be 6 idl.toNat, be 6 ab.toNat, be 6 gr.toNat, be 6 li.toNat]
def cliP (na : Bs) (pu : Bool) (of9 : Bool) (ha : Bs) (ol : Bs) (un : Int) (sc : List Bs) (idl : Int) (ab : Int) (gr : Int) (li : Int) : (Bs × Bs) × Nat := if cliOK na pu ha ol un sc idl ab gr li then ((cat (lx (cliKl na pu of9 ha ol un sc idl ab gr li)) 2, cat (lx (cliVl na pu of9 ha ol un sc idl ab gr li)) 9), 0) else (([], []), 140)
theorem cliB {na : Bs} {pu : Bool} {ha : Bs} {ol : Bs} {un : Int} {sc : List Bs} {idl : Int} {ab : Int} {gr : Int} {li : Int} (h : cliOK na pu ha ol un sc idl ab gr li = true) : na.length ≤ 100 ∧ ha.length ≤ 32 ∧ ol.length ≤ 32 ∧ (0 ≤ un ∧ un < 281474976710656 ∧ un ≤ 9223372036854775807) ∧ right sc = true ∧ (0 ≤ idl ∧ idl < 281474976710656 ∧ idl ≤ 9223372036854775807) ∧ (0 ≤ ab ∧ ab < 281474976710656 ∧ ab ≤ 9223372036854775807) ∧ (0 ≤ gr ∧ gr < 281474976710656 ∧ gr ≤ 9223372036854775807) ∧ (0 ≤ li ∧ li < 281474976710656 ∧ li ≤ 9223372036854775807) := by
  simp only [cliOK, tim, spn, Bool.and_eq_true, decide_eq_true_eq] at h
  obtain ⟨h1, h2, h3, h4, h5, h6, h7⟩ := h
  have q1 := right_one h1
  have hq : ha.length ≤ 32 ∧ ol.length ≤ 32 ∧ (0 ≤ un ∧ un ≤ 1099511627776) := by
    cases pu
    · simp [secOK, tim] at h2
      obtain ⟨r1, r2 | r2⟩ := h2
      · obtain ⟨e1, e2⟩ := r2; subst e1 e2; simp; omega
      · omega
    · simp [secOK] at h2
      obtain ⟨e1, e2, e3⟩ := h2
      subst e1 e2 e3
      simp
  refine ⟨by omega, by omega, by omega, by omega, h3, ?_⟩
  omega
theorem pr58 (na : Bs) (pu : Bool) (of9 : Bool) (ha : Bs) (ol : Bs) (un : Int) (va : Option Addr) (vc : Nat) (sc : List Bs) (idl : Int) (ab : Int) (gr : Int) (li : Int) (w : World) (h_na : na.length ≤ 9223372036854775807) (hsc : Sts w va sc.length sc) (hsl : sc.length ≤ 140737488355000) (hln : Lns sc) : Calls Tryz.prog 87 #[.agg #[S na, .bool pu, .bool of9, S ha, S ol, I un, .slice va sc.length vc, I idl, I ab, I gr, I li], FN 88, FN 89] w fun e w' => e = .returned (.tuple #[.agg #[S (cliP na pu of9 ha ol un sc idl ab gr li).1.1, S (cliP na pu of9 ha ol un sc idl ab gr li).1.2], I (cliP na pu of9 ha ol un sc idl ab gr li).2]) ∧ Below w.heap.size w w' := by
  have hb0 : Below w.heap.size w ((w.alloc (.cells #[S na, .bool pu, .bool of9, S ha, S ol, I un, .slice va sc.length vc, I idl, I ab, I gr, I li] 48)).alloc (.cells #[S [], S []] 87)) := ((Below.refl _ w).alloc (Nat.le_refl _) _).alloc (by simp) _
  have hT : ((w.alloc (.cells #[S na, .bool pu, .bool of9, S ha, S ol, I un, .slice va sc.length vc, I idl, I ab, I gr, I li] 48)).alloc (.cells #[S [], S []] 87)).heap[w.heap.size]? = some (.cells #[S na, .bool pu, .bool of9, S ha, S ol, I un, .slice va sc.length vc, I idl, I ab, I gr, I li] 48 (0, 0)) := by
    rw [heap_alloc_old _ _ (by simp)]; exact heap_alloc_new _ _
  have hR : ((w.alloc (.cells #[S na, .bool pu, .bool of9, S ha, S ol, I un, .slice va sc.length vc, I idl, I ab, I gr, I li] 48)).alloc (.cells #[S [], S []] 87)).heap[w.heap.size + 1]? = some (.cells #[S [], S []] 87 (0, 0)) := by
    have e := heap_alloc_new (w.alloc (.cells #[S na, .bool pu, .bool of9, S ha, S ol, I un, .slice va sc.length vc, I idl, I ab, I gr, I li] 48)) (.cells #[S [], S []] 87)
    simpa using e
  have HRt := hide (rightClient_any na pu of9 ha ol un va vc sc idl ab gr li ((w.alloc (.cells #[S na, .bool pu, .bool of9, S ha, S ol, I un, .slice va sc.length vc, I idl, I ab, I gr, I li] 48)).alloc (.cells #[S [], S []] 87)) h_na (Sts.bel hsc hb0) hsl hln)
  have c0 : ((w.alloc (.cells #[S na, .bool pu, .bool of9, S ha, S ol, I un, .slice va sc.length vc, I idl, I ab, I gr, I li] 48)).alloc (.cells #[S [], S []] 87)).cell? ⟨w.heap.size, 0, none⟩ = some (S na) := cellr hT rfl
  have c1 : ((w.alloc (.cells #[S na, .bool pu, .bool of9, S ha, S ol, I un, .slice va sc.length vc, I idl, I ab, I gr, I li] 48)).alloc (.cells #[S [], S []] 87)).cell? ⟨w.heap.size, 1, none⟩ = some (.bool pu) := cellr hT rfl
  have c2 : ((w.alloc (.cells #[S na, .bool pu, .bool of9, S ha, S ol, I un, .slice va sc.length vc, I idl, I ab, I gr, I li] 48)).alloc (.cells #[S [], S []] 87)).cell? ⟨w.heap.size, 2, none⟩ = some (.bool of9) := cellr hT rfl
  have c3 : ((w.alloc (.cells #[S na, .bool pu, .bool of9, S ha, S ol, I un, .slice va sc.length vc, I idl, I ab, I gr, I li] 48)).alloc (.cells #[S [], S []] 87)).cell? ⟨w.heap.size, 3, none⟩ = some (S ha) := cellr hT rfl
  have c4 : ((w.alloc (.cells #[S na, .bool pu, .bool of9, S ha, S ol, I un, .slice va sc.length vc, I idl, I ab, I gr, I li] 48)).alloc (.cells #[S [], S []] 87)).cell? ⟨w.heap.size, 4, none⟩ = some (S ol) := cellr hT rfl
  have c5 : ((w.alloc (.cells #[S na, .bool pu, .bool of9, S ha, S ol, I un, .slice va sc.length vc, I idl, I ab, I gr, I li] 48)).alloc (.cells #[S [], S []] 87)).cell? ⟨w.heap.size, 5, none⟩ = some (I un) := cellr hT rfl
  have c6 : ((w.alloc (.cells #[S na, .bool pu, .bool of9, S ha, S ol, I un, .slice va sc.length vc, I idl, I ab, I gr, I li] 48)).alloc (.cells #[S [], S []] 87)).cell? ⟨w.heap.size, 6, none⟩ = some (.slice va sc.length vc) := cellr hT rfl
  have c7 : ((w.alloc (.cells #[S na, .bool pu, .bool of9, S ha, S ol, I un, .slice va sc.length vc, I idl, I ab, I gr, I li] 48)).alloc (.cells #[S [], S []] 87)).cell? ⟨w.heap.size, 7, none⟩ = some (I idl) := cellr hT rfl
  have c8 : ((w.alloc (.cells #[S na, .bool pu, .bool of9, S ha, S ol, I un, .slice va sc.length vc, I idl, I ab, I gr, I li] 48)).alloc (.cells #[S [], S []] 87)).cell? ⟨w.heap.size, 8, none⟩ = some (I ab) := cellr hT rfl
  have c9 : ((w.alloc (.cells #[S na, .bool pu, .bool of9, S ha, S ol, I un, .slice va sc.length vc, I idl, I ab, I gr, I li] 48)).alloc (.cells #[S [], S []] 87)).cell? ⟨w.heap.size, 9, none⟩ = some (I gr) := cellr hT rfl
  have c10 : ((w.alloc (.cells #[S na, .bool pu, .bool of9, S ha, S ol, I un, .slice va sc.length vc, I idl, I ab, I gr, I li] 48)).alloc (.cells #[S [], S []] 87)).cell? ⟨w.heap.size, 10, none⟩ = some (I li) := cellr hT rfl
  generalize hW1 : ((w.alloc (.cells #[S na, .bool pu, .bool of9, S ha, S ol, I un, .slice va sc.length vc, I idl, I ab, I gr, I li] 48)).alloc (.cells #[S [], S []] 87)) = W1 at *
  have HT := hide hT
  have HR := hide hR
  have HB := hide hb0
  clear hT hR hb0
  go_enter Tryz.func87, Tryz.ntmps87
  go_wp2_with fail
  refine (unhide HRt).mono ?_
  rintro e w2 ⟨rfl, hw2⟩
  have HB2 := hide ((unhide HB).trans (hw2.mono (unhide HB).size))
  have hT2 := (hw2.block _ (lt_of_row (unhide HT))).trans (unhide HT)
  have hR2 := (hw2.block _ (lt_of_row (unhide HR))).trans (unhide HR)
  have HT2 := hide hT2
  have HR2 := hide hR2
  clear hw2 hT2 hR2 HRt HB HT HR c0 c1 c2 c3 c4 c5 c6 c7 c8 c9 c10 hW1
  cases hok : cliOK na pu ha ol un sc idl ab gr li
  · have HP : Hid (cliP na pu of9 ha ol un sc idl ab gr li = (([], []), 140)) := hide (by simp [cliP, hok])
    go_wp2_with (refine wp_st30 rfl (.tmp 6) (.tmp 12) rfl (w.heap.size + 1) (by rfl) [] [] (by rfl) #[S [], S []] rfl (unhide HR2) ?_)
    refine out2c (T := 87) (n := 2) (p := 6) (q := 7) (cs := #[S [], S []]) (fun _ => by kernel_rfl) (fun _ => by kernel_rfl) (Z := w.heap.size + 1) (by rfl) (by rfl) (by rfl) (by rfl) (setRow_row (unhide HR2)) (by rfl) ?_
    rw [unhide HP]
    exact ⟨rfl, (setRow_Only w2 (w.heap.size + 1) #[S [], S []]).below (unhide HB2) (unhide HB2).size (fun k e => by omega)⟩
  · have HP : Hid (cliP na pu of9 ha ol un sc idl ab gr li = ((cat (lx (cliKl na pu of9 ha ol un sc idl ab gr li)) 2, cat (lx (cliVl na pu of9 ha ol un sc idl ab gr li)) 9), 0)) := hide (by simp [cliP, hok])
    have HLy := hide (lay60 w.heap.size w2)
    have hlT : w.heap.size < w2.heap.size := lt_of_row (unhide HT2)
    have hlR : w.heap.size + 1 < w2.heap.size := lt_of_row (unhide HR2)
    have HOK := hide hok
    go_wp2_with fail
    refine (unhide HLy).mono ?_
    rintro e w3 ⟨c, rfl, hb3, hL1, ⟨hk0, hc0⟩, ⟨hk2, hc2⟩, ⟨hk1, hc1⟩⟩
    have d0 : w3.cell? ⟨w.heap.size, 0, none⟩ = some (S na) := cellr ((hb3.block _ hlT).trans (unhide HT2)) rfl
    have d1 : w3.cell? ⟨w.heap.size, 1, none⟩ = some (.bool pu) := cellr ((hb3.block _ hlT).trans (unhide HT2)) rfl
    have d2 : w3.cell? ⟨w.heap.size, 2, none⟩ = some (.bool of9) := cellr ((hb3.block _ hlT).trans (unhide HT2)) rfl
    have d3 : w3.cell? ⟨w.heap.size, 3, none⟩ = some (S ha) := cellr ((hb3.block _ hlT).trans (unhide HT2)) rfl
    have d4 : w3.cell? ⟨w.heap.size, 4, none⟩ = some (S ol) := cellr ((hb3.block _ hlT).trans (unhide HT2)) rfl
    have d5 : w3.cell? ⟨w.heap.size, 5, none⟩ = some (I un) := cellr ((hb3.block _ hlT).trans (unhide HT2)) rfl
    have d6 : w3.cell? ⟨w.heap.size, 6, none⟩ = some (.slice va sc.length vc) := cellr ((hb3.block _ hlT).trans (unhide HT2)) rfl
    have d7 : w3.cell? ⟨w.heap.size, 7, none⟩ = some (I idl) := cellr ((hb3.block _ hlT).trans (unhide HT2)) rfl
    have d8 : w3.cell? ⟨w.heap.size, 8, none⟩ = some (I ab) := cellr ((hb3.block _ hlT).trans (unhide HT2)) rfl
    have d9 : w3.cell? ⟨w.heap.size, 9, none⟩ = some (I gr) := cellr ((hb3.block _ hlT).trans (unhide HT2)) rfl
    have d10 : w3.cell? ⟨w.heap.size, 10, none⟩ = some (I li) := cellr ((hb3.block _ hlT).trans (unhide HT2)) rfl
    have eL1 : w3.cell? ⟨w2.heap.size + 1, 0, none⟩ = some (S [99]) := cellr hL1 rfl
    have hsc3 : Sts w3 va sc.length sc := Sts.bel hsc ((unhide HB2).trans (hb3.mono (unhide HB2).size))
    obtain ⟨b0, b3, b4, b5, hrg, b7, b8, b9, b10⟩ := cliB (unhide HOK)
    have btx := (right_small hrg).2
    have HPr := hide (pair_any (some ⟨c 0, 0, none⟩) (some ⟨c 1, 0, none⟩) 2 9 (fun i => (#[(vW ⟨w2.heap.size + 1, 0, none⟩ 1), (vR ⟨w.heap.size, 0, none⟩ 0)] : Array Value).getD i undef) (fun i => (#[(.iface 144 (.agg #[(.slice (some ⟨c 2, 0, none⟩) 2 2), (I 1), (FN 94), (FN 110)])), (vT ⟨w.heap.size, 3, none⟩ 32), (vT ⟨w.heap.size, 4, none⟩ 32), (vI ⟨w.heap.size, 5, none⟩ 6), (vN ⟨w.heap.size, 6, none⟩ 60), (vI ⟨w.heap.size, 7, none⟩ 6), (vI ⟨w.heap.size, 8, none⟩ 6), (vI ⟨w.heap.size, 9, none⟩ 6), (vI ⟨w.heap.size, 10, none⟩ 6)] : Array Value).getD i undef) (lx (cliKl na pu of9 ha ol un sc idl ab gr li)) (lx (cliVl na pu of9 ha ol un sc idl ab gr li)) w3 (by decide) (by decide)
      (fun _ => ⟨c 0, 0, rfl, fun i hi => by rw [Nat.zero_add]; unfold World.cell?; rw [hc0]; match i, hi with | 0, _ => rfl | 1, _ => rfl | (k + 2), h => exact absurd h (by omega)⟩)
      (fun _ => ⟨c 1, 0, rfl, fun i hi => by rw [Nat.zero_add]; unfold World.cell?; rw [hc1]; match i, hi with | 0, _ => rfl | 1, _ => rfl | 2, _ => rfl | 3, _ => rfl | 4, _ => rfl | 5, _ => rfl | 6, _ => rfl | 7, _ => rfl | 8, _ => rfl | (k + 9), h => exact absurd h (by omega)⟩)
      (fun W hW i hi => by match i, hi with
      | 0, _ => exact Pf.W _ 1 _ (cell_below eL1 hW (cell_lt eL1))
      | 1, _ => exact Pf.R _ 0 _ (cell_below d0 hW (cell_lt d0))
      | (k + 2), h => exact absurd h (by omega))
      (fun W hW i hi => by match i, hi with
      | 0, _ => exact Pf.B (c 2) [⟨w.heap.size, 1, none⟩, ⟨w.heap.size, 2, none⟩] [pu, of9] rfl (by simp) (fun q hq => by match q, hq with | 0, _ => exact cell_below (show w3.cell? ⟨c 2, 0, none⟩ = _ from cellr hc2 rfl) hW (by have := lt_of_row hc2; exact this) | 1, _ => exact cell_below (show w3.cell? ⟨c 2, 1, none⟩ = _ from cellr hc2 rfl) hW (by have := lt_of_row hc2; exact this) | (k + 2), h => exact absurd h (by simp)) (fun q hq => by match q, hq with | 0, _ => exact cell_below d1 hW (cell_lt d1) | 1, _ => exact cell_below d2 hW (cell_lt d2) | (k + 2), h => exact absurd h (by simp))
      | 1, _ => exact Pf.T _ 32 _ (cell_below d3 hW (cell_lt d3)) (by decide) b3
      | 2, _ => exact Pf.T _ 32 _ (cell_below d4 hW (cell_lt d4)) (by decide) b4
      | 3, _ => exact Pf.I _ 6 _ (cell_below d5 hW (cell_lt d5)) (by decide) (by decide) b5.1 (by show _ < (281474976710656 : Int); exact b5.2.1) b5.2.2
      | 4, _ => exact Pf.N _ 60 va vc sc (cell_below d6 hW (cell_lt d6)) (hsc3.below hW) hrg (by decide) (by decide)
      | 5, _ => exact Pf.I _ 6 _ (cell_below d7 hW (cell_lt d7)) (by decide) (by decide) b7.1 (by show _ < (281474976710656 : Int); exact b7.2.1) b7.2.2
      | 6, _ => exact Pf.I _ 6 _ (cell_below d8 hW (cell_lt d8)) (by decide) (by decide) b8.1 (by show _ < (281474976710656 : Int); exact b8.2.1) b8.2.2
      | 7, _ => exact Pf.I _ 6 _ (cell_below d9 hW (cell_lt d9)) (by decide) (by decide) b9.1 (by show _ < (281474976710656 : Int); exact b9.2.1) b9.2.2
      | 8, _ => exact Pf.I _ 6 _ (cell_below d10 hW (cell_lt d10)) (by decide) (by decide) b10.1 (by show _ < (281474976710656 : Int); exact b10.2.1) b10.2.2
      | (k + 9), h => exact absurd h (by omega))
      (by simp [cat, lx, cliKl] <;> omega) (by simp [cat, lx, cliVl, be_len] <;> omega))
    have HB3 := hide ((unhide HB2).trans (hb3.mono (unhide HB2).size))
    have HR3 := hide ((hb3.block _ hlR).trans (unhide HR2))
    clear d0 d1 d2 d3 d4 d5 d6 d7 d8 d9 d10 eL1 hL1 hk0 hc0 hk2 hc2 hk1 hc1 hb3 HLy HT2 HR2 HB2 HOK hok
    generalize cat (lx (cliKl na pu of9 ha ol un sc idl ab gr li)) 2 = kk at *
    generalize cat (lx (cliVl na pu of9 ha ol un sc idl ab gr li)) 9 = vv at *
    go_wp2_with fail
    refine (unhide HPr).mono ?_
    rintro e w4 ⟨rfl, hw4⟩
    have HB4 := hide ((unhide HB3).trans (hw4.mono (unhide HB3).size))
    have HR4 := hide ((hw4.block _ (lt_of_row (unhide HR3))).trans (unhide HR3))
    clear hw4 HPr HB3 HR3
    go_wp2_with (refine wp_st30 rfl (.tmp 6) (.tmp 15) rfl (w.heap.size + 1) (by rfl) kk vv (by rfl) #[S [], S []] rfl (unhide HR4) ?_)
    refine out2c (T := 87) (n := 2) (p := 6) (q := 7) (cs := #[S kk, S vv]) (fun _ => by kernel_rfl) (fun _ => by kernel_rfl) (Z := w.heap.size + 1) (by rfl) (by rfl) (by rfl) (by rfl) (setRow_row (unhide HR4)) (by rfl) ?_
    rw [unhide HP]
    exact ⟨rfl, (setRow_Only w4 (w.heap.size + 1) #[S kk, S vv]).below (unhide HB4) (unhide HB4).size (fun k e => by omega)⟩
end Go.Proofs.YtmjaobddgaglhaaGreatDoor
namespace Go.Proofs.YtmjaobddgaglhaaGreatDoor
open Go.RowKit
set_option maxHeartbeats 4000000
set_option maxRecDepth 8000
theorem Print12 (na : Bs) (pu : Bool) (of9 : Bool) (ha : Bs) (ol : Bs) (un : Int) (va : Option Addr) (vc : Nat) (sc : List Bs) (idl : Int) (ab : Int) (gr : Int) (li : Int) (w : World) (h_na : na.length ≤ 9223372036854775807) (hsc : Sts w va sc.length sc) (hsl : sc.length ≤ 140737488355000) (hln : Lns sc) : Calls Tryz.prog 70 #[.agg #[S na, .bool pu, .bool of9, S ha, S ol, I un, .slice va sc.length vc, I idl, I ab, I gr, I li]] w fun e w' => e = .returned (.tuple #[.agg #[S (cliP na pu of9 ha ol un sc idl ab gr li).1.1, S (cliP na pu of9 ha ol un sc idl ab gr li).1.2], I (cliP na pu of9 ha ol un sc idl ab gr li).2]) ∧ Below w.heap.size w w' := by
  have hb0 : Below w.heap.size w ((w.alloc (.cells #[S na, .bool pu, .bool of9, S ha, S ol, I un, .slice va sc.length vc, I idl, I ab, I gr, I li] 48)).alloc (.cells #[S [], S []] 87)) := ((Below.refl _ w).alloc (Nat.le_refl _) _).alloc (by simp) _
  have hT : ((w.alloc (.cells #[S na, .bool pu, .bool of9, S ha, S ol, I un, .slice va sc.length vc, I idl, I ab, I gr, I li] 48)).alloc (.cells #[S [], S []] 87)).heap[w.heap.size]? = some (.cells #[S na, .bool pu, .bool of9, S ha, S ol, I un, .slice va sc.length vc, I idl, I ab, I gr, I li] 48 (0, 0)) := by
    rw [heap_alloc_old _ _ (by simp)]; exact heap_alloc_new _ _
  have hR : ((w.alloc (.cells #[S na, .bool pu, .bool of9, S ha, S ol, I un, .slice va sc.length vc, I idl, I ab, I gr, I li] 48)).alloc (.cells #[S [], S []] 87)).heap[w.heap.size + 1]? = some (.cells #[S [], S []] 87 (0, 0)) := by
    have e := heap_alloc_new (w.alloc (.cells #[S na, .bool pu, .bool of9, S ha, S ol, I un, .slice va sc.length vc, I idl, I ab, I gr, I li] 48)) (.cells #[S [], S []] 87)
    simpa using e
  have HPr := hide (pr58 na pu of9 ha ol un va vc sc idl ab gr li ((w.alloc (.cells #[S na, .bool pu, .bool of9, S ha, S ol, I un, .slice va sc.length vc, I idl, I ab, I gr, I li] 48)).alloc (.cells #[S [], S []] 87)) h_na (Sts.bel hsc hb0) hsl hln)
  have c0 : ((w.alloc (.cells #[S na, .bool pu, .bool of9, S ha, S ol, I un, .slice va sc.length vc, I idl, I ab, I gr, I li] 48)).alloc (.cells #[S [], S []] 87)).cell? ⟨w.heap.size, 0, none⟩ = some (S na) := cellr hT rfl
  have c1 : ((w.alloc (.cells #[S na, .bool pu, .bool of9, S ha, S ol, I un, .slice va sc.length vc, I idl, I ab, I gr, I li] 48)).alloc (.cells #[S [], S []] 87)).cell? ⟨w.heap.size, 1, none⟩ = some (.bool pu) := cellr hT rfl
  have c2 : ((w.alloc (.cells #[S na, .bool pu, .bool of9, S ha, S ol, I un, .slice va sc.length vc, I idl, I ab, I gr, I li] 48)).alloc (.cells #[S [], S []] 87)).cell? ⟨w.heap.size, 2, none⟩ = some (.bool of9) := cellr hT rfl
  have c3 : ((w.alloc (.cells #[S na, .bool pu, .bool of9, S ha, S ol, I un, .slice va sc.length vc, I idl, I ab, I gr, I li] 48)).alloc (.cells #[S [], S []] 87)).cell? ⟨w.heap.size, 3, none⟩ = some (S ha) := cellr hT rfl
  have c4 : ((w.alloc (.cells #[S na, .bool pu, .bool of9, S ha, S ol, I un, .slice va sc.length vc, I idl, I ab, I gr, I li] 48)).alloc (.cells #[S [], S []] 87)).cell? ⟨w.heap.size, 4, none⟩ = some (S ol) := cellr hT rfl
  have c5 : ((w.alloc (.cells #[S na, .bool pu, .bool of9, S ha, S ol, I un, .slice va sc.length vc, I idl, I ab, I gr, I li] 48)).alloc (.cells #[S [], S []] 87)).cell? ⟨w.heap.size, 5, none⟩ = some (I un) := cellr hT rfl
  have c6 : ((w.alloc (.cells #[S na, .bool pu, .bool of9, S ha, S ol, I un, .slice va sc.length vc, I idl, I ab, I gr, I li] 48)).alloc (.cells #[S [], S []] 87)).cell? ⟨w.heap.size, 6, none⟩ = some (.slice va sc.length vc) := cellr hT rfl
  have c7 : ((w.alloc (.cells #[S na, .bool pu, .bool of9, S ha, S ol, I un, .slice va sc.length vc, I idl, I ab, I gr, I li] 48)).alloc (.cells #[S [], S []] 87)).cell? ⟨w.heap.size, 7, none⟩ = some (I idl) := cellr hT rfl
  have c8 : ((w.alloc (.cells #[S na, .bool pu, .bool of9, S ha, S ol, I un, .slice va sc.length vc, I idl, I ab, I gr, I li] 48)).alloc (.cells #[S [], S []] 87)).cell? ⟨w.heap.size, 8, none⟩ = some (I ab) := cellr hT rfl
  have c9 : ((w.alloc (.cells #[S na, .bool pu, .bool of9, S ha, S ol, I un, .slice va sc.length vc, I idl, I ab, I gr, I li] 48)).alloc (.cells #[S [], S []] 87)).cell? ⟨w.heap.size, 9, none⟩ = some (I gr) := cellr hT rfl
  have c10 : ((w.alloc (.cells #[S na, .bool pu, .bool of9, S ha, S ol, I un, .slice va sc.length vc, I idl, I ab, I gr, I li] 48)).alloc (.cells #[S [], S []] 87)).cell? ⟨w.heap.size, 10, none⟩ = some (I li) := cellr hT rfl
  generalize hW1 : ((w.alloc (.cells #[S na, .bool pu, .bool of9, S ha, S ol, I un, .slice va sc.length vc, I idl, I ab, I gr, I li] 48)).alloc (.cells #[S [], S []] 87)) = W1 at *
  have HR := hide hR
  have HB := hide hb0
  clear hT hR hb0 hsc hsl hln
  generalize cliP na pu of9 ha ol un sc idl ab gr li = Q at *
  obtain ⟨⟨q1, q2⟩, q3⟩ := Q
  go_enter Tryz.func70, Tryz.ntmps70
  go_wp2_with fail
  refine (unhide HPr).mono ?_
  rintro e w2 ⟨rfl, hw2⟩
  have HB2 := hide ((unhide HB).trans (hw2.mono (unhide HB).size))
  have HR2 := hide ((hw2.block _ (lt_of_row (unhide HR))).trans (unhide HR))
  clear hw2 HPr HB HR c0 c1 c2 c3 c4 c5 c6 c7 c8 c9 c10 hW1
  go_wp2_with (refine wp_st30 rfl (.tmp 2) (.tmp 6) rfl (w.heap.size + 1) (by rfl) q1 q2 (by rfl) #[S [], S []] rfl (unhide HR2) ?_)
  refine out2c (T := 87) (n := 2) (p := 2) (q := 3) (cs := #[S q1, S q2]) (fun _ => by kernel_rfl) (fun _ => by kernel_rfl) (Z := w.heap.size + 1) (by rfl) (by rfl) (by rfl) (by rfl) (setRow_row (unhide HR2)) (by rfl) ?_
  exact ⟨rfl, (setRow_Only w2 (w.heap.size + 1) #[S q1, S q2]).below (unhide HB2) (unhide HB2).size (fun k e => by omega)⟩
end Go.Proofs.YtmjaobddgaglhaaGreatDoor
