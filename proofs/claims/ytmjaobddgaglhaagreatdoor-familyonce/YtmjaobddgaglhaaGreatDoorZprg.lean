import Derived.Test.YtmjaobddgaglhaaGreatDoorLyf
import Derived.Test.YtmjaobddgaglhaaGreatDoorZrgpr
namespace Go.Proofs.YtmjaobddgaglhaaGreatDoor
open Go.RowKit
set_option maxHeartbeats 4000000
set_option maxRecDepth 8000
def famKl (id : Int) (_cl : Bs) (_su : Bs) (_sc : List Bs) (_cr : Int) (_us : Int) (_idl : Int) (_ab : Int) (_gr : Int) (_ge : Int) (_to : Int) (_st : Int) (_en : Int) (_co : Int) : List Bs := [[102], be 8 id.toNat]
def famVl (_id : Int) (cl : Bs) (su : Bs) (sc : List Bs) (cr : Int) (us : Int) (idl : Int) (ab : Int) (gr : Int) (ge : Int) (to : Int) (st : Int) (en : Int) (co : Int) : List Bs := [be 1 cl.length ++ cl, be 1 su.length ++ su, be 1 (tx sc).length ++ tx sc, be 6 cr.toNat, be 6 us.toNat, be 6 idl.toNat, be 6 ab.toNat, be 6 gr.toNat, be 4 ge.toNat, be 8 to.toNat, be 1 st.toNat, be 6 en.toNat, be 8 co.toNat]
def famP (id : Int) (cl : Bs) (su : Bs) (sc : List Bs) (cr : Int) (us : Int) (idl : Int) (ab : Int) (gr : Int) (ge : Int) (to : Int) (st : Int) (en : Int) (co : Int) : (Bs × Bs) × Nat := if famOK id cl su sc cr us idl ab gr ge to st en co then ((cat (lx (famKl id cl su sc cr us idl ab gr ge to st en co)) 2, cat (lx (famVl id cl su sc cr us idl ab gr ge to st en co)) 13), 0) else (([], []), 140)
theorem famB {id : Int} {cl : Bs} {su : Bs} {sc : List Bs} {cr : Int} {us : Int} {idl : Int} {ab : Int} {gr : Int} {ge : Int} {to : Int} {st : Int} {en : Int} {co : Int} (h : famOK id cl su sc cr us idl ab gr ge to st en co = true) : (0 ≤ id ∧ id < 18446744073709551616 ∧ id ≤ 9223372036854775807) ∧ cl.length ≤ 16 ∧ su.length ≤ 16 ∧ right sc = true ∧ (0 ≤ cr ∧ cr < 281474976710656 ∧ cr ≤ 9223372036854775807) ∧ (0 ≤ us ∧ us < 281474976710656 ∧ us ≤ 9223372036854775807) ∧ (0 ≤ idl ∧ idl < 281474976710656 ∧ idl ≤ 9223372036854775807) ∧ (0 ≤ ab ∧ ab < 281474976710656 ∧ ab ≤ 9223372036854775807) ∧ (0 ≤ gr ∧ gr < 281474976710656 ∧ gr ≤ 9223372036854775807) ∧ (0 ≤ ge ∧ ge < 4294967296 ∧ ge ≤ 9223372036854775807) ∧ (0 ≤ to ∧ to < 18446744073709551616 ∧ to ≤ 9223372036854775807) ∧ (0 ≤ st ∧ st < 256 ∧ st ≤ 9223372036854775807) ∧ (0 ≤ en ∧ en < 281474976710656 ∧ en ≤ 9223372036854775807) ∧ (0 ≤ co ∧ co < 18446744073709551616 ∧ co ≤ 9223372036854775807) := by
  simp only [famOK, tim, spn, idn, gnr, beq_iff_eq, Bool.or_eq_true, Bool.and_eq_true, decide_eq_true_eq] at h
  obtain ⟨h1, h2, h3, h4, h5, h6, h7, h8, h9, h10, h11, h12, h13, h14⟩ := h
  have q1 := right_one h4
  have q2 := right_one h5
  have hq : (1 ≤ st ∧ st ≤ 4) ∧ (0 ≤ en ∧ en ≤ 1099511627776) := by
    unfold staOK at h14
    split at h14
    · rename_i q; simp at q h14; omega
    · split at h14
      · rename_i q; simp [tim] at q h14; omega
      · cases h14
  refine ⟨by omega, by omega, by omega, h6, ?_⟩
  omega
theorem pr72 (id : Int) (cl : Bs) (su : Bs) (va : Option Addr) (vc : Nat) (sc : List Bs) (cr : Int) (us : Int) (idl : Int) (ab : Int) (gr : Int) (ge : Int) (to : Int) (st : Int) (en : Int) (co : Int) (w : World) (h_cl : cl.length ≤ 9223372036854775807) (h_su : su.length ≤ 9223372036854775807) (hsc : Sts w va sc.length sc) (hsl : sc.length ≤ 140737488355000) (hln : Lns sc) : Calls Tryz.prog 75 #[.agg #[I id, S cl, S su, .slice va sc.length vc, I cr, I us, I idl, I ab, I gr, I ge, I to, I st, I en, I co], FN 76, FN 77] w fun e w' => e = .returned (.tuple #[.agg #[S (famP id cl su sc cr us idl ab gr ge to st en co).1.1, S (famP id cl su sc cr us idl ab gr ge to st en co).1.2], I (famP id cl su sc cr us idl ab gr ge to st en co).2]) ∧ Below w.heap.size w w' := by
  have hb0 : Below w.heap.size w ((w.alloc (.cells #[I id, S cl, S su, .slice va sc.length vc, I cr, I us, I idl, I ab, I gr, I ge, I to, I st, I en, I co] 24)).alloc (.cells #[S [], S []] 87)) := ((Below.refl _ w).alloc (Nat.le_refl _) _).alloc (by simp) _
  have hT : ((w.alloc (.cells #[I id, S cl, S su, .slice va sc.length vc, I cr, I us, I idl, I ab, I gr, I ge, I to, I st, I en, I co] 24)).alloc (.cells #[S [], S []] 87)).heap[w.heap.size]? = some (.cells #[I id, S cl, S su, .slice va sc.length vc, I cr, I us, I idl, I ab, I gr, I ge, I to, I st, I en, I co] 24 (0, 0)) := by
    rw [heap_alloc_old _ _ (by simp)]; exact heap_alloc_new _ _
  have hR : ((w.alloc (.cells #[I id, S cl, S su, .slice va sc.length vc, I cr, I us, I idl, I ab, I gr, I ge, I to, I st, I en, I co] 24)).alloc (.cells #[S [], S []] 87)).heap[w.heap.size + 1]? = some (.cells #[S [], S []] 87 (0, 0)) := by
    have e := heap_alloc_new (w.alloc (.cells #[I id, S cl, S su, .slice va sc.length vc, I cr, I us, I idl, I ab, I gr, I ge, I to, I st, I en, I co] 24)) (.cells #[S [], S []] 87)
    simpa using e
  have HRt := hide (rightFamily_any id cl su va vc sc cr us idl ab gr ge to st en co ((w.alloc (.cells #[I id, S cl, S su, .slice va sc.length vc, I cr, I us, I idl, I ab, I gr, I ge, I to, I st, I en, I co] 24)).alloc (.cells #[S [], S []] 87)) h_cl h_su (Sts.bel hsc hb0) hsl hln)
  have c0 : ((w.alloc (.cells #[I id, S cl, S su, .slice va sc.length vc, I cr, I us, I idl, I ab, I gr, I ge, I to, I st, I en, I co] 24)).alloc (.cells #[S [], S []] 87)).cell? ⟨w.heap.size, 0, none⟩ = some (I id) := cellr hT rfl
  have c1 : ((w.alloc (.cells #[I id, S cl, S su, .slice va sc.length vc, I cr, I us, I idl, I ab, I gr, I ge, I to, I st, I en, I co] 24)).alloc (.cells #[S [], S []] 87)).cell? ⟨w.heap.size, 1, none⟩ = some (S cl) := cellr hT rfl
  have c2 : ((w.alloc (.cells #[I id, S cl, S su, .slice va sc.length vc, I cr, I us, I idl, I ab, I gr, I ge, I to, I st, I en, I co] 24)).alloc (.cells #[S [], S []] 87)).cell? ⟨w.heap.size, 2, none⟩ = some (S su) := cellr hT rfl
  have c3 : ((w.alloc (.cells #[I id, S cl, S su, .slice va sc.length vc, I cr, I us, I idl, I ab, I gr, I ge, I to, I st, I en, I co] 24)).alloc (.cells #[S [], S []] 87)).cell? ⟨w.heap.size, 3, none⟩ = some (.slice va sc.length vc) := cellr hT rfl
  have c4 : ((w.alloc (.cells #[I id, S cl, S su, .slice va sc.length vc, I cr, I us, I idl, I ab, I gr, I ge, I to, I st, I en, I co] 24)).alloc (.cells #[S [], S []] 87)).cell? ⟨w.heap.size, 4, none⟩ = some (I cr) := cellr hT rfl
  have c5 : ((w.alloc (.cells #[I id, S cl, S su, .slice va sc.length vc, I cr, I us, I idl, I ab, I gr, I ge, I to, I st, I en, I co] 24)).alloc (.cells #[S [], S []] 87)).cell? ⟨w.heap.size, 5, none⟩ = some (I us) := cellr hT rfl
  have c6 : ((w.alloc (.cells #[I id, S cl, S su, .slice va sc.length vc, I cr, I us, I idl, I ab, I gr, I ge, I to, I st, I en, I co] 24)).alloc (.cells #[S [], S []] 87)).cell? ⟨w.heap.size, 6, none⟩ = some (I idl) := cellr hT rfl
  have c7 : ((w.alloc (.cells #[I id, S cl, S su, .slice va sc.length vc, I cr, I us, I idl, I ab, I gr, I ge, I to, I st, I en, I co] 24)).alloc (.cells #[S [], S []] 87)).cell? ⟨w.heap.size, 7, none⟩ = some (I ab) := cellr hT rfl
  have c8 : ((w.alloc (.cells #[I id, S cl, S su, .slice va sc.length vc, I cr, I us, I idl, I ab, I gr, I ge, I to, I st, I en, I co] 24)).alloc (.cells #[S [], S []] 87)).cell? ⟨w.heap.size, 8, none⟩ = some (I gr) := cellr hT rfl
  have c9 : ((w.alloc (.cells #[I id, S cl, S su, .slice va sc.length vc, I cr, I us, I idl, I ab, I gr, I ge, I to, I st, I en, I co] 24)).alloc (.cells #[S [], S []] 87)).cell? ⟨w.heap.size, 9, none⟩ = some (I ge) := cellr hT rfl
  have c10 : ((w.alloc (.cells #[I id, S cl, S su, .slice va sc.length vc, I cr, I us, I idl, I ab, I gr, I ge, I to, I st, I en, I co] 24)).alloc (.cells #[S [], S []] 87)).cell? ⟨w.heap.size, 10, none⟩ = some (I to) := cellr hT rfl
  have c11 : ((w.alloc (.cells #[I id, S cl, S su, .slice va sc.length vc, I cr, I us, I idl, I ab, I gr, I ge, I to, I st, I en, I co] 24)).alloc (.cells #[S [], S []] 87)).cell? ⟨w.heap.size, 11, none⟩ = some (I st) := cellr hT rfl
  have c12 : ((w.alloc (.cells #[I id, S cl, S su, .slice va sc.length vc, I cr, I us, I idl, I ab, I gr, I ge, I to, I st, I en, I co] 24)).alloc (.cells #[S [], S []] 87)).cell? ⟨w.heap.size, 12, none⟩ = some (I en) := cellr hT rfl
  have c13 : ((w.alloc (.cells #[I id, S cl, S su, .slice va sc.length vc, I cr, I us, I idl, I ab, I gr, I ge, I to, I st, I en, I co] 24)).alloc (.cells #[S [], S []] 87)).cell? ⟨w.heap.size, 13, none⟩ = some (I co) := cellr hT rfl
  generalize hW1 : ((w.alloc (.cells #[I id, S cl, S su, .slice va sc.length vc, I cr, I us, I idl, I ab, I gr, I ge, I to, I st, I en, I co] 24)).alloc (.cells #[S [], S []] 87)) = W1 at *
  have HT := hide hT
  have HR := hide hR
  have HB := hide hb0
  clear hT hR hb0
  go_enter Tryz.func75, Tryz.ntmps75
  go_wp2_with fail
  refine (unhide HRt).mono ?_
  rintro e w2 ⟨rfl, hw2⟩
  have HB2 := hide ((unhide HB).trans (hw2.mono (unhide HB).size))
  have hT2 := (hw2.block _ (lt_of_row (unhide HT))).trans (unhide HT)
  have hR2 := (hw2.block _ (lt_of_row (unhide HR))).trans (unhide HR)
  have HT2 := hide hT2
  have HR2 := hide hR2
  clear hw2 hT2 hR2 HRt HB HT HR c0 c1 c2 c3 c4 c5 c6 c7 c8 c9 c10 c11 c12 c13 hW1
  cases hok : famOK id cl su sc cr us idl ab gr ge to st en co
  · have HP : Hid (famP id cl su sc cr us idl ab gr ge to st en co = (([], []), 140)) := hide (by simp [famP, hok])
    go_wp2_with (refine wp_st30 rfl (.tmp 6) (.tmp 12) rfl (w.heap.size + 1) (by rfl) [] [] (by rfl) #[S [], S []] rfl (unhide HR2) ?_)
    refine out2c (T := 87) (n := 2) (p := 6) (q := 7) (cs := #[S [], S []]) (fun _ => by kernel_rfl) (fun _ => by kernel_rfl) (Z := w.heap.size + 1) (by rfl) (by rfl) (by rfl) (by rfl) (setRow_row (unhide HR2)) (by rfl) ?_
    rw [unhide HP]
    exact ⟨rfl, (setRow_Only w2 (w.heap.size + 1) #[S [], S []]).below (unhide HB2) (unhide HB2).size (fun k e => by omega)⟩
  · have HP : Hid (famP id cl su sc cr us idl ab gr ge to st en co = ((cat (lx (famKl id cl su sc cr us idl ab gr ge to st en co)) 2, cat (lx (famVl id cl su sc cr us idl ab gr ge to st en co)) 13), 0)) := hide (by simp [famP, hok])
    have HLy := hide (lay74 w.heap.size w2)
    have hlT : w.heap.size < w2.heap.size := lt_of_row (unhide HT2)
    have hlR : w.heap.size + 1 < w2.heap.size := lt_of_row (unhide HR2)
    have HOK := hide hok
    go_wp2_with fail
    refine (unhide HLy).mono ?_
    rintro e w3 ⟨c, rfl, hb3, hL1, ⟨hk0, hc0⟩, ⟨hk1, hc1⟩⟩
    have d0 : w3.cell? ⟨w.heap.size, 0, none⟩ = some (I id) := cellr ((hb3.block _ hlT).trans (unhide HT2)) rfl
    have d1 : w3.cell? ⟨w.heap.size, 1, none⟩ = some (S cl) := cellr ((hb3.block _ hlT).trans (unhide HT2)) rfl
    have d2 : w3.cell? ⟨w.heap.size, 2, none⟩ = some (S su) := cellr ((hb3.block _ hlT).trans (unhide HT2)) rfl
    have d3 : w3.cell? ⟨w.heap.size, 3, none⟩ = some (.slice va sc.length vc) := cellr ((hb3.block _ hlT).trans (unhide HT2)) rfl
    have d4 : w3.cell? ⟨w.heap.size, 4, none⟩ = some (I cr) := cellr ((hb3.block _ hlT).trans (unhide HT2)) rfl
    have d5 : w3.cell? ⟨w.heap.size, 5, none⟩ = some (I us) := cellr ((hb3.block _ hlT).trans (unhide HT2)) rfl
    have d6 : w3.cell? ⟨w.heap.size, 6, none⟩ = some (I idl) := cellr ((hb3.block _ hlT).trans (unhide HT2)) rfl
    have d7 : w3.cell? ⟨w.heap.size, 7, none⟩ = some (I ab) := cellr ((hb3.block _ hlT).trans (unhide HT2)) rfl
    have d8 : w3.cell? ⟨w.heap.size, 8, none⟩ = some (I gr) := cellr ((hb3.block _ hlT).trans (unhide HT2)) rfl
    have d9 : w3.cell? ⟨w.heap.size, 9, none⟩ = some (I ge) := cellr ((hb3.block _ hlT).trans (unhide HT2)) rfl
    have d10 : w3.cell? ⟨w.heap.size, 10, none⟩ = some (I to) := cellr ((hb3.block _ hlT).trans (unhide HT2)) rfl
    have d11 : w3.cell? ⟨w.heap.size, 11, none⟩ = some (I st) := cellr ((hb3.block _ hlT).trans (unhide HT2)) rfl
    have d12 : w3.cell? ⟨w.heap.size, 12, none⟩ = some (I en) := cellr ((hb3.block _ hlT).trans (unhide HT2)) rfl
    have d13 : w3.cell? ⟨w.heap.size, 13, none⟩ = some (I co) := cellr ((hb3.block _ hlT).trans (unhide HT2)) rfl
    have eL1 : w3.cell? ⟨w2.heap.size + 1, 0, none⟩ = some (S [102]) := cellr hL1 rfl
    have hsc3 : Sts w3 va sc.length sc := Sts.bel hsc ((unhide HB2).trans (hb3.mono (unhide HB2).size))
    obtain ⟨b0, b1, b2, hrg, b4, b5, b6, b7, b8, b9, b10, b11, b12, b13⟩ := famB (unhide HOK)
    have btx := (right_small hrg).2
    have HPr := hide (pair_any (some ⟨c 0, 0, none⟩) (some ⟨c 1, 0, none⟩) 2 13 (fun i => (#[(vW ⟨w2.heap.size + 1, 0, none⟩ 1), (vI ⟨w.heap.size, 0, none⟩ 8)] : Array Value).getD i undef) (fun i => (#[(vT ⟨w.heap.size, 1, none⟩ 16), (vT ⟨w.heap.size, 2, none⟩ 16), (vN ⟨w.heap.size, 3, none⟩ 60), (vI ⟨w.heap.size, 4, none⟩ 6), (vI ⟨w.heap.size, 5, none⟩ 6), (vI ⟨w.heap.size, 6, none⟩ 6), (vI ⟨w.heap.size, 7, none⟩ 6), (vI ⟨w.heap.size, 8, none⟩ 6), (vI ⟨w.heap.size, 9, none⟩ 4), (vI ⟨w.heap.size, 10, none⟩ 8), (vI ⟨w.heap.size, 11, none⟩ 1), (vI ⟨w.heap.size, 12, none⟩ 6), (vI ⟨w.heap.size, 13, none⟩ 8)] : Array Value).getD i undef) (lx (famKl id cl su sc cr us idl ab gr ge to st en co)) (lx (famVl id cl su sc cr us idl ab gr ge to st en co)) w3 (by decide) (by decide)
      (fun _ => ⟨c 0, 0, rfl, fun i hi => by rw [Nat.zero_add]; unfold World.cell?; rw [hc0]; match i, hi with | 0, _ => rfl | 1, _ => rfl | (k + 2), h => exact absurd h (by omega)⟩)
      (fun _ => ⟨c 1, 0, rfl, fun i hi => by rw [Nat.zero_add]; unfold World.cell?; rw [hc1]; match i, hi with | 0, _ => rfl | 1, _ => rfl | 2, _ => rfl | 3, _ => rfl | 4, _ => rfl | 5, _ => rfl | 6, _ => rfl | 7, _ => rfl | 8, _ => rfl | 9, _ => rfl | 10, _ => rfl | 11, _ => rfl | 12, _ => rfl | (k + 13), h => exact absurd h (by omega)⟩)
      (fun W hW i hi => by match i, hi with
      | 0, _ => exact Pf.W _ 1 _ (cell_below eL1 hW (cell_lt eL1))
      | 1, _ => exact Pf.I _ 8 _ (cell_below d0 hW (cell_lt d0)) (by decide) (by decide) b0.1 (by show _ < (18446744073709551616 : Int); exact b0.2.1) b0.2.2
      | (k + 2), h => exact absurd h (by omega))
      (fun W hW i hi => by match i, hi with
      | 0, _ => exact Pf.T _ 16 _ (cell_below d1 hW (cell_lt d1)) (by decide) b1
      | 1, _ => exact Pf.T _ 16 _ (cell_below d2 hW (cell_lt d2)) (by decide) b2
      | 2, _ => exact Pf.N _ 60 va vc sc (cell_below d3 hW (cell_lt d3)) (hsc3.below hW) hrg (by decide) (by decide)
      | 3, _ => exact Pf.I _ 6 _ (cell_below d4 hW (cell_lt d4)) (by decide) (by decide) b4.1 (by show _ < (281474976710656 : Int); exact b4.2.1) b4.2.2
      | 4, _ => exact Pf.I _ 6 _ (cell_below d5 hW (cell_lt d5)) (by decide) (by decide) b5.1 (by show _ < (281474976710656 : Int); exact b5.2.1) b5.2.2
      | 5, _ => exact Pf.I _ 6 _ (cell_below d6 hW (cell_lt d6)) (by decide) (by decide) b6.1 (by show _ < (281474976710656 : Int); exact b6.2.1) b6.2.2
      | 6, _ => exact Pf.I _ 6 _ (cell_below d7 hW (cell_lt d7)) (by decide) (by decide) b7.1 (by show _ < (281474976710656 : Int); exact b7.2.1) b7.2.2
      | 7, _ => exact Pf.I _ 6 _ (cell_below d8 hW (cell_lt d8)) (by decide) (by decide) b8.1 (by show _ < (281474976710656 : Int); exact b8.2.1) b8.2.2
      | 8, _ => exact Pf.I _ 4 _ (cell_below d9 hW (cell_lt d9)) (by decide) (by decide) b9.1 (by show _ < (4294967296 : Int); exact b9.2.1) b9.2.2
      | 9, _ => exact Pf.I _ 8 _ (cell_below d10 hW (cell_lt d10)) (by decide) (by decide) b10.1 (by show _ < (18446744073709551616 : Int); exact b10.2.1) b10.2.2
      | 10, _ => exact Pf.I _ 1 _ (cell_below d11 hW (cell_lt d11)) (by decide) (by decide) b11.1 (by show _ < (256 : Int); exact b11.2.1) b11.2.2
      | 11, _ => exact Pf.I _ 6 _ (cell_below d12 hW (cell_lt d12)) (by decide) (by decide) b12.1 (by show _ < (281474976710656 : Int); exact b12.2.1) b12.2.2
      | 12, _ => exact Pf.I _ 8 _ (cell_below d13 hW (cell_lt d13)) (by decide) (by decide) b13.1 (by show _ < (18446744073709551616 : Int); exact b13.2.1) b13.2.2
      | (k + 13), h => exact absurd h (by omega))
      (by simp [cat, lx, famKl, be_len] <;> omega) (by simp [cat, lx, famVl, be_len] <;> omega))
    have HB3 := hide ((unhide HB2).trans (hb3.mono (unhide HB2).size))
    have HR3 := hide ((hb3.block _ hlR).trans (unhide HR2))
    clear d0 d1 d2 d3 d4 d5 d6 d7 d8 d9 d10 d11 d12 d13 eL1 hL1 hk0 hc0 hk1 hc1 hb3 HLy HT2 HR2 HB2 HOK hok
    generalize cat (lx (famKl id cl su sc cr us idl ab gr ge to st en co)) 2 = kk at *
    generalize cat (lx (famVl id cl su sc cr us idl ab gr ge to st en co)) 13 = vv at *
    go_wp2_with fail
    refine (unhide HPr).mono ?_
    rintro e w4 ⟨rfl, hw4⟩
    have HB4 := hide ((unhide HB3).trans (hw4.mono (unhide HB3).size))
    have HR4 := hide ((hw4.block _ (lt_of_row (unhide HR3))).trans (unhide HR3))
    clear hw4 HPr HB3 HR3
    go_wp2_with (refine wp_st30 rfl (.tmp 6) (.tmp 15) rfl (w.heap.size + 1) (by rfl) kk vv (by rfl) #[S [], S []] rfl (unhide HR4) ?_)
    refine out2c (T := 87) (n := 2) (p := 6) (q := 7) (cs := #[S kk, S vv]) (fun _ => by kernel_rfl) (fun _ => by kernel_rfl) (Z := w.heap.size + 1) (by rfl) (by rfl) (by rfl) (by rfl) (setRow_row (unhide HR4)) (by rfl) ?_
    rw [unhide HP]
    exact ⟨rfl, (setRow_Only w4 (w.heap.size + 1) #[S kk, S vv]).below (unhide HB4) (unhide HB4).size (fun k e => by omega)⟩
end Go.Proofs.YtmjaobddgaglhaaGreatDoor
namespace Go.Proofs.YtmjaobddgaglhaaGreatDoor
open Go.RowKit
set_option maxHeartbeats 4000000
set_option maxRecDepth 8000
theorem Print19 (id : Int) (cl : Bs) (su : Bs) (va : Option Addr) (vc : Nat) (sc : List Bs) (cr : Int) (us : Int) (idl : Int) (ab : Int) (gr : Int) (ge : Int) (to : Int) (st : Int) (en : Int) (co : Int) (w : World) (h_cl : cl.length ≤ 9223372036854775807) (h_su : su.length ≤ 9223372036854775807) (hsc : Sts w va sc.length sc) (hsl : sc.length ≤ 140737488355000) (hln : Lns sc) : Calls Tryz.prog 58 #[.agg #[I id, S cl, S su, .slice va sc.length vc, I cr, I us, I idl, I ab, I gr, I ge, I to, I st, I en, I co]] w fun e w' => e = .returned (.tuple #[.agg #[S (famP id cl su sc cr us idl ab gr ge to st en co).1.1, S (famP id cl su sc cr us idl ab gr ge to st en co).1.2], I (famP id cl su sc cr us idl ab gr ge to st en co).2]) ∧ Below w.heap.size w w' := by
  have hb0 : Below w.heap.size w ((w.alloc (.cells #[I id, S cl, S su, .slice va sc.length vc, I cr, I us, I idl, I ab, I gr, I ge, I to, I st, I en, I co] 24)).alloc (.cells #[S [], S []] 87)) := ((Below.refl _ w).alloc (Nat.le_refl _) _).alloc (by simp) _
  have hT : ((w.alloc (.cells #[I id, S cl, S su, .slice va sc.length vc, I cr, I us, I idl, I ab, I gr, I ge, I to, I st, I en, I co] 24)).alloc (.cells #[S [], S []] 87)).heap[w.heap.size]? = some (.cells #[I id, S cl, S su, .slice va sc.length vc, I cr, I us, I idl, I ab, I gr, I ge, I to, I st, I en, I co] 24 (0, 0)) := by
    rw [heap_alloc_old _ _ (by simp)]; exact heap_alloc_new _ _
  have hR : ((w.alloc (.cells #[I id, S cl, S su, .slice va sc.length vc, I cr, I us, I idl, I ab, I gr, I ge, I to, I st, I en, I co] 24)).alloc (.cells #[S [], S []] 87)).heap[w.heap.size + 1]? = some (.cells #[S [], S []] 87 (0, 0)) := by
    have e := heap_alloc_new (w.alloc (.cells #[I id, S cl, S su, .slice va sc.length vc, I cr, I us, I idl, I ab, I gr, I ge, I to, I st, I en, I co] 24)) (.cells #[S [], S []] 87)
    simpa using e
  have HPr := hide (pr72 id cl su va vc sc cr us idl ab gr ge to st en co ((w.alloc (.cells #[I id, S cl, S su, .slice va sc.length vc, I cr, I us, I idl, I ab, I gr, I ge, I to, I st, I en, I co] 24)).alloc (.cells #[S [], S []] 87)) h_cl h_su (Sts.bel hsc hb0) hsl hln)
  have c0 : ((w.alloc (.cells #[I id, S cl, S su, .slice va sc.length vc, I cr, I us, I idl, I ab, I gr, I ge, I to, I st, I en, I co] 24)).alloc (.cells #[S [], S []] 87)).cell? ⟨w.heap.size, 0, none⟩ = some (I id) := cellr hT rfl
  have c1 : ((w.alloc (.cells #[I id, S cl, S su, .slice va sc.length vc, I cr, I us, I idl, I ab, I gr, I ge, I to, I st, I en, I co] 24)).alloc (.cells #[S [], S []] 87)).cell? ⟨w.heap.size, 1, none⟩ = some (S cl) := cellr hT rfl
  have c2 : ((w.alloc (.cells #[I id, S cl, S su, .slice va sc.length vc, I cr, I us, I idl, I ab, I gr, I ge, I to, I st, I en, I co] 24)).alloc (.cells #[S [], S []] 87)).cell? ⟨w.heap.size, 2, none⟩ = some (S su) := cellr hT rfl
  have c3 : ((w.alloc (.cells #[I id, S cl, S su, .slice va sc.length vc, I cr, I us, I idl, I ab, I gr, I ge, I to, I st, I en, I co] 24)).alloc (.cells #[S [], S []] 87)).cell? ⟨w.heap.size, 3, none⟩ = some (.slice va sc.length vc) := cellr hT rfl
  have c4 : ((w.alloc (.cells #[I id, S cl, S su, .slice va sc.length vc, I cr, I us, I idl, I ab, I gr, I ge, I to, I st, I en, I co] 24)).alloc (.cells #[S [], S []] 87)).cell? ⟨w.heap.size, 4, none⟩ = some (I cr) := cellr hT rfl
  have c5 : ((w.alloc (.cells #[I id, S cl, S su, .slice va sc.length vc, I cr, I us, I idl, I ab, I gr, I ge, I to, I st, I en, I co] 24)).alloc (.cells #[S [], S []] 87)).cell? ⟨w.heap.size, 5, none⟩ = some (I us) := cellr hT rfl
  have c6 : ((w.alloc (.cells #[I id, S cl, S su, .slice va sc.length vc, I cr, I us, I idl, I ab, I gr, I ge, I to, I st, I en, I co] 24)).alloc (.cells #[S [], S []] 87)).cell? ⟨w.heap.size, 6, none⟩ = some (I idl) := cellr hT rfl
  have c7 : ((w.alloc (.cells #[I id, S cl, S su, .slice va sc.length vc, I cr, I us, I idl, I ab, I gr, I ge, I to, I st, I en, I co] 24)).alloc (.cells #[S [], S []] 87)).cell? ⟨w.heap.size, 7, none⟩ = some (I ab) := cellr hT rfl
  have c8 : ((w.alloc (.cells #[I id, S cl, S su, .slice va sc.length vc, I cr, I us, I idl, I ab, I gr, I ge, I to, I st, I en, I co] 24)).alloc (.cells #[S [], S []] 87)).cell? ⟨w.heap.size, 8, none⟩ = some (I gr) := cellr hT rfl
  have c9 : ((w.alloc (.cells #[I id, S cl, S su, .slice va sc.length vc, I cr, I us, I idl, I ab, I gr, I ge, I to, I st, I en, I co] 24)).alloc (.cells #[S [], S []] 87)).cell? ⟨w.heap.size, 9, none⟩ = some (I ge) := cellr hT rfl
  have c10 : ((w.alloc (.cells #[I id, S cl, S su, .slice va sc.length vc, I cr, I us, I idl, I ab, I gr, I ge, I to, I st, I en, I co] 24)).alloc (.cells #[S [], S []] 87)).cell? ⟨w.heap.size, 10, none⟩ = some (I to) := cellr hT rfl
  have c11 : ((w.alloc (.cells #[I id, S cl, S su, .slice va sc.length vc, I cr, I us, I idl, I ab, I gr, I ge, I to, I st, I en, I co] 24)).alloc (.cells #[S [], S []] 87)).cell? ⟨w.heap.size, 11, none⟩ = some (I st) := cellr hT rfl
  have c12 : ((w.alloc (.cells #[I id, S cl, S su, .slice va sc.length vc, I cr, I us, I idl, I ab, I gr, I ge, I to, I st, I en, I co] 24)).alloc (.cells #[S [], S []] 87)).cell? ⟨w.heap.size, 12, none⟩ = some (I en) := cellr hT rfl
  have c13 : ((w.alloc (.cells #[I id, S cl, S su, .slice va sc.length vc, I cr, I us, I idl, I ab, I gr, I ge, I to, I st, I en, I co] 24)).alloc (.cells #[S [], S []] 87)).cell? ⟨w.heap.size, 13, none⟩ = some (I co) := cellr hT rfl
  generalize hW1 : ((w.alloc (.cells #[I id, S cl, S su, .slice va sc.length vc, I cr, I us, I idl, I ab, I gr, I ge, I to, I st, I en, I co] 24)).alloc (.cells #[S [], S []] 87)) = W1 at *
  have HR := hide hR
  have HB := hide hb0
  clear hT hR hb0 hsc hsl hln
  generalize famP id cl su sc cr us idl ab gr ge to st en co = Q at *
  obtain ⟨⟨q1, q2⟩, q3⟩ := Q
  go_enter Tryz.func58, Tryz.ntmps58
  go_wp2_with fail
  refine (unhide HPr).mono ?_
  rintro e w2 ⟨rfl, hw2⟩
  have HB2 := hide ((unhide HB).trans (hw2.mono (unhide HB).size))
  have HR2 := hide ((hw2.block _ (lt_of_row (unhide HR))).trans (unhide HR))
  clear hw2 HPr HB HR c0 c1 c2 c3 c4 c5 c6 c7 c8 c9 c10 c11 c12 c13 hW1
  go_wp2_with (refine wp_st30 rfl (.tmp 2) (.tmp 6) rfl (w.heap.size + 1) (by rfl) q1 q2 (by rfl) #[S [], S []] rfl (unhide HR2) ?_)
  refine out2c (T := 87) (n := 2) (p := 2) (q := 3) (cs := #[S q1, S q2]) (fun _ => by kernel_rfl) (fun _ => by kernel_rfl) (Z := w.heap.size + 1) (by rfl) (by rfl) (by rfl) (by rfl) (setRow_row (unhide HR2)) (by rfl) ?_
  exact ⟨rfl, (setRow_Only w2 (w.heap.size + 1) #[S q1, S q2]).below (unhide HB2) (unhide HB2).size (fun k e => by omega)⟩
end Go.Proofs.YtmjaobddgaglhaaGreatDoor
