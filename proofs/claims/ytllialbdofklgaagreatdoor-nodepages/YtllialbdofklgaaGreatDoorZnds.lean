import Derived.Test.YtllialbdofklgaaGreatDoorZndn
import Derived.Test.YtllialbdofklgaaGreatDoorZndg
import Derived.Test.YtllialbdofklgaaGreatDoorZndb
import Derived.Laws.CopyRow
import Derived.Laws.MakeOwn
import Derived.OwnWalk
import Derived.BigQuiet
namespace Go.Proofs.YtllialbdofklgaaGreatDoor
open Go.RowKit
set_option maxHeartbeats 16000000
set_option maxRecDepth 8000
def n0 : Nd := ⟨true, [[97], [98, 99]], [[49], []], []⟩
def x0 : Bs := [2, 1, 97, 1, 49, 2, 98, 99, 0]
def na : Nd := ⟨true, [[97]], [[49]], []⟩
def nb : Nd := ⟨true, [[98]], [[50]], []⟩
def ni : Nd := ⟨false, [[109]], [], [5, 9]⟩
theorem a1 : wrl n0 = 0 := by decide
theorem a2 : bdy n0 = x0 := by decide
theorem a3 : gE x0 = 0 := by decide
theorem a4 : gK x0 = n0.keys := by decide
theorem a5 : gV x0 = n0.vals := by decide
theorem a6 : fnd n0 [98, 99] = (1, true) := by decide
theorem a7 : fnd ni [109] = (1, false) := by decide
theorem a8 : n0.siz = 8 := by decide
theorem a9 : btw [97, 112, 112, 108, 101] [112, 101, 97, 114] = [112] := by decide
theorem a10 : hfl n0 = true := by decide
theorem a11 : kok n0.keys = true := by decide
theorem a12 : (gF (gN x0) (rs 1 (x0, 0))).2.2.2 = 0 := by decide
theorem nbs0 : NB n0 := ⟨by decide, by decide, by decide, by decide, by decide⟩
theorem nbsa : NB na := ⟨by decide, by decide, by decide, by decide, by decide⟩
theorem nbsb : NB nb := ⟨by decide, by decide, by decide, by decide, by decide⟩
theorem nbsi : NB ni := ⟨by decide, by decide, by decide, by decide, by decide⟩
theorem nbsj : NB (jnd na nb) := ⟨by decide, by decide, by decide, by decide, by decide⟩
theorem sts1 {w : World} {g : Nat} {x : Bs} (h : w.heap[g]? = some (.cells #[S x] 9 (0, 0))) : Sts w (some ⟨g, 0, none⟩) 1 [x] :=
  ⟨rfl, fun _ => ⟨g, 0, rfl, fun j hj => by
    obtain rfl : j = 0 := by omega
    rw [cell_of_row w g (0 + 0) _ 9 (0, 0) h]; rfl⟩⟩
theorem sts2 {w : World} {g : Nat} {x y : Bs} (h : w.heap[g]? = some (.cells #[S x, S y] 9 (0, 0))) : Sts w (some ⟨g, 0, none⟩) 2 [x, y] :=
  ⟨rfl, fun _ => ⟨g, 0, rfl, fun j hj => by
    match j, hj with
    | 0, _ => rw [cell_of_row w g (0 + 0) _ 9 (0, 0) h]; rfl
    | 1, _ => rw [cell_of_row w g (0 + 1) _ 9 (0, 0) h]; rfl⟩⟩
theorem ins2 {w : World} {g : Nat} {x y : Int} (h : w.heap[g]? = some (.cells #[I x, I y] 3 (0, 0))) : Ins w (some ⟨g, 0, none⟩) 2 [x, y] :=
  ⟨rfl, fun _ => ⟨g, 0, rfl, fun j hj => by
    match j, hj with
    | 0, _ => rw [cell_of_row w g (0 + 0) _ 3 (0, 0) h]; rfl
    | 1, _ => rw [cell_of_row w g (0 + 1) _ 3 (0, 0) h]; rfl⟩⟩
theorem sts0 (w : World) : Sts w none 0 [] := ⟨rfl, fun h => absurd h (by decide)⟩
theorem done0 (b g off cap : Nat) (W : World) (hr : RAt b g off cap (gF (gN x0) (rs 1 (x0, 0))).2.2.1 (gF (gN x0) (rs 1 (x0, 0))).2.2.2 W) :
    Calls Tryz.prog 95 #[ptr b] W fun e w' => e = .returned (I (gE x0)) ∧ Below W.heap.size W w' := by
  have e : gE x0 = rDone (gF (gN x0) (rs 1 (x0, 0))).2.2.1 0 := by unfold gE; rw [a12]
  rw [e]
  rw [a12] at hr
  exact rdone_ok b g off cap _ W hr
theorem awake_any (w : World) : Calls Tryz.prog 13 #[] w fun e w' => e = .returned (.bool true) ∧ Below w.heap.size w w' := by
  -- the first node's lists
  have B1 := (Below.refl w.heap.size w).alloc (Nat.le_refl _) (.cells #[S [97], S [98, 99]] 9)
  have k1 := heap_alloc_new w (.cells #[S [97], S [98, 99]] 9)
  have s1 := size_alloc w (.cells #[S [97], S [98, 99]] 9)
  generalize hW1 : w.alloc (.cells #[S [97], S [98, 99]] 9) = W1 at B1 k1 s1
  have B2 := B1.alloc B1.size (.cells #[S [49], S []] 9)
  have k2 := (heap_alloc_old W1 (.cells #[S [49], S []] 9) (lt_of_row k1)).trans k1
  have v2 := heap_alloc_new W1 (.cells #[S [49], S []] 9)
  have s2 := size_alloc W1 (.cells #[S [49], S []] 9)
  generalize hW2 : W1.alloc (.cells #[S [49], S []] 9) = W2 at B2 k2 v2 s2
  have hq := heap_alloc_new W2 (.cells #[.bool false, .slice none 0 0, .slice none 0 0, .slice none 0 0] 25)
  have hb3 := (Below.refl W2.heap.size W2).alloc (Nat.le_refl _) (.cells #[.bool false, .slice none 0 0, .slice none 0 0, .slice none 0 0] 25)
  have ht := setRow_heap _ _ _ #[.bool true, .slice (some ⟨w.heap.size, 0, none⟩) 2 2, .slice (some ⟨W1.heap.size, 0, none⟩) 2 2, .slice none 0 0] 25 _ hq
  have hb4 := (setRow_only (W2.alloc (.cells #[.bool false, .slice none 0 0, .slice none 0 0, .slice none 0 0] 25)) W2.heap.size #[.bool true, .slice (some ⟨w.heap.size, 0, none⟩) 2 2, .slice (some ⟨W1.heap.size, 0, none⟩) 2 2, .slice none 0 0]).below hb3 hb3.size (fun k e => by omega)
  generalize hW3 : (W2.alloc (.cells #[.bool false, .slice none 0 0, .slice none 0 0, .slice none 0 0] 25)).setRow W2.heap.size #[.bool true, .slice (some ⟨w.heap.size, 0, none⟩) 2 2, .slice (some ⟨W1.heap.size, 0, none⟩) 2 2, .slice none 0 0] = W3 at ht hb4
  have HQ := hide hq
  have HW3 := hide hW3
  have NA0 := hide (fun (W : World) (q : Below W3.heap.size W3 W) => show NA n0 (some ⟨w.heap.size, 0, none⟩) (some ⟨W1.heap.size, 0, none⟩) none W from
    ⟨((sts2 k2).below hb4).below q, ((sts2 v2).below hb4).below q, Ins.nil _ _⟩)
  have HT := hide ht
  have B3 := hide (B2.trans (hb4.mono B2.size))
  have l3 := lt_of_row ht
  have hnd : nda n0 (some ⟨w.heap.size, 0, none⟩) (some ⟨W1.heap.size, 0, none⟩) none 2 2 0 = .agg #[.bool true, .slice (some ⟨w.heap.size, 0, none⟩) 2 2, .slice (some ⟨W1.heap.size, 0, none⟩) 2 2, .slice none 0 0] := rfl
  have X1 := hide (page_leaf n0 _ _ none 2 2 0 W3 (unhide NA0 _ (Below.refl _ _)) nbs0 rfl)
  unfold pgk pgb at X1
  rw [a1, a2, if_pos rfl, if_pos rfl, hnd] at X1
  obtain ⟨c0, c1, c2, c3⟩ := box4 ht (Below.refl _ _) l3
  clear B1 k1 s1 B2 k2 v2 s2 hq hb3 ht hb4 hW3
  go_enter Tryz.func13, Tryz.ntmps13
  go_wp2_with (first | (refine wp_st25 rfl (.tmp 1) (.tmp 19) rfl W2.heap.size (by rfl) true (some ⟨w.heap.size, 0, none⟩) (some ⟨W1.heap.size, 0, none⟩) none 2 2 2 2 0 0 (by rfl) _ rfl (unhide HQ) ?_; rw [unhide HW3]) | fail)
  refine (unhide X1).mono ?_
  rintro e w4 ⟨rfl, b4⟩
  clear c0 c1 c2 c3 hW1 hW2 HQ HW3 X1
  have hq := heap_alloc_new w4 (.cells #[I 0, I 0, I 0, .slice none 0 0, S []] 27)
  have hb3 := (Below.refl w4.heap.size w4).alloc (Nat.le_refl _) (.cells #[I 0, I 0, I 0, .slice none 0 0, S []] 27)
  have ht := setRow_heap _ _ _ #[I 1, I 0, I 0, .slice none 0 0, S x0] 27 _ hq
  have hb4 := (setRow_only (w4.alloc (.cells #[I 0, I 0, I 0, .slice none 0 0, S []] 27)) w4.heap.size #[I 1, I 0, I 0, .slice none 0 0, S x0]).below hb3 hb3.size (fun k e => by omega)
  generalize hW5 : (w4.alloc (.cells #[I 0, I 0, I 0, .slice none 0 0, S []] 27)).setRow w4.heap.size #[I 1, I 0, I 0, .slice none 0 0, S x0] = W5 at ht hb4
  have HW5 := hide hW5
  have HQ := hide hq
  have HT5 := hide ht
  have B35 := hide (b4.trans (hb4.mono b4.size))
  have l5 := lt_of_row ht
  have X2 := hide (parse_leaf 0 0 none 0 x0 W5 (by decide) a3 (by rw [a4, a5]; exact a1) (fun b g off cap W _ hr => done0 b g off cap W hr))
  rw [a4, a5] at X2
  obtain ⟨c0, c1, c2, c3, c4⟩ := box5 ht (Below.refl _ _) l5
  clear hq hb3 ht hb4 hW5 b4
  go_wp2_with (first | (refine wp_st27 rfl (.tmp 2) (.tmp 23) rfl w4.heap.size (by rfl) 1 0 0 none 0 0 x0 (by rfl) _ rfl (unhide HQ) ?_; rw [unhide HW5]) | fail)
  refine (unhide X2).mono ?_
  rintro e w6 ⟨vK, vV, rfl, rK, rV, oK, oV, ne, b6⟩
  clear c0 c1 c2 c3 c4 HW5 HQ X2
  obtain ⟨pK, cK, rfl⟩ := owns_form rK
  obtain ⟨pV, cV, rfl⟩ := owns_form rV
  have hq := heap_alloc_new w6 (.cells #[.bool false, .slice none 0 0, .slice none 0 0, .slice none 0 0] 25)
  have hb3 := (Below.refl w6.heap.size w6).alloc (Nat.le_refl _) (.cells #[.bool false, .slice none 0 0, .slice none 0 0, .slice none 0 0] 25)
  have ht := setRow_heap _ _ _ #[.bool true, .slice pK 2 cK, .slice pV 2 cV, .slice none 0 0] 25 _ hq
  have hb4 := (setRow_only (w6.alloc (.cells #[.bool false, .slice none 0 0, .slice none 0 0, .slice none 0 0] 25)) w6.heap.size #[.bool true, .slice pK 2 cK, .slice pV 2 cV, .slice none 0 0]).below hb3 hb3.size (fun k e => by omega)
  generalize hW7 : (w6.alloc (.cells #[.bool false, .slice none 0 0, .slice none 0 0, .slice none 0 0] 25)).setRow w6.heap.size #[.bool true, .slice pK 2 cK, .slice pV 2 cV, .slice none 0 0] = W7 at ht hb4
  have HW7 := hide hW7
  have HQ := hide hq
  have HT7 := hide ht
  have B57 := hide (b6.trans (hb4.mono b6.size))
  have B37 := hide ((unhide B35).trans ((unhide B57).mono (unhide B35).size))
  have l7 := lt_of_row ht
  have NA7 := hide (fun (W : World) (q : Below W7.heap.size W7 W) => show NA n0 pK pV none W from by
    obtain ⟨p, c, e1, s1, _⟩ := Sts.of (owns_below (owns_below rK hb4) q)
    obtain ⟨p', c', e2, s2, _⟩ := Sts.of (owns_below (owns_below rV hb4) q)
    cases e1
    cases e2
    exact ⟨s1, s2, Ins.nil _ _⟩)
  have X3 := hide (find_any n0 _ _ none 2 2 0 [98, 99] W7 (unhide NA0 _ (unhide B37)) nbs0)
  rw [a6, hnd] at X3
  have t3 : Hid (W3.heap.size ≤ W7.heap.size) := (unhide B37).size
  obtain ⟨c0, c1, c2, c3⟩ := box4 (unhide HT) (unhide B37) l3
  have l3' := Nat.lt_of_lt_of_le l3 (unhide B37).size
  clear hq hb3 ht hb4 hW7 rK rV oK oV ne b6
  go_wp2_with (first | (refine wp_st25 rfl (.tmp 4) (.tmp 28) rfl w6.heap.size (by rfl) true pK pV none 2 cK 2 cV 0 0 (by rfl) _ rfl (unhide HQ) ?_; rw [unhide HW7]) | fail)
  refine (unhide X3).mono ?_
  rintro e w8 ⟨rfl, b8⟩
  clear c0 c1 c2 c3 HW7 HQ X3 l3'
  -- the inner node
  have A1 := b8.alloc b8.size (.cells #[S [109]] 9)
  have k1 := heap_alloc_new w8 (.cells #[S [109]] 9)
  generalize hW9 : w8.alloc (.cells #[S [109]] 9) = W9 at A1 k1
  have A2 := A1.alloc A1.size (.cells #[I 5, I 9] 3)
  have k2 := (heap_alloc_old W9 (.cells #[I 5, I 9] 3) (lt_of_row k1)).trans k1
  have i2 := heap_alloc_new W9 (.cells #[I 5, I 9] 3)
  generalize hW10 : W9.alloc (.cells #[I 5, I 9] 3) = W10 at A2 k2 i2
  have X4 := hide (find_any ni (some ⟨w8.heap.size, 0, none⟩) none (some ⟨W9.heap.size, 0, none⟩) 1 0 2 [109] W10 ⟨sts1 k2, sts0 _, ins2 i2⟩ nbsi)
  rw [a7] at X4
  have hndi : nda ni (some ⟨w8.heap.size, 0, none⟩) none (some ⟨W9.heap.size, 0, none⟩) 1 0 2 = .agg #[.bool false, .slice (some ⟨w8.heap.size, 0, none⟩) 1 1, .slice none 0 0, .slice (some ⟨W9.heap.size, 0, none⟩) 2 2] := rfl
  rw [hndi] at X4
  have B710 := hide A2
  clear A1 k1 A2 k2 i2 b8 hndi
  go_wp2_with fail
  refine (unhide X4).mono ?_
  rintro e w11 ⟨rfl, b11⟩
  clear hW9 hW10 X4
  have B711 := hide ((unhide B710).trans (b11.mono (unhide B710).size))
  have B311 := hide ((unhide B37).trans ((unhide B711).mono (unhide B37).size))
  have X5 := hide (nodes_any n0 n0 pK pV none _ _ none cK cV 0 2 2 0 w11 (unhide NA7 _ (unhide B711)) (unhide NA0 _ (unhide B311)) nbs0 nbs0)
  rw [hnd, show sam n0 n0 = true by decide] at X5
  have hnd7 : nda n0 pK pV none cK cV 0 = .agg #[.bool true, .slice pK 2 cK, .slice pV 2 cV, .slice none 0 0] := rfl
  rw [hnd7] at X5
  obtain ⟨c0, c1, c2, c3⟩ := box4 (unhide HT) (unhide B311) l3
  obtain ⟨d0, d1, d2, d3⟩ := box4 (unhide HT7) (unhide B711) l7
  have l3' := Nat.lt_of_lt_of_le l3 (unhide B311).size
  have l7' := Nat.lt_of_lt_of_le l7 (unhide B711).size
  clear b11 hnd7
  go_wp2_with fail
  refine (unhide X5).mono ?_
  rintro e w12 ⟨rfl, b12⟩
  clear c0 c1 c2 c3 d0 d1 d2 d3 l3' l7' X5
  have B712 := hide ((unhide B711).trans (b12.mono (unhide B711).size))
  -- Join
  have A1 := (unhide B712).alloc (unhide B712).size (.cells #[S [97]] 9)
  have k1 := heap_alloc_new w12 (.cells #[S [97]] 9)
  generalize hV1 : w12.alloc (.cells #[S [97]] 9) = V1 at A1 k1
  have A2 := A1.alloc A1.size (.cells #[S [49]] 9)
  have k2 := (heap_alloc_old V1 (.cells #[S [49]] 9) (lt_of_row k1)).trans k1
  have m2 := heap_alloc_new V1 (.cells #[S [49]] 9)
  generalize hV2 : V1.alloc (.cells #[S [49]] 9) = V2 at A2 k2 m2
  have A3 := A2.alloc A2.size (.cells #[S [98]] 9)
  have k3 := (heap_alloc_old V2 (.cells #[S [98]] 9) (lt_of_row k2)).trans k2
  have m3 := (heap_alloc_old V2 (.cells #[S [98]] 9) (lt_of_row m2)).trans m2
  have n3 := heap_alloc_new V2 (.cells #[S [98]] 9)
  generalize hV3 : V2.alloc (.cells #[S [98]] 9) = V3 at A3 k3 m3 n3
  have A4 := A3.alloc A3.size (.cells #[S [50]] 9)
  have k4 := (heap_alloc_old V3 (.cells #[S [50]] 9) (lt_of_row k3)).trans k3
  have m4 := (heap_alloc_old V3 (.cells #[S [50]] 9) (lt_of_row m3)).trans m3
  have n4 := (heap_alloc_old V3 (.cells #[S [50]] 9) (lt_of_row n3)).trans n3
  have o4 := heap_alloc_new V3 (.cells #[S [50]] 9)
  generalize hV4 : V3.alloc (.cells #[S [50]] 9) = V4 at A4 k4 m4 n4 o4
  have X6 := hide (join_leaf na nb (some ⟨w12.heap.size, 0, none⟩) (some ⟨V1.heap.size, 0, none⟩) (some ⟨V2.heap.size, 0, none⟩) (some ⟨V3.heap.size, 0, none⟩) 1 1 1 1 [98] V4 ⟨sts1 k4, sts1 m4, Ins.nil _ _⟩ ⟨sts1 n4, sts1 o4, Ins.nil _ _⟩ nbsa nbsb nbsj rfl rfl rfl rfl (by decide) (by decide) (by decide) (by decide) (by decide) (by decide) (by decide) (by decide) (by decide) (by decide) (by decide) (by decide) (by decide) (by decide) (by decide) (by decide) (by decide) (by decide) (by decide))
  have e1 : nda na (some ⟨w12.heap.size, 0, none⟩) (some ⟨V1.heap.size, 0, none⟩) none 1 1 0 = .agg #[.bool true, .slice (some ⟨w12.heap.size, 0, none⟩) 1 1, .slice (some ⟨V1.heap.size, 0, none⟩) 1 1, .slice none 0 0] := rfl
  have e2 : nda nb (some ⟨V2.heap.size, 0, none⟩) (some ⟨V3.heap.size, 0, none⟩) none 1 1 0 = .agg #[.bool true, .slice (some ⟨V2.heap.size, 0, none⟩) 1 1, .slice (some ⟨V3.heap.size, 0, none⟩) 1 1, .slice none 0 0] := rfl
  rw [e1, e2] at X6
  have B7V := hide A4
  clear A1 k1 A2 k2 m2 A3 k3 m3 n3 A4 k4 m4 n4 o4 e1 e2 b12
  go_wp2_with fail
  refine (unhide X6).mono ?_
  rintro e w13 ⟨vK, vV, rfl, rK, rV, oK, oV, b13⟩
  clear hV1 hV2 hV3 hV4 X6
  obtain ⟨qK, dK, rfl⟩ := owns_form rK
  obtain ⟨qV, dV, rfl⟩ := owns_form rV
  have B713 := hide ((unhide B7V).trans (b13.mono (unhide B7V).size))
  have hq := heap_alloc_new w13 (.cells #[.bool false, .slice none 0 0, .slice none 0 0, .slice none 0 0] 25)
  have hb3 := (Below.refl w13.heap.size w13).alloc (Nat.le_refl _) (.cells #[.bool false, .slice none 0 0, .slice none 0 0, .slice none 0 0] 25)
  have ht := setRow_heap _ _ _ #[.bool true, .slice qK 2 dK, .slice qV 2 dV, .slice none 0 0] 25 _ hq
  have hb4 := (setRow_only (w13.alloc (.cells #[.bool false, .slice none 0 0, .slice none 0 0, .slice none 0 0] 25)) w13.heap.size #[.bool true, .slice qK 2 dK, .slice qV 2 dV, .slice none 0 0]).below hb3 hb3.size (fun k e => by omega)
  generalize hW14 : (w13.alloc (.cells #[.bool false, .slice none 0 0, .slice none 0 0, .slice none 0 0] 25)).setRow w13.heap.size #[.bool true, .slice qK 2 dK, .slice qV 2 dV, .slice none 0 0] = W14 at ht hb4
  have HW14 := hide hW14
  have HQ := hide hq
  have HT14 := hide ht
  have B714 := hide ((unhide B713).trans (hb4.mono (unhide B713).size))
  have B314 := hide ((unhide B37).trans ((unhide B714).mono (unhide B37).size))
  have l14 := lt_of_row ht
  have X7 := hide (split_small n0 _ _ none 2 2 0 W14 (unhide NA0 _ (unhide B314)) nbs0 rfl a10 a11 (by decide))
  rw [hnd] at X7
  obtain ⟨c0, c1, c2, c3⟩ := box4 (unhide HT) (unhide B314) l3
  have l3' := Nat.lt_of_lt_of_le l3 (unhide B314).size
  clear hq hb3 ht hb4 hW14 rK rV oK oV b13
  go_wp2_with (first | (refine wp_st25 rfl (.tmp 11) (.tmp 53) rfl w13.heap.size (by rfl) true qK qV none 2 dK 2 dV 0 0 (by rfl) _ rfl (unhide HQ) ?_; rw [unhide HW14]) | fail)
  refine (unhide X7).mono ?_
  rintro e w15 ⟨rfl, b15⟩
  clear c0 c1 c2 c3 l3' HW14 HQ X7
  have B1415 := hide b15
  -- the two parts of nothing
  have A1 := (Below.refl w15.heap.size w15).alloc (Nat.le_refl _) (.cells #[.bool false, .slice none 0 0, .slice none 0 0, .slice none 0 0] 25)
  have k1 := heap_alloc_new w15 (.cells #[.bool false, .slice none 0 0, .slice none 0 0, .slice none 0 0] 25)
  have s1 := size_alloc w15 (.cells #[.bool false, .slice none 0 0, .slice none 0 0, .slice none 0 0] 25)
  generalize hU1 : w15.alloc (.cells #[.bool false, .slice none 0 0, .slice none 0 0, .slice none 0 0] 25) = U1 at A1 k1 s1
  have A2 := A1.alloc A1.size (.cells #[.bool false, .slice none 0 0, .slice none 0 0, .slice none 0 0] 25)
  have k2 := (heap_alloc_old U1 (.cells #[.bool false, .slice none 0 0, .slice none 0 0, .slice none 0 0] 25) (lt_of_row k1)).trans k1
  have m2 := heap_alloc_new U1 (.cells #[.bool false, .slice none 0 0, .slice none 0 0, .slice none 0 0] 25)
  generalize hU2 : U1.alloc (.cells #[.bool false, .slice none 0 0, .slice none 0 0, .slice none 0 0] 25) = U2 at A2 k2 m2
  have o3 := setRow_only U2 w15.heap.size #[.bool false, .slice none 0 0, .slice none 0 0, .slice none 0 0]
  have m3 := (o3.block U1.heap.size (lt_of_row m2) (by omega)).trans m2
  have A3 := o3.below A2 A2.size (fun k e => by omega)
  generalize hU3 : U2.setRow w15.heap.size #[.bool false, .slice none 0 0, .slice none 0 0, .slice none 0 0] = U3 at o3 m3 A3
  have o4 := setRow_only U3 U1.heap.size #[.bool false, .slice none 0 0, .slice none 0 0, .slice none 0 0]
  have A4 := o4.below A3 A3.size (fun k e => by omega)
  generalize hU4 : U3.setRow U1.heap.size #[.bool false, .slice none 0 0, .slice none 0 0, .slice none 0 0] = U4 at o4 A4
  have HK2 := hide k2
  have HM3 := hide m3
  have HU3 := hide hU3
  have HU4 := hide hU4
  have B14 := hide (b15.trans (A4.mono b15.size))
  have B7E := hide ((unhide B714).trans ((unhide B14).mono (unhide B714).size))
  have B3E := hide ((unhide B37).trans ((unhide B7E).mono (unhide B37).size))
  have B5E := hide ((unhide B57).trans ((unhide B7E).mono (unhide B57).size))
  have BE := hide ((unhide B3).trans ((unhide B3E).mono (unhide B3).size))
  obtain ⟨c0, c1, c2, c3⟩ := box4 (unhide HT) (unhide B3E) l3
  obtain ⟨p0, p1, p2, p3, p4⟩ := box5 (unhide HT5) (unhide B5E) l5
  obtain ⟨f0, f1, f2, f3⟩ := box4 (unhide HT14) (unhide B14) l14
  have l3' := Nat.lt_of_lt_of_le l3 (unhide B3E).size
  have l5' := Nat.lt_of_lt_of_le l5 (unhide B5E).size
  have l14' := Nat.lt_of_lt_of_le l14 (unhide B14).size
  have X8 := hide (size_any n0 _ _ none 2 2 0 U4 (unhide NA0 _ (unhide B3E)) nbs0)
  rw [hnd, a8] at X8
  have X9 := hide (fun W => between_any [97, 112, 112, 108, 101] [112, 101, 97, 114] W (by decide) (by decide))
  rw [a9] at X9
  clear A1 k1 s1 A2 k2 m2 o3 m3 A3 hU3 o4 A4 hU4 b15
  go_wp2_with (first | (refine wp_st25 rfl (.tmp 13) (.tmp 58) rfl w15.heap.size (by rfl) false none none none 0 0 0 0 0 0 (by rfl) _ rfl (unhide HK2) ?_; rw [unhide HU3]) | (refine wp_st25 rfl (.tmp 15) (.tmp 60) rfl U1.heap.size (by rfl) false none none none 0 0 0 0 0 0 (by rfl) _ rfl (unhide HM3) ?_; rw [unhide HU4]) | fail)
  refine (unhide X8).mono ?_
  rintro e w16 ⟨rfl, b16⟩
  clear c0 c1 c2 c3 p0 p1 p2 p3 p4 f0 f1 f2 f3 l3' l5' l14' X8 HK2 HM3 HU3 HU4
  obtain ⟨f0, f1, f2, f3⟩ := box4 (unhide HT14) ((unhide B14).trans (b16.mono (unhide B14).size)) l14
  have l14' := Nat.lt_of_lt_of_le l14 ((unhide B14).trans (b16.mono (unhide B14).size)).size
  have BF := hide ((unhide BE).trans (b16.mono (unhide BE).size))
  have x9 := hide (unhide X9 w16)
  clear b16 X9
  go_wp2_with fail
  refine (unhide x9).mono ?_
  rintro e w17 ⟨rfl, b17⟩
  have BG := hide ((unhide BF).trans (b17.mono (unhide BF).size))
  clear b17 x9
  go_wp2
  go_ret
  exact ⟨by first | rfl | simp, unhide BG⟩
end Go.Proofs.YtllialbdofklgaaGreatDoor
namespace Go.Proofs.YtllialbdofklgaaGreatDoor
open Go.RowKit
set_option maxHeartbeats 8000000
set_option maxRecDepth 8000
def add3 (n m : Nat) : Nat := if 2147483647 < n ∨ 2147483647 < m then 2147483648 else n + m
theorem addsUp_any (n m : Nat) (w : World) (hn : n ≤ 9223372036854775807) (hm : m ≤ 9223372036854775807) :
    Calls Tryz.prog 10 #[I n, I m] w fun e w' => e = .returned (I (add3 n m)) ∧ w' = w := by
  unfold add3
  go_enter Tryz.func10, Tryz.ntmps10
  by_cases h1 : 2147483647 < n
  · have h1' : decide ((2147483647 : Int) < (n : Int)) = true := by rw [decide_eq_true_eq]; omega
    go_wp2
    go_ret
    exact ⟨rfl, rfl⟩
  · have h1' : decide ((2147483647 : Int) < (n : Int)) = false := by rw [decide_eq_false_iff_not]; omega
    by_cases h2 : 2147483647 < m
    · have h2' : decide ((2147483647 : Int) < (m : Int)) = true := by rw [decide_eq_true_eq]; omega
      go_wp2
      go_ret
      exact ⟨rfl, rfl⟩
    · have h2' : decide ((2147483647 : Int) < (m : Int)) = false := by rw [decide_eq_false_iff_not]; omega
      go_wp2
      go_ret
      exact ⟨rfl, rfl⟩
end Go.Proofs.YtllialbdofklgaaGreatDoor
namespace Go.Proofs.YtllialbdofklgaaGreatDoor
open Go.RowKit
set_option maxHeartbeats 8000000
set_option maxRecDepth 8000
theorem refRises_any (a : Option Addr) (n cap : Nat) (l : List Bs) (w : World) (hp : Sts w a n l) (hn : n ≤ 4294967296) :
    Calls Tryz.prog 53 #[.slice a n cap] w fun e w' => e = .returned (.bool (up l)) ∧ ∃ q, w' = w.drewN q := by
  have hN := hp.1
  subst hN
  have HP := hide hp
  clear hp
  go_enter Tryz.func53, Tryz.ntmps53
  go_wp2
  go_loopw [3] (fun i wr => ∃ k q : Nat, (k ≤ l.length ∨ k = 1) ∧ 1 ≤ k ∧ i = .int .i64 k ∧ up (l.take k) = true ∧ wr = w.drewN q) (fun i _ => l.length - (Go.RowKit.intOf i).toNat)
  case atStart => exact ⟨1, 0, .inr rfl, by omega, rfl, up_one l, rfl⟩
  case round =>
    obtain ⟨k, q, hk, hk1, rfl, ha, rfl⟩ := hrel
    by_cases hlt : k < l.length
    · have hlt' : (k : Int) < (l.length : Int) := by omega
      obtain ⟨j, rfl⟩ : ∃ j, k = j + 1 := ⟨k - 1, by omega⟩
      obtain ⟨p, o, rfl, hpl, hc0⟩ := (unhide HP).at hlt
      obtain ⟨p', o', e1, _, hc1⟩ := (unhide HP).at (show j < l.length by omega)
      cases e1
      have HN := hide (up_next j hlt ha)
      have HW := hide (up_bad j hlt)
      clear ha
      generalize l.getD (j + 1) [] = y at *
      generalize l.getD j [] = x at *
      have hq := fun W => run_leq y x W
      by_cases hxy : x < y
      · rw [show decide (¬ x < y) = false by simp [hxy]] at hq
        have HA := hide (unhide HN hxy)
        clear HN HW hxy
        go_wp2
        go_quiet (fail)
        go_wp2
        go_round
        case measure => simp [Go.RowKit.intOf]; omega
        case rel => exact ⟨j + 2, q + nq, .inl (by omega), by omega, by simp; omega, unhide HA, by simp⟩
      · rw [show decide (¬ x < y) = true by simp [hxy]] at hq
        have HA := hide (unhide HW hxy)
        clear HN HW hxy
        go_wp2
        go_quiet (fail)
        go_wp2
        go_ret
        exact ⟨ret_bool (unhide HA).symm, q + nq, by simp⟩
    · have hlt' : ¬ (k : Int) < (l.length : Int) := by omega
      have HA := hide ha
      clear ha
      go_wp2
      go_ret
      refine ⟨ret_bool ?_, q, rfl⟩
      have := unhide HA
      rw [List.take_of_length_le (by omega)] at this
      exact this.symm
/-- How many bytes and items texts are, as far as it is reckoned. -/
def wsum : Nat → List Bs → Nat
  | n, [] => n
  | n, x :: r => if n ≤ 2147483647 then wsum (add3 n x.length) r else n
def wei (l : List Bs) : Nat := wsum (add3 0 l.length) l
theorem add3_le (n m : Nat) : add3 n m ≤ 4294967294 ∨ add3 n m = 2147483648 := by
  unfold add3
  split
  · exact .inr rfl
  · left; omega
theorem add3_sm {n m : Nat} (h : add3 n m ≤ 2147483647) : n + m ≤ 2147483647 := by
  unfold add3 at h
  split at h <;> omega
theorem wsum_sm : ∀ (l : List Bs) (n : Nat), wsum n l ≤ 2147483647 → n + tot l ≤ 2147483647
  | [], n, h => by simpa [wsum, tot] using h
  | x :: r, n, h => by
    unfold wsum at h
    by_cases q : n ≤ 2147483647
    · rw [if_pos q] at h
      have h1 := wsum_sm r _ h
      have e : tot (x :: r) = x.length + tot r := by simp [tot]
      have h2 : add3 n x.length ≤ 2147483647 := by omega
      have h3 := add3_sm h2
      unfold add3 at h1
      rw [if_neg (by omega)] at h1
      omega
    · rw [if_neg q] at h; omega
theorem wei_sm {l : List Bs} (h : wei l ≤ 2147483647) : l.length + tot l ≤ 2147483647 := by
  have h1 := wsum_sm l _ h
  have h2 : add3 0 l.length ≤ 2147483647 := by omega
  have h3 := add3_sm h2
  unfold add3 at h1
  rw [if_neg (by omega)] at h1
  omega
theorem wsum_le : ∀ (l : List Bs) (n : Nat), n ≤ 4294967296 → wsum n l ≤ 4294967296
  | [], n, h => h
  | x :: r, n, h => by
    unfold wsum
    split
    · exact wsum_le r _ (by rcases add3_le n x.length with q | q <;> omega)
    · exact h
theorem wei_le (l : List Bs) : wei l ≤ 4294967296 := wsum_le l _ (by rcases add3_le 0 l.length with q | q <;> omega)
theorem weighs_any (a : Option Addr) (n cap : Nat) (l : List Bs) (w : World) (hp : Sts w a n l) (hn : n ≤ 9223372036854775807) (hL : ∀ j, (l.getD j []).length ≤ 9223372036854775807) :
    Calls Tryz.prog 42 #[.slice a n cap] w fun e w' => e = .returned (I (wei l)) ∧ w' = w := by
  have hN := hp.1
  subst hN
  have HP := hide hp
  have HL := hide hL
  have H0 := hide (addsUp_any 0 l.length w (by omega) hn)
  have HE := hide (show wsum (add3 0 l.length) (l.drop 0) = wei l from rfl)
  have hb0 : add3 0 l.length ≤ 4294967296 := by rcases add3_le 0 l.length with q | q <;> omega
  generalize wei l = R at *
  clear hp hL
  go_enter Tryz.func42, Tryz.ntmps42
  go_wp2_with fail
  refine (unhide H0).mono ?_
  rintro e w1 ⟨rfl, rfl⟩
  clear H0
  generalize add3 0 l.length = T0 at *
  go_wp2
  go_loopw [3, 4] (fun s i wr => ∃ k T : Nat, k ≤ l.length ∧ T ≤ 4294967296 ∧ i = .int .i64 k ∧ s = .int .i64 T ∧ wsum T (l.drop k) = R ∧ wr = w1) (fun _ i _ => l.length - (Go.RowKit.intOf i).toNat)
  case atStart => exact ⟨0, T0, by omega, hb0, rfl, rfl, unhide HE, rfl⟩
  case round =>
    clear HE
    obtain ⟨k, T, hk, hT, rfl, rfl, he, rfl⟩ := hrel
    by_cases hlt : k < l.length
    · have hlt' : decide ((k : Int) < (l.length : Int)) = true := by rw [decide_eq_true_eq]; omega
      have hd : l.drop k = l.getD k [] :: l.drop (k + 1) := by
        rw [List.drop_eq_getElem_cons hlt, List.getD_eq_getElem?_getD, List.getElem?_eq_getElem hlt]; rfl
      rw [hd] at he
      unfold wsum at he
      by_cases hs : T ≤ 2147483647
      · have hs' : decide ((T : Int) ≤ 2147483647) = true := by rw [decide_eq_true_eq]; omega
        rw [if_pos hs] at he
        obtain ⟨p, o, rfl, hpl, hc0⟩ := (unhide HP).at hlt
        have hxl := unhide HL k
        generalize l.getD k [] = x at *
        have H1 := hide (addsUp_any T x.length wr (by omega) hxl)
        have hb : add3 T x.length ≤ 4294967296 := by rcases add3_le T x.length with q | q <;> omega
        generalize add3 T x.length = T2 at *
        have HE := hide he
        clear he hd
        go_wp2_with fail
        refine (unhide H1).mono ?_
        rintro e w2 ⟨rfl, rfl⟩
        go_wp2
        go_round
        case measure => simp [Go.RowKit.intOf]; omega
        case rel => exact ⟨k + 1, T2, by omega, hb, by simp, rfl, unhide HE, by first | trivial | rfl⟩
      · have hs' : decide ((T : Int) ≤ 2147483647) = false := by rw [decide_eq_false_iff_not]; omega
        rw [if_neg hs] at he
        have HE := hide he
        clear he hd
        go_wp2
        go_ret
        exact ⟨ret_int (by rw [unhide HE]), rfl⟩
    · have hlt' : decide ((k : Int) < (l.length : Int)) = false := by rw [decide_eq_false_iff_not]; omega
      rw [List.drop_of_length_le (by omega)] at he
      have HE := hide (show T = R from he)
      clear he
      go_wp2
      go_ret
      exact ⟨ret_int (by rw [unhide HE]), rfl⟩
/-- How many bytes and items a node is. -/
def nwe (n : Nd) : Nat := add3 (add3 (wei n.keys) (wei n.vals)) n.kids.length
theorem nwe_sm {n : Nd} (h : nwe n ≤ 2147483647) : n.keys.length + tot n.keys ≤ 2147483647 ∧ n.vals.length + tot n.vals ≤ 2147483647 ∧ n.kids.length ≤ 2147483647 := by
  have h1 := add3_sm h
  have h2 : add3 (wei n.keys) (wei n.vals) ≤ 2147483647 := by omega
  have h3 := add3_sm h2
  exact ⟨wei_sm (by omega), wei_sm (by omega), by omega⟩
theorem nwe_le (n : Nd) : nwe n ≤ 4294967296 := by
  unfold nwe
  rcases add3_le (add3 (wei n.keys) (wei n.vals)) n.kids.length with q | q <;> omega
theorem nwe_nb {n : Nd} (h : nwe n ≤ 2147483647) : NB n := by
  have := nwe_sm h
  exact ⟨by omega, by omega, by omega, by omega, by omega⟩
theorem nodeWeighs_any (n : Nd) (ka va ia : Option Addr) (kc vc ic : Nat) (w : World) (h : NA n ka va ia w) (b1 : n.keys.length ≤ 9223372036854775807) (b2 : n.vals.length ≤ 9223372036854775807) (b3 : n.kids.length ≤ 9223372036854775807) (L1 : ∀ j, (n.keys.getD j []).length ≤ 9223372036854775807) (L2 : ∀ j, (n.vals.getD j []).length ≤ 9223372036854775807) :
    Calls Tryz.prog 11 #[nda n ka va ia kc vc ic] w fun e w' => e = .returned (I (nwe n)) ∧ Below w.heap.size w w' := by
  have hA := (Below.refl w.heap.size w).alloc (Nat.le_refl _) (.cells #[.bool n.leaf, .slice ka n.keys.length kc, .slice va n.vals.length vc, .slice ia n.kids.length ic] 25)
  have hn := h.below hA
  have H1 := hide (fun q => weighs_any ka _ kc n.keys ((w.alloc (.cells #[.bool n.leaf, .slice ka n.keys.length kc, .slice va n.vals.length vc, .slice ia n.kids.length ic] 25)).drewN q) hn.ks b1 L1)
  have H2 := hide (fun q => weighs_any va _ vc n.vals ((w.alloc (.cells #[.bool n.leaf, .slice ka n.keys.length kc, .slice va n.vals.length vc, .slice ia n.kids.length ic] 25)).drewN q) hn.vs b2 L2)
  have w1 := wei_le n.keys
  have w2 := wei_le n.vals
  have H3 := hide (fun W => addsUp_any (wei n.keys) (wei n.vals) W (by omega) (by omega))
  have w3 : add3 (wei n.keys) (wei n.vals) ≤ 4294967296 := by rcases add3_le (wei n.keys) (wei n.vals) with q | q <;> omega
  have H4 := hide (fun W => addsUp_any (add3 (wei n.keys) (wei n.vals)) n.kids.length W (by omega) b3)
  have HA := hide hA
  clear h hA hn
  unfold nda nwe
  generalize add3 (add3 (wei n.keys) (wei n.vals)) n.kids.length = R at *
  generalize add3 (wei n.keys) (wei n.vals) = Q at *
  generalize wei n.keys = wk at *
  generalize wei n.vals = wv at *
  generalize n.keys.length = kl at *
  generalize n.vals.length = vl at *
  generalize n.kids.length = il at *
  generalize n.leaf = lf at *
  clear L1 L2 n
  go_enter Tryz.func11, Tryz.ntmps11
  go_wp2
  go_quiet ((first | (go_at_call 42; with_reducible first | exact Calls.quiet_of_same (unhide H1 _) | exact Calls.quiet_of_same (unhide H2 _)) | (go_at_call 10; with_reducible first | exact Calls.quiet_of_same (unhide H3 _) | exact Calls.quiet_of_same (unhide H4 _))))
  go_wp2
  go_ret
  exact ⟨by first | rfl | simp, bel_q (unhide HA) _⟩
end Go.Proofs.YtllialbdofklgaaGreatDoor
namespace Go.Proofs.YtllialbdofklgaaGreatDoor
open Go.RowKit Go.Lib
def cellsS (l : List Bs) : Array Value := (l.map fun x => S x).toArray
/-- A block that holds texts and nothing else. -/
def Blk (g : Nat) (l : List Bs) (w : World) : Prop := w.heap[g]? = some (.cells (cellsS l) 9 (0, 0))
theorem cellsS_list (l : List Bs) : (cellsS l).toList = l.map fun x => S x := by simp [cellsS]
theorem cellsS_size (l : List Bs) : (cellsS l).size = l.length := by simp [cellsS]
theorem Blk.at {g : Nat} {l : List Bs} {w : World} (h : Blk g l w) (j : Nat) (hj : j < l.length) : w.cell? ⟨g, j, none⟩ = some (S (l.getD j [])) := by
  rw [cell_of_row w g j _ 9 (0, 0) h]
  simp [cellsS, hj]
theorem Blk.sts {g : Nat} {l : List Bs} {w : World} (h : Blk g l w) : Sts w (some ⟨g, 0, none⟩) l.length l := by
  refine ⟨rfl, fun _ => ⟨g, 0, rfl, fun j hj => ?_⟩⟩
  rw [Nat.zero_add]
  exact h.at j hj
theorem Blk.keep {g : Nat} {l : List Bs} {w w' : World} (h : Blk g l w) (k : Below w.heap.size w w') : Blk g l w' := by
  unfold Blk
  rw [k.block g (Array.getElem?_eq_some_iff.1 h).1]
  exact h
theorem Blk.lt {g : Nat} {l : List Bs} {w : World} (h : Blk g l w) : g < w.heap.size := (Array.getElem?_eq_some_iff.1 h).1
theorem Sts.take {w : World} {a : Option Addr} {n : Nat} {l : List Bs} (h : Sts w a n l) (m : Nat) (hm : m ≤ n) : Sts w a m (l.take m) := by
  refine ⟨by rw [List.length_take, ← h.1]; omega, fun h0 => ?_⟩
  obtain ⟨p, o, e, hc⟩ := h.2 (by omega)
  refine ⟨p, o, e, fun j hj => ?_⟩
  have e2 : (l.take m).getD j [] = l.getD j [] := by
    rw [List.getD_eq_getElem?_getD, List.getD_eq_getElem?_getD, List.getElem?_take, if_pos hj]
  rw [e2]
  exact hc j (by omega)
/-- make([]string, n). -/
theorem makeS {ops : Array Oper} {rest : List Oper} {o : Oper} {a : Act} {w : World} {Q : Exit → Act → World → Prop} (hgd : o.guard = none) (l c : Operand) (hop : o.op = Op.makeSlice 22 l c)
    (L C : Int) (n : Nat) (hl : a.eval l = .int .i64 L) (hc : a.eval c = .int .i64 C) (hL : L = (n : Int)) (hC : C = (n : Int)) (hn : n ≤ 1000000000000)
    (h : ∀ w', Blk w.heap.size (List.replicate n []) w' → Below w.heap.size w w' → wpList Tryz.prog ops Q rest (a.put o.dst (.slice (some ⟨w.heap.size, 0, none⟩) n n)) w') : wpList Tryz.prog ops Q (o :: rest) a w := by
  obtain ⟨i0, hi, hz0, hz1, hz2⟩ := info_parts info9
  refine wpList_make_full w hgd l c 22 hop w.heap.size 9 i0 _ 1 Tryz.underlying22 hi hz0 hz1 .i64 .i64 L C n hl hc hL hC (by rw [hz2]; omega) (by unfold maxLen; omega) (Nat.le_refl _) ?_
  intro w' ho hg
  refine h w' ?_ ((Below.refl _ _).grown hg (Nat.le_refl _) (fun k e => by cases e))
  rcases ho.2 with ⟨e, _⟩ | ⟨g, cap, cur, e, _, hgg, _, _, hsz, htk⟩
  · cases e
  · simp only [Value.slice.injEq, Option.some.injEq, Addr.mk.injEq, and_true] at e
    obtain ⟨rfl, rfl⟩ : w.heap.size = g ∧ n = cap := ⟨e.1, e.2.2⟩
    unfold Blk
    rw [hgg]
    have h1 : cur.toList = List.replicate n (S []) := by
      have h2 : cur.toList.take (n * 1) = cur.toList := List.take_of_length_le (by simp; omega)
      rw [← h2, htk, Nat.mul_one]
      exact made9 n
    have e3 : cellsS (List.replicate n []) = cur := by
      rw [← Array.toList_inj, cellsS_list, h1]
      simp
    rw [e3]
theorem run_copy1 (w : World) (ty : TypeId) (g dLen dCap : Nat) (a : Addr) (sLen sCap : Nat) (cur : Array Value) (cs : List Value) (m : Nat) (hm : m = Nat.min sLen dLen)
    (hg : w.heap[g]? = some (.cells cur 9 (0, 0))) (hn : cs.length = m)
    (hsrc : ∀ j v, cs[j]? = some v → w.cell? (a.add j) = some v) (hfit : cs.length ≤ cur.size) (h1 : ∀ v ∈ cs, v.oneCell' = true) :
    (Builtin.copy_ #[22, 22] ty #[.slice (some ⟨g, 0, none⟩) dLen dCap, .slice (some a) sLen sCap]).run Tryz.prog w =
      .ok (goInt m) (w.setRow g (cs ++ cur.toList.drop cs.length).toArray) := by
  have hl := run_loadCells_list (P := Tryz.prog) w a cs hsrc
  have hst := run_storeCells_at Tryz.prog g 0 9 cs 0 cur w hg (by simpa using hfit) h1
  obtain ⟨i0, hi, hz0, hz1, hz2⟩ := info_parts info9
  rw [hn] at hl
  simp only [Nat.zero_add, List.take_zero, List.nil_append] at hst
  simp [Builtin.copy_, run_underlying Tryz.underlying22, Builtin.lenOf, Builtin.firstCells, sizeOf, typeInfo, hi, hz1, ← hm, hl, hst]
/-- copy of texts into a block of one's own. -/
theorem copyS {ops : Array Oper} {rest : List Oper} {o : Oper} {a : Act} {w : World} {Q : Exit → Act → World → Prop} (hgd : o.guard = none) (d s : Operand)
    (ho : o.op = .call { callee := .builtin .copy, args := #[d, s], argTypes := #[22, 22] }) (g dn dcap : Nat) (sp : Option Addr) (sn scap : Nat) (hd : a.eval d = .slice (some ⟨g, 0, none⟩) dn dcap) (hs : a.eval s = .slice sp sn scap)
    (fs gs : List Bs) (hb : Blk g fs w) (hf : Sts w sp sn gs) (hnone : sp = none → scap = 0) (hdn : dn ≤ fs.length)
    (h : ∀ w', Blk g (gs.take (min sn dn) ++ fs.drop (min sn dn)) w' → Only (fun k => k = g) w w' → wpList Tryz.prog ops Q rest (a.put o.dst (goInt (min sn dn : Nat))) w') : wpList Tryz.prog ops Q (o :: rest) a w := by
  refine wpList_plain hgd fun K hK => ?_
  have key : ∃ w', (Builtin.copy_ #[22, 22] o.type #[.slice (some ⟨g, 0, none⟩) dn dcap, .slice sp sn scap]).run Tryz.prog w = .ok (goInt (min sn dn : Nat)) w' ∧ Blk g (gs.take (min sn dn) ++ fs.drop (min sn dn)) w' ∧ Only (fun k => k = g) w w' := by
    have h9 : ((Tryz.prog.info? 9).map (·.size)).isSome = true := by kernel_rfl
    cases sp with
    | none =>
      have hsn : sn = 0 := by
        rcases Nat.eq_zero_or_pos sn with h0 | h0
        · exact h0
        · obtain ⟨p, o, e, _⟩ := hf.2 h0
          cases e
      have hsc := hnone rfl
      subst hsn hsc
      refine ⟨w, ?_, ?_, Only.refl _ _⟩
      · rw [run_copy_nil (P := Tryz.prog) w 22 22 o.type 9 ⟨g, 0, none⟩ dn dcap Tryz.underlying22 h9]
        simp
      · simpa using hb
    | some ad =>
      obtain ⟨m, hm⟩ : ∃ m, m = min sn dn := ⟨_, rfl⟩
      rw [← hm]
      have hl : ((gs.take m).length) = m := by rw [List.length_take, ← hf.1]; omega
      have hcl : ((gs.take m).map fun x => S x).length = m := by rw [List.length_map, hl]
      have hrun := run_copy1 w o.type g dn dcap ad sn scap (cellsS fs) ((gs.take m).map fun x => S x) m hm hb hcl (by
        intro j v hv
        have hj : j < m := by have := (List.getElem?_eq_some_iff.1 hv).1; omega
        obtain ⟨p, o, e, hcells⟩ := hf.2 (by omega)
        cases e
        have hadd : (⟨p, o, none⟩ : Addr).add j = ⟨p, o + j, none⟩ := by unfold Addr.add; split <;> simp_all
        rw [hadd, hcells j (by omega), ← hv]
        have hjl : j < gs.length := by rw [← hf.1]; omega
        simp [hj, hjl]) (by rw [hcl, cellsS_size]; omega) (by intro v hv; obtain ⟨x, _, rfl⟩ := List.mem_map.1 hv; rfl)
      refine ⟨_, hrun, ?_, ⟨rfl, rfl, rfl, by simp [World.setRow], fun k _ hk => setRow_other w g k _ hk⟩⟩
      unfold Blk
      rw [setRow_heap w g _ _ 9 _ hb, hcl, cellsS_list]
      simp [cellsS, List.map_drop]
  obtain ⟨w', hrun, hb', hk⟩ := key
  unfold Oper.wp
  simp [execOp, ho, resolve, invoke, builtin, hd, hs, hrun, Result.andThen]
  exact hK _ _ (h w' hb' hk)
theorem Blk.set {g : Nat} {l : List Bs} {w : World} (h : Blk g l w) (k : Nat) (x : Bs) : Blk g (l.set k x) (w.setCell ⟨g, k, none⟩ (S x)) := by
  unfold Blk
  rw [heap_setCell_same w g k _ 9 _ h]
  have e : cellsS (l.set k x) = (cellsS l).setIfInBounds k (S x) := by
    rw [← Array.toList_inj, cellsS_list, Array.toList_setIfInBounds, cellsS_list, List.map_set]
  rw [e]
def spare : Bs := [115, 112, 97, 114, 101]
/-- How far the spare texts are laid. -/
def mid (l : List Bs) (j : Nat) : List Bs := l ++ (List.replicate j spare ++ List.replicate (4 - j) [])
theorem mid_len (l : List Bs) (j : Nat) (h : j ≤ 4) : (mid l j).length = l.length + 4 := by simp [mid]; omega
theorem mid_set (l : List Bs) (j : Nat) (h : j < 4) : (mid l j).set (l.length + j) spare = mid l (j + 1) := by
  have e : 4 - j = (4 - (j + 1)) + 1 := by omega
  unfold mid
  rw [List.set_append, if_neg (by omega), Nat.add_sub_cancel_left, List.set_append, if_neg (by simp)]
  simp only [List.length_replicate, Nat.sub_self]
  rw [e, List.replicate_succ, List.set_cons_zero, List.replicate_succ' (n := j), List.append_assoc]
  rfl
set_option maxHeartbeats 4000000 in
set_option maxRecDepth 8000 in
theorem lent_any (a : Option Addr) (n cap : Nat) (l : List Bs) (w : World) (hp : Sts w a n l) (hnone : a = none → cap = 0) (hn : n ≤ 100000000000) :
    Calls Tryz.prog 23 #[.slice a n cap] w fun e w' => e = .returned (.slice (some ⟨w.heap.size, 0, none⟩) (n + 4) (n + 4)) ∧ Blk w.heap.size (mid l 4) w' ∧ Below w.heap.size w w' := by
  have HN := hide hp.1
  have HP := hide hp
  have HO := hide hnone
  clear hp hnone
  go_enter Tryz.func23, Tryz.ntmps23
  go_wp2_with (first | (refine makeS rfl (.tmp 7) (.tmp 7) rfl _ _ (n + 4) (by rfl) (by rfl) (by omega) (by omega) (by omega) ?_; intro w1 hb1 k1; have HB1 := hide hb1; have HK1 := hide k1; clear hb1 k1) | (refine copyS rfl (.tmp 9) (.tmp 10) rfl w.heap.size (n + 4) (n + 4) a n cap (by rfl) (by rfl) (List.replicate (n + 4) []) l (unhide HB1) ((unhide HP).below (unhide HK1)) (unhide HO) (by simp) ?_; intro w2 hb2 k2; have HB2 := hide hb2; have HK2 := hide k2; clear hb2 k2))
  have hb3 : Blk w.heap.size (mid l 0) w2 := by
    have hb2 := unhide HB2
    have e1 : min n (n + 4) = n := by omega
    rw [e1, List.take_of_length_le (by have := unhide HN; omega), List.drop_replicate, show n + 4 - n = 4 by omega] at hb2
    exact hb2
  have HB3 := hide hb3
  have K3 := hide ((unhide HK2).below (unhide HK1) (unhide HK1).size (fun k e => by omega))
  clear HB1 HK1 HB2 HK2 hb3
  go_loopw [4] (fun i wq => ∃ j : Nat, j ≤ 4 ∧ i = .int .i64 ((n + j : Nat) : Int) ∧ Blk w.heap.size (mid l j) wq ∧ Below w.heap.size w wq) (fun i _ => n + 4 - (Go.RowKit.intOf i).toNat)
  case atStart => exact ⟨0, by omega, by simp, unhide HB3, unhide K3⟩
  case round =>
    obtain ⟨j, hj, rfl, hb, hbr⟩ := hrel
    clear HB3 K3
    obtain ⟨k, hk⟩ : ∃ k, k = n + j := ⟨_, rfl⟩
    rw [← hk]
    by_cases hlt : j < 4
    · have hc0 := hb.at k (by rw [mid_len l j hj, ← unhide HN]; omega)
      have hz := frz hb k
      have hset := hb.set k spare
      rw [hk, unhide HN, mid_set l j hlt, ← unhide HN, ← hk] at hset
      have HS := hide hset
      have HK := hide (hbr.setCell (p := ⟨w.heap.size, k, none⟩) (Nat.le_refl _) (S spare))
      have i1 : (k : Int) < (n : Int) + 4 := by omega
      generalize (mid l j).getD k [] = old at *
      clear hset hb
      have HKk := hide hk
      clear hk
      go_wp2
      have := unhide HKk
      refine ⟨⟨j + 1, by omega, ?_, unhide HS, unhide HK⟩, ?_⟩
      · congr 1; omega
      · simp [Go.RowKit.intOf]; omega
    · obtain rfl : j = 4 := by omega
      have hd2 : ¬ (k : Int) < (n : Int) + 4 := by omega
      have HB := hide hb
      clear hb hk
      go_wp2
      go_ret
      exact ⟨rfl, unhide HB, hbr⟩
theorem mid_at (l : List Bs) (k j : Nat) (hk : k = l.length + j) (hj : j < 4) : (mid l 4).getD k [] = spare := by
  rw [hk, List.getD_eq_getElem?_getD]
  unfold mid
  rw [List.getElem?_append_right (by omega), Nat.add_sub_cancel_left]
  rcases (by omega : j = 0 ∨ j = 1 ∨ j = 2 ∨ j = 3) with rfl | rfl | rfl | rfl <;> rfl
theorem Blk.part {g : Nat} {l : List Bs} {w : World} (h : Blk g (mid l 4) w) : Sts w (some ⟨g, 0, none⟩) l.length l := by
  have := h.sts.take l.length (by rw [mid_len l 4 (by omega)]; omega)
  have e : (mid l 4).take l.length = l := by unfold mid; rw [List.take_left']; rfl
  rw [e] at this
  exact this

end Go.Proofs.YtllialbdofklgaaGreatDoor
namespace Go.Proofs.YtllialbdofklgaaGreatDoor
open Go.RowKit
set_option maxHeartbeats 4000000
set_option maxRecDepth 8000
def cellsI (l : List Int) : Array Value := (l.map fun x => I x).toArray
/-- A block that holds numbers and nothing else. -/
def BlI (g : Nat) (l : List Int) (w : World) : Prop := w.heap[g]? = some (.cells (cellsI l) 3 (0, 0))
theorem cellsI_list (l : List Int) : (cellsI l).toList = l.map fun x => I x := by simp [cellsI]
theorem cellsI_size (l : List Int) : (cellsI l).size = l.length := by simp [cellsI]
theorem BlI.at {g : Nat} {l : List Int} {w : World} (h : BlI g l w) (j : Nat) (hj : j < l.length) : w.cell? ⟨g, j, none⟩ = some (I (l.getD j 0)) := by
  rw [cell_of_row w g j _ 3 (0, 0) h]
  simp [cellsI, hj]
theorem BlI.part {g : Nat} {l m : List Int} {w : World} (h : BlI g (l ++ m) w) : Ins w (some ⟨g, 0, none⟩) l.length l := by
  refine ⟨rfl, fun _ => ⟨g, 0, rfl, fun j hj => ?_⟩⟩
  rw [Nat.zero_add, h.at j (by simp; omega)]
  rw [List.getD_eq_getElem?_getD, List.getElem?_append_left hj, List.getD_eq_getElem?_getD]
theorem BlI.keep {g : Nat} {l : List Int} {w w' : World} (h : BlI g l w) (k : Below w.heap.size w w') : BlI g l w' := by
  unfold BlI
  rw [k.block g (Array.getElem?_eq_some_iff.1 h).1]
  exact h
theorem BlI.lt {g : Nat} {l : List Int} {w : World} (h : BlI g l w) : g < w.heap.size := (Array.getElem?_eq_some_iff.1 h).1
theorem made3i (m : Nat) : (madeCells #[I 0] m).toList = List.replicate m (I 0) := by
  unfold madeCells
  apply List.ext_getElem
  · simp
  · intro i h1 h2
    simp [Nat.mod_one]
theorem makeI {ops : Array Oper} {rest : List Oper} {o : Oper} {a : Act} {w : World} {Q : Exit → Act → World → Prop} (hgd : o.guard = none) (l c : Operand) (hop : o.op = Op.makeSlice 23 l c)
    (L C : Int) (n : Nat) (hl : a.eval l = .int .i64 L) (hc : a.eval c = .int .i64 C) (hL : L = (n : Int)) (hC : C = (n : Int)) (hn : 8 * n ≤ 281474976710656)
    (h : ∀ w', BlI w.heap.size (List.replicate n 0) w' → Below w.heap.size w w' → wpList Tryz.prog ops Q rest (a.put o.dst (.slice (some ⟨w.heap.size, 0, none⟩) n n)) w') : wpList Tryz.prog ops Q (o :: rest) a w := by
  obtain ⟨i0, hi, hz0, hz1, hz2⟩ := info_parts info3
  refine wpList_make_full w hgd l c 23 hop w.heap.size 3 i0 _ 1 Tryz.underlying23 hi hz0 hz1 .i64 .i64 L C n hl hc hL hC (by rw [hz2]; omega) (by unfold maxLen; omega) (Nat.le_refl _) ?_
  intro w' ho hg
  refine h w' ?_ ((Below.refl _ _).grown hg (Nat.le_refl _) (fun k e => by cases e))
  rcases ho.2 with ⟨e, _⟩ | ⟨g, cap, cur, e, _, hgg, _, _, hsz, htk⟩
  · cases e
  · simp only [Value.slice.injEq, Option.some.injEq, Addr.mk.injEq, and_true] at e
    obtain ⟨rfl, rfl⟩ : w.heap.size = g ∧ n = cap := ⟨e.1, e.2.2⟩
    unfold BlI
    rw [hgg]
    have h1 : cur.toList = List.replicate n (I 0) := by
      have h2 : cur.toList.take (n * 1) = cur.toList := List.take_of_length_le (by simp; omega)
      rw [← h2, htk, Nat.mul_one]
      exact made3i n
    have e3 : cellsI (List.replicate n 0) = cur := by
      rw [← Array.toList_inj, cellsI_list, h1]
      simp
    rw [e3]
theorem run_copy1i (w : World) (ty : TypeId) (g dLen dCap : Nat) (a : Addr) (sLen sCap : Nat) (cur : Array Value) (cs : List Value) (m : Nat) (hm : m = Nat.min sLen dLen)
    (hg : w.heap[g]? = some (.cells cur 3 (0, 0))) (hn : cs.length = m)
    (hsrc : ∀ j v, cs[j]? = some v → w.cell? (a.add j) = some v) (hfit : cs.length ≤ cur.size) (h1 : ∀ v ∈ cs, v.oneCell' = true) :
    (Builtin.copy_ #[23, 23] ty #[.slice (some ⟨g, 0, none⟩) dLen dCap, .slice (some a) sLen sCap]).run Tryz.prog w =
      .ok (goInt m) (w.setRow g (cs ++ cur.toList.drop cs.length).toArray) := by
  have hl := run_loadCells_list (P := Tryz.prog) w a cs hsrc
  have hst := run_storeCells_at Tryz.prog g 0 3 cs 0 cur w hg (by simpa using hfit) h1
  obtain ⟨i0, hi, hz0, hz1, hz2⟩ := info_parts info3
  rw [hn] at hl
  simp only [Nat.zero_add, List.take_zero, List.nil_append] at hst
  simp [Builtin.copy_, run_underlying Tryz.underlying23, Builtin.lenOf, Builtin.firstCells, sizeOf, typeInfo, hi, hz1, ← hm, hl, hst]
/-- copy of numbers into a block of one's own. -/
theorem copyI {ops : Array Oper} {rest : List Oper} {o : Oper} {a : Act} {w : World} {Q : Exit → Act → World → Prop} (hgd : o.guard = none) (d s : Operand)
    (ho : o.op = .call { callee := .builtin .copy, args := #[d, s], argTypes := #[23, 23] }) (g dn dcap : Nat) (sp : Option Addr) (sn scap : Nat) (hd : a.eval d = .slice (some ⟨g, 0, none⟩) dn dcap) (hs : a.eval s = .slice sp sn scap)
    (fs gs : List Int) (hb : BlI g fs w) (hf : Ins w sp sn gs) (hnone : sp = none → scap = 0) (hdn : dn ≤ fs.length)
    (h : ∀ w', BlI g (gs.take (min sn dn) ++ fs.drop (min sn dn)) w' → Only (fun k => k = g) w w' → wpList Tryz.prog ops Q rest (a.put o.dst (goInt (min sn dn : Nat))) w') : wpList Tryz.prog ops Q (o :: rest) a w := by
  refine wpList_plain hgd fun K hK => ?_
  have key : ∃ w', (Builtin.copy_ #[23, 23] o.type #[.slice (some ⟨g, 0, none⟩) dn dcap, .slice sp sn scap]).run Tryz.prog w = .ok (goInt (min sn dn : Nat)) w' ∧ BlI g (gs.take (min sn dn) ++ fs.drop (min sn dn)) w' ∧ Only (fun k => k = g) w w' := by
    have h9 : ((Tryz.prog.info? 3).map (·.size)).isSome = true := by kernel_rfl
    cases sp with
    | none =>
      have hsn : sn = 0 := by
        rcases Nat.eq_zero_or_pos sn with h0 | h0
        · exact h0
        · obtain ⟨p, o, e, _⟩ := hf.2 h0
          cases e
      have hsc := hnone rfl
      subst hsn hsc
      refine ⟨w, ?_, ?_, Only.refl _ _⟩
      · rw [run_copy_nil (P := Tryz.prog) w 23 23 o.type 3 ⟨g, 0, none⟩ dn dcap Tryz.underlying23 h9]
        simp
      · simpa using hb
    | some ad =>
      obtain ⟨m, hm⟩ : ∃ m, m = min sn dn := ⟨_, rfl⟩
      rw [← hm]
      have hl : ((gs.take m).length) = m := by rw [List.length_take, ← hf.1]; omega
      have hcl : ((gs.take m).map fun x => I x).length = m := by rw [List.length_map, hl]
      have hrun := run_copy1i w o.type g dn dcap ad sn scap (cellsI fs) ((gs.take m).map fun x => I x) m hm hb hcl (by
        intro j v hv
        have hj : j < m := by have := (List.getElem?_eq_some_iff.1 hv).1; omega
        obtain ⟨p, o, e, hcells⟩ := hf.2 (by omega)
        cases e
        have hadd : (⟨p, o, none⟩ : Addr).add j = ⟨p, o + j, none⟩ := by unfold Addr.add; split <;> simp_all
        rw [hadd, hcells j (by omega), ← hv]
        have hjl : j < gs.length := by rw [← hf.1]; omega
        simp [hj, hjl]) (by rw [hcl, cellsI_size]; omega) (by intro v hv; obtain ⟨x, _, rfl⟩ := List.mem_map.1 hv; rfl)
      refine ⟨_, hrun, ?_, ⟨rfl, rfl, rfl, by simp [World.setRow], fun k _ hk => setRow_other w g k _ hk⟩⟩
      unfold BlI
      rw [setRow_heap w g _ _ 3 _ hb, hcl, cellsI_list]
      simp [cellsI, List.map_drop]
  obtain ⟨w', hrun, hb', hk⟩ := key
  unfold Oper.wp
  simp [execOp, ho, resolve, invoke, builtin, hd, hs, hrun, Result.andThen]
  exact hK _ _ (h w' hb' hk)
theorem BlI.set {g : Nat} {l : List Int} {w : World} (h : BlI g l w) (k : Nat) (x : Int) : BlI g (l.set k x) (w.setCell ⟨g, k, none⟩ (I x)) := by
  unfold BlI
  rw [heap_setCell_same w g k _ 3 _ h]
  have e : cellsI (l.set k x) = (cellsI l).setIfInBounds k (I x) := by
    rw [← Array.toList_inj, cellsI_list, Array.toList_setIfInBounds, cellsI_list, List.map_set]
  rw [e]
/-- What a lent list ends with, k of its eight cells laid. -/
def sp4 (k : Nat) : List Int := List.replicate k (-77) ++ List.replicate (4 - k) 0
theorem sp4_set (l : List Int) (k : Nat) (hk : k < 4) : (l ++ sp4 k).set (l.length + k) (-77) = l ++ sp4 (k + 1) := by
  rw [List.set_append_right _ _ (by omega), Nat.add_sub_cancel_left]
  congr 1
  unfold sp4
  rw [List.set_append_right _ _ (by simp), List.length_replicate, Nat.sub_self, show 4 - k = (4 - (k + 1)) + 1 by omega, List.replicate_succ, List.set_cons_zero, List.replicate_succ', List.append_assoc]
  rfl
theorem sp4_len (k : Nat) (hk : k ≤ 4) : (sp4 k).length = 4 := by unfold sp4; rw [List.length_append, List.length_replicate, List.length_replicate]; omega
theorem lentI_any (a : Option Addr) (n cap : Nat) (l : List Int) (w : World) (hp : Ins w a n l) (hnone : a = none → cap = 0) (hn : n ≤ 1000000000000) :
    Calls Tryz.prog 19 #[.slice a n cap] w fun e w' => e = .returned (.slice (some ⟨w.heap.size, 0, none⟩) (n + 4) (n + 4)) ∧ BlI w.heap.size (l ++ List.replicate 4 (-77)) w' ∧ Below w.heap.size w w' := by
  have HN := hide hp.1
  have HP := hide hp
  have HO := hide hnone
  clear hp hnone
  go_enter Tryz.func19, Tryz.ntmps19
  go_wp2_with (first
    | (refine makeI rfl (.tmp 7) (.tmp 7) rfl _ _ (n + 4) (by rfl) (by rfl) (by omega) (by omega) (by omega) ?_; intro w1 hb1 k1; have HB1 := hide hb1; have HK1 := hide k1; clear hb1 k1)
    | (refine copyI rfl (.tmp 9) (.tmp 10) rfl w.heap.size (n + 4) (n + 4) a n cap (by rfl) (by rfl) _ l (unhide HB1) ((unhide HP).below (unhide HK1)) (unhide HO) (by simp) ?_; intro w2 hb2 o2; have HB2 := hide hb2; have HO2 := hide o2; clear hb2 o2))
  have HB3 : Hid (BlI w.heap.size (l ++ sp4 0) w2) := hide (by
    have := unhide HB2
    rw [Nat.min_eq_left (by omega), List.take_of_length_le (by have := unhide HN; omega), List.drop_replicate, show n + 4 - n = 4 by omega] at this
    exact this)
  have HK2 : Hid (Below w.heap.size w w2) := hide ((unhide HO2).below (unhide HK1) (unhide HK1).size (fun i e => by omega))
  clear HB1 HB2 HK1 HO2
  go_loopw [4] (fun i wr => ∃ k : Nat, k ≤ 4 ∧ i = .int .i64 ((n + k : Nat) : Int) ∧ Hid (BlI w.heap.size (l ++ sp4 k) wr) ∧ Hid (Below w.heap.size w wr)) (fun i _ => n + 4 - (Go.RowKit.intOf i).toNat)
  case atStart => exact ⟨0, by omega, by simp, HB3, HK2⟩
  case round =>
    clear HB3 HK2
    obtain ⟨k, hk, rfl, HB, HK⟩ := hrel
    by_cases hlt : k < 4
    · have hlt' : ((n + k : Nat) : Int) < ((n + 4 : Nat) : Int) := by omega
      have hs := (unhide HB).set (n + k) (-77)
      rw [unhide HN, sp4_set l k hlt, ← unhide HN] at hs
      have hc := (unhide HB).at (n + k) (by rw [List.length_append, sp4_len k (by omega), ← unhide HN]; omega)
      have hf := frz (unhide HB) (n + k)
      have hz := (unhide HB).lt
      have HS := hide hs
      have HK2 := hide ((unhide HK).setCell (p := ⟨w.heap.size, n + k, none⟩) (Nat.le_refl _) (I (-77)))
      clear hs HB HK
      generalize List.getD (l ++ sp4 k) (n + k) 0 = x at *
      go_wp2
      go_round
      case measure => simp [Go.RowKit.intOf]; omega
      case rel => exact ⟨k + 1, by omega, by simp; omega, HS, HK2⟩
    · obtain rfl : k = 4 := by omega
      have hlt' : ¬ ((n + 4 : Nat) : Int) < ((n + 4 : Nat) : Int) := by omega
      go_wp2
      go_ret
      exact ⟨rfl, unhide HB, unhide HK⟩
end Go.Proofs.YtllialbdofklgaaGreatDoor
