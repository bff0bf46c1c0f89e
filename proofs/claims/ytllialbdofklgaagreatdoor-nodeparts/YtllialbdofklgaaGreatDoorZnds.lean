import Derived.Test.YtllialbdofklgaaGreatDoorZndn
import Derived.Test.YtllialbdofklgaaGreatDoorZndg
import Derived.Test.YtllialbdofklgaaGreatDoorZndb
import Derived.BigQuiet
import Derived.Deep.QuietTactic
namespace Go.Proofs.YtllialbdofklgaaGreatDoor
open Go.RowKit
set_option maxHeartbeats 16000000
set_option maxRecDepth 8000
def n0 : Nd := ⟨true, [[97], [98, 99]], [[49], []], []⟩
def x0 : Bs := [2, 1, 97, 1, 49, 2, 98, 99, 0]
def na : Nd := ⟨true, [[97]], [[49]], []⟩
def nb : Nd := ⟨true, [[98]], [[50]], []⟩
def ni : Nd := ⟨false, [[109]], [], [5, 9]⟩
theorem a1 : wrl n0 = 0 := by decide
theorem a2 : bdy n0 = x0 := by decide
theorem a3 : gE x0 = 0 := by decide
theorem a4 : gK x0 = n0.keys := by decide
theorem a5 : gV x0 = n0.vals := by decide
theorem a6 : fnd n0 [98, 99] = (1, true) := by decide
theorem a7 : fnd ni [109] = (1, false) := by decide
theorem a8 : n0.siz = 8 := by decide
theorem a9 : btw [97, 112, 112, 108, 101] [112, 101, 97, 114] = [112] := by decide
theorem a10 : hfl n0 = true := by decide
theorem a11 : kok n0.keys = true := by decide
theorem a12 : (gF (gN x0) (rs 1 (x0, 0))).2.2.2 = 0 := by decide
theorem nbs0 : NB n0 := ⟨by decide, by decide, by decide, by decide, by decide⟩
theorem nbsa : NB na := ⟨by decide, by decide, by decide, by decide, by decide⟩
theorem nbsb : NB nb := ⟨by decide, by decide, by decide, by decide, by decide⟩
theorem nbsi : NB ni := ⟨by decide, by decide, by decide, by decide, by decide⟩
theorem nbsj : NB (jnd na nb) := ⟨by decide, by decide, by decide, by decide, by decide⟩
theorem sts1 {w : World} {g : Nat} {x : Bs} (h : w.heap[g]? = some (.cells #[S x] 9 (0, 0))) : Sts w (some ⟨g, 0, none⟩) 1 [x] :=
  ⟨rfl, fun _ => ⟨g, 0, rfl, fun j hj => by
    obtain rfl : j = 0 := by omega
    rw [cell_of_row w g (0 + 0) _ 9 (0, 0) h]; rfl⟩⟩
theorem sts2 {w : World} {g : Nat} {x y : Bs} (h : w.heap[g]? = some (.cells #[S x, S y] 9 (0, 0))) : Sts w (some ⟨g, 0, none⟩) 2 [x, y] :=
  ⟨rfl, fun _ => ⟨g, 0, rfl, fun j hj => by
    match j, hj with
    | 0, _ => rw [cell_of_row w g (0 + 0) _ 9 (0, 0) h]; rfl
    | 1, _ => rw [cell_of_row w g (0 + 1) _ 9 (0, 0) h]; rfl⟩⟩
theorem ins2 {w : World} {g : Nat} {x y : Int} (h : w.heap[g]? = some (.cells #[I x, I y] 3 (0, 0))) : Ins w (some ⟨g, 0, none⟩) 2 [x, y] :=
  ⟨rfl, fun _ => ⟨g, 0, rfl, fun j hj => by
    match j, hj with
    | 0, _ => rw [cell_of_row w g (0 + 0) _ 3 (0, 0) h]; rfl
    | 1, _ => rw [cell_of_row w g (0 + 1) _ 3 (0, 0) h]; rfl⟩⟩
theorem sts0 (w : World) : Sts w none 0 [] := ⟨rfl, fun h => absurd h (by decide)⟩
theorem done0 (b g off cap : Nat) (W : World) (hr : RAt b g off cap (gF (gN x0) (rs 1 (x0, 0))).2.2.1 (gF (gN x0) (rs 1 (x0, 0))).2.2.2 W) :
    Calls Tryz.prog 95 #[ptr b] W fun e w' => e = .returned (I (gE x0)) ∧ Below W.heap.size W w' := by
  have e : gE x0 = rDone (gF (gN x0) (rs 1 (x0, 0))).2.2.1 0 := by unfold gE; rw [a12]
  rw [e]
  rw [a12] at hr
  exact rdone_ok b g off cap _ W hr
theorem awake_any (w : World) : Calls Tryz.prog 13 #[] w fun e w' => e = .returned (.bool true) ∧ Below w.heap.size w w' := by
  -- the first node's lists
  have B1 := (Below.refl w.heap.size w).alloc (Nat.le_refl _) (.cells #[S [97], S [98, 99]] 9)
  have k1 := heap_alloc_new w (.cells #[S [97], S [98, 99]] 9)
  have s1 := size_alloc w (.cells #[S [97], S [98, 99]] 9)
  generalize hW1 : w.alloc (.cells #[S [97], S [98, 99]] 9) = W1 at B1 k1 s1
  have B2 := B1.alloc B1.size (.cells #[S [49], S []] 9)
  have k2 := (heap_alloc_old W1 (.cells #[S [49], S []] 9) (lt_of_row k1)).trans k1
  have v2 := heap_alloc_new W1 (.cells #[S [49], S []] 9)
  have s2 := size_alloc W1 (.cells #[S [49], S []] 9)
  generalize hW2 : W1.alloc (.cells #[S [49], S []] 9) = W2 at B2 k2 v2 s2
  have hq := heap_alloc_new W2 (.cells #[.bool false, .slice none 0 0, .slice none 0 0, .slice none 0 0] 25)
  have hb3 := (Below.refl W2.heap.size W2).alloc (Nat.le_refl _) (.cells #[.bool false, .slice none 0 0, .slice none 0 0, .slice none 0 0] 25)
  have ht := setRow_heap _ _ _ #[.bool true, .slice (some ⟨w.heap.size, 0, none⟩) 2 2, .slice (some ⟨W1.heap.size, 0, none⟩) 2 2, .slice none 0 0] 25 _ hq
  have hb4 := (setRow_only (W2.alloc (.cells #[.bool false, .slice none 0 0, .slice none 0 0, .slice none 0 0] 25)) W2.heap.size #[.bool true, .slice (some ⟨w.heap.size, 0, none⟩) 2 2, .slice (some ⟨W1.heap.size, 0, none⟩) 2 2, .slice none 0 0]).below hb3 hb3.size (fun k e => by omega)
  generalize hW3 : (W2.alloc (.cells #[.bool false, .slice none 0 0, .slice none 0 0, .slice none 0 0] 25)).setRow W2.heap.size #[.bool true, .slice (some ⟨w.heap.size, 0, none⟩) 2 2, .slice (some ⟨W1.heap.size, 0, none⟩) 2 2, .slice none 0 0] = W3 at ht hb4
  have HQ := hide hq
  have HW3 := hide hW3
  have NA0 := hide (fun (W : World) (q : Below W3.heap.size W3 W) => show NA n0 (some ⟨w.heap.size, 0, none⟩) (some ⟨W1.heap.size, 0, none⟩) none W from
    ⟨((sts2 k2).below hb4).below q, ((sts2 v2).below hb4).below q, Ins.nil _ _⟩)
  have HT := hide ht
  have B3 := hide (B2.trans (hb4.mono B2.size))
  have l3 := lt_of_row ht
  have hnd : nda n0 (some ⟨w.heap.size, 0, none⟩) (some ⟨W1.heap.size, 0, none⟩) none 2 2 0 = .agg #[.bool true, .slice (some ⟨w.heap.size, 0, none⟩) 2 2, .slice (some ⟨W1.heap.size, 0, none⟩) 2 2, .slice none 0 0] := rfl
  have X1 := hide (page_leaf n0 _ _ none 2 2 0 W3 (unhide NA0 _ (Below.refl _ _)) nbs0 rfl)
  unfold pgk pgb at X1
  rw [a1, a2, if_pos rfl, if_pos rfl, hnd] at X1
  obtain ⟨c0, c1, c2, c3⟩ := box4 ht (Below.refl _ _) l3
  clear B1 k1 s1 B2 k2 v2 s2 hq hb3 ht hb4 hW3
  go_enter Tryz.func13, Tryz.ntmps13
  go_wp2_with (first | (refine wp_st25 rfl (.tmp 1) (.tmp 19) rfl W2.heap.size (by rfl) true (some ⟨w.heap.size, 0, none⟩) (some ⟨W1.heap.size, 0, none⟩) none 2 2 2 2 0 0 (by rfl) _ rfl (unhide HQ) ?_; rw [unhide HW3]) | fail)
  refine (unhide X1).mono ?_
  rintro e w4 ⟨rfl, b4⟩
  clear c0 c1 c2 c3 hW1 hW2 HQ HW3 X1
  have hq := heap_alloc_new w4 (.cells #[I 0, I 0, I 0, .slice none 0 0, S []] 27)
  have hb3 := (Below.refl w4.heap.size w4).alloc (Nat.le_refl _) (.cells #[I 0, I 0, I 0, .slice none 0 0, S []] 27)
  have ht := setRow_heap _ _ _ #[I 1, I 0, I 0, .slice none 0 0, S x0] 27 _ hq
  have hb4 := (setRow_only (w4.alloc (.cells #[I 0, I 0, I 0, .slice none 0 0, S []] 27)) w4.heap.size #[I 1, I 0, I 0, .slice none 0 0, S x0]).below hb3 hb3.size (fun k e => by omega)
  generalize hW5 : (w4.alloc (.cells #[I 0, I 0, I 0, .slice none 0 0, S []] 27)).setRow w4.heap.size #[I 1, I 0, I 0, .slice none 0 0, S x0] = W5 at ht hb4
  have HW5 := hide hW5
  have HQ := hide hq
  have HT5 := hide ht
  have B35 := hide (b4.trans (hb4.mono b4.size))
  have l5 := lt_of_row ht
  have X2 := hide (parse_leaf 0 0 none 0 x0 W5 (by decide) a3 (by rw [a4, a5]; exact a1) (fun b g off cap W _ hr => done0 b g off cap W hr))
  rw [a4, a5] at X2
  obtain ⟨c0, c1, c2, c3, c4⟩ := box5 ht (Below.refl _ _) l5
  clear hq hb3 ht hb4 hW5 b4
  go_wp2_with (first | (refine wp_st27 rfl (.tmp 2) (.tmp 23) rfl w4.heap.size (by rfl) 1 0 0 none 0 0 x0 (by rfl) _ rfl (unhide HQ) ?_; rw [unhide HW5]) | fail)
  refine (unhide X2).mono ?_
  rintro e w6 ⟨vK, vV, rfl, rK, rV, oK, oV, ne, b6⟩
  clear c0 c1 c2 c3 c4 HW5 HQ X2
  obtain ⟨pK, cK, rfl⟩ := owns_form rK
  obtain ⟨pV, cV, rfl⟩ := owns_form rV
  have hq := heap_alloc_new w6 (.cells #[.bool false, .slice none 0 0, .slice none 0 0, .slice none 0 0] 25)
  have hb3 := (Below.refl w6.heap.size w6).alloc (Nat.le_refl _) (.cells #[.bool false, .slice none 0 0, .slice none 0 0, .slice none 0 0] 25)
  have ht := setRow_heap _ _ _ #[.bool true, .slice pK 2 cK, .slice pV 2 cV, .slice none 0 0] 25 _ hq
  have hb4 := (setRow_only (w6.alloc (.cells #[.bool false, .slice none 0 0, .slice none 0 0, .slice none 0 0] 25)) w6.heap.size #[.bool true, .slice pK 2 cK, .slice pV 2 cV, .slice none 0 0]).below hb3 hb3.size (fun k e => by omega)
  generalize hW7 : (w6.alloc (.cells #[.bool false, .slice none 0 0, .slice none 0 0, .slice none 0 0] 25)).setRow w6.heap.size #[.bool true, .slice pK 2 cK, .slice pV 2 cV, .slice none 0 0] = W7 at ht hb4
  have HW7 := hide hW7
  have HQ := hide hq
  have HT7 := hide ht
  have B57 := hide (b6.trans (hb4.mono b6.size))
  have B37 := hide ((unhide B35).trans ((unhide B57).mono (unhide B35).size))
  have l7 := lt_of_row ht
  have NA7 := hide (fun (W : World) (q : Below W7.heap.size W7 W) => show NA n0 pK pV none W from by
    obtain ⟨p, c, e1, s1, _⟩ := Sts.of (owns_below (owns_below rK hb4) q)
    obtain ⟨p', c', e2, s2, _⟩ := Sts.of (owns_below (owns_below rV hb4) q)
    cases e1
    cases e2
    exact ⟨s1, s2, Ins.nil _ _⟩)
  have X3 := hide (find_any n0 _ _ none 2 2 0 [98, 99] W7 (unhide NA0 _ (unhide B37)) nbs0)
  rw [a6, hnd] at X3
  have t3 : Hid (W3.heap.size ≤ W7.heap.size) := (unhide B37).size
  obtain ⟨c0, c1, c2, c3⟩ := box4 (unhide HT) (unhide B37) l3
  have l3' := Nat.lt_of_lt_of_le l3 (unhide B37).size
  clear hq hb3 ht hb4 hW7 rK rV oK oV ne b6
  go_wp2_with (first | (refine wp_st25 rfl (.tmp 4) (.tmp 28) rfl w6.heap.size (by rfl) true pK pV none 2 cK 2 cV 0 0 (by rfl) _ rfl (unhide HQ) ?_; rw [unhide HW7]) | fail)
  refine (unhide X3).mono ?_
  rintro e w8 ⟨rfl, b8⟩
  clear c0 c1 c2 c3 HW7 HQ X3 l3'
  -- the inner node
  have A1 := b8.alloc b8.size (.cells #[S [109]] 9)
  have k1 := heap_alloc_new w8 (.cells #[S [109]] 9)
  generalize hW9 : w8.alloc (.cells #[S [109]] 9) = W9 at A1 k1
  have A2 := A1.alloc A1.size (.cells #[I 5, I 9] 3)
  have k2 := (heap_alloc_old W9 (.cells #[I 5, I 9] 3) (lt_of_row k1)).trans k1
  have i2 := heap_alloc_new W9 (.cells #[I 5, I 9] 3)
  generalize hW10 : W9.alloc (.cells #[I 5, I 9] 3) = W10 at A2 k2 i2
  have X4 := hide (find_any ni (some ⟨w8.heap.size, 0, none⟩) none (some ⟨W9.heap.size, 0, none⟩) 1 0 2 [109] W10 ⟨sts1 k2, sts0 _, ins2 i2⟩ nbsi)
  rw [a7] at X4
  have hndi : nda ni (some ⟨w8.heap.size, 0, none⟩) none (some ⟨W9.heap.size, 0, none⟩) 1 0 2 = .agg #[.bool false, .slice (some ⟨w8.heap.size, 0, none⟩) 1 1, .slice none 0 0, .slice (some ⟨W9.heap.size, 0, none⟩) 2 2] := rfl
  rw [hndi] at X4
  have B710 := hide A2
  clear A1 k1 A2 k2 i2 b8 hndi
  go_wp2_with fail
  refine (unhide X4).mono ?_
  rintro e w11 ⟨rfl, b11⟩
  clear hW9 hW10 X4
  have B711 := hide ((unhide B710).trans (b11.mono (unhide B710).size))
  have B311 := hide ((unhide B37).trans ((unhide B711).mono (unhide B37).size))
  have X5 := hide (nodes_any n0 n0 pK pV none _ _ none cK cV 0 2 2 0 w11 (unhide NA7 _ (unhide B711)) (unhide NA0 _ (unhide B311)) nbs0 nbs0)
  rw [hnd, show sam n0 n0 = true by decide] at X5
  have hnd7 : nda n0 pK pV none cK cV 0 = .agg #[.bool true, .slice pK 2 cK, .slice pV 2 cV, .slice none 0 0] := rfl
  rw [hnd7] at X5
  obtain ⟨c0, c1, c2, c3⟩ := box4 (unhide HT) (unhide B311) l3
  obtain ⟨d0, d1, d2, d3⟩ := box4 (unhide HT7) (unhide B711) l7
  have l3' := Nat.lt_of_lt_of_le l3 (unhide B311).size
  have l7' := Nat.lt_of_lt_of_le l7 (unhide B711).size
  clear b11 hnd7
  go_wp2_with fail
  refine (unhide X5).mono ?_
  rintro e w12 ⟨rfl, b12⟩
  clear c0 c1 c2 c3 d0 d1 d2 d3 l3' l7' X5
  have B712 := hide ((unhide B711).trans (b12.mono (unhide B711).size))
  -- Join
  have A1 := (unhide B712).alloc (unhide B712).size (.cells #[S [97]] 9)
  have k1 := heap_alloc_new w12 (.cells #[S [97]] 9)
  generalize hV1 : w12.alloc (.cells #[S [97]] 9) = V1 at A1 k1
  have A2 := A1.alloc A1.size (.cells #[S [49]] 9)
  have k2 := (heap_alloc_old V1 (.cells #[S [49]] 9) (lt_of_row k1)).trans k1
  have m2 := heap_alloc_new V1 (.cells #[S [49]] 9)
  generalize hV2 : V1.alloc (.cells #[S [49]] 9) = V2 at A2 k2 m2
  have A3 := A2.alloc A2.size (.cells #[S [98]] 9)
  have k3 := (heap_alloc_old V2 (.cells #[S [98]] 9) (lt_of_row k2)).trans k2
  have m3 := (heap_alloc_old V2 (.cells #[S [98]] 9) (lt_of_row m2)).trans m2
  have n3 := heap_alloc_new V2 (.cells #[S [98]] 9)
  generalize hV3 : V2.alloc (.cells #[S [98]] 9) = V3 at A3 k3 m3 n3
  have A4 := A3.alloc A3.size (.cells #[S [50]] 9)
  have k4 := (heap_alloc_old V3 (.cells #[S [50]] 9) (lt_of_row k3)).trans k3
  have m4 := (heap_alloc_old V3 (.cells #[S [50]] 9) (lt_of_row m3)).trans m3
  have n4 := (heap_alloc_old V3 (.cells #[S [50]] 9) (lt_of_row n3)).trans n3
  have o4 := heap_alloc_new V3 (.cells #[S [50]] 9)
  generalize hV4 : V3.alloc (.cells #[S [50]] 9) = V4 at A4 k4 m4 n4 o4
  have X6 := hide (join_leaf na nb (some ⟨w12.heap.size, 0, none⟩) (some ⟨V1.heap.size, 0, none⟩) (some ⟨V2.heap.size, 0, none⟩) (some ⟨V3.heap.size, 0, none⟩) 1 1 1 1 [98] V4 ⟨sts1 k4, sts1 m4, Ins.nil _ _⟩ ⟨sts1 n4, sts1 o4, Ins.nil _ _⟩ nbsa nbsb nbsj rfl rfl rfl rfl (by decide) (by decide) (by decide) (by decide) (by decide) (by decide) (by decide) (by decide) (by decide) (by decide) (by decide) (by decide) (by decide) (by decide) (by decide) (by decide) (by decide) (by decide) (by decide))
  have e1 : nda na (some ⟨w12.heap.size, 0, none⟩) (some ⟨V1.heap.size, 0, none⟩) none 1 1 0 = .agg #[.bool true, .slice (some ⟨w12.heap.size, 0, none⟩) 1 1, .slice (some ⟨V1.heap.size, 0, none⟩) 1 1, .slice none 0 0] := rfl
  have e2 : nda nb (some ⟨V2.heap.size, 0, none⟩) (some ⟨V3.heap.size, 0, none⟩) none 1 1 0 = .agg #[.bool true, .slice (some ⟨V2.heap.size, 0, none⟩) 1 1, .slice (some ⟨V3.heap.size, 0, none⟩) 1 1, .slice none 0 0] := rfl
  rw [e1, e2] at X6
  have B7V := hide A4
  clear A1 k1 A2 k2 m2 A3 k3 m3 n3 A4 k4 m4 n4 o4 e1 e2 b12
  go_wp2_with fail
  refine (unhide X6).mono ?_
  rintro e w13 ⟨vK, vV, rfl, rK, rV, oK, oV, b13⟩
  clear hV1 hV2 hV3 hV4 X6
  obtain ⟨qK, dK, rfl⟩ := owns_form rK
  obtain ⟨qV, dV, rfl⟩ := owns_form rV
  have B713 := hide ((unhide B7V).trans (b13.mono (unhide B7V).size))
  have hq := heap_alloc_new w13 (.cells #[.bool false, .slice none 0 0, .slice none 0 0, .slice none 0 0] 25)
  have hb3 := (Below.refl w13.heap.size w13).alloc (Nat.le_refl _) (.cells #[.bool false, .slice none 0 0, .slice none 0 0, .slice none 0 0] 25)
  have ht := setRow_heap _ _ _ #[.bool true, .slice qK 2 dK, .slice qV 2 dV, .slice none 0 0] 25 _ hq
  have hb4 := (setRow_only (w13.alloc (.cells #[.bool false, .slice none 0 0, .slice none 0 0, .slice none 0 0] 25)) w13.heap.size #[.bool true, .slice qK 2 dK, .slice qV 2 dV, .slice none 0 0]).below hb3 hb3.size (fun k e => by omega)
  generalize hW14 : (w13.alloc (.cells #[.bool false, .slice none 0 0, .slice none 0 0, .slice none 0 0] 25)).setRow w13.heap.size #[.bool true, .slice qK 2 dK, .slice qV 2 dV, .slice none 0 0] = W14 at ht hb4
  have HW14 := hide hW14
  have HQ := hide hq
  have HT14 := hide ht
  have B714 := hide ((unhide B713).trans (hb4.mono (unhide B713).size))
  have B314 := hide ((unhide B37).trans ((unhide B714).mono (unhide B37).size))
  have l14 := lt_of_row ht
  have X7 := hide (split_small n0 _ _ none 2 2 0 W14 (unhide NA0 _ (unhide B314)) nbs0 rfl a10 a11 (by decide))
  rw [hnd] at X7
  obtain ⟨c0, c1, c2, c3⟩ := box4 (unhide HT) (unhide B314) l3
  have l3' := Nat.lt_of_lt_of_le l3 (unhide B314).size
  clear hq hb3 ht hb4 hW14 rK rV oK oV b13
  go_wp2_with (first | (refine wp_st25 rfl (.tmp 11) (.tmp 53) rfl w13.heap.size (by rfl) true qK qV none 2 dK 2 dV 0 0 (by rfl) _ rfl (unhide HQ) ?_; rw [unhide HW14]) | fail)
  refine (unhide X7).mono ?_
  rintro e w15 ⟨rfl, b15⟩
  clear c0 c1 c2 c3 l3' HW14 HQ X7
  have B1415 := hide b15
  -- the two parts of nothing
  have A1 := (Below.refl w15.heap.size w15).alloc (Nat.le_refl _) (.cells #[.bool false, .slice none 0 0, .slice none 0 0, .slice none 0 0] 25)
  have k1 := heap_alloc_new w15 (.cells #[.bool false, .slice none 0 0, .slice none 0 0, .slice none 0 0] 25)
  have s1 := size_alloc w15 (.cells #[.bool false, .slice none 0 0, .slice none 0 0, .slice none 0 0] 25)
  generalize hU1 : w15.alloc (.cells #[.bool false, .slice none 0 0, .slice none 0 0, .slice none 0 0] 25) = U1 at A1 k1 s1
  have A2 := A1.alloc A1.size (.cells #[.bool false, .slice none 0 0, .slice none 0 0, .slice none 0 0] 25)
  have k2 := (heap_alloc_old U1 (.cells #[.bool false, .slice none 0 0, .slice none 0 0, .slice none 0 0] 25) (lt_of_row k1)).trans k1
  have m2 := heap_alloc_new U1 (.cells #[.bool false, .slice none 0 0, .slice none 0 0, .slice none 0 0] 25)
  generalize hU2 : U1.alloc (.cells #[.bool false, .slice none 0 0, .slice none 0 0, .slice none 0 0] 25) = U2 at A2 k2 m2
  have o3 := setRow_only U2 w15.heap.size #[.bool false, .slice none 0 0, .slice none 0 0, .slice none 0 0]
  have m3 := (o3.block U1.heap.size (lt_of_row m2) (by omega)).trans m2
  have A3 := o3.below A2 A2.size (fun k e => by omega)
  generalize hU3 : U2.setRow w15.heap.size #[.bool false, .slice none 0 0, .slice none 0 0, .slice none 0 0] = U3 at o3 m3 A3
  have o4 := setRow_only U3 U1.heap.size #[.bool false, .slice none 0 0, .slice none 0 0, .slice none 0 0]
  have A4 := o4.below A3 A3.size (fun k e => by omega)
  generalize hU4 : U3.setRow U1.heap.size #[.bool false, .slice none 0 0, .slice none 0 0, .slice none 0 0] = U4 at o4 A4
  have HK2 := hide k2
  have HM3 := hide m3
  have HU3 := hide hU3
  have HU4 := hide hU4
  have B14 := hide (b15.trans (A4.mono b15.size))
  have B7E := hide ((unhide B714).trans ((unhide B14).mono (unhide B714).size))
  have B3E := hide ((unhide B37).trans ((unhide B7E).mono (unhide B37).size))
  have B5E := hide ((unhide B57).trans ((unhide B7E).mono (unhide B57).size))
  have BE := hide ((unhide B3).trans ((unhide B3E).mono (unhide B3).size))
  obtain ⟨c0, c1, c2, c3⟩ := box4 (unhide HT) (unhide B3E) l3
  obtain ⟨p0, p1, p2, p3, p4⟩ := box5 (unhide HT5) (unhide B5E) l5
  obtain ⟨f0, f1, f2, f3⟩ := box4 (unhide HT14) (unhide B14) l14
  have l3' := Nat.lt_of_lt_of_le l3 (unhide B3E).size
  have l5' := Nat.lt_of_lt_of_le l5 (unhide B5E).size
  have l14' := Nat.lt_of_lt_of_le l14 (unhide B14).size
  have X8 := hide (size_any n0 _ _ none 2 2 0 U4 (unhide NA0 _ (unhide B3E)) nbs0)
  rw [hnd, a8] at X8
  have X9 := hide (fun W => between_any [97, 112, 112, 108, 101] [112, 101, 97, 114] W (by decide) (by decide))
  rw [a9] at X9
  clear A1 k1 s1 A2 k2 m2 o3 m3 A3 hU3 o4 A4 hU4 b15
  go_wp2_with (first | (refine wp_st25 rfl (.tmp 13) (.tmp 58) rfl w15.heap.size (by rfl) false none none none 0 0 0 0 0 0 (by rfl) _ rfl (unhide HK2) ?_; rw [unhide HU3]) | (refine wp_st25 rfl (.tmp 15) (.tmp 60) rfl U1.heap.size (by rfl) false none none none 0 0 0 0 0 0 (by rfl) _ rfl (unhide HM3) ?_; rw [unhide HU4]) | fail)
  refine (unhide X8).mono ?_
  rintro e w16 ⟨rfl, b16⟩
  clear c0 c1 c2 c3 p0 p1 p2 p3 p4 f0 f1 f2 f3 l3' l5' l14' X8 HK2 HM3 HU3 HU4
  obtain ⟨f0, f1, f2, f3⟩ := box4 (unhide HT14) ((unhide B14).trans (b16.mono (unhide B14).size)) l14
  have l14' := Nat.lt_of_lt_of_le l14 ((unhide B14).trans (b16.mono (unhide B14).size)).size
  have BF := hide ((unhide BE).trans (b16.mono (unhide BE).size))
  have x9 := hide (unhide X9 w16)
  clear b16 X9
  go_wp2_with fail
  refine (unhide x9).mono ?_
  rintro e w17 ⟨rfl, b17⟩
  have BG := hide ((unhide BF).trans (b17.mono (unhide BF).size))
  clear b17 x9
  go_wp2
  go_ret
  exact ⟨by first | rfl | simp, unhide BG⟩
end Go.Proofs.YtllialbdofklgaaGreatDoor
namespace Go.Proofs.YtllialbdofklgaaGreatDoor
open Go.RowKit
set_option maxHeartbeats 8000000
set_option maxRecDepth 8000
def add3 (n m : Nat) : Nat := if 2147483647 < n ∨ 2147483647 < m then 2147483648 else n + m
theorem addsUp_any (n m : Nat) (w : World) (hn : n ≤ 9223372036854775807) (hm : m ≤ 9223372036854775807) :
    Calls Tryz.prog 10 #[I n, I m] w fun e w' => e = .returned (I (add3 n m)) ∧ w' = w := by
  unfold add3
  go_enter Tryz.func10, Tryz.ntmps10
  by_cases h1 : 2147483647 < n
  · have h1' : decide ((2147483647 : Int) < (n : Int)) = true := by rw [decide_eq_true_eq]; omega
    go_wp2
    go_ret
    exact ⟨rfl, rfl⟩
  · have h1' : decide ((2147483647 : Int) < (n : Int)) = false := by rw [decide_eq_false_iff_not]; omega
    by_cases h2 : 2147483647 < m
    · have h2' : decide ((2147483647 : Int) < (m : Int)) = true := by rw [decide_eq_true_eq]; omega
      go_wp2
      go_ret
      exact ⟨rfl, rfl⟩
    · have h2' : decide ((2147483647 : Int) < (m : Int)) = false := by rw [decide_eq_false_iff_not]; omega
      go_wp2
      go_ret
      exact ⟨rfl, rfl⟩
theorem nodeBetween_any (a b : Bs) (w : World) (ha : a.length ≤ 9223372036854775807) (hb : b.length ≤ 9223372036854775807) :
    Calls Tryz.prog 9 #[S a, S b] w fun e w' => e = .returned (.bool true) ∧ Below w.heap.size w w' := by
  have H0 := hide (addsUp_any a.length b.length w (by omega) (by omega))
  go_enter Tryz.func9, Tryz.ntmps9
  by_cases hbig : 2147483647 < add3 a.length b.length
  · generalize add3 a.length b.length = t at *
    have hb' : decide ((2147483647 : Int) < (t : Int)) = true := by rw [decide_eq_true_eq]; omega
    go_wp2_with fail
    refine (unhide H0).mono ?_
    rintro e w1 ⟨rfl, rfl⟩
    go_wp2
    go_ret
    exact ⟨rfl, Below.refl _ _⟩
  · have hsm : a.length + b.length ≤ 2147483647 := by
      unfold add3 at hbig
      by_cases q : 2147483647 < a.length ∨ 2147483647 < b.length
      · rw [if_pos q] at hbig; omega
      · rw [if_neg q] at hbig; omega
    generalize add3 a.length b.length = t at *
    have hb' : decide ((2147483647 : Int) < (t : Int)) = false := by rw [decide_eq_false_iff_not]; omega
    have H1 := hide (awake_any w)
    have H2 := hide (fun W => between_any a b W (by omega) (by omega))
    have hq := fun W => run_geq a b W
    by_cases hlt : a < b
    · rw [show decide (¬ a < b) = false by simp [hlt]] at hq
      have hl := alk_lt hlt
      have hk : btw a b = b.take (alk a b + 1) := by unfold btw; rw [if_pos hlt]
      have hkl := btw_len hlt
      have f1 := fun W => run_leq (btw a b) a W
      rw [show decide (¬ a < btw a b) = false by rw [hk]; exact decide_eq_false (fun q => q (btw_gt hlt))] at f1
      have f2 := fun W => run_gtr (btw a b) b W
      rw [show decide (b < btw a b) = false by rw [hk]; exact decide_eq_false (pre_le b _)] at f2
      have f3 : decide ((b.length : Int) < ((btw a b).length : Int)) = false := by rw [decide_eq_false_iff_not]; omega
      have f4 : b.take (btw a b).length = btw a b := by rw [hkl, hk]
      have f5 := fun W => run_leq (b.take ((btw a b).length - 1)) a W
      rw [show decide (¬ a < b.take ((btw a b).length - 1)) = true by rw [hkl, Nat.add_sub_cancel]; exact decide_eq_true (pre_lt a b _ (Nat.le_refl _))] at f5
      have f6 : (btw a b).length ≤ b.length := by omega
      have f7 : 1 ≤ (btw a b).length := by omega
      generalize btw a b = k at *
      have e4 : (⟨b.toArray⟩ : ByteArray).extract 0 k.length = ⟨k.toArray⟩ := by rw [ext0, f4]
      have e5 : ∀ W, (binOp .leq 9 (.string ((⟨b.toArray⟩ : ByteArray).extract 0 (k.length - 1))) (S a)).run Tryz.prog W = .ok (.bool true) W := fun W => by rw [ext0]; exact f5 W
      have e3 : decide (b.length < k.length) = false := by rw [decide_eq_false_iff_not]; omega
      have e6 : ¬ b.length < k.length := by omega
      clear hlt hl hk hkl f4 f5
      go_wp2_with fail
      refine (unhide H0).mono ?_
      rintro e w1 ⟨rfl, rfl⟩
      go_wp2_with fail
      refine (unhide H1).mono ?_
      rintro e w2 ⟨rfl, b2⟩
      have B2 := hide b2
      have h2 := hide (unhide H2 w2)
      clear b2 H2 H1 H0
      go_wp2_with fail
      refine (unhide h2).mono ?_
      rintro e w3 ⟨rfl, b3⟩
      have B3 := hide ((unhide B2).trans (b3.mono (unhide B2).size))
      clear b3 h2
      go_wp2
      go_ret
      exact ⟨by first | rfl | simp, unhide B3⟩
    · rw [show decide (¬ a < b) = true by simp [hlt]] at hq
      have hk : btw a b = b := by unfold btw; rw [if_neg hlt]
      rw [hk] at H2
      clear hlt hk
      go_wp2_with fail
      refine (unhide H0).mono ?_
      rintro e w1 ⟨rfl, rfl⟩
      go_wp2_with fail
      refine (unhide H1).mono ?_
      rintro e w2 ⟨rfl, b2⟩
      have B2 := hide b2
      have h2 := hide (unhide H2 w2)
      clear b2 H2 H1 H0
      go_wp2_with fail
      refine (unhide h2).mono ?_
      rintro e w3 ⟨rfl, b3⟩
      have B3 := hide ((unhide B2).trans (b3.mono (unhide B2).size))
      clear b3 h2
      go_wp2
      go_ret
      exact ⟨by first | rfl | simp, unhide B3⟩
end Go.Proofs.YtllialbdofklgaaGreatDoor
namespace Go.Proofs.YtllialbdofklgaaGreatDoor
open Go.RowKit
set_option maxHeartbeats 8000000
set_option maxRecDepth 8000
/-- A raw cell. -/
structure Ce where
  k : Bs
  v : Bs
  z : Int
def ce0 : Ce := ⟨[], [], 0⟩
/-- Raw cells in memory. -/
structure Ces (w : World) (a : Option Addr) (n : Nat) (l : List Ce) : Prop where
  len : n = l.length
  num : ∀ j, j < n → -9223372036854775808 ≤ (l.getD j ce0).z ∧ (l.getD j ce0).z ≤ 9223372036854775807
  txt : ∀ j, j < n → (l.getD j ce0).k.length ≤ 9223372036854775807 ∧ (l.getD j ce0).v.length ≤ 9223372036854775807
  cel : 0 < n → ∃ p o, a = some ⟨p, o, none⟩ ∧ ∀ j, j < n → w.cell? ⟨p, o + j * 3, none⟩ = some (S (l.getD j ce0).k) ∧ w.cell? ⟨p, o + j * 3 + 1, none⟩ = some (S (l.getD j ce0).v) ∧ w.cell? ⟨p, o + j * 3 + 2, none⟩ = some (I (l.getD j ce0).z)
theorem Ces.below {w w' : World} {a : Option Addr} {n : Nat} {l : List Ce} (h : Ces w a n l) (hb : Below w.heap.size w w') : Ces w' a n l := by
  refine ⟨h.len, h.num, h.txt, fun hn => ?_⟩
  obtain ⟨p, o, e, hc⟩ := h.cel hn
  refine ⟨p, o, e, fun j hj => ?_⟩
  obtain ⟨h1, h2, h3⟩ := hc j hj
  exact ⟨(hb.cell (by exact blk_lt h1)).trans h1, (hb.cell (by exact blk_lt h2)).trans h2, (hb.cell (by exact blk_lt h3)).trans h3⟩
theorem add3_le (n m : Nat) : add3 n m ≤ 4294967294 := by
  unfold add3
  split <;> omega
theorem add3_ok {n m : Nat} (h : add3 n m ≤ 2147483647) : n ≤ 2147483647 ∧ m ≤ 2147483647 := by
  unfold add3 at h
  split at h
  · omega
  · omega
theorem pageWeighs_any (k nu bi : Int) (la : Option Addr) (ln lc : Nat) (x : Bs) (w : World) (h1 : ln ≤ 9223372036854775807) (h2 : x.length ≤ 9223372036854775807) :
    Calls Tryz.prog 12 #[.agg #[I k, I nu, I bi, .slice la ln lc, S x]] w fun e w' => e = .returned (I (add3 ln x.length)) ∧ Below w.heap.size w w' := by
  have hA := (Below.refl w.heap.size w).alloc (Nat.le_refl _) (.cells #[I k, I nu, I bi, .slice la ln lc, S x] 27)
  have HA := hide hA
  have H := hide (addsUp_any ln x.length (w.alloc (.cells #[I k, I nu, I bi, .slice la ln lc, S x] 27)) h1 h2)
  clear hA
  generalize add3 ln x.length = F at *
  go_enter Tryz.func12, Tryz.ntmps12
  go_wp2_with fail
  refine (unhide H).mono ?_
  rintro e w1 ⟨rfl, rfl⟩
  go_wp2
  go_ret
  exact ⟨rfl, unhide HA⟩
theorem pages_same (k nu bi : Int) (la lb : Option Addr) (ln ca cb : Nat) (L : List Int) (x : Bs) (w : World) (ha : Ins w la ln L) (hb : Ins w lb ln L) (hn : ln ≤ 4294967296) :
    Calls Tryz.prog 21 #[.agg #[I k, I nu, I bi, .slice la ln ca, S x], .agg #[I k, I nu, I bi, .slice lb ln cb, S x]] w fun e w' => e = .returned (.bool true) ∧ Below w.heap.size w w' := by
  have hA := (Below.refl w.heap.size w).alloc (Nat.le_refl _) (.cells #[I k, I nu, I bi, .slice la ln ca, S x] 27)
  have g1 := heap_alloc_new w (.cells #[I k, I nu, I bi, .slice la ln ca, S x] 27)
  generalize hW1 : w.alloc (.cells #[I k, I nu, I bi, .slice la ln ca, S x] 27) = W1 at hA g1
  have hA2 := hA.alloc hA.size (.cells #[I k, I nu, I bi, .slice lb ln cb, S x] 27)
  have g12 := ((Below.refl W1.heap.size W1).alloc (Nat.le_refl _) (.cells #[I k, I nu, I bi, .slice lb ln cb, S x] 27)).block _ (lt_of_row g1) |>.trans g1
  have g2 := heap_alloc_new W1 (.cells #[I k, I nu, I bi, .slice lb ln cb, S x] 27)
  generalize hW2 : W1.alloc (.cells #[I k, I nu, I bi, .slice lb ln cb, S x] 27) = W2 at hA2 g12 g2
  have H := hide (ints_any la lb ln ln ca cb L L W2 (ha.below hA2) (hb.below hA2) hn hn)
  have HA := hide hA2
  obtain ⟨c0, c1, c2, c3, c4⟩ := box5 g12 (Below.refl _ _) (lt_of_row g12)
  obtain ⟨d0, d1, d2, d3, d4⟩ := box5 g2 (Below.refl _ _) (lt_of_row g2)
  have G1 := hide g12
  have G2 := hide g2
  have l1 := lt_of_row g12
  have l2 := lt_of_row g2
  clear hA hA2 g1 g12 g2 ha hb
  rw [decide_eq_true rfl] at H
  go_enter Tryz.func21, Tryz.ntmps21
  go_wp2_with fail
  refine (unhide H).mono ?_
  rintro e w1 ⟨rfl, q, rfl⟩
  have HB := hide (bel_q (unhide HA) q)
  clear c0 c1 c2 c3 c4 d0 d1 d2 d3 d4
  obtain ⟨c0, c1, c2, c3, c4⟩ := box5 (unhide G1) (bel_q (Below.refl W2.heap.size W2) q) l1
  obtain ⟨d0, d1, d2, d3, d4⟩ := box5 (unhide G2) (bel_q (Below.refl W2.heap.size W2) q) l2
  have m1 : w.heap.size < (W2.drewN q).heap.size := l1
  have m2 : W1.heap.size < (W2.drewN q).heap.size := l2
  clear hW1 hW2
  generalize W2.drewN q = W3 at *
  go_wp2
  go_ret
  exact ⟨ret_bool (by simp), unhide HB⟩
end Go.Proofs.YtllialbdofklgaaGreatDoor
namespace Go.Proofs.YtllialbdofklgaaGreatDoor
open Go.RowKit
set_option maxHeartbeats 8000000
set_option maxRecDepth 8000
theorem cellsWeigh_any (a : Option Addr) (m cp : Nat) (l : List Ce) (w : World) (hc : Ces w a m l) (hm : m ≤ 9223372036854775807) :
    Calls Tryz.prog 31 #[.slice a m cp] w fun e w' => ∃ r : Nat, r ≤ 4294967294 ∧ (r ≤ 2147483647 → m ≤ 2147483647) ∧ e = .returned (I r) ∧ Below w.heap.size w w' := by
  have HC := hide hc
  have H0 := hide (addsUp_any 0 m w (by omega) hm)
  have h0 := add3_le 0 m
  have HK := hide (fun (h : add3 0 m ≤ 2147483647) => (add3_ok h).2)
  clear hc
  generalize add3 0 m = s0 at *
  go_enter Tryz.func31, Tryz.ntmps31
  go_wp2_with fail
  refine (unhide H0).mono ?_
  rintro e w1 ⟨rfl, rfl⟩
  go_wp2
  go_loopw [3, 4] (fun s i wr => ∃ (k r : Nat), k ≤ m ∧ i = .int .i64 k ∧ r ≤ 4294967294 ∧ (r ≤ 2147483647 → m ≤ 2147483647) ∧ s = .int .i64 r ∧ Below w1.heap.size w1 wr) (fun _ i _ => m - (Go.RowKit.intOf i).toNat)
  case atStart => exact ⟨0, s0, by omega, rfl, h0, unhide HK, rfl, Below.refl _ _⟩
  case round =>
    obtain ⟨k, r, hk, rfl, hr, hrm, rfl, hbw⟩ := hrel
    have HBW := hide hbw
    clear hbw
    have HRM := hide hrm
    clear hrm
    by_cases hlt : k < m
    · have hlt' : (k : Int) < (m : Int) := by omega
      have hd1 : decide ((k : Int) < (m : Int)) = true := by simpa using hlt'
      by_cases hr2 : r ≤ 2147483647
      · have hr2' : decide ((r : Int) ≤ 2147483647) = true := by rw [decide_eq_true_eq]; omega
        have hCe := (unhide HC).below (unhide HBW)
        have htx := hCe.txt k hlt
        obtain ⟨p, o, rfl, hcc⟩ := hCe.cel (by omega)
        obtain ⟨h1, h2, h3⟩ := hcc k hlt
        have hpl := blk_lt h1
        generalize (l.getD k ce0).k = ck at *
        generalize (l.getD k ce0).v = cv at *
        clear h3 hCe hcc
        have A1 := add3_le r ck.length
        have A2 := add3_le (add3 r ck.length) cv.length
        have HA1 := hide (fun W => addsUp_any r ck.length W (by omega) htx.1)
        have HA2 := hide (fun W => addsUp_any (add3 r ck.length) cv.length W (by omega) htx.2)
        have hok : add3 (add3 r ck.length) cv.length ≤ 2147483647 → m ≤ 2147483647 := fun h => unhide HRM hr2
        have HOK := hide hok
        clear hok
        generalize add3 r ck.length = r1 at *
        generalize add3 r1 cv.length = r2 at *
        go_wp2
        go_quiet ((go_at_call 10; with_reducible first | exact Calls.quiet_of_same (unhide HA1 _) | exact Calls.quiet_of_same (unhide HA2 _)))
        go_wp2
        go_roundw
        case rel => exact ⟨k + 1, r2, by omega, by go_num, A2, unhide HOK, rfl, bel_q (unhide HBW) _⟩
        case measure => simp [Go.RowKit.intOf]; omega
      · have hr2' : decide ((r : Int) ≤ 2147483647) = false := by rw [decide_eq_false_iff_not]; omega
        go_wp2
        go_ret
        exact ⟨r, hr, unhide HRM, rfl, unhide HBW⟩
    · have hd1 : decide ((k : Int) < (m : Int)) = false := by rw [decide_eq_false_iff_not]; omega
      go_wp2
      go_ret
      exact ⟨r, hr, unhide HRM, rfl, unhide HBW⟩
end Go.Proofs.YtllialbdofklgaaGreatDoor
