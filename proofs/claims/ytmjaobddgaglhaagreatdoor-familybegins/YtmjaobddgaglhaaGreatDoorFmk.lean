import Derived.Test.YtmjaobddgaglhaaGreatDoorFmi
import Derived.Test.YtmjaobddgaglhaaGreatDoorFmj
/- awake. -/
namespace Go.Proofs.YtmjaobddgaglhaaGreatDoor
open Go.RowKit
set_option maxHeartbeats 4000000
set_option maxRecDepth 8000
abbrev tRead : Bs := [114, 101, 97, 100]
abbrev tApp : Bs := [97, 112, 112]
abbrev tAnn : Bs := [97, 110, 110]
abbrev tSec : Bs := [97, 98, 99, 100, 101, 102, 103, 104, 105, 106, 107, 108, 109, 110, 111, 112, 113, 114, 115, 116, 117, 118, 119, 120]
theorem lns_read : Lns [tRead] := fun j => by
  match j with
  | 0 => decide
  | (k + 1) => simp
theorem sts_one {W : World} {b : Nat} {x : Bs} (h : W.heap[b]? = some (.cells #[S x] 9 (0, 0))) : Sts W (some ⟨b, 0, none⟩) 1 [x] :=
  ⟨rfl, fun _ => ⟨b, 0, rfl, fun j hj => by
    have e : j = 0 := by omega
    subst e
    exact cellr h rfl⟩⟩
theorem new_row2 {w W : World} {v1 z1 v2 z2 : Array Value} {t1 t2 : TypeId} (h : (((w.alloc (.cells z1 t1)).alloc (.cells z2 t2)).setRow w.heap.size v1).setRow (w.heap.size + 1) v2 = W) : Below w.heap.size w W ∧ W.heap[w.heap.size]? = some (.cells v1 t1 (0, 0)) ∧ W.heap[w.heap.size + 1]? = some (.cells v2 t2 (0, 0)) := by
  subst h
  have r1 : ((w.alloc (.cells z1 t1)).alloc (.cells z2 t2)).heap[w.heap.size]? = some (.cells z1 t1 (0, 0)) := al_old _ _ _ (by simp) (al_new _ _ _ rfl)
  have r2 : ((w.alloc (.cells z1 t1)).alloc (.cells z2 t2)).heap[w.heap.size + 1]? = some (.cells z2 t2 (0, 0)) := al_new _ _ _ (by simp)
  exact ⟨bel_set (bel_set (((Below.refl _ _).alloc (Nat.le_refl _) _).alloc (by simp) _) _ _ (Nat.le_refl _) (by simp <;> omega)) _ _ (by omega) (by simp <;> omega), row_set (setRow_row r1) (by omega), setRow_row (row_set r2 (by omega))⟩
theorem new_row3 {w W : World} {v1 z1 v2 z2 v3 z3 : Array Value} {t1 t2 t3 : TypeId} (h : ((((((w.alloc (.cells z1 t1)).alloc (.cells z2 t2)).alloc (.cells z3 t3))).setRow w.heap.size v1).setRow (w.heap.size + 1) v2).setRow (w.heap.size + 2) v3 = W) : Below w.heap.size w W ∧ W.heap[w.heap.size]? = some (.cells v1 t1 (0, 0)) ∧ W.heap[w.heap.size + 1]? = some (.cells v2 t2 (0, 0)) ∧ W.heap[w.heap.size + 2]? = some (.cells v3 t3 (0, 0)) := by
  subst h
  have r1 : (((w.alloc (.cells z1 t1)).alloc (.cells z2 t2)).alloc (.cells z3 t3)).heap[w.heap.size]? = some (.cells z1 t1 (0, 0)) := al_old _ _ _ (by simp <;> omega) (al_old _ _ _ (by simp) (al_new _ _ _ rfl))
  have r2 : (((w.alloc (.cells z1 t1)).alloc (.cells z2 t2)).alloc (.cells z3 t3)).heap[w.heap.size + 1]? = some (.cells z2 t2 (0, 0)) := al_old _ _ _ (by simp) (al_new _ _ _ (by simp))
  have r3 : (((w.alloc (.cells z1 t1)).alloc (.cells z2 t2)).alloc (.cells z3 t3)).heap[w.heap.size + 2]? = some (.cells z3 t3 (0, 0)) := al_new _ _ _ (by simp)
  exact ⟨bel_set (bel_set (bel_set ((((Below.refl _ _).alloc (Nat.le_refl _) _).alloc (by simp) _).alloc (by simp <;> omega) _) _ _ (Nat.le_refl _) (by simp <;> omega)) _ _ (by omega) (by simp <;> omega)) _ _ (by omega) (by simp <;> omega), row_set (row_set (setRow_row r1) (by omega)) (by omega), row_set (setRow_row (row_set r2 (by omega))) (by omega), setRow_row (row_set (row_set r3 (by omega)) (by omega))⟩
theorem inf48 : (Tryz.prog.info? 48).map (·.size) = some 11 := by kernel_rfl
theorem app_any (i a g : Int) (w : World) : Calls Tryz.prog 28 #[I i, I a, I g] w fun e w' => ∃ b, e = .returned (.agg #[S tApp, .bool true, .bool false, S [], S [], I 0, .slice (some ⟨b, 0, none⟩) 1 1, I i, I a, I g, I 9]) ∧ w'.heap[b]? = some (.cells #[S tRead] 9 (0, 0)) ∧ Below w.heap.size w w' := by
  have hb : Below w.heap.size w (w.alloc (.cells #[S [], .bool false, .bool false, S [], S [], I 0, .slice none 0 0, I 0, I 0, I 0, I 0] 48)) := ((Below.refl _ w).alloc (by simp <;> omega) _)
  have rc : (w.alloc (.cells #[S [], .bool false, .bool false, S [], S [], I 0, .slice none 0 0, I 0, I 0, I 0, I 0] 48)).heap[w.heap.size]? = some (.cells #[S [], .bool false, .bool false, S [], S [], I 0, .slice none 0 0, I 0, I 0, I 0, I 0] 48 (0, 0)) := al_new w (.cells #[S [], .bool false, .bool false, S [], S [], I 0, .slice none 0 0, I 0, I 0, I 0, I 0] 48) (w.heap.size) (by simp)
  generalize hW1 : (w.alloc (.cells #[S [], .bool false, .bool false, S [], S [], I 0, .slice none 0 0, I 0, I 0, I 0, I 0] 48)) = W1 at *
  have HB := hide hb
  have HRc := hide rc
  clear hb rc
  have hb2 : Below w.heap.size w (W1.alloc (.cells #[S tRead] 9)) := (unhide HB).alloc (unhide HB).size _
  have rs : (W1.alloc (.cells #[S tRead] 9)).heap[W1.heap.size]? = some (.cells #[S tRead] 9 (0, 0)) := heap_alloc_new _ _
  have rc2 : (W1.alloc (.cells #[S tRead] 9)).heap[w.heap.size]? = some (.cells #[S [], .bool false, .bool false, S [], S [], I 0, .slice none 0 0, I 0, I 0, I 0, I 0] 48 (0, 0)) := al_old _ _ _ (lt_of_row (unhide HRc)) (unhide HRc)
  have hlt := lt_of_row (unhide HRc)
  have HB2 := hide hb2
  have HS := hide rs
  have HC2 := hide rc2
  have HLT := hide hlt
  clear hb2 rs rc2 hlt
  go_enter Tryz.func28, Tryz.ntmps28
  go_wp2_with (refine wp_stA inf48 rfl (.tmp 6) (.tmp 11) rfl w.heap.size (by rfl) #[S tApp, .bool true, .bool false, S [], S [], I 0, .slice (some ⟨W1.heap.size, 0, none⟩) 1 1, I i, I a, I g, I 9] (by rfl) #[S [], .bool false, .bool false, S [], S [], I 0, .slice none 0 0, I 0, I 0, I 0, I 0] rfl rfl (unhide HC2) (by simp [Value.oneCell']) ?_)
  refine out1c (T := 48) (n := 11) (p := 6) (cs := #[S tApp, .bool true, .bool false, S [], S [], I 0, .slice (some ⟨W1.heap.size, 0, none⟩) 1 1, I i, I a, I g, I 9]) (fun _ => by kernel_rfl) (fun _ => by kernel_rfl) (Z := w.heap.size) (by rfl) (by rfl) (by rfl) (setRow_row (unhide HC2)) (by rfl) ?_
  exact ⟨W1.heap.size, rfl, row_set (unhide HS) (by have := unhide HLT; omega), bel_set (unhide HB2) _ _ (Nat.le_refl _) (unhide HB2).size⟩
theorem j1 (ha : Bs) (h : ha.length = 32) : jdg 1 tApp tAnn [tRead] 100 100 50 120 10 1 2 1 0 0 2 1 1 ha 100 false 0 0 [] 110 = 1 := by
  unfold jdg tokOK
  rw [h]
  decide +kernel
theorem j2 (ha : Bs) (h : ha.length = 32) : jdg 1 tApp tAnn [tRead] 100 110 50 120 10 2 3 1 0 0 2 1 1 ha 100 true 110 3 tSec 119 = 2 := by
  unfold jdg tokOK
  rw [h]
  decide +kernel
theorem j3 (ha : Bs) (h : ha.length = 32) : jdg 1 tApp tAnn [tRead] 100 110 50 120 10 2 3 1 0 0 2 1 1 ha 100 true 110 3 tSec 120 = 3 := by
  unfold jdg tokOK
  rw [h]
  decide +kernel
theorem j4 (hb9 : Bs) (h : hb9.length = 32) : jdg 1 tApp tAnn [tRead] 100 110 50 120 10 2 3 1 0 0 3 1 2 hb9 110 false 0 0 [] 160 = 4 := by
  unfold jdg tokOK
  rw [h]
  decide +kernel
theorem nb_four (n : Nat) : (Sha.nb n 4).length = 4 := by simp [Sha.nb]
theorem sum_32 (s : Bs) : (Sha.sum s).length = 32 := by
  unfold Sha.sum Sha.sumH Sha.dig Sha.St.l
  simp [nb_four]
theorem okA : begOK 1 2 tApp true [] [] 0 [tRead] 50 120 10 9 tAnn [tRead] tSec (nr 100) = true := by decide +kernel
theorem okB : rotE 1 100 100 (nr 110) 1 3 tSec = 0 := by decide +kernel
theorem nrA : nr 100 = 100 := by decide
theorem nrB : nr 110 = 110 := by decide
theorem awake_any (w : World) : Calls Tryz.prog 6 #[] w fun e w' => e = .returned (.bool true) ∧ Below w.heap.size w w' := by
  have X1 := hide (fun W => app_any 50 120 10 W)
  have hha : (hsh 2 tSec).length = 32 := sum_32 _
  have hhb : (hsh 3 tSec).length = 32 := sum_32 _
  have X2 : Hid (∀ (W : World) (b c : Nat), W.heap[b]? = some (.cells #[S tRead] 9 (0, 0)) → W.heap[c]? = some (.cells #[S tRead] 9 (0, 0)) → Calls Tryz.prog 25 #[I 1, I 2, .agg #[S tApp, .bool true, .bool false, S [], S [], I 0, .slice (some ⟨b, 0, none⟩) 1 1, I 50, I 120, I 10, I 9], S tAnn, .slice (some ⟨c, 0, none⟩) 1 1, S tSec, I 100] W fun e w' => ∃ a1 k1, e = .returned (.tuple #[.agg #[I 1, S tApp, S tAnn, .slice a1 1 k1, I 100, I 100, I 50, I 120, I 10, I 1, I 2, I 1, I 0, I 0], .agg #[I 2, I 1, I 1, S (hsh 2 tSec), I 100, .bool false, I 0, I 0, S []], I 0]) ∧ OwnS W.heap.size w' (.slice a1 1 k1) [tRead] ∧ Below W.heap.size W w') := hide (fun W b c h1 h2 => by
    have q := begin_any 1 2 tApp true false [] [] 0 (some ⟨b, 0, none⟩) 1 [tRead] 50 120 10 9 tAnn (some ⟨c, 0, none⟩) 1 [tRead] tSec 100 W (by decide) (sts_one h1) (by decide) lns_read (by decide) (sts_one h2) (by decide) lns_read
    rw [okA, nrA] at q
    refine q.mono fun e w' h => ?_
    rw [OutB, if_pos rfl] at h
    exact h)
  generalize hsh 2 tSec = ha at *
  have X3 : Hid (∀ (W : World) (a1 : Option Addr) (k1 : Nat), Sts W a1 1 [tRead] → Calls Tryz.prog 8 #[.agg #[I 1, S tApp, S tAnn, .slice a1 1 k1, I 100, I 100, I 50, I 120, I 10, I 1, I 2, I 1, I 0, I 0], .agg #[I 2, I 1, I 1, S ha, I 100, .bool false, I 0, I 0, S []], I 110] W fun e w' => e = .returned (I 1) ∧ Below W.heap.size W w') := hide (fun W a1 k1 h => by
    have q := judge_any 1 tApp tAnn a1 k1 [tRead] 100 100 50 120 10 1 2 1 0 0 2 1 1 ha 100 false 0 0 [] 110 W (by decide) (by decide) h (by decide) lns_read
    rw [j1 _ hha] at q
    exact q)
  have X4 : Hid (∀ (W : World) (a1 : Option Addr) (k1 : Nat), Sts W a1 1 [tRead] → Calls Tryz.prog 14 #[.agg #[I 1, S tApp, S tAnn, .slice a1 1 k1, I 100, I 100, I 50, I 120, I 10, I 1, I 2, I 1, I 0, I 0], .agg #[I 2, I 1, I 1, S ha, I 100, .bool false, I 0, I 0, S []], I 3, S tSec, I 110] W fun e w' => ∃ a2 k2, e = .returned (.tuple #[.agg #[I 1, S tApp, S tAnn, .slice a2 1 k2, I 100, I 110, I 50, I 120, I 10, I 2, I 3, I 1, I 0, I 0], .agg #[I 2, I 1, I 1, S ha, I 100, .bool true, I 110, I 3, S tSec], .agg #[I 3, I 1, I 2, S (hsh 3 tSec), I 110, .bool false, I 0, I 0, S []], I 0]) ∧ OwnS W.heap.size w' (.slice a2 1 k2) [tRead] ∧ Below W.heap.size W w') := hide (fun W a1 k1 h => by
    have q := rotate_any 1 tApp tAnn a1 k1 [tRead] 100 100 50 120 10 1 2 1 0 0 2 1 1 ha 100 false 0 0 [] 3 tSec 110 W (by decide) (by decide) h (by decide) lns_read
    rw [j1 ha hha, okB, nrB] at q
    refine q.mono fun e w' h => ?_
    rw [OutR, if_pos rfl] at h
    exact h)
  generalize hsh 3 tSec = hb9 at *
  have X5 : Hid (∀ (W : World) (a2 : Option Addr) (k2 : Nat), Sts W a2 1 [tRead] → Calls Tryz.prog 8 #[.agg #[I 1, S tApp, S tAnn, .slice a2 1 k2, I 100, I 110, I 50, I 120, I 10, I 2, I 3, I 1, I 0, I 0], .agg #[I 2, I 1, I 1, S ha, I 100, .bool true, I 110, I 3, S tSec], I 119] W fun e w' => e = .returned (I 2) ∧ Below W.heap.size W w') := hide (fun W a2 k2 h => by
    have q := judge_any 1 tApp tAnn a2 k2 [tRead] 100 110 50 120 10 2 3 1 0 0 2 1 1 ha 100 true 110 3 tSec 119 W (by decide) (by decide) h (by decide) lns_read
    rw [j2 _ hha] at q
    exact q)
  have X6 : Hid (∀ (W : World) (a2 : Option Addr) (k2 : Nat), Sts W a2 1 [tRead] → Calls Tryz.prog 8 #[.agg #[I 1, S tApp, S tAnn, .slice a2 1 k2, I 100, I 110, I 50, I 120, I 10, I 2, I 3, I 1, I 0, I 0], .agg #[I 2, I 1, I 1, S ha, I 100, .bool true, I 110, I 3, S tSec], I 120] W fun e w' => e = .returned (I 3) ∧ Below W.heap.size W w') := hide (fun W a2 k2 h => by
    have q := judge_any 1 tApp tAnn a2 k2 [tRead] 100 110 50 120 10 2 3 1 0 0 2 1 1 ha 100 true 110 3 tSec 120 W (by decide) (by decide) h (by decide) lns_read
    rw [j3 _ hha] at q
    exact q)
  have X7 : Hid (∀ (W : World) (a2 : Option Addr) (k2 : Nat), Sts W a2 1 [tRead] → Calls Tryz.prog 8 #[.agg #[I 1, S tApp, S tAnn, .slice a2 1 k2, I 100, I 110, I 50, I 120, I 10, I 2, I 3, I 1, I 0, I 0], .agg #[I 3, I 1, I 2, S hb9, I 110, .bool false, I 0, I 0, S []], I 160] W fun e w' => e = .returned (I 4) ∧ Below W.heap.size W w') := hide (fun W a2 k2 h => by
    have q := judge_any 1 tApp tAnn a2 k2 [tRead] 100 110 50 120 10 2 3 1 0 0 3 1 2 hb9 110 false 0 0 [] 160 W (by decide) (by decide) h (by decide) lns_read
    rw [j4 _ hhb] at q
    exact q)
  clear hha hhb
  go_enter Tryz.func6, Tryz.ntmps6
  go_wp2_with fail
  refine (unhide X1 w).mono ?_
  rintro e w2 ⟨b, rfl, rb, h2⟩
  have hb2 := h2.alloc h2.size (.cells #[S tRead] 9)
  have rb2 := al_old w2 (.cells #[S tRead] 9) b (lt_of_row rb) rb
  have rc2 := heap_alloc_new w2 (.cells #[S tRead] 9)
  have HX := hide (unhide X2 _ b w2.heap.size rb2 rc2)
  have HB := hide hb2
  clear X1 X2 rb h2 hb2 rb2 rc2
  generalize hW3 : w2.alloc (.cells #[S tRead] 9) = W3 at *
  go_wp2_with fail
  refine (unhide HX).mono ?_
  rintro e w4 ⟨a1, k1, rfl, ho, h4⟩
  have HB4 := hide ((unhide HB).trans (h4.mono (unhide HB).size))
  have HS := hide ho.sts
  clear HX HB h4 ho hW3
  go_upto_region 2 with (first | (refine wp_stA inf24 rfl (.tmp 1) (.tmp 15) rfl w4.heap.size (by rfl) #[I 1, S tApp, S tAnn, .slice a1 1 k1, I 100, I 100, I 50, I 120, I 10, I 1, I 2, I 1, I 0, I 0] (by rfl) #[I 0, S [], S [], .slice none 0 0, I 0, I 0, I 0, I 0, I 0, I 0, I 0, I 0, I 0, I 0] rfl rfl (al_old _ _ _ (by simp) (al_new _ _ _ rfl)) (by simp [Value.oneCell']) ?_) | (refine wp_stA inf26 rfl (.tmp 2) (.tmp 16) rfl (w4.heap.size + 1) (by rfl) #[I 2, I 1, I 1, S ha, I 100, .bool false, I 0, I 0, S []] (by rfl) #[I 0, I 0, I 0, S [], I 0, .bool false, I 0, I 0, S []] rfl rfl (row_set (al_new _ _ _ (by simp)) (by omega)) (by simp [Value.oneCell']) ?_; generalize hW5 : (((w4.alloc (.cells #[I 0, S [], S [], .slice none 0 0, I 0, I 0, I 0, I 0, I 0, I 0, I 0, I 0, I 0, I 0] 24)).alloc (.cells #[I 0, I 0, I 0, S [], I 0, .bool false, I 0, I 0, S []] 26)).setRow w4.heap.size #[I 1, S tApp, S tAnn, .slice a1 1 k1, I 100, I 100, I 50, I 120, I 10, I 1, I 2, I 1, I 0, I 0]).setRow (w4.heap.size + 1) #[I 2, I 1, I 1, S ha, I 100, .bool false, I 0, I 0, S []] = W5))
  obtain ⟨h5, rf, rt⟩ := new_row2 hW5
  have hB5 := (unhide HB4).trans (h5.mono (unhide HB4).size)
  have HS5 := hide ((unhide HS).below h5)
  clear HB4 HS h5 hW5
  have cf_0 : W5.cell? ⟨w4.heap.size, 0, none⟩ = some (I 1) := cellr rf rfl
  have cf_1 : W5.cell? ⟨w4.heap.size, 1, none⟩ = some (S tApp) := cellr rf rfl
  have cf_2 : W5.cell? ⟨w4.heap.size, 2, none⟩ = some (S tAnn) := cellr rf rfl
  have cf_3 : W5.cell? ⟨w4.heap.size, 3, none⟩ = some (.slice a1 1 k1) := cellr rf rfl
  have cf_4 : W5.cell? ⟨w4.heap.size, 4, none⟩ = some (I 100) := cellr rf rfl
  have cf_5 : W5.cell? ⟨w4.heap.size, 5, none⟩ = some (I 100) := cellr rf rfl
  have cf_6 : W5.cell? ⟨w4.heap.size, 6, none⟩ = some (I 50) := cellr rf rfl
  have cf_7 : W5.cell? ⟨w4.heap.size, 7, none⟩ = some (I 120) := cellr rf rfl
  have cf_8 : W5.cell? ⟨w4.heap.size, 8, none⟩ = some (I 10) := cellr rf rfl
  have cf_9 : W5.cell? ⟨w4.heap.size, 9, none⟩ = some (I 1) := cellr rf rfl
  have cf_10 : W5.cell? ⟨w4.heap.size, 10, none⟩ = some (I 2) := cellr rf rfl
  have cf_11 : W5.cell? ⟨w4.heap.size, 11, none⟩ = some (I 1) := cellr rf rfl
  have cf_12 : W5.cell? ⟨w4.heap.size, 12, none⟩ = some (I 0) := cellr rf rfl
  have cf_13 : W5.cell? ⟨w4.heap.size, 13, none⟩ = some (I 0) := cellr rf rfl
  have ct_0 : W5.cell? ⟨w4.heap.size + 1, 0, none⟩ = some (I 2) := cellr rt rfl
  have ct_1 : W5.cell? ⟨w4.heap.size + 1, 1, none⟩ = some (I 1) := cellr rt rfl
  have ct_2 : W5.cell? ⟨w4.heap.size + 1, 2, none⟩ = some (I 1) := cellr rt rfl
  have ct_3 : W5.cell? ⟨w4.heap.size + 1, 3, none⟩ = some (S ha) := cellr rt rfl
  have ct_4 : W5.cell? ⟨w4.heap.size + 1, 4, none⟩ = some (I 100) := cellr rt rfl
  have ct_5 : W5.cell? ⟨w4.heap.size + 1, 5, none⟩ = some (.bool false) := cellr rt rfl
  have ct_6 : W5.cell? ⟨w4.heap.size + 1, 6, none⟩ = some (I 0) := cellr rt rfl
  have ct_7 : W5.cell? ⟨w4.heap.size + 1, 7, none⟩ = some (I 0) := cellr rt rfl
  have ct_8 : W5.cell? ⟨w4.heap.size + 1, 8, none⟩ = some (S []) := cellr rt rfl
  have HB := hide hB5
  have HRf := hide rf
  have HRt := hide rt
  clear hB5 rf rt
  go_wp2_with fail
  refine (unhide X3 W5 a1 k1 (unhide HS5)).mono ?_
  rintro e w6 ⟨rfl, h6⟩
  have HS6 := hide ((unhide HS5).below h6)
  clear X3 HS5
  have hbB := (unhide HB).trans (h6.mono (unhide HB).size)
  have rf := (h6.block _ (lt_of_row (unhide HRf))).trans (unhide HRf)
  have rt := (h6.block _ (lt_of_row (unhide HRt))).trans (unhide HRt)
  clear h6 HB HRf HRt cf_0 cf_1 cf_2 cf_3 cf_4 cf_5 cf_6 cf_7 cf_8 cf_9 cf_10 cf_11 cf_12 cf_13 ct_0 ct_1 ct_2 ct_3 ct_4 ct_5 ct_6 ct_7 ct_8 
  have cf_0 : w6.cell? ⟨w4.heap.size, 0, none⟩ = some (I 1) := cellr rf rfl
  have cf_1 : w6.cell? ⟨w4.heap.size, 1, none⟩ = some (S tApp) := cellr rf rfl
  have cf_2 : w6.cell? ⟨w4.heap.size, 2, none⟩ = some (S tAnn) := cellr rf rfl
  have cf_3 : w6.cell? ⟨w4.heap.size, 3, none⟩ = some (.slice a1 1 k1) := cellr rf rfl
  have cf_4 : w6.cell? ⟨w4.heap.size, 4, none⟩ = some (I 100) := cellr rf rfl
  have cf_5 : w6.cell? ⟨w4.heap.size, 5, none⟩ = some (I 100) := cellr rf rfl
  have cf_6 : w6.cell? ⟨w4.heap.size, 6, none⟩ = some (I 50) := cellr rf rfl
  have cf_7 : w6.cell? ⟨w4.heap.size, 7, none⟩ = some (I 120) := cellr rf rfl
  have cf_8 : w6.cell? ⟨w4.heap.size, 8, none⟩ = some (I 10) := cellr rf rfl
  have cf_9 : w6.cell? ⟨w4.heap.size, 9, none⟩ = some (I 1) := cellr rf rfl
  have cf_10 : w6.cell? ⟨w4.heap.size, 10, none⟩ = some (I 2) := cellr rf rfl
  have cf_11 : w6.cell? ⟨w4.heap.size, 11, none⟩ = some (I 1) := cellr rf rfl
  have cf_12 : w6.cell? ⟨w4.heap.size, 12, none⟩ = some (I 0) := cellr rf rfl
  have cf_13 : w6.cell? ⟨w4.heap.size, 13, none⟩ = some (I 0) := cellr rf rfl
  have ct_0 : w6.cell? ⟨w4.heap.size + 1, 0, none⟩ = some (I 2) := cellr rt rfl
  have ct_1 : w6.cell? ⟨w4.heap.size + 1, 1, none⟩ = some (I 1) := cellr rt rfl
  have ct_2 : w6.cell? ⟨w4.heap.size + 1, 2, none⟩ = some (I 1) := cellr rt rfl
  have ct_3 : w6.cell? ⟨w4.heap.size + 1, 3, none⟩ = some (S ha) := cellr rt rfl
  have ct_4 : w6.cell? ⟨w4.heap.size + 1, 4, none⟩ = some (I 100) := cellr rt rfl
  have ct_5 : w6.cell? ⟨w4.heap.size + 1, 5, none⟩ = some (.bool false) := cellr rt rfl
  have ct_6 : w6.cell? ⟨w4.heap.size + 1, 6, none⟩ = some (I 0) := cellr rt rfl
  have ct_7 : w6.cell? ⟨w4.heap.size + 1, 7, none⟩ = some (I 0) := cellr rt rfl
  have ct_8 : w6.cell? ⟨w4.heap.size + 1, 8, none⟩ = some (S []) := cellr rt rfl
  have HB := hide hbB
  have HRf := hide rf
  have HRt := hide rt
  clear hbB rf rt
  go_wp2_with fail
  refine (unhide X4 w6 a1 k1 (unhide HS6)).mono ?_
  rintro e w7 ⟨a2, k2, rfl, ho, h7⟩
  have HS7 := hide ho.sts
  clear X4 HS6 ho
  have hbB := (unhide HB).trans (h7.mono (unhide HB).size)
  have rf := (h7.block _ (lt_of_row (unhide HRf))).trans (unhide HRf)
  have rt := (h7.block _ (lt_of_row (unhide HRt))).trans (unhide HRt)
  clear h7 HB HRf HRt cf_0 cf_1 cf_2 cf_3 cf_4 cf_5 cf_6 cf_7 cf_8 cf_9 cf_10 cf_11 cf_12 cf_13 ct_0 ct_1 ct_2 ct_3 ct_4 ct_5 ct_6 ct_7 ct_8 
  have HB := hide hbB
  have HRf := hide rf
  have HRt := hide rt
  clear hbB rf rt
  go_upto_region 6 with (first | (refine wp_stA inf24 rfl (.tmp 5) (.tmp 48) rfl w7.heap.size (by rfl) #[I 1, S tApp, S tAnn, .slice a2 1 k2, I 100, I 110, I 50, I 120, I 10, I 2, I 3, I 1, I 0, I 0] (by rfl) #[I 0, S [], S [], .slice none 0 0, I 0, I 0, I 0, I 0, I 0, I 0, I 0, I 0, I 0, I 0] rfl rfl (al_old _ _ _ (by simp <;> omega) (al_old _ _ _ (by simp) (al_new _ _ _ rfl))) (by simp [Value.oneCell']) ?_; generalize hZ : (((w7.alloc (.cells #[I 0, S [], S [], .slice none 0 0, I 0, I 0, I 0, I 0, I 0, I 0, I 0, I 0, I 0, I 0] 24)).alloc (.cells #[I 0, I 0, I 0, S [], I 0, .bool false, I 0, I 0, S []] 26)).alloc (.cells #[I 0, I 0, I 0, S [], I 0, .bool false, I 0, I 0, S []] 26)).setRow w7.heap.size #[I 1, S tApp, S tAnn, .slice a2 1 k2, I 100, I 110, I 50, I 120, I 10, I 2, I 3, I 1, I 0, I 0] = Z1; have HZ1 := hide hZ; clear hZ) | (refine wp_stA inf26 rfl (.tmp 6) (.tmp 49) rfl (w7.heap.size + 1) (by rfl) #[I 2, I 1, I 1, S ha, I 100, .bool true, I 110, I 3, S tSec] (by rfl) #[I 0, I 0, I 0, S [], I 0, .bool false, I 0, I 0, S []] rfl rfl (by rw [← unhide HZ1]; exact row_set (al_old _ _ _ (by simp) (al_new _ _ _ (by simp))) (by omega)) (by simp [Value.oneCell']) ?_; generalize hZ : Z1.setRow (w7.heap.size + 1) #[I 2, I 1, I 1, S ha, I 100, .bool true, I 110, I 3, S tSec] = Z2; have HZ2 := hide hZ; clear hZ) | (refine wp_stA inf26 rfl (.tmp 7) (.tmp 50) rfl (w7.heap.size + 2) (by rfl) #[I 3, I 1, I 2, S hb9, I 110, .bool false, I 0, I 0, S []] (by rfl) #[I 0, I 0, I 0, S [], I 0, .bool false, I 0, I 0, S []] rfl rfl (by rw [← unhide HZ2, ← unhide HZ1]; exact row_set (row_set (al_new _ _ _ (by simp)) (by omega)) (by omega)) (by simp [Value.oneCell']) ?_; generalize hZ : Z2.setRow (w7.heap.size + 2) #[I 3, I 1, I 2, S hb9, I 110, .bool false, I 0, I 0, S []] = W8; have HZ3 := hide hZ; clear hZ))
  have hW8 := unhide HZ3
  rw [← unhide HZ2, ← unhide HZ1] at hW8
  clear HZ1 HZ2 HZ3
  obtain ⟨h8, rg, ru, rn⟩ := new_row3 hW8
  have hB8 := (unhide HB).trans (h8.mono (unhide HB).size)
  have HS8 := hide ((unhide HS7).below h8)
  clear HB HS7 HRf HRt h8 hW8
  have cg_0 : W8.cell? ⟨w7.heap.size, 0, none⟩ = some (I 1) := cellr rg rfl
  have cg_1 : W8.cell? ⟨w7.heap.size, 1, none⟩ = some (S tApp) := cellr rg rfl
  have cg_2 : W8.cell? ⟨w7.heap.size, 2, none⟩ = some (S tAnn) := cellr rg rfl
  have cg_3 : W8.cell? ⟨w7.heap.size, 3, none⟩ = some (.slice a2 1 k2) := cellr rg rfl
  have cg_4 : W8.cell? ⟨w7.heap.size, 4, none⟩ = some (I 100) := cellr rg rfl
  have cg_5 : W8.cell? ⟨w7.heap.size, 5, none⟩ = some (I 110) := cellr rg rfl
  have cg_6 : W8.cell? ⟨w7.heap.size, 6, none⟩ = some (I 50) := cellr rg rfl
  have cg_7 : W8.cell? ⟨w7.heap.size, 7, none⟩ = some (I 120) := cellr rg rfl
  have cg_8 : W8.cell? ⟨w7.heap.size, 8, none⟩ = some (I 10) := cellr rg rfl
  have cg_9 : W8.cell? ⟨w7.heap.size, 9, none⟩ = some (I 2) := cellr rg rfl
  have cg_10 : W8.cell? ⟨w7.heap.size, 10, none⟩ = some (I 3) := cellr rg rfl
  have cg_11 : W8.cell? ⟨w7.heap.size, 11, none⟩ = some (I 1) := cellr rg rfl
  have cg_12 : W8.cell? ⟨w7.heap.size, 12, none⟩ = some (I 0) := cellr rg rfl
  have cg_13 : W8.cell? ⟨w7.heap.size, 13, none⟩ = some (I 0) := cellr rg rfl
  have cu_0 : W8.cell? ⟨w7.heap.size + 1, 0, none⟩ = some (I 2) := cellr ru rfl
  have cu_1 : W8.cell? ⟨w7.heap.size + 1, 1, none⟩ = some (I 1) := cellr ru rfl
  have cu_2 : W8.cell? ⟨w7.heap.size + 1, 2, none⟩ = some (I 1) := cellr ru rfl
  have cu_3 : W8.cell? ⟨w7.heap.size + 1, 3, none⟩ = some (S ha) := cellr ru rfl
  have cu_4 : W8.cell? ⟨w7.heap.size + 1, 4, none⟩ = some (I 100) := cellr ru rfl
  have cu_5 : W8.cell? ⟨w7.heap.size + 1, 5, none⟩ = some (.bool true) := cellr ru rfl
  have cu_6 : W8.cell? ⟨w7.heap.size + 1, 6, none⟩ = some (I 110) := cellr ru rfl
  have cu_7 : W8.cell? ⟨w7.heap.size + 1, 7, none⟩ = some (I 3) := cellr ru rfl
  have cu_8 : W8.cell? ⟨w7.heap.size + 1, 8, none⟩ = some (S tSec) := cellr ru rfl
  have cn_0 : W8.cell? ⟨w7.heap.size + 2, 0, none⟩ = some (I 3) := cellr rn rfl
  have cn_1 : W8.cell? ⟨w7.heap.size + 2, 1, none⟩ = some (I 1) := cellr rn rfl
  have cn_2 : W8.cell? ⟨w7.heap.size + 2, 2, none⟩ = some (I 2) := cellr rn rfl
  have cn_3 : W8.cell? ⟨w7.heap.size + 2, 3, none⟩ = some (S hb9) := cellr rn rfl
  have cn_4 : W8.cell? ⟨w7.heap.size + 2, 4, none⟩ = some (I 110) := cellr rn rfl
  have cn_5 : W8.cell? ⟨w7.heap.size + 2, 5, none⟩ = some (.bool false) := cellr rn rfl
  have cn_6 : W8.cell? ⟨w7.heap.size + 2, 6, none⟩ = some (I 0) := cellr rn rfl
  have cn_7 : W8.cell? ⟨w7.heap.size + 2, 7, none⟩ = some (I 0) := cellr rn rfl
  have cn_8 : W8.cell? ⟨w7.heap.size + 2, 8, none⟩ = some (S []) := cellr rn rfl
  have HB := hide hB8
  have HRg := hide rg
  have HRu := hide ru
  have HRn := hide rn
  clear hB8 rg ru rn
  go_wp2_with fail
  refine (unhide X5 W8 a2 k2 (unhide HS8)).mono ?_
  rintro e w9 ⟨rfl, h9⟩
  have HS9 := hide ((unhide HS8).below h9)
  clear X5 HS8
  have hbB := (unhide HB).trans (h9.mono (unhide HB).size)
  have rg := (h9.block _ (lt_of_row (unhide HRg))).trans (unhide HRg)
  have ru := (h9.block _ (lt_of_row (unhide HRu))).trans (unhide HRu)
  have rn := (h9.block _ (lt_of_row (unhide HRn))).trans (unhide HRn)
  clear h9 HB HRg HRu HRn cg_0 cg_1 cg_2 cg_3 cg_4 cg_5 cg_6 cg_7 cg_8 cg_9 cg_10 cg_11 cg_12 cg_13 cu_0 cu_1 cu_2 cu_3 cu_4 cu_5 cu_6 cu_7 cu_8 cn_0 cn_1 cn_2 cn_3 cn_4 cn_5 cn_6 cn_7 cn_8 
  have cg_0 : w9.cell? ⟨w7.heap.size, 0, none⟩ = some (I 1) := cellr rg rfl
  have cg_1 : w9.cell? ⟨w7.heap.size, 1, none⟩ = some (S tApp) := cellr rg rfl
  have cg_2 : w9.cell? ⟨w7.heap.size, 2, none⟩ = some (S tAnn) := cellr rg rfl
  have cg_3 : w9.cell? ⟨w7.heap.size, 3, none⟩ = some (.slice a2 1 k2) := cellr rg rfl
  have cg_4 : w9.cell? ⟨w7.heap.size, 4, none⟩ = some (I 100) := cellr rg rfl
  have cg_5 : w9.cell? ⟨w7.heap.size, 5, none⟩ = some (I 110) := cellr rg rfl
  have cg_6 : w9.cell? ⟨w7.heap.size, 6, none⟩ = some (I 50) := cellr rg rfl
  have cg_7 : w9.cell? ⟨w7.heap.size, 7, none⟩ = some (I 120) := cellr rg rfl
  have cg_8 : w9.cell? ⟨w7.heap.size, 8, none⟩ = some (I 10) := cellr rg rfl
  have cg_9 : w9.cell? ⟨w7.heap.size, 9, none⟩ = some (I 2) := cellr rg rfl
  have cg_10 : w9.cell? ⟨w7.heap.size, 10, none⟩ = some (I 3) := cellr rg rfl
  have cg_11 : w9.cell? ⟨w7.heap.size, 11, none⟩ = some (I 1) := cellr rg rfl
  have cg_12 : w9.cell? ⟨w7.heap.size, 12, none⟩ = some (I 0) := cellr rg rfl
  have cg_13 : w9.cell? ⟨w7.heap.size, 13, none⟩ = some (I 0) := cellr rg rfl
  have cu_0 : w9.cell? ⟨w7.heap.size + 1, 0, none⟩ = some (I 2) := cellr ru rfl
  have cu_1 : w9.cell? ⟨w7.heap.size + 1, 1, none⟩ = some (I 1) := cellr ru rfl
  have cu_2 : w9.cell? ⟨w7.heap.size + 1, 2, none⟩ = some (I 1) := cellr ru rfl
  have cu_3 : w9.cell? ⟨w7.heap.size + 1, 3, none⟩ = some (S ha) := cellr ru rfl
  have cu_4 : w9.cell? ⟨w7.heap.size + 1, 4, none⟩ = some (I 100) := cellr ru rfl
  have cu_5 : w9.cell? ⟨w7.heap.size + 1, 5, none⟩ = some (.bool true) := cellr ru rfl
  have cu_6 : w9.cell? ⟨w7.heap.size + 1, 6, none⟩ = some (I 110) := cellr ru rfl
  have cu_7 : w9.cell? ⟨w7.heap.size + 1, 7, none⟩ = some (I 3) := cellr ru rfl
  have cu_8 : w9.cell? ⟨w7.heap.size + 1, 8, none⟩ = some (S tSec) := cellr ru rfl
  have cn_0 : w9.cell? ⟨w7.heap.size + 2, 0, none⟩ = some (I 3) := cellr rn rfl
  have cn_1 : w9.cell? ⟨w7.heap.size + 2, 1, none⟩ = some (I 1) := cellr rn rfl
  have cn_2 : w9.cell? ⟨w7.heap.size + 2, 2, none⟩ = some (I 2) := cellr rn rfl
  have cn_3 : w9.cell? ⟨w7.heap.size + 2, 3, none⟩ = some (S hb9) := cellr rn rfl
  have cn_4 : w9.cell? ⟨w7.heap.size + 2, 4, none⟩ = some (I 110) := cellr rn rfl
  have cn_5 : w9.cell? ⟨w7.heap.size + 2, 5, none⟩ = some (.bool false) := cellr rn rfl
  have cn_6 : w9.cell? ⟨w7.heap.size + 2, 6, none⟩ = some (I 0) := cellr rn rfl
  have cn_7 : w9.cell? ⟨w7.heap.size + 2, 7, none⟩ = some (I 0) := cellr rn rfl
  have cn_8 : w9.cell? ⟨w7.heap.size + 2, 8, none⟩ = some (S []) := cellr rn rfl
  have HB := hide hbB
  have HRg := hide rg
  have HRu := hide ru
  have HRn := hide rn
  clear hbB rg ru rn
  go_wp2_with fail
  refine (unhide X6 w9 a2 k2 (unhide HS9)).mono ?_
  rintro e w10 ⟨rfl, h10⟩
  have HS10 := hide ((unhide HS9).below h10)
  clear X6 HS9
  have hbB := (unhide HB).trans (h10.mono (unhide HB).size)
  have rg := (h10.block _ (lt_of_row (unhide HRg))).trans (unhide HRg)
  have ru := (h10.block _ (lt_of_row (unhide HRu))).trans (unhide HRu)
  have rn := (h10.block _ (lt_of_row (unhide HRn))).trans (unhide HRn)
  clear h10 HB HRg HRu HRn cg_0 cg_1 cg_2 cg_3 cg_4 cg_5 cg_6 cg_7 cg_8 cg_9 cg_10 cg_11 cg_12 cg_13 cu_0 cu_1 cu_2 cu_3 cu_4 cu_5 cu_6 cu_7 cu_8 cn_0 cn_1 cn_2 cn_3 cn_4 cn_5 cn_6 cn_7 cn_8 
  have cg_0 : w10.cell? ⟨w7.heap.size, 0, none⟩ = some (I 1) := cellr rg rfl
  have cg_1 : w10.cell? ⟨w7.heap.size, 1, none⟩ = some (S tApp) := cellr rg rfl
  have cg_2 : w10.cell? ⟨w7.heap.size, 2, none⟩ = some (S tAnn) := cellr rg rfl
  have cg_3 : w10.cell? ⟨w7.heap.size, 3, none⟩ = some (.slice a2 1 k2) := cellr rg rfl
  have cg_4 : w10.cell? ⟨w7.heap.size, 4, none⟩ = some (I 100) := cellr rg rfl
  have cg_5 : w10.cell? ⟨w7.heap.size, 5, none⟩ = some (I 110) := cellr rg rfl
  have cg_6 : w10.cell? ⟨w7.heap.size, 6, none⟩ = some (I 50) := cellr rg rfl
  have cg_7 : w10.cell? ⟨w7.heap.size, 7, none⟩ = some (I 120) := cellr rg rfl
  have cg_8 : w10.cell? ⟨w7.heap.size, 8, none⟩ = some (I 10) := cellr rg rfl
  have cg_9 : w10.cell? ⟨w7.heap.size, 9, none⟩ = some (I 2) := cellr rg rfl
  have cg_10 : w10.cell? ⟨w7.heap.size, 10, none⟩ = some (I 3) := cellr rg rfl
  have cg_11 : w10.cell? ⟨w7.heap.size, 11, none⟩ = some (I 1) := cellr rg rfl
  have cg_12 : w10.cell? ⟨w7.heap.size, 12, none⟩ = some (I 0) := cellr rg rfl
  have cg_13 : w10.cell? ⟨w7.heap.size, 13, none⟩ = some (I 0) := cellr rg rfl
  have cu_0 : w10.cell? ⟨w7.heap.size + 1, 0, none⟩ = some (I 2) := cellr ru rfl
  have cu_1 : w10.cell? ⟨w7.heap.size + 1, 1, none⟩ = some (I 1) := cellr ru rfl
  have cu_2 : w10.cell? ⟨w7.heap.size + 1, 2, none⟩ = some (I 1) := cellr ru rfl
  have cu_3 : w10.cell? ⟨w7.heap.size + 1, 3, none⟩ = some (S ha) := cellr ru rfl
  have cu_4 : w10.cell? ⟨w7.heap.size + 1, 4, none⟩ = some (I 100) := cellr ru rfl
  have cu_5 : w10.cell? ⟨w7.heap.size + 1, 5, none⟩ = some (.bool true) := cellr ru rfl
  have cu_6 : w10.cell? ⟨w7.heap.size + 1, 6, none⟩ = some (I 110) := cellr ru rfl
  have cu_7 : w10.cell? ⟨w7.heap.size + 1, 7, none⟩ = some (I 3) := cellr ru rfl
  have cu_8 : w10.cell? ⟨w7.heap.size + 1, 8, none⟩ = some (S tSec) := cellr ru rfl
  have cn_0 : w10.cell? ⟨w7.heap.size + 2, 0, none⟩ = some (I 3) := cellr rn rfl
  have cn_1 : w10.cell? ⟨w7.heap.size + 2, 1, none⟩ = some (I 1) := cellr rn rfl
  have cn_2 : w10.cell? ⟨w7.heap.size + 2, 2, none⟩ = some (I 2) := cellr rn rfl
  have cn_3 : w10.cell? ⟨w7.heap.size + 2, 3, none⟩ = some (S hb9) := cellr rn rfl
  have cn_4 : w10.cell? ⟨w7.heap.size + 2, 4, none⟩ = some (I 110) := cellr rn rfl
  have cn_5 : w10.cell? ⟨w7.heap.size + 2, 5, none⟩ = some (.bool false) := cellr rn rfl
  have cn_6 : w10.cell? ⟨w7.heap.size + 2, 6, none⟩ = some (I 0) := cellr rn rfl
  have cn_7 : w10.cell? ⟨w7.heap.size + 2, 7, none⟩ = some (I 0) := cellr rn rfl
  have cn_8 : w10.cell? ⟨w7.heap.size + 2, 8, none⟩ = some (S []) := cellr rn rfl
  have HB := hide hbB
  have HRg := hide rg
  have HRu := hide ru
  have HRn := hide rn
  clear hbB rg ru rn
  go_wp2_with fail
  refine (unhide X7 w10 a2 k2 (unhide HS10)).mono ?_
  rintro e w11 ⟨rfl, h11⟩
  have HS11 := hide ((unhide HS10).below h11)
  clear X7 HS10
  have hbB := (unhide HB).trans (h11.mono (unhide HB).size)
  have rg := (h11.block _ (lt_of_row (unhide HRg))).trans (unhide HRg)
  have ru := (h11.block _ (lt_of_row (unhide HRu))).trans (unhide HRu)
  have rn := (h11.block _ (lt_of_row (unhide HRn))).trans (unhide HRn)
  clear h11 HB HRg HRu HRn cg_0 cg_1 cg_2 cg_3 cg_4 cg_5 cg_6 cg_7 cg_8 cg_9 cg_10 cg_11 cg_12 cg_13 cu_0 cu_1 cu_2 cu_3 cu_4 cu_5 cu_6 cu_7 cu_8 cn_0 cn_1 cn_2 cn_3 cn_4 cn_5 cn_6 cn_7 cn_8 
  have HB := hide hbB
  have HRg := hide rg
  have HRu := hide ru
  have HRn := hide rn
  clear hbB rg ru rn
  go_wp2
  go_ret
  exact ⟨rfl, unhide HB⟩
end Go.Proofs.YtmjaobddgaglhaaGreatDoor
