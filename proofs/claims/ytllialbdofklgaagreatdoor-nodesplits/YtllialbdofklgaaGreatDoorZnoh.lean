import Derived.Test.YtllialbdofklgaaGreatDoorZnfd
import Derived.Test.YtllialbdofklgaaGreatDoorZndm
namespace Go.Proofs.YtllialbdofklgaaGreatDoor
open Go.RowKit
set_option maxHeartbeats 16000000
set_option maxRecDepth 8000
theorem nan_any (x : Int) (w : World) : Calls Tryz.prog 131 #[I x] w fun e w' => e = .returned (.bool false) ∧ w' = w := by
  go_enter Tryz.func131, Tryz.ntmps131
  go_wp2
  go_ret
  exact ⟨rfl, rfl⟩
def cmpv (x y : Nat) : Int := if x < y then -1 else if y < x then 1 else 0
theorem compare_any (x y : Nat) (w : World) : Calls Tryz.prog 116 #[I x, I y] w fun e w' => e = .returned (I (cmpv x y)) ∧ w' = w := by
  have h1 := hide (nan_any x w)
  have h2 := hide (nan_any y w)
  unfold cmpv
  by_cases c1 : x < y
  · have c1' : (x : Int) < (y : Int) := by omega
    have d1 : decide ((x : Int) < (y : Int)) = true := by rw [decide_eq_true_eq]; omega
    rw [if_pos c1]
    go_enter Tryz.func116, Tryz.ntmps116
    go_wp2_with fail
    refine (unhide h1).mono ?_
    rintro e w1 ⟨rfl, rfl⟩
    go_wp2_with fail
    refine (unhide h2).mono ?_
    rintro e w1 ⟨rfl, rfl⟩
    go_wp2
    go_ret
    exact ⟨rfl, rfl⟩
  · have d1 : decide ((x : Int) < (y : Int)) = false := by rw [decide_eq_false_iff_not]; omega
    rw [if_neg c1]
    by_cases c2 : y < x
    · have d2 : decide ((y : Int) < (x : Int)) = true := by rw [decide_eq_true_eq]; omega
      rw [if_pos c2]
      go_enter Tryz.func116, Tryz.ntmps116
      go_wp2_with fail
      refine (unhide h1).mono ?_
      rintro e w1 ⟨rfl, rfl⟩
      go_wp2_with fail
      refine (unhide h2).mono ?_
      rintro e w1 ⟨rfl, rfl⟩
      go_wp2
      go_ret
      exact ⟨rfl, rfl⟩
    · have d2 : decide ((y : Int) < (x : Int)) = false := by rw [decide_eq_false_iff_not]; omega
      rw [if_neg c2]
      go_enter Tryz.func116, Tryz.ntmps116
      go_wp2_with fail
      refine (unhide h1).mono ?_
      rintro e w1 ⟨rfl, rfl⟩
      go_wp2_with fail
      refine (unhide h2).mono ?_
      rintro e w1 ⟨rfl, rfl⟩
      go_wp2
      go_ret
      exact ⟨rfl, rfl⟩
theorem greater_any (l r : Nat) (w : World) : Calls Tryz.prog 117 #[.agg #[I l, I r]] w fun e w' => e = .returned (I ((max l r : Nat) : Int)) ∧ Below w.heap.size w w' := by
  have HA := hide ((Below.refl w.heap.size w).alloc (Nat.le_refl _) (.cells #[I l, I r] 114))
  go_enter Tryz.func117, Tryz.ntmps117
  go_wp2
  go_ret
  exact ⟨ret_int (by omega), unhide HA⟩
theorem byGreater_any (a b c d : Nat) (w : World) : Calls Tryz.prog 98 #[.agg #[I a, I b], .agg #[I c, I d]] w fun e w' => e = .returned (I (cmpv (max a b) (max c d))) ∧ Below w.heap.size w w' := by
  have hA := (Below.refl w.heap.size w).alloc (Nat.le_refl _) (.cells #[I a, I b] 114)
  have g1 := heap_alloc_new w (.cells #[I a, I b] 114)
  have s1 := size_alloc w (.cells #[I a, I b] 114)
  generalize hW1 : w.alloc (.cells #[I a, I b] 114) = W1 at hA g1 s1
  have hA2 := hA.alloc hA.size (.cells #[I c, I d] 114)
  have g2 := heap_alloc_new W1 (.cells #[I c, I d] 114)
  have g3 := (alloc_old W1 (.cells #[I c, I d] 114) (lt_of_row g1)).trans g1
  have s2 := size_alloc W1 (.cells #[I c, I d] 114)
  generalize hW2 : W1.alloc (.cells #[I c, I d] 114) = W2 at hA2 g2 g3 s2
  have HA2 := hide hA2
  have HB := hide ((Below.refl W2.heap.size W2).drew)
  have H1 := hide (fun W => greater_any a b W)
  have H2 := hide (fun W => greater_any c d W)
  have H3 := hide (fun W => compare_any (max a b) (max c d) W)
  have c0 := cell_of_row W2 w.heap.size 0 _ 114 (0, 0) g3
  have c1 := cell_of_row W2 w.heap.size 1 _ 114 (0, 0) g3
  have d0 := cell_of_row W2 W1.heap.size 0 _ 114 (0, 0) g2
  have d1 := cell_of_row W2 W1.heap.size 1 _ 114 (0, 0) g2
  simp at c0 c1 d0 d1
  have hz1 := lt_of_row g3
  have hz2 := lt_of_row g2
  have HC := hide (And.intro c0 (And.intro c1 (And.intro d0 d1)))
  clear hA g1 s1 hA2 g2 g3 s2
  generalize max a b = mx at *
  generalize max c d = my at *
  go_enter Tryz.func98, Tryz.ntmps98
  go_wp2
  clear hW1 hW2
  go_region_law (first
    | (refine step_calls (f := 117) Tryz.func117 (by kernel_rfl) rfl rfl _ _ rfl #[.agg #[I a, I b]] ?_ (I mx) _ (unhide H1 _) ?_; (focus (simp [Act.eval]; done)); intro w5 b5; have HB := hide ((unhide HB).trans (b5.mono (unhide HB).size)); clear b5 c0 c1 d0 d1; have c0 := ((unhide HB).cell hz1).trans (unhide HC).1; have c1 := ((unhide HB).cell hz1).trans (unhide HC).2.1; have d0 := ((unhide HB).cell hz2).trans (unhide HC).2.2.1; have d1 := ((unhide HB).cell hz2).trans (unhide HC).2.2.2)
    | (refine step_calls (f := 117) Tryz.func117 (by kernel_rfl) rfl rfl _ _ rfl #[.agg #[I c, I d]] ?_ (I my) _ (unhide H2 _) ?_; (focus (simp [Act.eval]; done)); intro w5 b5; have HB := hide ((unhide HB).trans (b5.mono (unhide HB).size)); clear b5 c0 c1 d0 d1; have c0 := ((unhide HB).cell hz1).trans (unhide HC).1; have c1 := ((unhide HB).cell hz1).trans (unhide HC).2.1; have d0 := ((unhide HB).cell hz2).trans (unhide HC).2.2.1; have d1 := ((unhide HB).cell hz2).trans (unhide HC).2.2.2)
    | (refine step_calls (f := 116) Tryz.func116 (by kernel_rfl) rfl rfl _ _ rfl #[I mx, I my] ?_ (I (cmpv mx my)) _ (unhide H3 _) ?_; (focus (simp [Act.eval]; done)); rintro w5 rfl))
  all_goals (
    go_wp2
    go_ret
    exact ⟨rfl, (unhide HA2).trans ((unhide HB).mono (unhide HA2).size)⟩)
end Go.Proofs.YtllialbdofklgaaGreatDoor
namespace Go.Proofs.YtllialbdofklgaaGreatDoor
open Go.RowKit
set_option maxHeartbeats 16000000
set_option maxRecDepth 8000
theorem loadVar114 (b : Nat) (x0 x1 : Value) (W : World) (h0 : W.cell? ⟨b, 0, none⟩ = some x0) (h1 : W.cell? ⟨b, 1, none⟩ = some x1) : (loadVar 114 ⟨b, 0, none⟩).run Tryz.prog W = .ok (.agg #[x0, x1]) W := by
  have hl : (loadCells ⟨b, 0, none⟩ 2).run Tryz.prog W = .ok #[x0, x1] W := by
    have := run_loadCells_list (P := Tryz.prog) W ⟨b, 0, none⟩ [x0, x1] (fun j v hv => by
      match j, hv with
      | 0, hv => simp at hv; subst hv; simpa [Addr.add] using h0
      | 1, hv => simp at hv; subst hv; simpa [Addr.add] using h1
      | (j + 2), hv => simp at hv)
    simpa using this
  simp [loadVar, Tryz.isAgg114, Tryz.sizeOf114, hl, Result.andThen]
theorem box2 {B g : Nat} {a b : Value} {w0 w : World} (h : w0.heap[g]? = some (.cells #[a, b] 114 (0, 0))) (hb : Below B w0 w) (hg : g < B) : w.cell? ⟨g, 0, none⟩ = some a ∧ w.cell? ⟨g, 1, none⟩ = some b := by
  have h2 : w.heap[g]? = some (.cells #[a, b] 114 (0, 0)) := (hb.block g hg).trans h
  have := fun j => cell_of_row w g j _ 114 (0, 0) h2
  exact ⟨by rw [this]; rfl, by rw [this]; rfl⟩
theorem set2 {w : World} {Z : Nat} {a b : Value} (h : w.heap[Z]? = some (.cells #[a, b] 114 (0, 0))) (c d : Value) : ((w.setCell ⟨Z, 0, none⟩ c).setCell ⟨Z, 1, none⟩ d).heap[Z]? = some (.cells #[c, d] 114 (0, 0)) ∧ Only (fun k => k = Z) w ((w.setCell ⟨Z, 0, none⟩ c).setCell ⟨Z, 1, none⟩ d) := by
  refine ⟨?_, (Only.setCell w ⟨Z, 0, none⟩ c).put ⟨Z, 1, none⟩ d (.inl rfl)⟩
  rw [heap_setCell_same _ Z 1 _ 114 d (heap_setCell_same _ Z 0 _ 114 c h)]
  rfl
theorem outE {fn : Func} {p : Tmp} {W : World} {a : Act} {Z : Nat} {v0 v1 : Value} {Post : Ending → World → Prop} (hf : fn.results = #[.cell p 114]) (hd : a.defers = []) (ht : a.tmps.getD p undef = .pointer (some ⟨Z, 0, none⟩)) (h : W.heap[Z]? = some (.cells #[v0, v1] 114 (0, 0))) (hp : Post (.returned (.agg #[v0, v1])) W) : bodyPost Tryz.prog fn Post .ret a W := by
  obtain ⟨e0, e1⟩ := box2 h (Below.refl _ _) (lt_of_row h)
  have ht' : a.tmps[p]?.getD undef = .pointer (some ⟨Z, 0, none⟩) := by simpa using ht
  refine bodyPost_ret ?_ hd hp
  simp only [results, hf]
  simp [ht', asAddr, loadVar114 Z v0 v1 W e0 e1]
/-- Ends in memory: at the block g. -/
structure Ens (w : World) (g n : Nat) (e : Nat → Nat × Nat) : Prop where
  lt : g < w.heap.size
  at0 : ∀ j, j < n → w.cell? ⟨g, j * 2, none⟩ = some (I (e j).1)
  at1 : ∀ j, j < n → w.cell? ⟨g, j * 2 + 1, none⟩ = some (I (e j).2)
theorem Ens.below {w w' : World} {g n : Nat} {e : Nat → Nat × Nat} (h : Ens w g n e) (hb : Below w.heap.size w w') : Ens w' g n e :=
  ⟨Nat.lt_of_lt_of_le h.lt hb.size, fun j hj => (hb.cell h.lt).trans (h.at0 j hj), fun j hj => (hb.cell h.lt).trans (h.at1 j hj)⟩
theorem minFunc_any (g n cap : Nat) (e : Nat → Nat × Nat) (w : World) (h : Ens w g n e) (hn : n ≤ 4294967296) (h0 : 0 < n) :
    Calls Tryz.prog 97 #[.slice (some ⟨g, 0, none⟩) n cap, .func (.func 98) #[] #[]] w fun r w' => ∃ b, b < n ∧ (∀ j, j < n → max (e b).1 (e b).2 ≤ max (e j).1 (e j).2) ∧ (∀ j, j < b → max (e b).1 (e b).2 < max (e j).1 (e j).2) ∧ r = .returned (.agg #[I (e b).1, I (e b).2]) ∧ Below w.heap.size w w' := by
  have hA := (Below.refl w.heap.size w).alloc (Nat.le_refl _) (.cells #[I 0, I 0] 114)
  have g1 := heap_alloc_new w (.cells #[I 0, I 0] 114)
  have s1 := size_alloc w (.cells #[I 0, I 0] 114)
  generalize hW1 : w.alloc (.cells #[I 0, I 0] 114) = W1 at hA g1 s1
  have hE1 := h.below hA
  have hA2 := hA.alloc hA.size (.cells #[I 0, I 0] 114)
  have g2 := heap_alloc_new W1 (.cells #[I 0, I 0] 114)
  have g3 := (alloc_old W1 (.cells #[I 0, I 0] 114) (lt_of_row g1)).trans g1
  have s2 := size_alloc W1 (.cells #[I 0, I 0] 114)
  have c0 := hE1.at0 0 h0
  have c1 := hE1.at1 0 h0
  have hl1 := hE1.lt
  have g1' := g1
  simp only [Nat.zero_mul, Nat.zero_add] at c0 c1
  have hn1 : ¬ (n : Int) < 1 := by omega
  have h0' : (0 : Int) < (n : Int) := by omega
  have HE := hide hE1
  have HA0 := hide hA
  have G2 := hide g2
  have G3 := hide g3
  have HS := hide (And.intro s1 s2)
  obtain ⟨x0, x1⟩ := box2 g2 (Below.refl _ _) (lt_of_row g2)
  have f0 := frz g2 0
  have f1 := frz g2 1
  have hl2 := lt_of_row g2
  clear h hA s1 hE1 hA2 g1 g2 g3 s2
  generalize hx : (e 0).1 = a0 at *
  generalize hy : (e 0).2 = b0 at *
  have HXY := hide (And.intro hx hy)
  clear hx hy
  go_enter Tryz.func97, Tryz.ntmps97
  go_wp2
  have HM0 := hide (heap_alloc_new W1 (.cells #[I a0, I b0] 114))
  have HB0 := hide ((Below.refl W1.heap.size W1).alloc (Nat.le_refl _) (.cells #[I a0, I b0] 114))
  have HG1 := hide g1'
  generalize hM : W1.heap.size = M at *
  have HMe := hide hM
  clear hM x0 x1 f0 f1 hl2 c0 c1 hl1 G2 G3 hW1
  go_loopw [6] (fun i wr => ∃ k b : Nat, 1 ≤ k ∧ k ≤ n ∧ b < k ∧ i = .int .i64 k ∧ (∀ j, j < k → max (e b).1 (e b).2 ≤ max (e j).1 (e j).2) ∧ (∀ j, j < b → max (e b).1 (e b).2 < max (e j).1 (e j).2) ∧ wr.heap[M]? = some (.cells #[I (e b).1, I (e b).2] 114 (0, 0)) ∧ Below M W1 wr) (fun i _ => n - (Go.RowKit.intOf i).toNat)
  case atStart =>
    refine ⟨1, 0, by omega, by omega, by omega, rfl, fun j hj => ?_, fun j hj => by omega, ?_, unhide HB0⟩
    · obtain rfl : j = 0 := by omega
      exact Nat.le_refl _
    · rw [(unhide HXY).1, (unhide HXY).2]; exact unhide HM0
  case round =>
    clear HM0 HB0 HXY
    obtain ⟨k, b, hk1, hk, hb, rfl, hmn, hfs, hM, hB⟩ := hrel
    have HMN := hide (And.intro hmn hfs)
    have hml := lt_of_row hM
    have HM := hide hM
    have HB := hide hB
    obtain ⟨x0, x1⟩ := box2 hM (Below.refl _ _) hml
    by_cases hlt : k < n
    · have hlt' : (k : Int) < (n : Int) := by omega
      have hE := (unhide HE).below (by rw [unhide HMe]; exact hB)
      have c0 := hE.at0 k hlt
      have c1 := hE.at1 k hlt
      have hgl := hE.lt
      have HG := hide (fun W => byGreater_any (e k).1 (e k).2 (e b).1 (e b).2 W)
      have HXK := hide (show ∀ q : Bool, (if q then max (e k).1 (e k).2 < max (e b).1 (e b).2 else ¬ max (e k).1 (e k).2 < max (e b).1 (e b).2) → (∀ j, j < k + 1 → max (e (if q then k else b)).1 (e (if q then k else b)).2 ≤ max (e j).1 (e j).2) ∧ (∀ j, j < (if q then k else b) → max (e (if q then k else b)).1 (e (if q then k else b)).2 < max (e j).1 (e j).2) from fun q hq => by
        cases q
        · simp only [Bool.false_eq_true, if_false] at hq ⊢
          refine ⟨fun j hj => ?_, hfs⟩
          rcases Nat.lt_or_ge j k with r | r
          · exact hmn j r
          · obtain rfl : j = k := by omega
            omega
        · simp only [if_true] at hq ⊢
          refine ⟨fun j hj => ?_, fun j hj => ?_⟩
          · rcases Nat.lt_or_ge j k with r | r
            · have := hmn j r; omega
            · obtain rfl : j = k := by omega
              omega
          · have := hmn j hj; omega)
      clear hE hmn hfs hM hB HMN
      by_cases hc : max (e k).1 (e k).2 < max (e b).1 (e b).2
      · have HC := hide (unhide HXK true hc)
        have hz : cmpv (max (e k).1 (e k).2) (max (e b).1 (e b).2) < 0 := by unfold cmpv; rw [if_pos hc]; omega
        simp only [if_true] at HC
        generalize cmpv (max (e k).1 (e k).2) (max (e b).1 (e b).2) = z at *
        generalize hek : (e k).1 = p1 at *
        generalize hek2 : (e k).2 = p2 at *
        generalize (e b).1 = q1 at *
        generalize (e b).2 = q2 at *
        have HEK := hide (And.intro hek hek2)
        clear HXK hc hek hek2
        have hz' : decide (z < 0) = true := decide_eq_true hz
        go_wp2
        go_region_with (refine (unhide HG _).mono ?_; rintro r w5 ⟨rfl, b5⟩; have hb5 := (unhide HB).drew.trans (b5.mono (show M ≤ wr.drew.heap.size from Nat.le_of_lt hml)); have HB5 := hide hb5; have hM5 := (b5.block _ (show M < wr.drew.heap.size from hml)).trans (unhide HM); have c0 := (b5.cell (show g < wr.drew.heap.size from hgl)).trans c0; have c1 := (b5.cell (show g < wr.drew.heap.size from hgl)).trans c1; obtain ⟨x0, x1⟩ := box2 hM5 (Below.refl _ _) (lt_of_row hM5); have f0 := frz hM5 0; have f1 := frz hM5 1; have l5 := lt_of_row hM5; have l6 := Nat.lt_of_lt_of_le (show g < wr.drew.heap.size from hgl) b5.size; have HM5 := hide hM5; clear hb5 hM5 b5)
        all_goals (
          go_wp2
          go_roundw
          case rel =>
            obtain ⟨h1, h2⟩ := set2 (unhide HM5) (I p1) (I p2)
            refine ⟨k + 1, k, by omega, by omega, by omega, by go_num, ?_, ?_, ?_, h2.below (unhide HB5) (by omega) (fun j e => by omega)⟩
            · rw [(unhide HEK).1, (unhide HEK).2]; exact (unhide HC).1
            · rw [(unhide HEK).1, (unhide HEK).2]; exact (unhide HC).2
            · rw [(unhide HEK).1, (unhide HEK).2]; exact h1
          case measure => simp [Go.RowKit.intOf]; omega)
      · have HC := hide (unhide HXK false hc)
        have hz : ¬ cmpv (max (e k).1 (e k).2) (max (e b).1 (e b).2) < 0 := by unfold cmpv; rw [if_neg hc]; split <;> omega
        simp only [Bool.false_eq_true, if_false] at HC
        generalize cmpv (max (e k).1 (e k).2) (max (e b).1 (e b).2) = z at *
        generalize (e k).1 = p1 at *
        generalize (e k).2 = p2 at *
        generalize hek : (e b).1 = q1 at *
        generalize hek2 : (e b).2 = q2 at *
        have HEK := hide (And.intro hek hek2)
        clear HXK hc hek hek2
        have hz' : decide (z < 0) = false := decide_eq_false hz
        go_wp2
        go_region_with (refine (unhide HG _).mono ?_; rintro r w5 ⟨rfl, b5⟩; have hb5 := (unhide HB).drew.trans (b5.mono (show M ≤ wr.drew.heap.size from Nat.le_of_lt hml)); have HB5 := hide hb5; have hM5 := (b5.block _ (show M < wr.drew.heap.size from hml)).trans (unhide HM); have c0 := (b5.cell (show g < wr.drew.heap.size from hgl)).trans c0; have c1 := (b5.cell (show g < wr.drew.heap.size from hgl)).trans c1; obtain ⟨x0, x1⟩ := box2 hM5 (Below.refl _ _) (lt_of_row hM5); have f0 := frz hM5 0; have f1 := frz hM5 1; have l5 := lt_of_row hM5; have l6 := Nat.lt_of_lt_of_le (show g < wr.drew.heap.size from hgl) b5.size; have HM5 := hide hM5; clear hb5 hM5 b5)
        all_goals (
          go_wp2
          go_roundw
          case rel =>
            refine ⟨k + 1, b, by omega, by omega, by omega, by go_num, ?_, ?_, ?_, unhide HB5⟩
            · rw [(unhide HEK).1, (unhide HEK).2]; exact (unhide HC).1
            · rw [(unhide HEK).1, (unhide HEK).2]; exact (unhide HC).2
            · rw [(unhide HEK).1, (unhide HEK).2]; exact unhide HM5
          case measure => simp [Go.RowKit.intOf]; omega)
    · have hlt' : ¬ (k : Int) < (n : Int) := by omega
      obtain rfl : k = n := by omega
      have hR := ((unhide HB).block _ (show w.heap.size < M by have := (unhide HS).1; have := unhide HMe; omega)).trans (unhide HG1)
      obtain ⟨y0, y1⟩ := box2 hR (Below.refl _ _) (lt_of_row hR)
      have f0 := frz hR 0
      have f1 := frz hR 1
      have l5 := lt_of_row hR
      have HR := hide hR
      clear hmn hfs hM hB hR
      generalize hek : (e b).1 = q1 at *
      generalize hek2 : (e b).2 = q2 at *
      have HEK := hide (And.intro hek hek2)
      clear hek hek2
      go_wp2
      obtain ⟨h1, h2⟩ := set2 (unhide HR) (I q1) (I q2)
      have hM1 := unhide HMe
      have hS := (unhide HS).1
      have bb := (unhide HA0).trans ((unhide HB).mono (show w.heap.size ≤ M by omega))
      refine outE (p := 4) rfl (by rfl) (by rfl) h1 ⟨b, by omega, ?_, ?_, ?_, h2.below bb bb.size (fun j e => by omega)⟩
      · rw [(unhide HEK).1, (unhide HEK).2]; exact (unhide HMN).1
      · rw [(unhide HEK).1, (unhide HEK).2]; exact (unhide HMN).2
      · rw [(unhide HEK).1, (unhide HEK).2]
end Go.Proofs.YtllialbdofklgaaGreatDoor
