import Derived.Test.YtfaahjbkdlkmjaaDoorJeo
/- Jot: slices.BinarySearch of a name. -/
namespace Go.Proofs.YtfaahjbkdlkmjaaDoor
open Go Go.RowKit Go.Lib
set_option linter.unusedVariables false
set_option linter.unusedSimpArgs false
theorem isNaN_69 (x : Bs) (w : World) : Calls Tryd.prog 69 #[S x] w fun e w' => e = .returned (.bool false) ∧ w' = w := by
  go_enter Tryd.func69, Tryd.ntmps69
  go_wp2
  go_ret
  refine ⟨?_, rfl⟩
  first | rfl | simp
theorem isNaN_82 (x : Bs) (w : World) : Calls Tryd.prog 82 #[S x] w fun e w' => e = .returned (.bool false) ∧ w' = w := by
  go_enter Tryd.func82, Tryd.ntmps82
  go_wp2
  go_ret
  refine ⟨?_, rfl⟩
  first | rfl | simp
theorem less_68 (x y : Bs) (w : World) : Calls Tryd.prog 68 #[S x, S y] w fun e w' => e = .returned (.bool (decide (x < y))) ∧ ∃ q, w' = w.drewN q := by
  go_enter Tryd.func68, Tryd.ntmps68
  go_wp2_with fail
  refine (isNaN_82 _ _).mono ?_
  rintro e w' ⟨rfl, rfl⟩
  go_wp2_with fail
  go_ret
  refine ⟨?_, 0, ?_⟩
  · show Ending.returned (.bool (Op.bytesLess x y)) = _
    rw [less_eq]
  · rfl
theorem plc_at (ns : List Bs) (x : Bs) (i : Nat) (hi : i ≤ ns.length) (h1 : ∀ k, k < i → ns.getD k [] < x) (h2 : ∀ k, i ≤ k → k < ns.length → ¬ ns.getD k [] < x) : plc ns x = i := by
  unfold plc
  have e : ns = ns.take i ++ ns.drop i := (List.take_append_drop i ns).symm
  rw [e, List.filter_append, List.length_append]
  have a1 : (ns.take i).filter (fun b => decide (b < x)) = ns.take i := by
    refine List.filter_eq_self.2 (fun b hb => ?_)
    obtain ⟨k, hk, hk2⟩ := List.getElem_of_mem hb
    rw [List.getElem_take] at hk2
    have hk' : k < i := by rw [List.length_take] at hk; omega
    have := h1 k hk'
    rw [List.getD_eq_getElem?_getD, List.getElem?_eq_getElem (by omega), Option.getD_some, hk2] at this
    exact decide_eq_true this
  have a2 : (ns.drop i).filter (fun b => decide (b < x)) = [] := by
    refine List.filter_eq_nil_iff.2 (fun b hb => ?_)
    obtain ⟨k, hk, hk2⟩ := List.getElem_of_mem hb
    rw [List.getElem_drop] at hk2
    have hk' : i + k < ns.length := by rw [List.length_drop] at hk; omega
    have := h2 (i + k) (by omega) hk'
    rw [List.getD_eq_getElem?_getD, List.getElem?_eq_getElem hk', Option.getD_some, hk2] at this
    simpa using this
  rw [a1, a2, List.length_take]
  simp
  omega
theorem rs_at {ns : List Bs} (h : Rs ns) (a b : Nat) (hab : a < b) (hb : b < ns.length) : ns.getD a [] < ns.getD b [] := by
  have := List.pairwise_iff_getElem.1 h a b (by omega) hb hab
  rw [List.getD_eq_getElem?_getD, List.getD_eq_getElem?_getD, List.getElem?_eq_getElem (by omega), List.getElem?_eq_getElem hb]
  exact this
theorem mem_plc {ns : List Bs} (h : Rs ns) (x : Bs) (i : Nat) (h1 : ∀ k, k < i → ns.getD k [] < x) (h2 : ∀ k, i ≤ k → k < ns.length → ¬ ns.getD k [] < x) : x ∈ ns ↔ (i < ns.length ∧ ns.getD i [] = x) := by
  constructor
  · intro hx
    obtain ⟨k, hk, hk2⟩ := List.getElem_of_mem hx
    have hg : ns.getD k [] = x := by rw [List.getD_eq_getElem?_getD, List.getElem?_eq_getElem hk, Option.getD_some, hk2]
    rcases Nat.lt_trichotomy k i with q | q | q
    · have := h1 k q
      rw [hg] at this
      exact absurd this (lt_irrefl' _)
    · subst q
      exact ⟨hk, hg⟩
    · have := rs_at h i k q hk
      rw [hg] at this
      exact absurd this (h2 i (Nat.le_refl _) (by omega))
  · rintro ⟨hi, rfl⟩
    rw [List.getD_eq_getElem?_getD, List.getElem?_eq_getElem hi, Option.getD_some]
    exact List.getElem_mem _
set_option maxHeartbeats 4000000 in
set_option maxRecDepth 20000 in
theorem search_any (a : Option Addr) (ns : List Bs) (c : Nat) (x : Bs) (w : World) (hn : Nms w a ns) (hr : Rs ns) (hbig : ns.length < 1000000) :
    Calls Tryd.prog 55 #[.slice a ns.length c, S x] w fun e w' => e = .returned (.tuple #[I (plc ns x : Nat), .bool (decide (x ∈ ns))]) ∧ ∃ q, w' = w.drewN q := by
  have hc : 0 < ns.length → ∃ p q, a = some ⟨p, q, none⟩ ∧ ∀ k, k < ns.length → w.cell? ⟨p, q + k, none⟩ = some (S (ns.getD k [])) := by
    intro h0
    obtain ⟨p, q, e, h⟩ := hn.2.2 h0
    exact ⟨p, q, e, fun k hk => h k _ (by rw [List.getD_eq_getElem?_getD, List.getElem?_eq_getElem hk]; rfl)⟩
  have HC := hide hc
  have HR := hide hr
  have hll := fun y W => run_lss y x W
  clear hn hr hc
  obtain ⟨n, hnl⟩ : ∃ n, ns.length = n := ⟨_, rfl⟩
  rw [hnl] at hbig ⊢
  have HNL := hide hnl
  clear hnl
  go_enter Tryd.func55, Tryd.ntmps55
  go_wp2
  go_loopg [7, 8] n (fun g s7 s8 wr => ∃ lo hi q : Nat, s7 = .int .i64 lo ∧ s8 = .int .i64 hi ∧ lo ≤ hi ∧ hi ≤ n ∧ hi - lo ≤ g ∧ wr = w.drewN q ∧ (∀ t, t < lo → ns.getD t [] < x) ∧ (∀ t, hi ≤ t → t < n → ¬ ns.getD t [] < x))
  case atStart => exact ⟨0, n, 0, rfl, rfl, Nat.zero_le _, Nat.le_refl _, by omega, rfl, fun t ht => absurd ht (Nat.not_lt_zero _), fun t h1 h2 => by omega⟩
  case round =>
    obtain ⟨lo, hi, q, rfl, rfl, hlh, hin, hg, rfl, h1, h2⟩ := hrel
    have I1 : Hid (∀ t, t < lo → ns.getD t [] < x) := h1
    have I2 : Hid (∀ t, hi ≤ t → t < n → ¬ ns.getD t [] < x) := h2
    clear h1 h2
    by_cases hlt : lo < hi
    · obtain ⟨p, o, rfl, hcc⟩ := unhide HC (by rw [unhide HNL]; omega)
      have cm : w.cell? ⟨p, o + (lo + hi) / 2, none⟩ = some (S (ns.getD ((lo + hi) / 2) [])) := hcc _ (by rw [unhide HNL]; omega)
      clear hcc
      generalize hy : ns.getD ((lo + hi) / 2) [] = y at cm
      have Y := hide hy
      clear hy
      by_cases hyx : y < x
      · have HL := hide (fun W => less_68 y x W)
        rw [decide_eq_true hyx] at HL
        have HYX := hide hyx
        clear hyx hll
        go_wp2_with fail
        refine (unhide HL _).mono ?_
        rintro e w' ⟨rfl, q2, rfl⟩
        go_wp2_with fail
        go_roundg (hi - ((lo + hi) / 2 + 1))
        case measure => omega
        case rel =>
          refine ⟨(lo + hi) / 2 + 1, hi, q + q2, by rw [show ((lo : Int) + (hi : Int)) / 2 + 1 = (((lo + hi) / 2 + 1 : Nat) : Int) by omega], rfl, by omega, hin, Nat.le_refl _, rfl, fun t ht => ?_, unhide I2⟩
          rcases Nat.lt_or_eq_of_le (show t ≤ (lo + hi) / 2 by omega) with h | h
          · have := rs_at (unhide HR) t ((lo + hi) / 2) h (by rw [unhide HNL]; omega)
            rw [unhide Y] at this
            exact lt_trans' this (unhide HYX)
          · rw [h, unhide Y]; exact unhide HYX
      · have HL := hide (fun W => less_68 y x W)
        rw [decide_eq_false hyx] at HL
        have HYX := hide hyx
        clear hyx hll
        go_wp2_with fail
        refine (unhide HL _).mono ?_
        rintro e w' ⟨rfl, q2, rfl⟩
        go_wp2_with fail
        go_roundg ((lo + hi) / 2 - lo)
        case measure => omega
        case rel =>
          refine ⟨lo, (lo + hi) / 2, q + q2, rfl, by rw [show ((lo : Int) + (hi : Int)) / 2 = (((lo + hi) / 2 : Nat) : Int) by omega], by omega, by omega, Nat.le_refl _, rfl, unhide I1, fun t ht htn => ?_⟩
          rcases Nat.lt_or_eq_of_le ht with h | h
          · intro hq
            have := rs_at (unhide HR) ((lo + hi) / 2) t h (by rw [unhide HNL]; omega)
            rw [unhide Y] at this
            exact unhide HYX (lt_trans' this hq)
          · rw [← h, unhide Y]; exact unhide HYX
    · have : hi = lo := by omega
      subst this
      have E1 := hide (plc_at ns x hi (by rw [unhide HNL]; omega) (unhide I1) (fun k h1 h2 => unhide I2 k h1 (by rw [← unhide HNL]; omega)))
      have E2 := hide (mem_plc (unhide HR) x hi (unhide I1) (fun k h1 h2 => unhide I2 k h1 (by rw [← unhide HNL]; omega)))
      by_cases hn : hi < n
      · obtain ⟨p, o, rfl, hcc⟩ := unhide HC (by rw [unhide HNL]; omega)
        have cl : w.cell? ⟨p, o + hi, none⟩ = some (S (ns.getD hi [])) := hcc _ (by rw [unhide HNL]; omega)
        clear hcc hll
        generalize hy : ns.getD hi [] = y at cl
        have Y := hide hy
        clear hy
        have hq := run_eql y x
        by_cases hyx : y = x
        · rw [decide_eq_true hyx] at hq
          have HYX := hide hyx
          clear hyx
          go_wp2_with fail
          go_ret2
          refine ⟨?_, by first | exact ⟨_, rfl⟩ | exact ⟨_, (drew_add _ _ _)⟩⟩
          rw [unhide E1, decide_eq_true ((unhide E2).2 ⟨by rw [unhide HNL]; exact hn, by rw [unhide Y]; exact unhide HYX⟩)]
          first | rfl | simp [*]
        · rw [decide_eq_false hyx] at hq
          have HYX := hide hyx
          clear hyx
          go_wp2_with fail
          refine (isNaN_69 _ _).mono ?_
          rintro e w' ⟨rfl, rfl⟩
          go_wp2_with fail
          go_ret2
          refine ⟨?_, by first | exact ⟨_, rfl⟩ | exact ⟨_, (drew_add _ _ _)⟩⟩
          rw [unhide E1, decide_eq_false (fun h => unhide HYX (by rw [← unhide Y]; exact ((unhide E2).1 h).2))]
          first | rfl | simp [*]
      · clear hll
        go_wp2_with fail
        go_ret2
        refine ⟨?_, by first | exact ⟨_, rfl⟩ | exact ⟨_, (drew_add _ _ _)⟩⟩
        rw [unhide E1, decide_eq_false (fun h => hn (by rw [← unhide HNL]; exact ((unhide E2).1 h).1))]
        first | rfl | simp [*]
end Go.Proofs.YtfaahjbkdlkmjaaDoor
