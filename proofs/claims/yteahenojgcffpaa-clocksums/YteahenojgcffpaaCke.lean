import Derived.Test.YteahenojgcffpaaCkd
namespace Go.Proofs.Yteahenojgcffpaa
open Go.RowKit
set_option maxHeartbeats 4000000
set_option maxRecDepth 8000
theorem mx_b {t : Int} (r : Int) (h : 0 ≤ t ∧ t ≤ 1099511627776) : 0 ≤ mx t r ∧ mx t r ≤ 1099511627776 := by have := nr_b r; unfold mx; split <;> omega
theorem rises_any (f : Int) (a : Option Addr) (n cap : Nat) (l : List Int) (w : World) (hp : Ns w a n l) (hn : n ≤ 9223372036854775806) : Calls Try.prog 5 #[I f, .slice a n cap] w fun e w' => e = .returned (.bool true) ∧ Below w.heap.size w w' := by
  have HP := hide hp
  have HN := hide hp.1
  clear hp
  go_enter Try.func5, Try.ntmps5
  go_wp2_with fail
  refine (awake_any _).mono ?_
  rintro e w1 ⟨rfl, b1⟩
  have B1 := hide b1
  clear b1
  go_wp2_with fail
  refine (new_any f _).mono ?_
  rintro e w2 ⟨rfl, c2, b2⟩
  have B2 := hide ((unhide B1).trans (b2.mono (unhide B1).size))
  have HG := hide (unhide B1).size
  have hb0 := nr_b f
  generalize w1.heap.size = P at *
  have HNW := hide (now_any P _ _ c2)
  have HC := hide c2
  have H3 := hide (fun W => lawNearest_any f W)
  clear c2 b2 B1
  generalize nr f = t0 at *
  go_wp2_with fail
  refine (unhide H3 _).mono ?_
  rintro e w3 ⟨rfl, rfl⟩
  go_wp2_with fail
  refine (unhide HNW).mono ?_
  rintro e w3 ⟨rfl, rfl⟩
  clear HNW H3
  go_wp2
  go_loopw [7, 8] (fun m i wr => ∃ k : Nat, k ≤ n ∧ i = .int .i64 k ∧ ∃ t : Int, m = I t ∧ (0 ≤ t ∧ t ≤ 1099511627776) ∧ CAt 43 P t wr ∧ Below w.heap.size w wr) (fun _ i _ => n - (intOf i).toNat)
  case atStart => exact ⟨0, by omega, rfl, t0, rfl, hb0, unhide HC, unhide B2⟩
  case round =>
    obtain ⟨k, hkn, rfl, t, rfl, hb, hc, hB⟩ := hrel
    clear HC B2
    have HB := hide hB
    by_cases hlt : k < n
    · obtain ⟨p, o, rfl, hpl, hc1⟩ := ((unhide HP).below hB).at hlt
      have H1 := hide (now_any P t _ hc)
      have H2 := hide (see_any P t (l.getD k 0) _ hc)
      have HQ := hide (fun W => lawNearest_any (l.getD k 0) W)
      have hc0 := hide ((unhide HP).at hlt)
      clear hc hB
      have hmb := mx_b (l.getD k 0) hb
      have hme : mx t (l.getD k 0) = if t < nr (l.getD k 0) then nr (l.getD k 0) else t := rfl
      have hmt : t ≤ mx t (l.getD k 0) := by rw [hme]; split <;> omega
      generalize l.getD k 0 = X at *
      generalize nr X = Y at *
      generalize mx t X = M at *
      have HME := hide hme
      clear hme
      go_wp2_with fail
      refine (unhide H1).mono ?_
      rintro e w4 ⟨rfl, rfl⟩
      go_wp2_with fail
      refine (unhide H2).mono ?_
      rintro e w5 ⟨rfl, c5, o5⟩
      have HB5 := hide (o5.below (unhide HB) (unhide HB).size (fun k e => by have := unhide HG; omega))
      have H4 := hide (now_any P M _ c5)
      have hc5 : w5.cell? ⟨p, o + k, none⟩ = some (I X) := by
        obtain ⟨p', o', e', hpl', hc'⟩ := unhide hc0
        cases e'
        exact ((unhide HB5).cell hpl').trans hc'
      have hpl5 := blk_lt hc5
      have HC5 := hide c5
      clear c5 o5 H1 H2 hc1 hpl
      go_wp2_with fail
      refine (unhide HQ _).mono ?_
      rintro e w6 ⟨rfl, rfl⟩
      by_cases hy : t < Y
      · have hM := unhide HME
        rw [if_pos hy] at hM
        subst hM
        go_wp2_with (refine (unhide H4).mono ?_; rintro e w6 ⟨rfl, rfl⟩)
        go_roundw
        case rel => exact ⟨k + 1, by omega, by go_num, M, rfl, hmb, unhide HC5, unhide HB5⟩
        case measure => simp [intOf]; omega
      · have hM := unhide HME
        rw [if_neg hy] at hM
        subst hM
        go_wp2_with (refine (unhide H4).mono ?_; rintro e w6 ⟨rfl, rfl⟩)
        go_roundw
        case rel => exact ⟨k + 1, by omega, by go_num, M, rfl, hmb, unhide HC5, unhide HB5⟩
        case measure => simp [intOf]; omega
    · have hklt : ¬ (k : Int) < (n : Int) := by omega
      clear hc hB
      go_wp2
      go_ret
      exact ⟨rfl, unhide HB⟩
end Go.Proofs.Yteahenojgcffpaa
