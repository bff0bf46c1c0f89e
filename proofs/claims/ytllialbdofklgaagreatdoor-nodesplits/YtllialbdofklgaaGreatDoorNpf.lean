import Derived.Test.YtllialbdofklgaaGreatDoorNon
import Derived.Test.YtllialbdofklgaaGreatDoorZnpb
namespace Go.Proofs.YtllialbdofklgaaGreatDoor
open Go.RowKit
set_option maxHeartbeats 8000000
set_option maxRecDepth 8000
/-- Why a node can't be parted. -/
def wsv (n : Nd) : Nat := if hfv n then (if kok n.keys then (if n.siz ≤ 480 ∨ 718 < n.siz then 103 else 0) else 101) else 100
theorem wrongSplit_any (n : Nd) (ka va ia : Option Addr) (kc vc ic : Nat) (w : World) (h : NA n ka va ia w) (hb : NB n) :
    Calls Tryz.prog 64 #[nda n ka va ia kc vc ic] w fun e w' => e = .returned (I (wsv n)) ∧ Below w.heap.size w w' := by
  have hA := (Below.refl w.heap.size w).alloc (Nat.le_refl _) (.cells #[.bool n.leaf, .slice ka n.keys.length kc, .slice va n.vals.length vc, .slice ia n.kids.length ic] 25)
  have hg := heap_alloc_new w (.cells #[.bool n.leaf, .slice ka n.keys.length kc, .slice va n.vals.length vc, .slice ia n.kids.length ic] 25)
  have hz := lt_of_row hg
  generalize hW : w.alloc (.cells #[.bool n.leaf, .slice ka n.keys.length kc, .slice va n.vals.length vc, .slice ia n.kids.length ic] 25) = W1 at hA hg hz
  have hna := h.below hA
  have H1 := hide (size_any n ka va ia kc vc ic W1 hna hb)
  have H2 := hide (fun W (b : Below W1.heap.size W1 W) => hasForm_any n ka va ia kc vc ic W (hna.below b) hb)
  have H3 := hide (fun W (b : Below W1.heap.size W1 W) => keysMayBe_any ka _ kc n.keys W (hna.below b).ks hb.k hb.kt)
  have hsl := siz_le hb
  have HA := hide hA
  have HG := hide hg
  have HS := hide (show (if hfv n then (if kok n.keys then (if n.siz ≤ 480 ∨ 718 < n.siz then 103 else 0) else 101) else 100 : Nat) = wsv n from rfl)
  obtain ⟨d0, d1, d2, d3⟩ := box4 hg (Below.refl _ _) hz
  clear h hA hb hna hg
  unfold nda at *
  generalize wsv n = wv at *
  generalize hfv n = f1 at *
  generalize kok n.keys = f2 at *
  generalize n.siz = sz at *
  generalize n.leaf = lf at *
  generalize n.keys.length = kl at *
  generalize n.vals.length = vl at *
  generalize n.kids.length = il at *
  go_enter Tryz.func64, Tryz.ntmps64
  go_wp2_with fail
  refine (unhide H1).mono ?_
  rintro e w1 ⟨rfl, b1⟩
  clear d0 d1 d2 d3 hW H1
  obtain ⟨d0, d1, d2, d3⟩ := box4 (unhide HG) b1 hz
  have hz1 := Nat.lt_of_lt_of_le hz b1.size
  have x2 := hide (unhide H2 w1 b1)
  have B1 := hide b1
  clear b1 H2
  go_wp2_with fail
  refine (unhide x2).mono ?_
  rintro e w2 ⟨rfl, b2⟩
  clear d0 d1 d2 d3 x2 hz1
  have b2 := (unhide B1).trans (b2.mono (unhide B1).size)
  obtain ⟨d0, d1, d2, d3⟩ := box4 (unhide HG) b2 hz
  have hz1 := Nat.lt_of_lt_of_le hz b2.size
  have x3 := hide (unhide H3 w2 b2)
  have B2 := hide b2
  clear b2 H3 B1
  cases f1
  · have hs := unhide HS
    simp only [Bool.false_eq_true, if_false] at hs
    subst hs
    go_wp2
    go_ret
    exact ⟨rfl, (unhide HA).trans ((unhide B2).mono (unhide HA).size)⟩
  · go_wp2_with fail
    refine (unhide x3).mono ?_
    rintro e w3 ⟨rfl, q, rfl⟩
    have B3 := hide ((unhide HA).trans ((bel_q (unhide B2) q).mono (unhide HA).size))
    clear x3
    cases f2
    · have hs := unhide HS
      simp only [Bool.false_eq_true, if_false, if_true] at hs
      subst hs
      go_wp2
      go_ret
      exact ⟨rfl, unhide B3⟩
    · by_cases h4 : sz ≤ 480
      · have h4' : (sz : Int) ≤ 480 := by omega
        have hs := unhide HS
        simp only [if_true, h4, true_or] at hs
        subst hs
        go_wp2
        go_ret
        exact ⟨rfl, unhide B3⟩
      · have h4' : ¬ (sz : Int) ≤ 480 := by omega
        by_cases h5 : 718 < sz
        · have h5' : (718 : Int) < (sz : Int) := by omega
          have hs := unhide HS
          simp only [if_true, h5, or_true] at hs
          subst hs
          go_wp2
          go_ret
          exact ⟨rfl, unhide B3⟩
        · have h5' : ¬ (718 : Int) < (sz : Int) := by omega
          have hs := unhide HS
          simp only [if_true, h4, h5, or_self, if_false] at hs
          subst hs
          go_wp2
          go_ret
          exact ⟨rfl, unhide B3⟩
theorem split_err (n : Nd) (ka va ia : Option Addr) (kc vc ic : Nat) (w : World) (h : NA n ka va ia w) (hb : NB n) (hw : wsv n ≠ 0) :
    Calls Tryz.prog 37 #[nda n ka va ia kc vc ic] w fun e w' => e = .returned (.tuple #[.agg #[.bool false, .slice none 0 0, .slice none 0 0, .slice none 0 0], S [], .agg #[.bool false, .slice none 0 0, .slice none 0 0, .slice none 0 0], I (wsv n)]) ∧ Below w.heap.size w w' := by
  have hA := (Below.refl w.heap.size w).alloc (Nat.le_refl _) (.cells #[.bool n.leaf, .slice ka n.keys.length kc, .slice va n.vals.length vc, .slice ia n.kids.length ic] 25)
  have hg := heap_alloc_new w (.cells #[.bool n.leaf, .slice ka n.keys.length kc, .slice va n.vals.length vc, .slice ia n.kids.length ic] 25)
  have hs0 := size_alloc w (.cells #[.bool n.leaf, .slice ka n.keys.length kc, .slice va n.vals.length vc, .slice ia n.kids.length ic] 25)
  generalize hW0 : w.alloc (.cells #[.bool n.leaf, .slice ka n.keys.length kc, .slice va n.vals.length vc, .slice ia n.kids.length ic] 25) = W0 at hA hg hs0
  have hA1 := hA.alloc hA.size (.cells #[.bool false, .slice none 0 0, .slice none 0 0, .slice none 0 0] 25)
  have hg1 := (alloc_old W0 (.cells #[.bool false, .slice none 0 0, .slice none 0 0, .slice none 0 0] 25) (lt_of_row hg)).trans hg
  have hk1 := heap_alloc_new W0 (.cells #[.bool false, .slice none 0 0, .slice none 0 0, .slice none 0 0] 25)
  have hs1 := size_alloc W0 (.cells #[.bool false, .slice none 0 0, .slice none 0 0, .slice none 0 0] 25)
  generalize hW1 : W0.alloc (.cells #[.bool false, .slice none 0 0, .slice none 0 0, .slice none 0 0] 25) = W1 at hA1 hg1 hk1 hs1
  have hA2 := hA1.alloc hA1.size (.cells #[.bool false, .slice none 0 0, .slice none 0 0, .slice none 0 0] 25)
  have hp := heap_alloc_new W1 (.cells #[.bool false, .slice none 0 0, .slice none 0 0, .slice none 0 0] 25)
  have hg2 := (alloc_old W1 (.cells #[.bool false, .slice none 0 0, .slice none 0 0, .slice none 0 0] 25) (lt_of_row hg1)).trans hg1
  have hk2 := (alloc_old W1 (.cells #[.bool false, .slice none 0 0, .slice none 0 0, .slice none 0 0] 25) (lt_of_row hk1)).trans hk1
  have hs2 := size_alloc W1 (.cells #[.bool false, .slice none 0 0, .slice none 0 0, .slice none 0 0] 25)
  generalize hW2 : W1.alloc (.cells #[.bool false, .slice none 0 0, .slice none 0 0, .slice none 0 0] 25) = W2 at hA2 hp hg2 hk2 hs2
  have HX := hide (show W0.heap.size = w.heap.size + 1 ∧ W1.heap.size = W0.heap.size + 1 ∧ W2.heap.size = W1.heap.size + 1 from ⟨hs0, hs1, hs2⟩)
  have X1 := hide (wrongSplit_any n ka va ia kc vc ic W2 (h.below hA2) hb)
  have HA2 := hide hA2
  have HP := hide hp
  have HK := hide hk2
  have hz2 : w.heap.size < W2.heap.size := by omega
  have hz3 : W0.heap.size < W2.heap.size := by omega
  have hz4 : W1.heap.size < W2.heap.size := by omega
  obtain ⟨c0, c1, c2, c3⟩ := box4 hg2 (Below.refl _ _) hz2
  clear hA hg hA1 hg1 hk1 hA2 hp hg2 hk2 hs0 hs1 hs2 h hb
  unfold nda at *
  generalize n.leaf = lf at *
  generalize n.keys.length = kl at *
  generalize n.vals.length = vl at *
  generalize n.kids.length = il at *
  have hwl : wsv n ≤ 103 := by unfold wsv; split <;> (try split) <;> (try split) <;> omega
  have hw' : ¬ (wsv n : Int) = 0 := by omega
  generalize wsv n = wv at *
  go_enter Tryz.func37, Tryz.ntmps37
  go_wp2_with fail
  refine (unhide X1).mono ?_
  rintro e w1 ⟨rfl, b1⟩
  clear c0 c1 c2 c3 hW0 hW1 hW2 X1
  have hk1 := (b1.block _ hz3).trans (unhide HK)
  have hp1 := (b1.block _ hz4).trans (unhide HP)
  have HK1 := hide hk1
  have HP1 := hide hp1
  have B1 := hide b1
  have o1 := setRow_only w1 W0.heap.size #[.bool false, .slice none 0 0, .slice none 0 0, .slice none 0 0]
  have hp2 := (o1.block W1.heap.size (lt_of_row hp1) (by have := unhide HX; omega)).trans hp1
  have hk2 := setRow_heap _ _ _ #[.bool false, .slice none 0 0, .slice none 0 0, .slice none 0 0] 25 _ hk1
  generalize hV1 : w1.setRow W0.heap.size #[.bool false, .slice none 0 0, .slice none 0 0, .slice none 0 0] = V1 at o1 hp2 hk2
  have o2 := setRow_only V1 W1.heap.size #[.bool false, .slice none 0 0, .slice none 0 0, .slice none 0 0]
  have hk3 := (o2.block W0.heap.size (lt_of_row hk2) (by have := unhide HX; omega)).trans hk2
  have hp3 := setRow_heap _ _ _ #[.bool false, .slice none 0 0, .slice none 0 0, .slice none 0 0] 25 _ hp2
  have HV1 := hide hV1
  have HP2 := hide hp2
  have bb := (unhide HA2).trans (b1.mono (unhide HA2).size)
  have HB := hide (show Below w.heap.size w (V1.setRow W1.heap.size #[.bool false, .slice none 0 0, .slice none 0 0, .slice none 0 0]) from
    o2.below (o1.below bb bb.size (fun k e => by have := unhide HX; omega)) (Nat.le_trans bb.size o1.size) (fun k e => by have := unhide HX; omega))
  have HK3 := hide hk3
  have HP3 := hide hp3
  clear hk1 hp1 o1 hp2 hk2 hV1 o2 hk3 hp3 bb b1
  go_wp2_with (first | (refine wp_st25 rfl (.tmp 2) (.tmp 14) rfl W0.heap.size (by rfl) false none none none 0 0 0 0 0 0 (by rfl) _ rfl (unhide HK1) ?_; rw [unhide HV1]) | (refine wp_st25 rfl (.tmp 4) (.tmp 15) rfl W1.heap.size (by rfl) false none none none 0 0 0 0 0 0 (by rfl) _ rfl (unhide HP2) ?_) | fail)
  obtain ⟨e0, e1, e2, e3⟩ := box4 (unhide HK3) (Below.refl _ _) (lt_of_row (unhide HK3))
  obtain ⟨f0, f1, f2, f3⟩ := box4 (unhide HP3) (Below.refl _ _) (lt_of_row (unhide HP3))
  refine bodyPost_ret (results_n4 (p := 2) (q := 3) (r := 4) (s := 5) rfl _ _ W0.heap.size W1.heap.size _ _ _ _ _ _ _ _ rfl rfl e0 e1 e2 e3 f0 f1 f2 f3) rfl ?_
  exact ⟨rfl, unhide HB⟩
theorem wsv_grt {n : Nd} (h : wsv n = 0) : Grt n := by
  unfold wsv at h
  cases h1 : hfv n
  · rw [h1] at h; cases h
  · rw [h1] at h
    cases h2 : kok n.keys
    · rw [h2] at h; cases h
    · rw [h2] at h
      simp only [if_true] at h
      split at h
      · cases h
      · rename_i h3
        rw [not_or] at h3
        unfold hfv at h1
        rw [Bool.and_eq_true] at h1
        refine ⟨h1.2, h2, by omega, by omega, ?_⟩
        have ha := h1.2
        unfold agv at ha
        cases hl : n.leaf
        · rw [hl] at ha
          simp only [Bool.false_eq_true, if_false, agi, Bool.and_eq_true] at ha
          exact (unl_iff _).1 ha.2
        · rw [hl] at ha
          simp only [if_true, agl, Bool.and_eq_true, decide_eq_true_eq] at ha
          rw [List.eq_nil_of_length_eq_zero ha.1.2]
          exact List.nodup_nil
end Go.Proofs.YtllialbdofklgaaGreatDoor
