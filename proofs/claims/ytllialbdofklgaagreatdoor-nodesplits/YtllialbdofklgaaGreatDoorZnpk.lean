import Derived.Test.YtllialbdofklgaaGreatDoorZnph
import Derived.Test.YtllialbdofklgaaGreatDoorZrgcq
import Derived.Deep.CutRange
namespace Go.Proofs.YtllialbdofklgaaGreatDoor
open Go.RowKit
set_option maxHeartbeats 16000000
set_option maxRecDepth 8000
theorem tot_limb {l : List Bs} {B : Nat} (h : ∀ i, (l.getD i []).length ≤ B) : tot l ≤ B * l.length := by
  have : ∀ k, k ≤ l.length → tot (l.take k) ≤ B * k := by
    intro k
    induction k with
    | zero => intro _; simp [tot]
    | succ k ih =>
      intro hk
      rw [tot_next l k (by omega)]
      have := ih (by omega)
      have := h k
      rw [Nat.mul_succ]
      omega
  have := this l.length (Nat.le_refl _)
  rwa [List.take_length] at this
theorem grt_las {n : Nd} (h : Grt n) : 1 ≤ las n := by
  obtain ⟨hv, hk⟩ := h.lists
  have h1 := h.lo
  have ht : tot n.keys ≤ 36 * n.keys.length := tot_limb (fun i => by
    by_cases hi : i < n.keys.length
    · exact (h.key i hi).2
    · rw [List.getD_eq_getElem?_getD, List.getElem?_eq_none (by omega)]; simp)
  unfold las Nd.siz at *
  cases hl : n.leaf
  · rw [hl] at h1
    have := (hk hl).1
    simp only [Bool.false_eq_true, if_false] at h1 ⊢
    omega
  · rw [hl] at h1
    obtain ⟨a, b, c⟩ := hv hl
    have := tot_limb c
    simp only [if_true] at h1 ⊢
    omega
theorem gre_le {n : Nd} (h : NB n) (i : Nat) : gre n i ≤ 100000000000 := by
  have h1 := siz_le (h.lft i)
  have h2 := siz_le (h.rgt i)
  unfold gre
  omega
theorem refSplit_any (n : Nd) (ka va ia : Option Addr) (kc vc ic : Nat) (w : World) (h : NA n ka va ia w) (hb : NB n) (ck : n.keys.length ≤ kc) (cv : n.vals.length ≤ vc) (ci : n.kids.length ≤ ic) (hic : ic ≤ 9223372036854775807) :
    Calls Tryz.prog 56 #[nda n ka va ia kc vc ic] w fun r w' => (wsv n ≠ 0 ∧ r = .returned (.tuple #[.agg #[.bool false, .slice none 0 0, .slice none 0 0, .slice none 0 0], S [], .agg #[.bool false, .slice none 0 0, .slice none 0 0, .slice none 0 0], I (wsv n)]) ∧ Below w.heap.size w w') ∨ (wsv n = 0 ∧ ∃ i vK vV vI uK uV uI, Plc n i ∧ r = .returned (.tuple #[.agg #[.bool n.leaf, vK, vV, vI], S (kbt n i), .agg #[.bool n.leaf, uK, uV, uI], I 0]) ∧ Rws w.heap.size (lft n i) vK vV vI w' ∧ Rws w.heap.size (rgt n i) uK uV uI w' ∧ Below w.heap.size w w') := by
  have hA := (Below.refl w.heap.size w).alloc (Nat.le_refl _) (.cells #[.bool n.leaf, .slice ka n.keys.length kc, .slice va n.vals.length vc, .slice ia n.kids.length ic] 25)
  have hgr := heap_alloc_new w (.cells #[.bool n.leaf, .slice ka n.keys.length kc, .slice va n.vals.length vc, .slice ia n.kids.length ic] 25)
  have hs0 := size_alloc w (.cells #[.bool n.leaf, .slice ka n.keys.length kc, .slice va n.vals.length vc, .slice ia n.kids.length ic] 25)
  generalize hW0 : w.alloc (.cells #[.bool n.leaf, .slice ka n.keys.length kc, .slice va n.vals.length vc, .slice ia n.kids.length ic] 25) = W0 at hA hgr hs0
  have hA1 := hA.alloc hA.size (.cells #[.bool false, .slice none 0 0, .slice none 0 0, .slice none 0 0] 25)
  have hg1 := (alloc_old W0 (.cells #[.bool false, .slice none 0 0, .slice none 0 0, .slice none 0 0] 25) (lt_of_row hgr)).trans hgr
  have hk1 := heap_alloc_new W0 (.cells #[.bool false, .slice none 0 0, .slice none 0 0, .slice none 0 0] 25)
  have hs1 := size_alloc W0 (.cells #[.bool false, .slice none 0 0, .slice none 0 0, .slice none 0 0] 25)
  generalize hW1 : W0.alloc (.cells #[.bool false, .slice none 0 0, .slice none 0 0, .slice none 0 0] 25) = W1 at hA1 hg1 hk1 hs1
  have hA2 := hA1.alloc hA1.size (.cells #[.bool false, .slice none 0 0, .slice none 0 0, .slice none 0 0] 25)
  have hp := heap_alloc_new W1 (.cells #[.bool false, .slice none 0 0, .slice none 0 0, .slice none 0 0] 25)
  have hg2 := (alloc_old W1 (.cells #[.bool false, .slice none 0 0, .slice none 0 0, .slice none 0 0] 25) (lt_of_row hg1)).trans hg1
  have hk2 := (alloc_old W1 (.cells #[.bool false, .slice none 0 0, .slice none 0 0, .slice none 0 0] 25) (lt_of_row hk1)).trans hk1
  have hs2 := size_alloc W1 (.cells #[.bool false, .slice none 0 0, .slice none 0 0, .slice none 0 0] 25)
  generalize hW2 : W1.alloc (.cells #[.bool false, .slice none 0 0, .slice none 0 0, .slice none 0 0] 25) = W2 at hA2 hp hg2 hk2 hs2
  have HX := hide (show W0.heap.size = w.heap.size + 1 ∧ W1.heap.size = W0.heap.size + 1 ∧ W2.heap.size = W1.heap.size + 1 from ⟨hs0, hs1, hs2⟩)
  have X1 := hide (refForm_any n false ka va ia kc vc ic W2 (h.below hA2) hb ci hic)
  rw [fmr_false] at X1
  have X2 := hide (fun W (q : Below W2.heap.size W2 W) => refKeys_any ka _ kc n.keys W (h.below (hA2.trans (q.mono hA2.size))).ks hb.k hb.kt)
  have X3 := hide (fun W (q : Below W2.heap.size W2 W) => refSize_any n ka va ia kc vc ic W (h.below (hA2.trans (q.mono hA2.size))) hb)
  have X4 := hide (fun (hg : Grt n) W (q : Below W2.heap.size W2 W) i h1 h2 => refParts_any n i ka va ia kc vc ic W (h.below (hA2.trans (q.mono hA2.size))) hg ck cv ci h1 h2)
  have HNB := hide hb
  have hsl := siz_le hb
  have HA2 := hide hA2
  have HP := hide hp
  have HK := hide hk2
  have HG := hide hg2
  have hz2 : w.heap.size < W2.heap.size := by omega
  have hz3 : W0.heap.size < W2.heap.size := by omega
  have hz4 : W1.heap.size < W2.heap.size := by omega
  obtain ⟨c0, c1, c2, c3⟩ := box4 hg2 (Below.refl _ _) hz2
  clear hA hgr hA1 hg1 hk1 hA2 hp hg2 hk2 hs0 hs1 hs2 h hb ck cv ci hic
  have HWS := hide (show (if hfv n then (if kok n.keys then (if n.siz ≤ 480 ∨ 718 < n.siz then 103 else 0) else 101) else 100 : Nat) = wsv n from rfl)
  have HGT := hide (fun (q : wsv n = 0) => wsv_grt q)
  unfold nda at *
  generalize hlf : n.leaf = lf at *
  generalize hkl : n.keys.length = kl at *
  generalize n.vals.length = vl at *
  generalize n.kids.length = il at *
  generalize hff : hfv n = f1 at *
  generalize kok n.keys = f2 at *
  generalize hsz : n.siz = sz at *
  have HLF := hide (And.intro hlf (And.intro hkl hsz))
  clear hlf hkl hff hsz
  go_enter Tryz.func56, Tryz.ntmps56
  go_wp2_with fail
  refine (unhide X1).mono ?_
  rintro e w1 ⟨rfl, b1⟩
  clear c0 c1 c2 c3 hW0 hW1 hW2 X1
  have B1 := hide b1
  clear b1
  cases f1
  · have hws := unhide HWS
    simp only [Bool.false_eq_true, if_false] at hws
    have hk1 := ((unhide B1).block _ hz3).trans (unhide HK)
    have hp1 := ((unhide B1).block _ hz4).trans (unhide HP)
    have HK1 := hide hk1
    have HP1 := hide hp1
    have o1 := setRow_only w1 W0.heap.size #[.bool false, .slice none 0 0, .slice none 0 0, .slice none 0 0]
    have hp2 := (o1.block W1.heap.size (lt_of_row hp1) (by have := unhide HX; omega)).trans hp1
    have hk2 := setRow_heap _ _ _ #[.bool false, .slice none 0 0, .slice none 0 0, .slice none 0 0] 25 _ hk1
    generalize hV1 : w1.setRow W0.heap.size #[.bool false, .slice none 0 0, .slice none 0 0, .slice none 0 0] = V1 at o1 hp2 hk2
    have o2 := setRow_only V1 W1.heap.size #[.bool false, .slice none 0 0, .slice none 0 0, .slice none 0 0]
    have hk3 := (o2.block W0.heap.size (lt_of_row hk2) (by have := unhide HX; omega)).trans hk2
    have hp3 := setRow_heap _ _ _ #[.bool false, .slice none 0 0, .slice none 0 0, .slice none 0 0] 25 _ hp2
    have HV1 := hide hV1
    have HP2 := hide hp2
    have bb := (unhide HA2).trans ((unhide B1).mono (unhide HA2).size)
    have HBx := hide (show Below w.heap.size w (V1.setRow W1.heap.size #[.bool false, .slice none 0 0, .slice none 0 0, .slice none 0 0]) from
      o2.below (o1.below bb bb.size (fun k e => by have := unhide HX; omega)) (Nat.le_trans bb.size o1.size) (fun k e => by have := unhide HX; omega))
    have HK3 := hide hk3
    have HP3 := hide hp3
    clear hk1 hp1 o1 hp2 hk2 hV1 o2 hk3 hp3 bb
    go_wp2_with (first | (refine wp_st25 rfl (.tmp 2) (.tmp 23) rfl W0.heap.size (by rfl) false none none none 0 0 0 0 0 0 (by rfl) _ rfl (unhide HK1) ?_; rw [unhide HV1]) | (refine wp_st25 rfl (.tmp 4) (.tmp 24) rfl W1.heap.size (by rfl) false none none none 0 0 0 0 0 0 (by rfl) _ rfl (unhide HP2) ?_) | fail)
    obtain ⟨ee0, ee1, ee2, ee3⟩ := box4 (unhide HK3) (Below.refl _ _) (lt_of_row (unhide HK3))
    obtain ⟨ff0, ff1, ff2, ff3⟩ := box4 (unhide HP3) (Below.refl _ _) (lt_of_row (unhide HP3))
    refine bodyPost_ret (results_n4 (p := 2) (q := 3) (r := 4) (s := 5) rfl _ _ W0.heap.size W1.heap.size _ _ _ _ _ _ _ _ rfl rfl ee0 ee1 ee2 ee3 ff0 ff1 ff2 ff3) rfl ?_
    exact .inl ⟨by rw [← hws]; first | rfl | decide, by rw [← hws]; first | rfl | decide, unhide HBx⟩
  · obtain ⟨c0, c1, c2, c3⟩ := box4 (unhide HG) (unhide B1) hz2
    have l1 := Nat.lt_of_lt_of_le hz2 (unhide B1).size
    have x2 := hide (unhide X2 w1 (unhide B1))
    clear X2
    go_wp2_with fail
    refine (unhide x2).mono ?_
    rintro e w2 ⟨rfl, q, rfl⟩
    clear x2
    have B2 := hide (bel_q (unhide B1) q)
    cases f2
    · have hws := unhide HWS
      simp only [Bool.false_eq_true, if_false, if_true] at hws
      clear c0 c1 c2 c3 l1
      have hk1 := ((unhide B2).block _ hz3).trans (unhide HK)
      have hp1 := ((unhide B2).block _ hz4).trans (unhide HP)
      have HK1 := hide hk1
      have HP1 := hide hp1
      have o1 := setRow_only (w1.drewN q) W0.heap.size #[.bool false, .slice none 0 0, .slice none 0 0, .slice none 0 0]
      have hp2 := (o1.block W1.heap.size (lt_of_row hp1) (by have := unhide HX; omega)).trans hp1
      have hk2 := setRow_heap _ _ _ #[.bool false, .slice none 0 0, .slice none 0 0, .slice none 0 0] 25 _ hk1
      generalize hV1 : (w1.drewN q).setRow W0.heap.size #[.bool false, .slice none 0 0, .slice none 0 0, .slice none 0 0] = V1 at o1 hp2 hk2
      have o2 := setRow_only V1 W1.heap.size #[.bool false, .slice none 0 0, .slice none 0 0, .slice none 0 0]
      have hk3 := (o2.block W0.heap.size (lt_of_row hk2) (by have := unhide HX; omega)).trans hk2
      have hp3 := setRow_heap _ _ _ #[.bool false, .slice none 0 0, .slice none 0 0, .slice none 0 0] 25 _ hp2
      have HV1 := hide hV1
      have HP2 := hide hp2
      have bb := (unhide HA2).trans ((unhide B2).mono (unhide HA2).size)
      have HBx := hide (show Below w.heap.size w (V1.setRow W1.heap.size #[.bool false, .slice none 0 0, .slice none 0 0, .slice none 0 0]) from
        o2.below (o1.below bb bb.size (fun k e => by have := unhide HX; omega)) (Nat.le_trans bb.size o1.size) (fun k e => by have := unhide HX; omega))
      have HK3 := hide hk3
      have HP3 := hide hp3
      clear hk1 hp1 o1 hp2 hk2 hV1 o2 hk3 hp3 bb
      go_wp2_with (first | (refine wp_st25 rfl (.tmp 2) (.tmp 30) rfl W0.heap.size (by rfl) false none none none 0 0 0 0 0 0 (by rfl) _ rfl (unhide HK1) ?_; rw [unhide HV1]) | (refine wp_st25 rfl (.tmp 4) (.tmp 31) rfl W1.heap.size (by rfl) false none none none 0 0 0 0 0 0 (by rfl) _ rfl (unhide HP2) ?_) | fail)
      obtain ⟨ee0, ee1, ee2, ee3⟩ := box4 (unhide HK3) (Below.refl _ _) (lt_of_row (unhide HK3))
      obtain ⟨ff0, ff1, ff2, ff3⟩ := box4 (unhide HP3) (Below.refl _ _) (lt_of_row (unhide HP3))
      refine bodyPost_ret (results_n4 (p := 2) (q := 3) (r := 4) (s := 5) rfl _ _ W0.heap.size W1.heap.size _ _ _ _ _ _ _ _ rfl rfl ee0 ee1 ee2 ee3 ff0 ff1 ff2 ff3) rfl ?_
      exact .inl ⟨by rw [← hws]; first | rfl | decide, by rw [← hws]; first | rfl | decide, unhide HBx⟩
    · have x3 := hide (unhide X3 _ (unhide B2))
      go_wp2_with fail
      refine (unhide x3).mono ?_
      rintro e w3 ⟨rfl, b3⟩
      have B3 := hide ((unhide B2).trans (b3.mono (unhide B2).size))
      clear b3 x3 c0 c1 c2 c3 l1 B1 B2
      by_cases hs1 : sz ≤ 480
      · have hs1' : (sz : Int) < 481 := by omega
        have hws := unhide HWS
        simp only [if_true, hs1, true_or] at hws
        have hk1 := ((unhide B3).block _ hz3).trans (unhide HK)
        have hp1 := ((unhide B3).block _ hz4).trans (unhide HP)
        have HK1 := hide hk1
        have HP1 := hide hp1
        have o1 := setRow_only w3 W0.heap.size #[.bool false, .slice none 0 0, .slice none 0 0, .slice none 0 0]
        have hp2 := (o1.block W1.heap.size (lt_of_row hp1) (by have := unhide HX; omega)).trans hp1
        have hk2 := setRow_heap _ _ _ #[.bool false, .slice none 0 0, .slice none 0 0, .slice none 0 0] 25 _ hk1
        generalize hV1 : w3.setRow W0.heap.size #[.bool false, .slice none 0 0, .slice none 0 0, .slice none 0 0] = V1 at o1 hp2 hk2
        have o2 := setRow_only V1 W1.heap.size #[.bool false, .slice none 0 0, .slice none 0 0, .slice none 0 0]
        have hk3 := (o2.block W0.heap.size (lt_of_row hk2) (by have := unhide HX; omega)).trans hk2
        have hp3 := setRow_heap _ _ _ #[.bool false, .slice none 0 0, .slice none 0 0, .slice none 0 0] 25 _ hp2
        have HV1 := hide hV1
        have HP2 := hide hp2
        have bb := (unhide HA2).trans ((unhide B3).mono (unhide HA2).size)
        have HBx := hide (show Below w.heap.size w (V1.setRow W1.heap.size #[.bool false, .slice none 0 0, .slice none 0 0, .slice none 0 0]) from
          o2.below (o1.below bb bb.size (fun k e => by have := unhide HX; omega)) (Nat.le_trans bb.size o1.size) (fun k e => by have := unhide HX; omega))
        have HK3 := hide hk3
        have HP3 := hide hp3
        clear hk1 hp1 o1 hp2 hk2 hV1 o2 hk3 hp3 bb
        go_wp2_with (first | (refine wp_st25 rfl (.tmp 2) (.tmp 40) rfl W0.heap.size (by rfl) false none none none 0 0 0 0 0 0 (by rfl) _ rfl (unhide HK1) ?_; rw [unhide HV1]) | (refine wp_st25 rfl (.tmp 4) (.tmp 41) rfl W1.heap.size (by rfl) false none none none 0 0 0 0 0 0 (by rfl) _ rfl (unhide HP2) ?_) | fail)
        obtain ⟨ee0, ee1, ee2, ee3⟩ := box4 (unhide HK3) (Below.refl _ _) (lt_of_row (unhide HK3))
        obtain ⟨ff0, ff1, ff2, ff3⟩ := box4 (unhide HP3) (Below.refl _ _) (lt_of_row (unhide HP3))
        refine bodyPost_ret (results_n4 (p := 2) (q := 3) (r := 4) (s := 5) rfl _ _ W0.heap.size W1.heap.size _ _ _ _ _ _ _ _ rfl rfl ee0 ee1 ee2 ee3 ff0 ff1 ff2 ff3) rfl ?_
        exact .inl ⟨by rw [← hws]; first | rfl | decide, by rw [← hws]; first | rfl | decide, unhide HBx⟩
      · have hs1' : ¬ (sz : Int) < 481 := by omega
        obtain ⟨c0, c1, c2, c3⟩ := box4 (unhide HG) (unhide B3) hz2
        have l1 := Nat.lt_of_lt_of_le hz2 (unhide B3).size
        have x3 := hide (unhide X3 _ (unhide B3))
        clear X3
        go_wp2_with fail
        refine (unhide x3).mono ?_
        rintro e w4 ⟨rfl, b4⟩
        have B4 := hide ((unhide B3).trans (b4.mono (unhide B3).size))
        clear b4 x3 c0 c1 c2 c3 l1 B3
        by_cases hs2 : 718 < sz
        · have hs2' : (718 : Int) < (sz : Int) := by omega
          have hws := unhide HWS
          simp only [if_true, hs2, or_true] at hws
          have hk1 := ((unhide B4).block _ hz3).trans (unhide HK)
          have hp1 := ((unhide B4).block _ hz4).trans (unhide HP)
          have HK1 := hide hk1
          have HP1 := hide hp1
          have o1 := setRow_only w4 W0.heap.size #[.bool false, .slice none 0 0, .slice none 0 0, .slice none 0 0]
          have hp2 := (o1.block W1.heap.size (lt_of_row hp1) (by have := unhide HX; omega)).trans hp1
          have hk2 := setRow_heap _ _ _ #[.bool false, .slice none 0 0, .slice none 0 0, .slice none 0 0] 25 _ hk1
          generalize hV1 : w4.setRow W0.heap.size #[.bool false, .slice none 0 0, .slice none 0 0, .slice none 0 0] = V1 at o1 hp2 hk2
          have o2 := setRow_only V1 W1.heap.size #[.bool false, .slice none 0 0, .slice none 0 0, .slice none 0 0]
          have hk3 := (o2.block W0.heap.size (lt_of_row hk2) (by have := unhide HX; omega)).trans hk2
          have hp3 := setRow_heap _ _ _ #[.bool false, .slice none 0 0, .slice none 0 0, .slice none 0 0] 25 _ hp2
          have HV1 := hide hV1
          have HP2 := hide hp2
          have bb := (unhide HA2).trans ((unhide B4).mono (unhide HA2).size)
          have HBx := hide (show Below w.heap.size w (V1.setRow W1.heap.size #[.bool false, .slice none 0 0, .slice none 0 0, .slice none 0 0]) from
            o2.below (o1.below bb bb.size (fun k e => by have := unhide HX; omega)) (Nat.le_trans bb.size o1.size) (fun k e => by have := unhide HX; omega))
          have HK3 := hide hk3
          have HP3 := hide hp3
          clear hk1 hp1 o1 hp2 hk2 hV1 o2 hk3 hp3 bb
          go_wp2_with (first | (refine wp_st25 rfl (.tmp 2) (.tmp 40) rfl W0.heap.size (by rfl) false none none none 0 0 0 0 0 0 (by rfl) _ rfl (unhide HK1) ?_; rw [unhide HV1]) | (refine wp_st25 rfl (.tmp 4) (.tmp 41) rfl W1.heap.size (by rfl) false none none none 0 0 0 0 0 0 (by rfl) _ rfl (unhide HP2) ?_) | fail)
          obtain ⟨ee0, ee1, ee2, ee3⟩ := box4 (unhide HK3) (Below.refl _ _) (lt_of_row (unhide HK3))
          obtain ⟨ff0, ff1, ff2, ff3⟩ := box4 (unhide HP3) (Below.refl _ _) (lt_of_row (unhide HP3))
          refine bodyPost_ret (results_n4 (p := 2) (q := 3) (r := 4) (s := 5) rfl _ _ W0.heap.size W1.heap.size _ _ _ _ _ _ _ _ rfl rfl ee0 ee1 ee2 ee3 ff0 ff1 ff2 ff3) rfl ?_
          exact .inl ⟨by rw [← hws]; first | rfl | decide, by rw [← hws]; first | rfl | decide, unhide HBx⟩
        · have hs2' : ¬ (718 : Int) < (sz : Int) := by omega
          have hws := unhide HWS
          simp only [if_true, hs1, hs2, or_self, if_false] at hws
          have hg0 := wsv_grt (n := n) hws.symm
          have HWZ := hide (show wsv n = 0 from hws.symm)
          have hla := grt_las hg0
          have HG0 := hide hg0
          obtain ⟨hlf, hkl, hsz⟩ := unhide HLF
          have hlad : las n = if lf then kl - 1 else kl - 2 := by unfold las; rw [hlf, hkl]
          have hll : las n ≤ 4294967296 := by have := (unhide HNB).k; rw [hlad]; split <;> omega
          have hklb : kl ≤ 4294967296 := by have := (unhide HNB).k; rw [hkl] at this; exact this
          have hkl2 : 2 ≤ kl := by have := hla; rw [hlad] at this; split at this <;> omega
          clear hg0 hkl hsz HGT HWS hws
          generalize hlae : las n = la at *
          have HLA := hide hlae
          clear hlae
          obtain ⟨c0, c1, c2, c3⟩ := box4 (unhide HG) (unhide B4) hz2
          have l1 := Nat.lt_of_lt_of_le hz2 (unhide B4).size
          go_upto_if 48 with fail
          go_cut [8] from 49 to 52 (fun s8 wx => s8 = .int .i64 (la : Int) ∧ wx = w4)
          case first =>
            clear X4 HNB HG0
            cases lf
            · simp only [Bool.false_eq_true, if_false] at hlad
              go_wp2
              go_meet
              refine ⟨?_, by first | rfl | trivial⟩
              congr 1
              omega
            · simp only [if_true] at hlad
              go_wp2
              go_meet
              refine ⟨?_, by first | rfl | trivial⟩
              congr 1
              omega
          case rest =>
            obtain ⟨rfl, hwc⟩ := hcut
            rw [hwc]
            clear hwc hlad c0 c1 c2 c3 l1
            go_wp2
            go_loopw [9, 10, 11] (fun s9 s10 s11 wr => ∃ k at_ : Nat, 1 ≤ k ∧ k ≤ la + 1 ∧ s11 = .int .i64 k ∧ s9 = .int .i64 at_ ∧ s10 = .int .i64 ((if at_ = 0 then 0 else gre n at_ : Nat) : Int) ∧ (k = 1 → at_ = 0) ∧ (1 < k → 1 ≤ at_ ∧ at_ < k ∧ (∀ j, 1 ≤ j → j < k → gre n at_ ≤ gre n j) ∧ (∀ j, 1 ≤ j → j < at_ → gre n at_ < gre n j)) ∧ Below W2.heap.size W2 wr) (fun _ _ i _ => la + 1 - (Go.RowKit.intOf i).toNat)
            case atStart => exact ⟨1, 0, by omega, by omega, rfl, rfl, rfl, fun _ => rfl, fun q => by omega, unhide B4⟩
            case round =>
              clear B4
              obtain ⟨k, at_, hk1, hk2, rfl, rfl, rfl, hf, hm, hB⟩ := hrel
              have HF := hide (And.intro hf hm)
              have HB := hide hB
              obtain ⟨c0, c1, c2, c3⟩ := box4 (unhide HG) hB hz2
              have l1 := Nat.lt_of_lt_of_le hz2 hB.size
              clear hf hm hB
              by_cases hlt : k ≤ la
              · have hlt' : (k : Int) ≤ (la : Int) := by omega
                have x4 := hide (unhide X4 (unhide HG0) wr (unhide HB) k hk1 hlt)
                generalize hgb : (if at_ = 0 then 0 else gre n at_ : Nat) = best at *
                have HGB := hide hgb
                clear hgb
                go_wp2_with fail
                refine (unhide x4).mono ?_
                rintro e w6 ⟨vK, vV, vI, uK, uV, uI, rfl, rl, rr, b6⟩
                obtain ⟨l1', k1, l2', k2, l3', k3, rfl, rfl, rfl⟩ := rl.form
                obtain ⟨o1, d1, o2, d2, o3, d3, rfl, rfl, rfl⟩ := rr.form
                have NL := hide (fun W (q : Below w6.heap.size w6 W) => show NA (lft n k) l1' l2' l3' W from by
                  obtain ⟨a1, a2, a3, a4, a5, a6, q1, q2, q3, q4⟩ := (rl.below q).na
                  cases q1
                  cases q2
                  cases q3
                  exact q4)
                have NQ := hide (fun W (q : Below w6.heap.size w6 W) => show NA (rgt n k) o1 o2 o3 W from by
                  obtain ⟨a1, a2, a3, a4, a5, a6, q1, q2, q3, q4⟩ := (rr.below q).na
                  cases q1
                  cases q2
                  cases q3
                  exact q4)
                have XS := hide (fun W (q : Below w6.heap.size w6 W) => refSize_any (lft n k) l1' l2' l3' k1 k2 k3 W (unhide NL W q) ((unhide HNB).lft k))
                have XT := hide (fun W (q : Below w6.heap.size w6 W) => refSize_any (rgt n k) o1 o2 o3 d1 d2 d3 W (unhide NQ W q) ((unhide HNB).rgt k))
                unfold nda at XS XT
                rw [(lft_leaf n k).trans hlf] at XS
                rw [(rgt_leaf n k).trans hlf] at XT
                have hgr : gre n k = max (lft n k).siz (rgt n k).siz := rfl
                have hz1 := siz_le ((unhide HNB).lft k)
                have hzz := siz_le ((unhide HNB).rgt k)
                have HB6 := hide ((unhide HB).trans (b6.mono (unhide HB).size))
                clear NL NQ rl rr b6 x4 HB c0 c1 c2 c3 l1
                generalize (lft n k).siz = s1 at *
                generalize (rgt n k).siz = s2 at *
                generalize (lft n k).keys.length = x1 at *
                generalize (lft n k).vals.length = x2 at *
                generalize (lft n k).kids.length = x3 at *
                generalize (rgt n k).keys.length = y1 at *
                generalize (rgt n k).vals.length = y2 at *
                generalize (rgt n k).kids.length = y3 at *
                have HGR := hide hgr
                clear hgr
                go_upto_region 18 with fail
                have ta := heap_alloc_new w6 (.cells #[.bool lf, .slice l1' x1 k1, .slice l2' x2 k2, .slice l3' x3 k3] 25)
                have sa := size_alloc w6 (.cells #[.bool lf, .slice l1' x1 k1, .slice l2' x2 k2, .slice l3' x3 k3] 25)
                have ba := (Below.refl w6.heap.size w6).alloc (Nat.le_refl _) (.cells #[.bool lf, .slice l1' x1 k1, .slice l2' x2 k2, .slice l3' x3 k3] 25)
                generalize w6.alloc (.cells #[.bool lf, .slice l1' x1 k1, .slice l2' x2 k2, .slice l3' x3 k3] 25) = Wa at ta sa ba ⊢
                have tb := heap_alloc_new Wa (.cells #[.bool lf, .slice o1 y1 d1, .slice o2 y2 d2, .slice o3 y3 d3] 25)
                rw [sa] at tb
                have ta2 := (alloc_old Wa (.cells #[.bool lf, .slice o1 y1 d1, .slice o2 y2 d2, .slice o3 y3 d3] 25) (lt_of_row ta)).trans ta
                have bb := ba.alloc ba.size (.cells #[.bool lf, .slice o1 y1 d1, .slice o2 y2 d2, .slice o3 y3 d3] 25)
                generalize Wa.alloc (.cells #[.bool lf, .slice o1 y1 d1, .slice o2 y2 d2, .slice o3 y3 d3] 25) = Wb at tb ta2 bb ⊢
                have TA := hide ta2
                have TB := hide tb
                have BB := hide bb
                have za := lt_of_row ta2
                have zb := lt_of_row tb
                clear ta sa ba tb ta2 bb
                go_cut [15] from 65 to 69 (fun s15 wx => s15 = .int .i64 ((max s1 s2 : Nat) : Int) ∧ Below W2.heap.size W2 wx)
                case first =>
                  have HC := hide ((Below.refl Wb.heap.size Wb).drew)
                  obtain ⟨c0, c1, c2, c3⟩ := box4 (unhide TA) (Below.refl _ _) za
                  obtain ⟨e0, e1, e2, e3⟩ := box4 (unhide TB) (Below.refl _ _) zb
                  clear X4 HG0 HF HGB HNB HLA HK HP HG HX
                  go_region_law (first
                    | (refine step_calls (f := 46) Tryz.func46 (by kernel_rfl) rfl rfl _ _ rfl #[.agg #[.bool lf, .slice l1' x1 k1, .slice l2' x2 k2, .slice l3' x3 k3]] ?_ (I s1) _ (unhide XS _ ((unhide BB).trans ((unhide HC).mono (unhide BB).size))) ?_; (focus (simp [Act.eval]; done)); intro w7 b7; have HC := hide ((unhide HC).trans (b7.mono (unhide HC).size)); clear b7 c0 c1 c2 c3 e0 e1 e2 e3; obtain ⟨c0, c1, c2, c3⟩ := box4 (unhide TA) (unhide HC) za; obtain ⟨e0, e1, e2, e3⟩ := box4 (unhide TB) (unhide HC) zb; have za7 := Nat.lt_of_lt_of_le za (unhide HC).size; have zb7 := Nat.lt_of_lt_of_le zb (unhide HC).size)
                    | (refine step_calls (f := 46) Tryz.func46 (by kernel_rfl) rfl rfl _ _ rfl #[.agg #[.bool lf, .slice o1 y1 d1, .slice o2 y2 d2, .slice o3 y3 d3]] ?_ (I s2) _ (unhide XT _ ((unhide BB).trans ((unhide HC).mono (unhide BB).size))) ?_; (focus (simp [Act.eval]; done)); intro w7 b7; have HC := hide ((unhide HC).trans (b7.mono (unhide HC).size)); clear b7 c0 c1 c2 c3 e0 e1 e2 e3; obtain ⟨c0, c1, c2, c3⟩ := box4 (unhide TA) (unhide HC) za; obtain ⟨e0, e1, e2, e3⟩ := box4 (unhide TB) (unhide HC) zb; have za7 := Nat.lt_of_lt_of_le za (unhide HC).size; have zb7 := Nat.lt_of_lt_of_le zb (unhide HC).size))
                  all_goals (
                    go_wp2
                    go_meet
                    refine ⟨?_, (unhide HB6).trans (((unhide BB).trans ((unhide HC).mono (unhide BB).size)).mono (unhide HB6).size)⟩
                    congr 1
                    omega)
                case rest =>
                  obtain ⟨rfl, hbc⟩ := hcut
                  have HBC := hide hbc
                  obtain ⟨hf, hm⟩ := unhide HF
                  clear hbc XS XT TA TB BB HB6 za zb
                  generalize hmx : max s1 s2 = mx at *
                  have hgm : gre n k = mx := unhide HGR
                  clear hmx HGR HF
                  have hgb := unhide HGB
                  clear HGB
                  have hmxb : mx ≤ 200000000000 := by have := gre_le (unhide HNB) k; omega
                  by_cases ha : at_ = 0
                  · subst ha
                    have hk0 : k = 1 := by
                      rcases Nat.lt_or_ge 1 k with q | q
                      · have := (hm q).1; omega
                      · omega
                    have HR := hide (show 1 < k + 1 → 1 ≤ k ∧ k < k + 1 ∧ (∀ j, 1 ≤ j → j < k + 1 → gre n k ≤ gre n j) ∧ (∀ j, 1 ≤ j → j < k → gre n k < gre n j) from fun _ => ⟨by omega, by omega, fun j h1 h2 => by rw [show j = k by omega]; exact Nat.le_refl _, fun j h1 h2 => by omega⟩)
                    have HGM := hide hgm
                    clear hf hm hgb hgm hk0
                    go_wp2
                    go_roundw
                    case measure => simp [Go.RowKit.intOf]; omega
                    case rel => exact ⟨k + 1, k, by omega, by omega, by go_num, rfl, by rw [if_neg (by omega), unhide HGM], fun q => by omega, unhide HR, unhide HBC⟩
                  · have ha' : ¬ (at_ : Int) = 0 := by omega
                    have ha'' : ((at_ : Int) == 0) = false := by simp; omega
                    rw [if_neg ha] at hgb
                    have hk1' : 1 < k := by
                      rcases Nat.lt_or_ge 1 k with q | q
                      · exact q
                      · exact absurd (hf (by omega)) ha
                    obtain ⟨m1, m2, m3, m4⟩ := hm hk1'
                    have hbl := gre_le (unhide HNB) at_
                    rw [hgb] at hbl
                    by_cases hc : mx < best
                    · have hc' : (mx : Int) < (best : Int) := by omega
                      have HR := hide (show 1 < k + 1 → 1 ≤ k ∧ k < k + 1 ∧ (∀ j, 1 ≤ j → j < k + 1 → gre n k ≤ gre n j) ∧ (∀ j, 1 ≤ j → j < k → gre n k < gre n j) from fun _ => ⟨by omega, by omega, fun j h1 h2 => by
                        rcases Nat.lt_or_ge j k with q | q
                        · have := m3 j h1 q; omega
                        · rw [show j = k by omega]; exact Nat.le_refl _, fun j h1 h2 => by have := m3 j h1 h2; omega⟩)
                      have HGM := hide hgm
                      clear hf hm hgb hgm m1 m2 m3 m4
                      go_wp2
                      go_roundw
                      case measure => simp [Go.RowKit.intOf]; omega
                      case rel => exact ⟨k + 1, k, by omega, by omega, by go_num, rfl, by rw [if_neg (by omega), unhide HGM], fun q => by omega, unhide HR, unhide HBC⟩
                    · have hc' : ¬ (mx : Int) < (best : Int) := by omega
                      have HR := hide (show 1 < k + 1 → 1 ≤ at_ ∧ at_ < k + 1 ∧ (∀ j, 1 ≤ j → j < k + 1 → gre n at_ ≤ gre n j) ∧ (∀ j, 1 ≤ j → j < at_ → gre n at_ < gre n j) from fun _ => ⟨m1, by omega, fun j h1 h2 => by
                        rcases Nat.lt_or_ge j k with q | q
                        · exact m3 j h1 q
                        · rw [show j = k by omega]; omega, m4⟩)
                      have HGM := hide hgb
                      clear hf hm hgb hgm m1 m2 m3 m4
                      go_wp2
                      go_roundw
                      case measure => simp [Go.RowKit.intOf]; omega
                      case rel => exact ⟨k + 1, at_, by omega, by omega, by go_num, rfl, by rw [if_neg ha, unhide HGM], fun q => by omega, unhide HR, unhide HBC⟩
              · have hlt' : ¬ (k : Int) ≤ (la : Int) := by omega
                obtain ⟨hf, hm⟩ := unhide HF
                obtain ⟨m1, m2, m3, m4⟩ := hm (by omega)
                have HPl := hide (show Plc n at_ from ⟨m1, by rw [unhide HLA]; omega, fun j h1 h2 => m3 j h1 (by rw [unhide HLA] at h2; omega), m4⟩)
                have x4 := hide (unhide X4 (unhide HG0) wr (unhide HB) at_ m1 (by omega))
                clear hf hm m3 m4 HF
                generalize (if at_ = 0 then 0 else gre n at_ : Nat) = best at *
                go_wp2_with fail
                refine (unhide x4).mono ?_
                rintro e w6 ⟨vK, vV, vI, uK, uV, uI, rfl, rl, rr, b6⟩
                obtain ⟨l1', k1, l2', k2, l3', k3, rfl, rfl, rfl⟩ := rl.form
                obtain ⟨o1, d1, o2, d2, o3, d3, rfl, rfl, rfl⟩ := rr.form
                have HRL := hide (And.intro rl rr)
                have hB6 := (unhide HB).trans (b6.mono (unhide HB).size)
                clear rl rr b6 x4 X4 c0 c1 c2 c3 l1
                generalize hkb : kbt n at_ = key at *
                generalize hM1 : lft n at_ = m1' at *
                generalize hM2 : rgt n at_ = m2' at *
                have HKB := hide (And.intro hkb (And.intro hM1 hM2))
                clear hkb hM1 hM2
                generalize hx1 : m1'.keys.length = x1 at *
                generalize hx2 : m1'.vals.length = x2 at *
                generalize hx3 : m1'.kids.length = x3 at *
                generalize hy1 : m2'.keys.length = y1 at *
                generalize hy2 : m2'.vals.length = y2 at *
                generalize hy3 : m2'.kids.length = y3 at *
                clear hx1 hx2 hx3 hy1 hy2 hy3
                have HB6 := hide hB6
                clear hB6
                go_upto_region 23 with fail
                have ta := heap_alloc_new w6 (.cells #[.bool lf, .slice l1' x1 k1, .slice l2' x2 k2, .slice l3' x3 k3] 25)
                have sa := size_alloc w6 (.cells #[.bool lf, .slice l1' x1 k1, .slice l2' x2 k2, .slice l3' x3 k3] 25)
                have ba := (Below.refl w6.heap.size w6).alloc (Nat.le_refl _) (.cells #[.bool lf, .slice l1' x1 k1, .slice l2' x2 k2, .slice l3' x3 k3] 25)
                generalize w6.alloc (.cells #[.bool lf, .slice l1' x1 k1, .slice l2' x2 k2, .slice l3' x3 k3] 25) = Wa at ta sa ba ⊢
                have tb := heap_alloc_new Wa (.cells #[.bool lf, .slice o1 y1 d1, .slice o2 y2 d2, .slice o3 y3 d3] 25)
                rw [sa] at tb
                have ta2 := (alloc_old Wa (.cells #[.bool lf, .slice o1 y1 d1, .slice o2 y2 d2, .slice o3 y3 d3] 25) (lt_of_row ta)).trans ta
                have bb := ba.alloc ba.size (.cells #[.bool lf, .slice o1 y1 d1, .slice o2 y2 d2, .slice o3 y3 d3] 25)
                generalize Wa.alloc (.cells #[.bool lf, .slice o1 y1 d1, .slice o2 y2 d2, .slice o3 y3 d3] 25) = Wb at tb ta2 bb ⊢
                have hX := unhide HX
                have h6s : W2.heap.size ≤ w6.heap.size := (unhide HB6).size
                have hbW := (unhide HB6).trans (bb.mono (unhide HB6).size)
                have gA := (hbW.block _ hz3).trans (unhide HK)
                have gD := (hbW.block _ hz4).trans (unhide HP)
                have hne : W0.heap.size ≠ W1.heap.size := by omega
                refine rsf w6.heap.size (w6.heap.size + 1) W0.heap.size W1.heap.size x1 x2 x3 y1 y2 y3 k1 k2 k3 d1 d2 d3 l1' l2' l3' o1 o2 o3 lf key (by kernel_rfl) (by kernel_rfl) (by kernel_rfl) _ _ (by show 89 ≤ Array.size _; simp) rfl rfl rfl rfl rfl (Wsu 3 5 Wb W0.heap.size W1.heap.size #[.bool lf, .slice l1' x1 k1, .slice l2' x2 k2, .slice l3' x3 k3] #[.bool lf, .slice o1 y1 d1, .slice o2 y2 d2, .slice o3 y3 d3]) ?_ ?_ ?_ ?_ ?_ ?_ ?_
                · exact ⟨⟨rfl, rfl, rfl, Nat.le_refl _, fun _ _ _ => rfl⟩, gA, gD⟩
                · intro j hj L W hW
                  simp only [List.mem_cons, List.not_mem_nil, or_false, not_or] at hj
                  exact hW.pure j hj.1 hj.2
                · intro L W hW; exact hW.box ta2 (by omega) (by omega)
                · intro L W hW; exact hW.box tb (by omega) (by omega)
                · intro L W hW h1 _; exact hW.st1 h1 (by decide) hne
                · intro L W hW h1 _; exact hW.st2 h1 (by decide) hne
                · intro L W hall hW
                  have ha := hW.a
                  have hb' := hW.b
                  rw [hall 3 (by omega)] at ha
                  rw [hall 5 (by omega)] at hb'
                  have HAa := hide ha
                  have HBb := hide hb'
                  obtain ⟨r1, r2⟩ := unhide HRL
                  have o := hW.only
                  have HR1 := hide (((r1.below bb).only o (fun q e => by have := (unhide HB).size; omega)).mono (show w.heap.size ≤ wr.heap.size by have := (unhide HB).size; omega))
                  have HR2 := hide (((r2.below bb).only o (fun q e => by have := (unhide HB).size; omega)).mono (show w.heap.size ≤ wr.heap.size by have := (unhide HB).size; omega))
                  have bA := (unhide HA2).trans (hbW.mono (unhide HA2).size)
                  have HR3 := hide (o.below bA bA.size (fun q e => by omega))
                  clear r1 r2 o ha hb' hW hall ta2 tb bb hbW gA gD bA hX
                  simp only [Act.put, List.setIfInBounds_toArray, List.set_cons_succ, List.set_cons_zero]
                  go_wp2
                  obtain ⟨e0, e1, e2, e3⟩ := box4 (unhide HAa) (Below.refl _ _) (lt_of_row (unhide HAa))
                  obtain ⟨f0, f1, f2, f3⟩ := box4 (unhide HBb) (Below.refl _ _) (lt_of_row (unhide HBb))
                  refine bodyPost_ret (results_n4 (p := 2) (q := 3) (r := 4) (s := 5) rfl _ _ W0.heap.size W1.heap.size _ _ _ _ _ _ _ _ rfl rfl e0 e1 e2 e3 f0 f1 f2 f3) rfl ?_
                  obtain ⟨j1, j2, j3⟩ := unhide HKB
                  refine .inr ⟨unhide HWZ, at_, unhide HPl, .slice l1' x1 k1, .slice l2' x2 k2, .slice l3' x3 k3, .slice o1 y1 d1, .slice o2 y2 d2, .slice o3 y3 d3, ?_, ?_, ?_, unhide HR3⟩
                  · rw [j1]; rfl
                  · rw [j2]; exact unhide HR1
                  · rw [j3]; exact unhide HR2
end Go.Proofs.YtllialbdofklgaaGreatDoor
namespace Go.Proofs.YtllialbdofklgaaGreatDoor
open Go.RowKit
set_option maxHeartbeats 16000000
set_option maxRecDepth 8000
theorem Plc.uniq {n : Nd} {i j : Nat} (h : Plc n i) (g : Plc n j) : i = j := by
  rcases Nat.lt_trichotomy i j with q | q | q
  · have := g.fs i h.lo q
    have := h.mn j g.lo g.hi
    omega
  · exact q
  · have := h.fs j g.lo q
    have := g.mn i h.lo h.hi
    omega
/-- Between two stores of the law's copied. -/
structure Clw (w W : World) (cs : Array Value) : Prop where
  bel : Below w.heap.size w W
  box : W.heap[w.heap.size]? = some (.cells cs 25 (0, 0))
  res : W.heap[w.heap.size + 1]? = some (.cells #[.bool false, .slice none 0 0, .slice none 0 0, .slice none 0 0] 25 (0, 0))
theorem Clw.size {w W : World} {cs : Array Value} (h : Clw w W cs) : w.heap.size + 2 ≤ W.heap.size := by have := lt_of_row h.res; omega
theorem Clw.grow {w W W' : World} {cs : Array Value} {v : Value} (h : Clw w W cs) (hv : v.ownBlock = none) (o : Only (fun k => v.ownBlock = some k) W W') : Clw w W' cs := by
  have hs := h.size
  have hn : ∀ k, ¬ v.ownBlock = some k := fun k e => by rw [hv] at e; cases e
  exact ⟨o.below h.bel h.bel.size (fun k e => (hn k e).elim), (o.block _ (by omega) (hn _)).trans h.box, (o.block _ (by omega) (hn _)).trans h.res⟩
theorem Clw.put {w W : World} {cs : Array Value} (h : Clw w W cs) (j : Nat) (v : Value) : Clw w (W.setCell ⟨w.heap.size, j, none⟩ v) (cs.setIfInBounds j v) := by
  have hs := h.size
  have o := Only.setCell W ⟨w.heap.size, j, none⟩ v
  exact ⟨o.below h.bel h.bel.size (fun k e => by show w.heap.size ≤ k; rw [show k = w.heap.size from e]; exact Nat.le_refl _), by rw [heap_setCell_same W _ j cs 25 v h.box], (o.block _ (by omega) (fun e => by have : w.heap.size + 1 = w.heap.size := e; omega)).trans h.res⟩
theorem lcopied_any (n : Nd) (ka va ia : Option Addr) (kc vc ic : Nat) (w : World) (h : NA n ka va ia w) (hb : NB n) (z1 : ka = none → kc = 0) (z2 : va = none → vc = 0) (z3 : ia = none → ic = 0) :
    Calls Tryz.prog 18 #[nda n ka va ia kc vc ic] w fun e w' => ∃ vK vV vI, e = .returned (.agg #[.bool n.leaf, vK, vV, vI]) ∧ Rws w.heap.size n vK vV vI w' ∧ Below w.heap.size w w' := by
  obtain ⟨lf, ks, vs, is⟩ := n
  unfold nda
  simp only
  have hA := (Below.refl w.heap.size w).alloc (Nat.le_refl _) (.cells #[.bool lf, .slice ka ks.length kc, .slice va vs.length vc, .slice ia is.length ic] 25)
  have hg := heap_alloc_new w (.cells #[.bool lf, .slice ka ks.length kc, .slice va vs.length vc, .slice ia is.length ic] 25)
  have hs1 := size_alloc w (.cells #[.bool lf, .slice ka ks.length kc, .slice va vs.length vc, .slice ia is.length ic] 25)
  generalize hW1 : w.alloc (.cells #[.bool lf, .slice ka ks.length kc, .slice va vs.length vc, .slice ia is.length ic] 25) = W1 at hA hg hs1
  have hA2 := hA.alloc hA.size (.cells #[.bool false, .slice none 0 0, .slice none 0 0, .slice none 0 0] 25)
  have hp := heap_alloc_new W1 (.cells #[.bool false, .slice none 0 0, .slice none 0 0, .slice none 0 0] 25)
  have hg2 := (alloc_old W1 (.cells #[.bool false, .slice none 0 0, .slice none 0 0, .slice none 0 0] 25) (lt_of_row hg)).trans hg
  have hs2 := size_alloc W1 (.cells #[.bool false, .slice none 0 0, .slice none 0 0, .slice none 0 0] 25)
  generalize hW2 : W1.alloc (.cells #[.bool false, .slice none 0 0, .slice none 0 0, .slice none 0 0] 25) = W2 at hA2 hp hg2 hs2
  have HC2 := hide (show Clw w W2 _ from ⟨hA2, hg2, by rw [hs1] at hp; exact hp⟩)
  have HN := hide h
  have HB := hide hb
  have HX := hide (show W1.heap.size = w.heap.size + 1 from hs1)
  have Z1 := hide z1
  have Z2 := hide z2
  have Z3 := hide z3
  obtain ⟨c0, c1, c2, c3⟩ := box4 hg2 (Below.refl _ _) (lt_of_row hg2)
  clear hA hg hs1 hA2 hp hg2 hs2 h hb z1 z2 z3
  go_enter Tryz.func18, Tryz.ntmps18
  go_upto_region 5 with (at_builtin; refine wp_anyS rfl (.tmp 6) (.tmp 8) rfl (.slice none 0 0) 0 [] (by rfl) (owns_nil _ _ _) ka ks.length kc ks ((unhide HN).below (unhide HC2).bel).ks (unhide Z1) (by rfl) (by have : ks.length ≤ 4294967296 := (unhide HB).k; omega) ?_; intro p3 k3 w3 r3 o3 n3; have HC3 := hide ((unhide HC2).grow rfl o3); obtain ⟨d0, d1, d2, d3⟩ := box4 (unhide HC3).box (Below.refl _ _) (lt_of_row (unhide HC3).box); have fz3 := frz (unhide HC3).box 1; have HO3 := hide o3; have HR3 := hide r3; have HN3 := hide n3; clear r3 o3 n3)
  have HC3b := hide ((unhide HC3).put 1 (.slice p3 ks.length k3))
  have HO3b := hide (Only.setCell w3 ⟨w.heap.size, 1, none⟩ (.slice p3 ks.length k3))
  clear d0 d1 d2 d3 fz3
  generalize w3.setCell ⟨w.heap.size, 1, none⟩ (.slice p3 ks.length k3) = V3 at *
  obtain ⟨d0, d1, d2, d3⟩ := box4 (unhide HC3b).box (Below.refl _ _) (lt_of_row (unhide HC3b).box)
  go_upto_region 6 with (at_builtin; refine wp_anyS rfl (.tmp 11) (.tmp 13) rfl (.slice none 0 0) 0 [] (by rfl) (owns_nil _ _ _) va vs.length vc vs ((unhide HN).below (unhide HC3b).bel).vs (unhide Z2) (by rfl) (by have : vs.length ≤ 4294967296 := (unhide HB).v; omega) ?_; intro p4 k4 w4 r4 o4 n4; have HC4 := hide ((unhide HC3b).grow rfl o4); obtain ⟨d0, d1, d2, d3⟩ := box4 (unhide HC4).box (Below.refl _ _) (lt_of_row (unhide HC4).box); have fz4 := frz (unhide HC4).box 2; have HO4 := hide o4; have HR4 := hide r4; have HN4 := hide n4; clear r4 o4 n4)
  have HC4b := hide ((unhide HC4).put 2 (.slice p4 vs.length k4))
  have HO4b := hide (Only.setCell w4 ⟨w.heap.size, 2, none⟩ (.slice p4 vs.length k4))
  clear d0 d1 d2 d3 fz4
  generalize w4.setCell ⟨w.heap.size, 2, none⟩ (.slice p4 vs.length k4) = V4 at *
  obtain ⟨d0, d1, d2, d3⟩ := box4 (unhide HC4b).box (Below.refl _ _) (lt_of_row (unhide HC4b).box)
  go_upto_region 7 with (at_builtin; refine wp_anyI rfl (.tmp 16) (.tmp 18) rfl (.slice none 0 0) 0 [] (by rfl) (owns_nil _ _ _) ia is.length ic is ((unhide HN).below (unhide HC4b).bel).is (unhide Z3) (by rfl) (by have : is.length ≤ 4294967296 := (unhide HB).i; omega) ?_; intro p5 k5 w5 r5 o5 n5; have HC5 := hide ((unhide HC4b).grow rfl o5); obtain ⟨d0, d1, d2, d3⟩ := box4 (unhide HC5).box (Below.refl _ _) (lt_of_row (unhide HC5).box); have fz5 := frz (unhide HC5).box 3; have HO5 := hide o5; have HR5 := hide r5; have HN5 := hide n5; clear r5 o5 n5)
  have HC5b := hide ((unhide HC5).put 3 (.slice p5 is.length k5))
  have HO5b := hide (Only.setCell w5 ⟨w.heap.size, 3, none⟩ (.slice p5 is.length k5))
  clear d0 d1 d2 d3 fz5
  generalize w5.setCell ⟨w.heap.size, 3, none⟩ (.slice p5 is.length k5) = V5 at *
  obtain ⟨d0, d1, d2, d3⟩ := box4 (unhide HC5b).box (Below.refl _ _) (lt_of_row (unhide HC5b).box)
  have hX := unhide HX
  rw [hX] at *
  have fz := frz (unhide HC5b).res
  obtain ⟨e0, e1, e2, e3⟩ := box4 (unhide HC5b).res (Below.refl _ _) (lt_of_row (unhide HC5b).res)
  go_wp2
  have r4 := set4 (unhide HC5b).res rfl (.bool lf) (.slice p3 ks.length k3) (.slice p4 vs.length k4) (.slice p5 is.length k5)
  have o4 := set4_only V5 (w.heap.size + 1) (.bool lf) (.slice p3 ks.length k3) (.slice p4 vs.length k4) (.slice p5 is.length k5)
  generalize (((V5.setCell { block := w.heap.size + 1, off := 0 } (Value.bool lf)).setCell { block := w.heap.size + 1, off := 1 } (Value.slice p3 ks.length k3)).setCell { block := w.heap.size + 1, off := 2 } (Value.slice p4 vs.length k4)).setCell { block := w.heap.size + 1, off := 3 } (Value.slice p5 is.length k5) = F at r4 o4 ⊢
  refine outN1 (p := 2) rfl rfl rfl r4 ?_
  have s2 := (unhide HC2).size
  have s3 := (unhide HC3b).size
  have s4 := (unhide HC4b).size
  have q5 : Only (fun k => k = w.heap.size ∨ k = w.heap.size + 1) w5 F := ((unhide HO5b).mono (fun k _ e => Or.inl e)).trans o4 (fun k _ e => Or.inr e)
  have q4 : Only (fun k => k = w.heap.size ∨ k = w.heap.size + 1) w4 F := ((unhide HO4b).mono (fun k _ e => Or.inl e)).trans (((unhide HO5).mono (fun k _ e => nomatch e)).trans q5 (fun k _ e => e)) (fun k _ e => e)
  have q3 : Only (fun k => k = w.heap.size ∨ k = w.heap.size + 1) w3 F := ((unhide HO3b).mono (fun k _ e => Or.inl e)).trans (((unhide HO4).mono (fun k _ e => nomatch e)).trans q4 (fun k _ e => e)) (fun k _ e => e)
  have a3 := unhide HR3
  have a4 := unhide HR4
  have a5 := unhide HR5
  have b3 := unhide HN3
  have b4 := unhide HN4
  have b5 := unhide HN5
  rw [Nat.zero_add, List.nil_append] at a3 a4 a5
  rw [Nat.zero_add] at b3 b4 b5
  have g3 : ∀ i, (Value.slice p3 ks.length k3).ownBlock = some i → w.heap.size + 2 ≤ i := fun i hi => by
    rcases b3 i hi with q | q
    · cases q
    · omega
  have g4 : ∀ i, (Value.slice p4 vs.length k4).ownBlock = some i → w.heap.size + 2 ≤ i := fun i hi => by
    rcases b4 i hi with q | q
    · cases q
    · omega
  have g5 : ∀ i, (Value.slice p5 is.length k5).ownBlock = some i → w.heap.size + 2 ≤ i := fun i hi => by
    rcases b5 i hi with q | q
    · cases q
    · omega
  refine ⟨_, _, _, rfl, ⟨owns_only a3 q3 (fun i hi e => by have := g3 i hi; omega), owns_only a4 q4 (fun i hi e => by have := g4 i hi; omega), owns_only a5 q5 (fun i hi e => by have := g5 i hi; omega), fun i hi => by have := g3 i hi; omega, fun i hi => by have := g4 i hi; omega, fun i hi => by have := g5 i hi; omega⟩, ?_⟩
  exact o4.below (unhide HC5b).bel (unhide HC5b).bel.size (fun k e => by omega)
