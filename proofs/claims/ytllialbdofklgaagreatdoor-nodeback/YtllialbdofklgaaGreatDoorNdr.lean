import Derived.Test.YtllialbdofklgaaGreatDoorNdl
namespace Go.Proofs.YtllialbdofklgaaGreatDoor
open Go.RowKit
set_option maxHeartbeats 8000000
set_option maxRecDepth 8000
theorem run_neqs (x y : Bs) (W : World) (h : x ≠ y) : (binOp .neq 9 (S x) (S y)).run Tryz.prog W = .ok (.bool true) W := by
  have e : true = !(x == y) := by rw [beq_eq_false_iff_ne.2 h]; rfl
  rw [e]
  simp [binOp, Op.stringOp]
theorem texts_any (a b : Option Addr) (n m cap cap2 : Nat) (l u : List Bs) (w : World) (hp : Sts w a n l) (hq : Sts w b m u) (hn : n ≤ 4294967296) (hm : m ≤ 4294967296) :
    Calls Tryz.prog 50 #[.slice a n cap, .slice b m cap2] w fun e w' => e = .returned (.bool (decide (l = u))) ∧ ∃ q, w' = w.drewN q := by
  have hN := hp.1
  have hM := hq.1
  subst hN hM
  have HP := hide hp
  have HQ := hide hq
  clear hp hq
  obtain ⟨T, hT⟩ : ∃ T, T = decide (l = u) := ⟨_, rfl⟩
  rw [← hT]
  have HT := hide hT
  clear hT
  go_enter Tryz.func50, Tryz.ntmps50
  by_cases hlen : l.length = u.length
  · have hlen' : ((l.length : Int) == (u.length : Int)) = true := by simp; omega
    have HLN := hide hlen
    rw [← hlen] at hlen' HQ ⊢
    clear hlen hm hlen'
    go_wp2
    go_loopw [5] (fun i wr => ∃ k q : Nat, k ≤ l.length ∧ i = .int .i64 k ∧ l.take k = u.take k ∧ wr = w.drewN q) (fun i _ => l.length - (Go.RowKit.intOf i).toNat)
    case atStart => exact ⟨0, 0, by omega, rfl, rfl, rfl⟩
    case round =>
      obtain ⟨k, q, hk, rfl, ha, rfl⟩ := hrel
      by_cases hlt : k < l.length
      · have hlt' : (k : Int) < (l.length : Int) := by omega
        obtain ⟨p, o, rfl, hpl, hc0⟩ := (unhide HP).at hlt
        obtain ⟨p2, o2, rfl, hpl2, hc1⟩ := (unhide HQ).at hlt
        have HS := hide (show l.getD k [] = u.getD k [] → l.take (k + 1) = u.take (k + 1) from fun h => by
          have h2 : k < u.length := by have := unhide HLN; omega
          rw [List.take_succ_eq_append_getElem hlt, List.take_succ_eq_append_getElem h2, ha]
          rw [List.getD_eq_getElem?_getD, List.getD_eq_getElem?_getD, List.getElem?_eq_getElem hlt, List.getElem?_eq_getElem h2] at h
          have h3 : l[k] = u[k] := h
          rw [h3])
        have HB := hide (show ¬ l.getD k [] = u.getD k [] → T = false from fun h => by
          rw [unhide HT, decide_eq_false_iff_not]
          exact fun e => h (by rw [e]))
        clear ha
        generalize l.getD k [] = x at *
        generalize u.getD k [] = y at *
        by_cases hxy : x = y
        · subst hxy
          have HA := hide (unhide HS rfl)
          clear HS HB
          go_wp2
          go_quiet (fail)
          go_wp2
          go_round
          case measure => simp [Go.RowKit.intOf]; omega
          case rel => exact ⟨k + 1, q + nq, by omega, by simp, unhide HA, by simp⟩
        · have hb : (x == y) = false := by rw [beq_eq_false_iff_ne]; exact hxy
          have HA := hide (unhide HB hxy)
          clear HS HB
          have hq := fun W => run_neqs x y W hxy
          go_wp2
          go_quiet (fail)
          go_wp2
          go_ret
          exact ⟨ret_bool (unhide HA).symm, q + nq, by simp⟩
      · have hlt' : ¬ (k : Int) < (l.length : Int) := by omega
        have HA := hide (show T = true by
          rw [unhide HT, decide_eq_true_eq]
          have h2 := unhide HLN
          rwa [List.take_of_length_le (by omega), List.take_of_length_le (by omega)] at ha)
        clear ha
        go_wp2
        go_ret
        exact ⟨ret_bool (unhide HA).symm, q, rfl⟩
  · have hlen' : ((l.length : Int) == (u.length : Int)) = false := by simp; omega
    have HA := hide (show T = false by
      rw [unhide HT, decide_eq_false_iff_not]
      exact fun e => hlen (by rw [e]))
    go_wp2
    go_ret
    exact ⟨ret_bool (unhide HA).symm, 0, rfl⟩
theorem ints_any (a b : Option Addr) (n m cap cap2 : Nat) (l u : List Int) (w : World) (hp : Ins w a n l) (hq : Ins w b m u) (hn : n ≤ 4294967296) (hm : m ≤ 4294967296) :
    Calls Tryz.prog 49 #[.slice a n cap, .slice b m cap2] w fun e w' => e = .returned (.bool (decide (l = u))) ∧ ∃ q, w' = w.drewN q := by
  have hN := hp.1
  have hM := hq.1
  subst hN hM
  have HP := hide hp
  have HQ := hide hq
  clear hp hq
  obtain ⟨T, hT⟩ : ∃ T, T = decide (l = u) := ⟨_, rfl⟩
  rw [← hT]
  have HT := hide hT
  clear hT
  go_enter Tryz.func49, Tryz.ntmps49
  by_cases hlen : l.length = u.length
  · have hlen' : ((l.length : Int) == (u.length : Int)) = true := by simp; omega
    have HLN := hide hlen
    rw [← hlen] at hlen' HQ ⊢
    clear hlen hm hlen'
    go_wp2
    go_loopw [5] (fun i wr => ∃ k q : Nat, k ≤ l.length ∧ i = .int .i64 k ∧ l.take k = u.take k ∧ wr = w.drewN q) (fun i _ => l.length - (Go.RowKit.intOf i).toNat)
    case atStart => exact ⟨0, 0, by omega, rfl, rfl, rfl⟩
    case round =>
      obtain ⟨k, q, hk, rfl, ha, rfl⟩ := hrel
      by_cases hlt : k < l.length
      · have hlt' : (k : Int) < (l.length : Int) := by omega
        obtain ⟨p, o, rfl, hpl, hc0⟩ := (unhide HP).at hlt
        obtain ⟨p2, o2, rfl, hpl2, hc1⟩ := (unhide HQ).at hlt
        have HS := hide (show l.getD k 0 = u.getD k 0 → l.take (k + 1) = u.take (k + 1) from fun h => by
          have h2 : k < u.length := by have := unhide HLN; omega
          rw [List.take_succ_eq_append_getElem hlt, List.take_succ_eq_append_getElem h2, ha]
          rw [List.getD_eq_getElem?_getD, List.getD_eq_getElem?_getD, List.getElem?_eq_getElem hlt, List.getElem?_eq_getElem h2] at h
          have h3 : l[k] = u[k] := h
          rw [h3])
        have HB := hide (show ¬ l.getD k 0 = u.getD k 0 → T = false from fun h => by
          rw [unhide HT, decide_eq_false_iff_not]
          exact fun e => h (by rw [e]))
        clear ha
        generalize l.getD k 0 = x at *
        generalize u.getD k 0 = y at *
        by_cases hxy : x = y
        · subst hxy
          have HA := hide (unhide HS rfl)
          clear HS HB
          go_wp2
          go_quiet (fail)
          go_wp2
          go_round
          case measure => simp [Go.RowKit.intOf]; omega
          case rel => exact ⟨k + 1, q + nq, by omega, by simp, unhide HA, by simp⟩
        · have hb : (x == y) = false := by rw [beq_eq_false_iff_ne]; exact hxy
          have HA := hide (unhide HB hxy)
          clear HS HB
          go_wp2
          go_quiet (fail)
          go_wp2
          go_ret
          exact ⟨ret_bool (unhide HA).symm, q + nq, by simp⟩
      · have hlt' : ¬ (k : Int) < (l.length : Int) := by omega
        have HA := hide (show T = true by
          rw [unhide HT, decide_eq_true_eq]
          have h2 := unhide HLN
          rwa [List.take_of_length_le (by omega), List.take_of_length_le (by omega)] at ha)
        clear ha
        go_wp2
        go_ret
        exact ⟨ret_bool (unhide HA).symm, q, rfl⟩
  · have hlen' : ((l.length : Int) == (u.length : Int)) = false := by simp; omega
    have HA := hide (show T = false by
      rw [unhide HT, decide_eq_false_iff_not]
      exact fun e => hlen (by rw [e]))
    go_wp2
    go_ret
    exact ⟨ret_bool (unhide HA).symm, 0, rfl⟩
/-- Are two nodes the same? -/
def sam (m n : Nd) : Bool := decide (m.keys = n.keys) && decide (m.vals = n.vals) && decide (m.kids = n.kids) && (m.leaf == n.leaf)
theorem nodes_any (m n : Nd) (ka va ia kb vb ib : Option Addr) (kc vc ic kd vd id : Nat) (w : World) (hm : NA m ka va ia w) (hn : NA n kb vb ib w) (bm : NB m) (bn : NB n) :
    Calls Tryz.prog 35 #[nda m ka va ia kc vc ic, nda n kb vb ib kd vd id] w fun e w' => e = .returned (.bool (sam m n)) ∧ Below w.heap.size w w' := by
  have hA := (Below.refl w.heap.size w).alloc (Nat.le_refl _) (.cells #[.bool m.leaf, .slice ka m.keys.length kc, .slice va m.vals.length vc, .slice ia m.kids.length ic] 25)
  have hg := heap_alloc_new w (.cells #[.bool m.leaf, .slice ka m.keys.length kc, .slice va m.vals.length vc, .slice ia m.kids.length ic] 25)
  have hs0 := size_alloc w (.cells #[.bool m.leaf, .slice ka m.keys.length kc, .slice va m.vals.length vc, .slice ia m.kids.length ic] 25)
  generalize hW0 : w.alloc (.cells #[.bool m.leaf, .slice ka m.keys.length kc, .slice va m.vals.length vc, .slice ia m.kids.length ic] 25) = W0 at hA hg hs0
  have hA1 := hA.alloc hA.size (.cells #[.bool n.leaf, .slice kb n.keys.length kd, .slice vb n.vals.length vd, .slice ib n.kids.length id] 25)
  have hg1 := (heap_alloc_old W0 (.cells #[.bool n.leaf, .slice kb n.keys.length kd, .slice vb n.vals.length vd, .slice ib n.kids.length id] 25) (lt_of_row hg)).trans hg
  have hk1 := heap_alloc_new W0 (.cells #[.bool n.leaf, .slice kb n.keys.length kd, .slice vb n.vals.length vd, .slice ib n.kids.length id] 25)
  have hs1 := size_alloc W0 (.cells #[.bool n.leaf, .slice kb n.keys.length kd, .slice vb n.vals.length vd, .slice ib n.kids.length id] 25)
  generalize hW1 : W0.alloc (.cells #[.bool n.leaf, .slice kb n.keys.length kd, .slice vb n.vals.length vd, .slice ib n.kids.length id] 25) = W1 at hA1 hg1 hk1 hs1
  have M := hm.below hA1
  have N := hn.below hA1
  have X1 := hide (fun q => texts_any ka kb _ _ kc kd m.keys n.keys (W1.drewN q) (M.ks.below (bel_q (Below.refl _ _) q)) (N.ks.below (bel_q (Below.refl _ _) q)) bm.k bn.k)
  have X2 := hide (fun q => texts_any va vb _ _ vc vd m.vals n.vals (W1.drewN q) (M.vs.below (bel_q (Below.refl _ _) q)) (N.vs.below (bel_q (Below.refl _ _) q)) bm.v bn.v)
  have X3 := hide (fun q => ints_any ia ib _ _ ic id m.kids n.kids (W1.drewN q) (M.is.below (bel_q (Below.refl _ _) q)) (N.is.below (bel_q (Below.refl _ _) q)) bm.i bn.i)
  have HA := hide hA1
  have hz1 : w.heap.size < W1.heap.size := by omega
  have hz2 : W0.heap.size < W1.heap.size := by omega
  obtain ⟨c0, c1, c2, c3⟩ := box4 hg1 (Below.refl _ _) hz1
  obtain ⟨d0, d1, d2, d3⟩ := box4 hk1 (Below.refl _ _) hz2
  clear hA hg hs0 hA1 hg1 hk1 hs1 M N hm hn bm bn
  unfold sam nda
  generalize decide (m.keys = n.keys) = r1 at *
  generalize decide (m.vals = n.vals) = r2 at *
  generalize decide (m.kids = n.kids) = r3 at *
  generalize m.leaf = lf at *
  generalize n.leaf = lg at *
  generalize m.keys.length = k1 at *
  generalize m.vals.length = v1 at *
  generalize m.kids.length = i1 at *
  generalize n.keys.length = k2 at *
  generalize n.vals.length = v2 at *
  generalize n.kids.length = i2 at *
  clear m n
  have x1 := hide (unhide X1 0)
  go_enter Tryz.func35, Tryz.ntmps35
  go_wp2_with fail
  refine (unhide x1).mono ?_
  rintro e w1 ⟨rfl, q, rfl⟩
  clear hW0 hW1 x1 X1
  rw [World.drewN_drewN, Nat.zero_add]
  have x2 := hide (unhide X2 q)
  go_wp2_with fail
  refine (unhide x2).mono ?_
  rintro e w1 ⟨rfl, q2, rfl⟩
  rw [World.drewN_drewN]
  have x3 := hide (unhide X3 (q + q2))
  clear x2 X2 X3
  go_wp2_with fail
  refine (unhide x3).mono ?_
  rintro e w1 ⟨rfl, q3, rfl⟩
  rw [World.drewN_drewN]
  have HB := hide (bel_q (unhide HA) (q + q2 + q3))
  clear x3
  cases r1 <;> cases r2 <;> cases r3 <;> (go_wp2; go_ret; exact ⟨ret_bool (by first | rfl | simp), unhide HB⟩)
end Go.Proofs.YtllialbdofklgaaGreatDoor
