import Derived.Test.YtllialbdofklgaaGreatDoorZzao
namespace Go.Proofs.YtllialbdofklgaaGreatDoor
open Go.RowKit
set_option maxHeartbeats 8000000
set_option maxRecDepth 8000
/-- A node, a text, a node, a word come out. -/
theorem results_n4 {fn : Func} {p q r s : Tmp} (h : fn.results = #[.cell p 25, .tmp q, .cell r 25, .tmp s]) (tmps : Array Value) (w : World) (b d : Nat) (x0 x1 x2 x3 y0 y1 y2 y3 : Value) (ht : tmps.getD p undef = .pointer (some ⟨b, 0, none⟩)) (hr : tmps.getD r undef = .pointer (some ⟨d, 0, none⟩)) (h0 : w.cell? ⟨b, 0, none⟩ = some x0) (h1 : w.cell? ⟨b, 1, none⟩ = some x1) (h2 : w.cell? ⟨b, 2, none⟩ = some x2) (h3 : w.cell? ⟨b, 3, none⟩ = some x3) (g0 : w.cell? ⟨d, 0, none⟩ = some y0) (g1 : w.cell? ⟨d, 1, none⟩ = some y1) (g2 : w.cell? ⟨d, 2, none⟩ = some y2) (g3 : w.cell? ⟨d, 3, none⟩ = some y3) :
    (results fn tmps).run Tryz.prog w = .ok (.tuple #[.agg #[x0, x1, x2, x3], tmps.getD q undef, .agg #[y0, y1, y2, y3], tmps.getD s undef]) w := by
  have ht' : tmps[p]?.getD undef = .pointer (some ⟨b, 0, none⟩) := by simpa using ht
  have hr' : tmps[r]?.getD undef = .pointer (some ⟨d, 0, none⟩) := by simpa using hr
  simp only [results, h]
  simp [ht', hr', asAddr, loadVar25 b x0 x1 x2 x3 w h0 h1 h2 h3, loadVar25 d y0 y1 y2 y3 w g0 g1 g2 g3]
theorem wrongSplit_small (n : Nd) (ka va ia : Option Addr) (kc vc ic : Nat) (w : World) (h : NA n ka va ia w) (hb : NB n) (hl : n.leaf = true) (h1 : hfl n = true) (h2 : kok n.keys = true) (h3 : n.siz ≤ 480) :
    Calls Tryz.prog 64 #[nda n ka va ia kc vc ic] w fun e w' => e = .returned (I 103) ∧ Below w.heap.size w w' := by
  have hA := (Below.refl w.heap.size w).alloc (Nat.le_refl _) (.cells #[.bool n.leaf, .slice ka n.keys.length kc, .slice va n.vals.length vc, .slice ia n.kids.length ic] 25)
  have hg := heap_alloc_new w (.cells #[.bool n.leaf, .slice ka n.keys.length kc, .slice va n.vals.length vc, .slice ia n.kids.length ic] 25)
  have hz := lt_of_row hg
  have hna := h.below hA
  have H1 := hide (size_any n ka va ia kc vc ic _ hna hb)
  have H2 := hide (fun W (b : Below (w.alloc (.cells #[.bool n.leaf, .slice ka n.keys.length kc, .slice va n.vals.length vc, .slice ia n.kids.length ic] 25)).heap.size (w.alloc (.cells #[.bool n.leaf, .slice ka n.keys.length kc, .slice va n.vals.length vc, .slice ia n.kids.length ic] 25)) W) => hasForm_leaf n ka va ia kc vc ic W (hna.below b) hb hl)
  have H3 := hide (fun W (b : Below (w.alloc (.cells #[.bool n.leaf, .slice ka n.keys.length kc, .slice va n.vals.length vc, .slice ia n.kids.length ic] 25)).heap.size (w.alloc (.cells #[.bool n.leaf, .slice ka n.keys.length kc, .slice va n.vals.length vc, .slice ia n.kids.length ic] 25)) W) => keysMayBe_any ka _ kc n.keys W (hna.below b).ks hb.k hb.kt)
  rw [h1] at H2
  rw [h2] at H3
  have HA := hide hA
  have HG := hide hg
  generalize n.siz = sz at *
  clear h hA hb hna hg h1 h2
  unfold nda at *
  rw [hl] at *
  generalize n.keys.length = kl at *
  generalize n.vals.length = vl at *
  generalize n.kids.length = il at *
  generalize hW : w.alloc (.cells #[.bool true, .slice ka kl kc, .slice va vl vc, .slice ia il ic] 25) = W0 at *
  clear hl
  obtain ⟨d0, d1, d2, d3⟩ := box4 (unhide HG) (Below.refl _ _) hz
  go_enter Tryz.func64, Tryz.ntmps64
  go_wp2_with fail
  refine (unhide H1).mono ?_
  rintro e w1 ⟨rfl, b1⟩
  clear d0 d1 d2 d3 hW H1
  obtain ⟨d0, d1, d2, d3⟩ := box4 (unhide HG) b1 hz
  have hz1 := Nat.lt_of_lt_of_le hz b1.size
  have x2 := hide (unhide H2 w1 b1)
  have B1 := hide b1
  clear b1 H2
  go_wp2_with fail
  refine (unhide x2).mono ?_
  rintro e w2 ⟨rfl, b2⟩
  clear d0 d1 d2 d3 x2 hz1
  have b2 := (unhide B1).trans (b2.mono (unhide B1).size)
  obtain ⟨d0, d1, d2, d3⟩ := box4 (unhide HG) b2 hz
  have hz1 := Nat.lt_of_lt_of_le hz b2.size
  have x3 := hide (unhide H3 w2 b2)
  have B2 := hide b2
  clear b2 H3
  go_wp2_with fail
  refine (unhide x3).mono ?_
  rintro e w3 ⟨rfl, nq, rfl⟩
  have B3 := hide ((unhide HA).trans ((bel_q (unhide B2) nq).mono (unhide HA).size))
  have h' : decide ((sz : Int) ≤ 480) = true := by rw [decide_eq_true_eq]; omega
  go_wp2
  go_ret
  exact ⟨rfl, unhide B3⟩
theorem split_small (n : Nd) (ka va ia : Option Addr) (kc vc ic : Nat) (w : World) (h : NA n ka va ia w) (hb : NB n) (hl : n.leaf = true) (h1 : hfl n = true) (h2 : kok n.keys = true) (h3 : n.siz ≤ 480) :
    Calls Tryz.prog 37 #[nda n ka va ia kc vc ic] w fun e w' => e = .returned (.tuple #[.agg #[.bool false, .slice none 0 0, .slice none 0 0, .slice none 0 0], S [], .agg #[.bool false, .slice none 0 0, .slice none 0 0, .slice none 0 0], I 103]) ∧ Below w.heap.size w w' := by
  have hA := (Below.refl w.heap.size w).alloc (Nat.le_refl _) (.cells #[.bool n.leaf, .slice ka n.keys.length kc, .slice va n.vals.length vc, .slice ia n.kids.length ic] 25)
  have hg := heap_alloc_new w (.cells #[.bool n.leaf, .slice ka n.keys.length kc, .slice va n.vals.length vc, .slice ia n.kids.length ic] 25)
  have hs0 := size_alloc w (.cells #[.bool n.leaf, .slice ka n.keys.length kc, .slice va n.vals.length vc, .slice ia n.kids.length ic] 25)
  generalize hW0 : w.alloc (.cells #[.bool n.leaf, .slice ka n.keys.length kc, .slice va n.vals.length vc, .slice ia n.kids.length ic] 25) = W0 at hA hg hs0
  have hA1 := hA.alloc hA.size (.cells #[.bool false, .slice none 0 0, .slice none 0 0, .slice none 0 0] 25)
  have hg1 := (heap_alloc_old W0 (.cells #[.bool false, .slice none 0 0, .slice none 0 0, .slice none 0 0] 25) (lt_of_row hg)).trans hg
  have hk1 := heap_alloc_new W0 (.cells #[.bool false, .slice none 0 0, .slice none 0 0, .slice none 0 0] 25)
  have hs1 := size_alloc W0 (.cells #[.bool false, .slice none 0 0, .slice none 0 0, .slice none 0 0] 25)
  generalize hW1 : W0.alloc (.cells #[.bool false, .slice none 0 0, .slice none 0 0, .slice none 0 0] 25) = W1 at hA1 hg1 hk1 hs1
  have hA2 := hA1.alloc hA1.size (.cells #[.bool false, .slice none 0 0, .slice none 0 0, .slice none 0 0] 25)
  have hp := heap_alloc_new W1 (.cells #[.bool false, .slice none 0 0, .slice none 0 0, .slice none 0 0] 25)
  have hg2 := (heap_alloc_old W1 (.cells #[.bool false, .slice none 0 0, .slice none 0 0, .slice none 0 0] 25) (lt_of_row hg1)).trans hg1
  have hk2 := (heap_alloc_old W1 (.cells #[.bool false, .slice none 0 0, .slice none 0 0, .slice none 0 0] 25) (lt_of_row hk1)).trans hk1
  have hs2 := size_alloc W1 (.cells #[.bool false, .slice none 0 0, .slice none 0 0, .slice none 0 0] 25)
  generalize hW2 : W1.alloc (.cells #[.bool false, .slice none 0 0, .slice none 0 0, .slice none 0 0] 25) = W2 at hA2 hp hg2 hk2 hs2
  have HX := hide (show W0.heap.size = w.heap.size + 1 ∧ W1.heap.size = W0.heap.size + 1 ∧ W2.heap.size = W1.heap.size + 1 from ⟨hs0, hs1, hs2⟩)
  have X1 := hide (wrongSplit_small n ka va ia kc vc ic W2 (h.below hA2) hb hl h1 h2 h3)
  have HA2 := hide hA2
  have HP := hide hp
  have HK := hide hk2
  have hz2 : w.heap.size < W2.heap.size := by omega
  have hz3 : W0.heap.size < W2.heap.size := by omega
  have hz4 : W1.heap.size < W2.heap.size := by omega
  obtain ⟨c0, c1, c2, c3⟩ := box4 hg2 (Below.refl _ _) hz2
  clear hA hg hA1 hg1 hk1 hA2 hp hg2 hk2 hs0 hs1 hs2 h hb h1 h2 h3
  unfold nda at *
  rw [hl] at *
  generalize n.keys.length = kl at *
  generalize n.vals.length = vl at *
  generalize n.kids.length = il at *
  clear hl
  go_enter Tryz.func37, Tryz.ntmps37
  go_wp2_with fail
  refine (unhide X1).mono ?_
  rintro e w1 ⟨rfl, b1⟩
  clear c0 c1 c2 c3 hW0 hW1 hW2 X1
  have hk1 := (b1.block _ hz3).trans (unhide HK)
  have hp1 := (b1.block _ hz4).trans (unhide HP)
  have HK1 := hide hk1
  have HP1 := hide hp1
  have B1 := hide b1
  have o1 := setRow_only w1 W0.heap.size #[.bool false, .slice none 0 0, .slice none 0 0, .slice none 0 0]
  have hp2 := (o1.block W1.heap.size (lt_of_row hp1) (by have := unhide HX; omega)).trans hp1
  have hk2 := setRow_heap _ _ _ #[.bool false, .slice none 0 0, .slice none 0 0, .slice none 0 0] 25 _ hk1
  generalize hV1 : w1.setRow W0.heap.size #[.bool false, .slice none 0 0, .slice none 0 0, .slice none 0 0] = V1 at o1 hp2 hk2
  have o2 := setRow_only V1 W1.heap.size #[.bool false, .slice none 0 0, .slice none 0 0, .slice none 0 0]
  have hk3 := (o2.block W0.heap.size (lt_of_row hk2) (by have := unhide HX; omega)).trans hk2
  have hp3 := setRow_heap _ _ _ #[.bool false, .slice none 0 0, .slice none 0 0, .slice none 0 0] 25 _ hp2
  have HV1 := hide hV1
  have HP2 := hide hp2
  have bb := (unhide HA2).trans (b1.mono (unhide HA2).size)
  have HB := hide (show Below w.heap.size w (V1.setRow W1.heap.size #[.bool false, .slice none 0 0, .slice none 0 0, .slice none 0 0]) from
    o2.below (o1.below bb bb.size (fun k e => by have := unhide HX; omega)) (Nat.le_trans bb.size o1.size) (fun k e => by have := unhide HX; omega))
  have HK3 := hide hk3
  have HP3 := hide hp3
  clear hk1 hp1 o1 hp2 hk2 hV1 o2 hk3 hp3 bb b1
  go_wp2_with (first | (refine wp_st25 rfl (.tmp 2) (.tmp 14) rfl W0.heap.size (by rfl) false none none none 0 0 0 0 0 0 (by rfl) _ rfl (unhide HK1) ?_; rw [unhide HV1]) | (refine wp_st25 rfl (.tmp 4) (.tmp 15) rfl W1.heap.size (by rfl) false none none none 0 0 0 0 0 0 (by rfl) _ rfl (unhide HP2) ?_) | fail)
  obtain ⟨e0, e1, e2, e3⟩ := box4 (unhide HK3) (Below.refl _ _) (lt_of_row (unhide HK3))
  obtain ⟨f0, f1, f2, f3⟩ := box4 (unhide HP3) (Below.refl _ _) (lt_of_row (unhide HP3))
  refine bodyPost_ret (results_n4 (p := 2) (q := 3) (r := 4) (s := 5) rfl _ _ W0.heap.size W1.heap.size _ _ _ _ _ _ _ _ rfl rfl e0 e1 e2 e3 f0 f1 f2 f3) rfl ?_
  exact ⟨rfl, unhide HB⟩
end Go.Proofs.YtllialbdofklgaaGreatDoor
namespace Go.Proofs.YtllialbdofklgaaGreatDoor
open Go.RowKit
set_option maxHeartbeats 8000000
set_option maxRecDepth 8000
theorem run_neqs (x y : Bs) (W : World) (h : x ≠ y) : (binOp .neq 9 (S x) (S y)).run Tryz.prog W = .ok (.bool true) W := by
  have e : true = !(x == y) := by rw [beq_eq_false_iff_ne.2 h]; rfl
  rw [e]
  simp [binOp, Op.stringOp]
theorem texts_any (a b : Option Addr) (n m cap cap2 : Nat) (l u : List Bs) (w : World) (hp : Sts w a n l) (hq : Sts w b m u) (hn : n ≤ 4294967296) (hm : m ≤ 4294967296) :
    Calls Tryz.prog 50 #[.slice a n cap, .slice b m cap2] w fun e w' => e = .returned (.bool (decide (l = u))) ∧ ∃ q, w' = w.drewN q := by
  have hN := hp.1
  have hM := hq.1
  subst hN hM
  have HP := hide hp
  have HQ := hide hq
  clear hp hq
  obtain ⟨T, hT⟩ : ∃ T, T = decide (l = u) := ⟨_, rfl⟩
  rw [← hT]
  have HT := hide hT
  clear hT
  go_enter Tryz.func50, Tryz.ntmps50
  by_cases hlen : l.length = u.length
  · have hlen' : ((l.length : Int) == (u.length : Int)) = true := by simp; omega
    have HLN := hide hlen
    rw [← hlen] at hlen' HQ ⊢
    clear hlen hm hlen'
    go_wp2
    go_loopw [5] (fun i wr => ∃ k q : Nat, k ≤ l.length ∧ i = .int .i64 k ∧ l.take k = u.take k ∧ wr = w.drewN q) (fun i _ => l.length - (Go.RowKit.intOf i).toNat)
    case atStart => exact ⟨0, 0, by omega, rfl, rfl, rfl⟩
    case round =>
      obtain ⟨k, q, hk, rfl, ha, rfl⟩ := hrel
      by_cases hlt : k < l.length
      · have hlt' : (k : Int) < (l.length : Int) := by omega
        obtain ⟨p, o, rfl, hpl, hc0⟩ := (unhide HP).at hlt
        obtain ⟨p2, o2, rfl, hpl2, hc1⟩ := (unhide HQ).at hlt
        have HS := hide (show l.getD k [] = u.getD k [] → l.take (k + 1) = u.take (k + 1) from fun h => by
          have h2 : k < u.length := by have := unhide HLN; omega
          rw [List.take_succ_eq_append_getElem hlt, List.take_succ_eq_append_getElem h2, ha]
          rw [List.getD_eq_getElem?_getD, List.getD_eq_getElem?_getD, List.getElem?_eq_getElem hlt, List.getElem?_eq_getElem h2] at h
          have h3 : l[k] = u[k] := h
          rw [h3])
        have HB := hide (show ¬ l.getD k [] = u.getD k [] → T = false from fun h => by
          rw [unhide HT, decide_eq_false_iff_not]
          exact fun e => h (by rw [e]))
        clear ha
        generalize l.getD k [] = x at *
        generalize u.getD k [] = y at *
        by_cases hxy : x = y
        · subst hxy
          have HA := hide (unhide HS rfl)
          clear HS HB
          go_wp2
          go_quiet (fail)
          go_wp2
          go_round
          case measure => simp [Go.RowKit.intOf]; omega
          case rel => exact ⟨k + 1, q + nq, by omega, by simp, unhide HA, by simp⟩
        · have hb : (x == y) = false := by rw [beq_eq_false_iff_ne]; exact hxy
          have HA := hide (unhide HB hxy)
          clear HS HB
          have hq := fun W => run_neqs x y W hxy
          go_wp2
          go_quiet (fail)
          go_wp2
          go_ret
          exact ⟨ret_bool (unhide HA).symm, q + nq, by simp⟩
      · have hlt' : ¬ (k : Int) < (l.length : Int) := by omega
        have HA := hide (show T = true by
          rw [unhide HT, decide_eq_true_eq]
          have h2 := unhide HLN
          rwa [List.take_of_length_le (by omega), List.take_of_length_le (by omega)] at ha)
        clear ha
        go_wp2
        go_ret
        exact ⟨ret_bool (unhide HA).symm, q, rfl⟩
  · have hlen' : ((l.length : Int) == (u.length : Int)) = false := by simp; omega
    have HA := hide (show T = false by
      rw [unhide HT, decide_eq_false_iff_not]
      exact fun e => hlen (by rw [e]))
    go_wp2
    go_ret
    exact ⟨ret_bool (unhide HA).symm, 0, rfl⟩
theorem ints_any (a b : Option Addr) (n m cap cap2 : Nat) (l u : List Int) (w : World) (hp : Ins w a n l) (hq : Ins w b m u) (hn : n ≤ 4294967296) (hm : m ≤ 4294967296) :
    Calls Tryz.prog 49 #[.slice a n cap, .slice b m cap2] w fun e w' => e = .returned (.bool (decide (l = u))) ∧ ∃ q, w' = w.drewN q := by
  have hN := hp.1
  have hM := hq.1
  subst hN hM
  have HP := hide hp
  have HQ := hide hq
  clear hp hq
  obtain ⟨T, hT⟩ : ∃ T, T = decide (l = u) := ⟨_, rfl⟩
  rw [← hT]
  have HT := hide hT
  clear hT
  go_enter Tryz.func49, Tryz.ntmps49
  by_cases hlen : l.length = u.length
  · have hlen' : ((l.length : Int) == (u.length : Int)) = true := by simp; omega
    have HLN := hide hlen
    rw [← hlen] at hlen' HQ ⊢
    clear hlen hm hlen'
    go_wp2
    go_loopw [5] (fun i wr => ∃ k q : Nat, k ≤ l.length ∧ i = .int .i64 k ∧ l.take k = u.take k ∧ wr = w.drewN q) (fun i _ => l.length - (Go.RowKit.intOf i).toNat)
    case atStart => exact ⟨0, 0, by omega, rfl, rfl, rfl⟩
    case round =>
      obtain ⟨k, q, hk, rfl, ha, rfl⟩ := hrel
      by_cases hlt : k < l.length
      · have hlt' : (k : Int) < (l.length : Int) := by omega
        obtain ⟨p, o, rfl, hpl, hc0⟩ := (unhide HP).at hlt
        obtain ⟨p2, o2, rfl, hpl2, hc1⟩ := (unhide HQ).at hlt
        have HS := hide (show l.getD k 0 = u.getD k 0 → l.take (k + 1) = u.take (k + 1) from fun h => by
          have h2 : k < u.length := by have := unhide HLN; omega
          rw [List.take_succ_eq_append_getElem hlt, List.take_succ_eq_append_getElem h2, ha]
          rw [List.getD_eq_getElem?_getD, List.getD_eq_getElem?_getD, List.getElem?_eq_getElem hlt, List.getElem?_eq_getElem h2] at h
          have h3 : l[k] = u[k] := h
          rw [h3])
        have HB := hide (show ¬ l.getD k 0 = u.getD k 0 → T = false from fun h => by
          rw [unhide HT, decide_eq_false_iff_not]
          exact fun e => h (by rw [e]))
        clear ha
        generalize l.getD k 0 = x at *
        generalize u.getD k 0 = y at *
        by_cases hxy : x = y
        · subst hxy
          have HA := hide (unhide HS rfl)
          clear HS HB
          go_wp2
          go_quiet (fail)
          go_wp2
          go_round
          case measure => simp [Go.RowKit.intOf]; omega
          case rel => exact ⟨k + 1, q + nq, by omega, by simp, unhide HA, by simp⟩
        · have hb : (x == y) = false := by rw [beq_eq_false_iff_ne]; exact hxy
          have HA := hide (unhide HB hxy)
          clear HS HB
          go_wp2
          go_quiet (fail)
          go_wp2
          go_ret
          exact ⟨ret_bool (unhide HA).symm, q + nq, by simp⟩
      · have hlt' : ¬ (k : Int) < (l.length : Int) := by omega
        have HA := hide (show T = true by
          rw [unhide HT, decide_eq_true_eq]
          have h2 := unhide HLN
          rwa [List.take_of_length_le (by omega), List.take_of_length_le (by omega)] at ha)
        clear ha
        go_wp2
        go_ret
        exact ⟨ret_bool (unhide HA).symm, q, rfl⟩
  · have hlen' : ((l.length : Int) == (u.length : Int)) = false := by simp; omega
    have HA := hide (show T = false by
      rw [unhide HT, decide_eq_false_iff_not]
      exact fun e => hlen (by rw [e]))
    go_wp2
    go_ret
    exact ⟨ret_bool (unhide HA).symm, 0, rfl⟩
/-- Are two nodes the same? -/
def sam (m n : Nd) : Bool := decide (m.keys = n.keys) && decide (m.vals = n.vals) && decide (m.kids = n.kids) && (m.leaf == n.leaf)
theorem nodes_any (m n : Nd) (ka va ia kb vb ib : Option Addr) (kc vc ic kd vd id : Nat) (w : World) (hm : NA m ka va ia w) (hn : NA n kb vb ib w) (bm : NB m) (bn : NB n) :
    Calls Tryz.prog 35 #[nda m ka va ia kc vc ic, nda n kb vb ib kd vd id] w fun e w' => e = .returned (.bool (sam m n)) ∧ Below w.heap.size w w' := by
  have hA := (Below.refl w.heap.size w).alloc (Nat.le_refl _) (.cells #[.bool m.leaf, .slice ka m.keys.length kc, .slice va m.vals.length vc, .slice ia m.kids.length ic] 25)
  have hg := heap_alloc_new w (.cells #[.bool m.leaf, .slice ka m.keys.length kc, .slice va m.vals.length vc, .slice ia m.kids.length ic] 25)
  have hs0 := size_alloc w (.cells #[.bool m.leaf, .slice ka m.keys.length kc, .slice va m.vals.length vc, .slice ia m.kids.length ic] 25)
  generalize hW0 : w.alloc (.cells #[.bool m.leaf, .slice ka m.keys.length kc, .slice va m.vals.length vc, .slice ia m.kids.length ic] 25) = W0 at hA hg hs0
  have hA1 := hA.alloc hA.size (.cells #[.bool n.leaf, .slice kb n.keys.length kd, .slice vb n.vals.length vd, .slice ib n.kids.length id] 25)
  have hg1 := (heap_alloc_old W0 (.cells #[.bool n.leaf, .slice kb n.keys.length kd, .slice vb n.vals.length vd, .slice ib n.kids.length id] 25) (lt_of_row hg)).trans hg
  have hk1 := heap_alloc_new W0 (.cells #[.bool n.leaf, .slice kb n.keys.length kd, .slice vb n.vals.length vd, .slice ib n.kids.length id] 25)
  have hs1 := size_alloc W0 (.cells #[.bool n.leaf, .slice kb n.keys.length kd, .slice vb n.vals.length vd, .slice ib n.kids.length id] 25)
  generalize hW1 : W0.alloc (.cells #[.bool n.leaf, .slice kb n.keys.length kd, .slice vb n.vals.length vd, .slice ib n.kids.length id] 25) = W1 at hA1 hg1 hk1 hs1
  have M := hm.below hA1
  have N := hn.below hA1
  have X1 := hide (fun q => texts_any ka kb _ _ kc kd m.keys n.keys (W1.drewN q) (M.ks.below (bel_q (Below.refl _ _) q)) (N.ks.below (bel_q (Below.refl _ _) q)) bm.k bn.k)
  have X2 := hide (fun q => texts_any va vb _ _ vc vd m.vals n.vals (W1.drewN q) (M.vs.below (bel_q (Below.refl _ _) q)) (N.vs.below (bel_q (Below.refl _ _) q)) bm.v bn.v)
  have X3 := hide (fun q => ints_any ia ib _ _ ic id m.kids n.kids (W1.drewN q) (M.is.below (bel_q (Below.refl _ _) q)) (N.is.below (bel_q (Below.refl _ _) q)) bm.i bn.i)
  have HA := hide hA1
  have hz1 : w.heap.size < W1.heap.size := by omega
  have hz2 : W0.heap.size < W1.heap.size := by omega
  obtain ⟨c0, c1, c2, c3⟩ := box4 hg1 (Below.refl _ _) hz1
  obtain ⟨d0, d1, d2, d3⟩ := box4 hk1 (Below.refl _ _) hz2
  clear hA hg hs0 hA1 hg1 hk1 hs1 M N hm hn bm bn
  unfold sam nda
  generalize decide (m.keys = n.keys) = r1 at *
  generalize decide (m.vals = n.vals) = r2 at *
  generalize decide (m.kids = n.kids) = r3 at *
  generalize m.leaf = lf at *
  generalize n.leaf = lg at *
  generalize m.keys.length = k1 at *
  generalize m.vals.length = v1 at *
  generalize m.kids.length = i1 at *
  generalize n.keys.length = k2 at *
  generalize n.vals.length = v2 at *
  generalize n.kids.length = i2 at *
  clear m n
  have x1 := hide (unhide X1 0)
  go_enter Tryz.func35, Tryz.ntmps35
  go_wp2_with fail
  refine (unhide x1).mono ?_
  rintro e w1 ⟨rfl, q, rfl⟩
  clear hW0 hW1 x1 X1
  rw [World.drewN_drewN, Nat.zero_add]
  have x2 := hide (unhide X2 q)
  go_wp2_with fail
  refine (unhide x2).mono ?_
  rintro e w1 ⟨rfl, q2, rfl⟩
  rw [World.drewN_drewN]
  have x3 := hide (unhide X3 (q + q2))
  clear x2 X2 X3
  go_wp2_with fail
  refine (unhide x3).mono ?_
  rintro e w1 ⟨rfl, q3, rfl⟩
  rw [World.drewN_drewN]
  have HB := hide (bel_q (unhide HA) (q + q2 + q3))
  clear x3
  cases r1 <;> cases r2 <;> cases r3 <;> (go_wp2; go_ret; exact ⟨ret_bool (by first | rfl | simp), unhide HB⟩)
end Go.Proofs.YtllialbdofklgaaGreatDoor
