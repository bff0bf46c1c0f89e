import Derived.Test.YtknlafgaagimjaaDoorApa
import Derived.Test.YtknlafgaagimjaaDoorRff
namespace Go.Proofs.YtknlafgaagimjaaDoor
open Go.RowKit Go.Lib
/-- Lists that came out, each in a block of its own. -/
structure Prs (B : Nat) (ps : List (Value × List Bs)) (w : World) : Prop where
  row : ∀ p ∈ ps, Row w p.1 p.2
  apart : ps.Pairwise fun p q => ∀ g, p.1.ownBlock = some g → q.1.ownBlock ≠ some g
  above : ∀ p ∈ ps, ∀ g, p.1.ownBlock = some g → B ≤ g
theorem Prs.nil (B : Nat) (w : World) : Prs B [] w := ⟨fun _ h => (by cases h), List.Pairwise.nil, fun _ h => (by cases h)⟩
theorem Prs.below {B : Nat} {ps : List (Value × List Bs)} {w w' : World} (h : Prs B ps w) (k : Below w.heap.size w w') : Prs B ps w' := ⟨fun p hp => (h.row p hp).below k, h.apart, h.above⟩
theorem row_of_own {B : Nat} {w : World} {v : Value} {l : List Bs} (h : Own B w v l) : Row w v l := h.below (B' := 0) (Below.refl _ _) (Nat.zero_le _)
theorem own_high {B : Nat} {w : World} {v : Value} {l : List Bs} (h : Own B w v l) : ∀ g, v.ownBlock = some g → B ≤ g := fun g hg => (World.ownsRow.lt h g hg).1
/-- One more, which a call gave. -/
theorem Prs.snoc {B : Nat} {ps : List (Value × List Bs)} {w w' : World} {v : Value} {l : List Bs} (h : Prs B ps w) (hB : B ≤ w.heap.size) (ho : Own w.heap.size w' v l) (k : Below w.heap.size w w') : Prs B (ps ++ [(v, l)]) w' := by
  have h' := h.below k
  refine ⟨fun p hp => ?_, List.pairwise_append.2 ⟨h'.apart, by simp, fun p hp q hq g hg e => ?_⟩, fun p hp => ?_⟩
  · rcases List.mem_append.1 hp with q | q
    · exact h'.row p q
    · rw [List.mem_singleton.1 q]; exact row_of_own ho
  · rw [List.mem_singleton.1 hq] at e
    have h1 := own_high ho g e
    have h2 := (h.row p hp).lt g hg
    omega
  · rcases List.mem_append.1 hp with q | q
    · exact h'.above p q
    · rw [List.mem_singleton.1 q]
      intro g hg
      have := own_high ho g hg
      omega
/-- The row of lists is made longer. -/
theorem Prs.grown {B b : Nat} {ps : List (Value × List Bs)} {w w' : World} {lv : Value} {xs : List Value} (h : Prs B ps w) (hs : Seq b 24 w lv xs) (hg : w.grownBy w' lv.ownBlock) : Prs B ps w' := by
  refine ⟨fun p hp => (h.row p hp).keep fun g hg' => ?_, h.apart, h.above⟩
  refine hg.block g ((h.row p hp).lt g hg') (fun e => ?_)
  obtain ⟨c1, e1⟩ := (h.row p hp).kind g hg'
  obtain ⟨c2, e2⟩ := hs.kind g e.symm
  rw [e1] at e2
  cases e2
theorem pushV {b : Nat} {ops : Array Oper} {rest : List Oper} {o : Oper} {a : Act} {Q : Exit → Act → World → Prop} (hgd : o.guard = none) (s x : Operand)
    (ho : o.op = .call { callee := .builtin .append, args := #[s, x], argTypes := #[25, 25] }) (v : Value) (xs news : List Value) (hs : a.eval s = v) (w0 w : World) (hw : w = w0.alloc (.cells news.toArray 24)) (hb : Seq b 24 w0 v xs) (h1 : ∀ u ∈ news, u.oneCell' = true)
    (hx : a.eval x = .slice (some ⟨w0.heap.size, 0, none⟩) news.length news.length) (hL : xs.length + news.length ≤ 1000000000) (hB : b ≤ w0.heap.size)
    (h : ∀ v' w', Seq b 24 w' v' (xs ++ news) → w.grownBy w' v.ownBlock → wpList Tryd.prog ops Q rest (a.put o.dst v') w') : wpList Tryd.prog ops Q (o :: rest) a w := by
  subst hw
  obtain ⟨i0, hi, hz0, hz1, hz2⟩ := info_parts info24
  refine wpList_append_own _ hgd s x 25 ho b 24 i0 (.slice none 0 0) 1 24 Tryd.underlying25 hi hz0 hz1 hz2 rfl (by decide) v xs.length xs hs (hb.keep (fun g hg => Below.heap_alloc w0 _ g (hb.lt g hg))) ⟨w0.heap.size, 0, none⟩ news.length news.length news hx (by omega) ?_ h1 (by unfold maxLen; omega) (by omega) (by simp; omega) ?_
  · intro j u hj
    have hadd : (⟨w0.heap.size, 0, none⟩ : Addr).add j = ⟨w0.heap.size, j, none⟩ := by unfold Addr.add; split <;> simp_all
    rw [hadd, cell_of_row _ _ j _ 24 (0, 0) (heap_alloc_new _ _)]
    simpa using hj
  · intro v' w' ho' hg _
    refine h v' w' ?_ hg
    unfold Seq
    rw [List.length_append]
    exact ho'
/-- The row as apart wants it. -/
theorem rows_of {B : Nat} {ps : List (Value × List Bs)} {w : World} {lv : Value} (h : Prs B ps w) (hs : Seq B 24 w lv (ps.map Prod.fst)) (hn : ps ≠ []) :
    ∃ G cap, lv = .slice (some ⟨G, 0, none⟩) ps.length cap ∧ Rows B G ps.length (fun i => (ps.getD i (undef, [])).1) w (fun i => (ps.getD i (undef, [])).2) := by
  have hl : (ps.map Prod.fst).length = ps.length := by simp
  have h0 : 0 < ps.length := by cases ps with | nil => exact absurd rfl hn | cons a r => simp
  obtain ⟨G, cap, e, _⟩ := hs.at 0 (by omega)
  rw [hl] at e
  have hob : lv.ownBlock = some G := by rw [e]; rfl
  obtain ⟨cur, hk⟩ := hs.kind G hob
  have hmem : ∀ i, i < ps.length → ps.getD i (undef, []) ∈ ps := fun i hi => by simp [hi]
  refine ⟨G, cap, e, ⟨cur, hk⟩, hs.high G hob, fun i hi => ?_, fun i hi => h.row _ (hmem i hi), fun i j hi hj hne g hg hg' => ?_, fun i hi => h.above _ (hmem i hi)⟩
  · obtain ⟨G2, cap2, e2, hc⟩ := hs.at i (by omega)
    rw [hl] at e2
    have : G2 = G := by rw [e] at e2; cases e2; rfl
    subst this
    rw [hc]
    simp [hi]
  · have e1 : ps.getD i (undef, []) = ps[i] := by simp [hi]
    have e2 : ps.getD j (undef, []) = ps[j] := by simp [hj]
    rw [e1] at hg
    rw [e2] at hg'
    rcases Nat.lt_or_gt_of_ne hne with q | q
    · exact List.pairwise_iff_getElem.1 h.apart i j hi hj q g hg hg'
    · exact List.pairwise_iff_getElem.1 h.apart j i hj hi q g hg' hg
end Go.Proofs.YtknlafgaagimjaaDoor
