import Derived.Test.YtmjaobddgaglhaaGreatDoorZdetl
import Derived.Test.YtmjaobddgaglhaaGreatDoorFqb
import Derived.Test.YtmjaobddgaglhaaGreatDoorFmn
/- A book that is written. -/
namespace Go.Proofs.YtmjaobddgaglhaaGreatDoor
open Go.RowKit
set_option maxHeartbeats 4000000
set_option maxRecDepth 8000
theorem ne_ty {w : World} {g k : Nat} {cs ds : Array Value} {t u : TypeId} (h1 : w.heap[g]? = some (.cells cs t (0, 0))) (h2 : w.heap[k]? = some (.cells ds u (0, 0))) (ht : t ≠ u) : g ≠ k := by
  intro e
  rw [e, h2] at h1
  simp at h1
  exact ht h1.2.symm
/-- A store of a struct into the midst of a row. -/
theorem wp_stP {T n : Nat} (hs : ∀ w, (sizeOf T).run Tryz.prog w = .ok n w) {ops : Array Oper} {rest : List Oper} {o : Oper} {a : Act} {w : World} {Q : Exit → Act → World → Prop} (hgd : o.guard = none) (x y : Operand) (ho : o.op = .store T x y)
    (P j : Nat) (hx : a.eval x = .pointer (some ⟨P, j, none⟩)) (v : Value) (hy : a.eval y = v) (hv : v.cells.size = n) (h1 : ∀ x ∈ v.cells.toList, x.oneCell' = true) (old : Array Value) (t : TypeId) (hg : w.heap[P]? = some (.cells old t (0, 0))) (hle : j + n ≤ old.size) (new : Array Value) (hn : (old.toList.take j ++ v.cells.toList ++ old.toList.drop (j + n)).toArray = new)
    (h : wpList Tryz.prog ops Q rest (a.put o.dst undef) (w.setRow P new)) : wpList Tryz.prog ops Q (o :: rest) a w := by
  refine wpList_plain hgd fun K hK => ?_
  have he := g_store ho hx hy (s_sta hs hg v hv hle h1)
  unfold Oper.wp
  rw [he, hn]
  exact hK _ _ h
theorem wp_apN {ops : Array Oper} {rest : List Oper} {o : Oper} {a : Act} {w w' : World} {Q : Exit → Act → World → Prop} (hgd : o.guard = none) (s x : Operand) (T : TypeId) (ho : o.op = .call { callee := .builtin .append, args := #[s, x], argTypes := #[T, T] }) (v v2 r : Value) (hs : a.eval s = v) (hx : a.eval x = v2) (hr : ∀ ty, (Builtin.append_ #[T, T] ty #[v, v2]).run Tryz.prog w = .ok r w')
    (h : wpList Tryz.prog ops Q rest (a.put o.dst r) w') : wpList Tryz.prog ops Q (o :: rest) a w := by
  refine wpList_plain hgd fun K hK2 => ?_
  unfold Oper.wp execOp
  simp only [ho, resolve, invoke, builtin, Sem.run_bind, Sem.run_pure, Result.andThen_ok, List.map_toArray, List.map_cons, List.map_nil, hs, hx, hr]
  exact hK2 _ _ h
section
variable {B : Nat} {w : World} {P : Nat} {cr us idl ab gr ge tk st en : Int} {l : List Tk} {sp : List Int} {ed : Bool} {u9 : Int} {v vl vs : Value}
theorem BM.size (h : BM B w P cr us idl ab gr ge tk st en l sp ed u9 v vl vs) : B ≤ w.heap.size := by have := lt_of_row h.row; have := h.hP; omega
/-- The book's own block is written. -/
theorem BM.put (h : BM B w P cr us idl ab gr ge tk st en l sp ed u9 v vl vs) (cr' us' idl' ab' gr' ge' tk' st' en' : Int) (ed' : Bool) (u' : Int) (v' : Value) (ho : OwnS B w v' [tRead]) : BM B (w.setRow P (bkc cr' us' idl' ab' gr' ge' tk' st' en' v' vl vs ed' u')) P cr' us' idl' ab' gr' ge' tk' st' en' l sp ed' u' v' vl vs :=
  ⟨setRow_row h.row, h.hP, own_set2 ho h.row (by decide) _, row_keepR h.tok h.row (by decide) _, row_keepR h.spr h.row (by decide) _⟩
theorem BM.put_below (h : BM B w P cr us idl ab gr ge tk st en l sp ed u9 v vl vs) {w0 : World} (hb : Below B w0 w) (cs : Array Value) : Below B w0 (w.setRow P cs) := bel_set hb P cs h.hP h.size
/-- A token is put in another one's place. -/
theorem BM.tset (h : BM B w P cr us idl ab gr ge tk st en l sp ed u9 v vl vs) {g cap : Nat} (e : vl = .slice (some ⟨g, 0, none⟩) l.length cap) {cur : Array Value} (hg : w.heap[g]? = some (.cells cur 26 (0, 0))) (k : Nat) (hk : k < l.length) (t : Tk) : BM B (w.setRow g (cur.toList.take (k * 9) ++ tkc t ++ cur.toList.drop (k * 9 + 9)).toArray) P cr us idl ab gr ge tk st en (l.set k t) sp ed u9 v vl vs ∧ B ≤ g := by
  have hne : P ≠ g := ne_ty h.row hg (by decide)
  have htok := h.tok
  rcases htok.2 with ⟨_, q⟩ | ⟨g2, cap2, cur2, e1, e2, e3, e4, e5, e6, e7⟩
  · omega
  · have eg : g = g2 ∧ cap = cap2 := by rw [e] at e1; simpa using e1
    obtain ⟨rfl, rfl⟩ := eg
    rw [hg] at e3
    obtain rfl : cur = cur2 := by simpa using e3
    have hls : (l.set k t).length = l.length := List.length_set
    have hkm : k * 9 + 9 ≤ l.length * 9 := by omega
    have hlm : l.length * 9 ≤ cur.size := by rw [e6]; omega
    refine ⟨⟨row_set h.row hne, h.hP, own_set2 h.own hg (by decide) _, ⟨by rw [tks_len], .inr ⟨g, cap, _, by rw [hls]; exact e1, e2, setRow_row hg, by rw [hls]; exact e4, e5, ?_, ?_⟩⟩, row_keepR h.spr hg (by decide) _⟩, e2⟩
    · simp [tkc_len]; omega
    · rw [hls, ← tks_set l k t hk, ← e7]
      have h1 : (cur.toList.take (k * 9) ++ tkc t).length = k * 9 + 9 := by simp [tkc_len]; omega
      show ((cur.toList.take (k * 9) ++ tkc t ++ cur.toList.drop (k * 9 + 9)).take (l.length * 9)) = _
      rw [List.take_append, List.take_of_length_le (by omega), h1, List.take_take, Nat.min_eq_left (by omega), List.drop_take]
/-- A number is put in another one's place. -/
theorem BM.nset (h : BM B w P cr us idl ab gr ge tk st en l sp ed u9 v vl vs) {g cap : Nat} (e : vs = .slice (some ⟨g, 0, none⟩) sp.length cap) {cur : Array Value} (hg : w.heap[g]? = some (.cells cur 3 (0, 0))) (k : Nat) (hk : k < sp.length) (z : Int) : BM B (w.setRow g (cur.setIfInBounds k (I z))) P cr us idl ab gr ge tk st en l (sp.set k z) ed u9 v vl vs ∧ B ≤ g ∧ k < cur.size := by
  have hne : P ≠ g := ne_ty h.row hg (by decide)
  have hspr := h.spr
  rcases hspr.2 with ⟨_, q⟩ | ⟨g2, cap2, cur2, e1, e2, e3, e4, e5, e6, e7⟩
  · omega
  · have eg : g = g2 ∧ cap = cap2 := by rw [e] at e1; simpa using e1
    obtain ⟨rfl, rfl⟩ := eg
    rw [hg] at e3
    obtain rfl : cur = cur2 := by simpa using e3
    have hls : (sp.set k z).length = sp.length := List.length_set
    refine ⟨⟨row_set h.row hne, h.hP, own_set2 h.own hg (by decide) _, row_keepR h.tok hg (by decide) _, ⟨by simp, .inr ⟨g, cap, _, by rw [hls]; exact e1, e2, setRow_row hg, by rw [hls]; exact e4, e5, ?_, ?_⟩⟩⟩, e2, by omega⟩
    · simp; omega
    · rw [hls, List.map_set, ← e7, Array.toList_setIfInBounds, List.take_set]
/-- A token behind the others. -/
theorem BM.appT (h : BM B w P cr us idl ab gr ge tk st en l sp ed u9 v vl vs) (t : Tk) (hn : l.length ≤ 1000000) : ∃ v' w7, (∀ T, (Builtin.append_ #[61, 61] T #[vl, .slice (some ⟨w.heap.size, 0, none⟩) 1 1]).run Tryz.prog (w.alloc (.cells (tkc t).toArray 26)) = .ok v' w7) ∧ w7.heap[P]? = some (.cells (bkc cr us idl ab gr ge tk st en v vl vs ed u9) 64 (0, 0)) ∧ BM B (w7.setRow P (bkc cr us idl ab gr ge tk st en v v' vs ed u9)) P cr us idl ab gr ge tk st en (l ++ [t]) sp ed u9 v v' vs ∧ (∀ w0, Below B w0 w → Below B w0 (w7.setRow P (bkc cr us idl ab gr ge tk st en v v' vs ed u9))) := by
  have hb := (Below.refl w.heap.size w).alloc (Nat.le_refl _) (.cells (tkc t).toArray 26)
  have h2 := h.keep hb
  have hsz : B ≤ (w.alloc (.cells (tkc t).toArray 26)).heap.size := h2.size
  obtain ⟨v', w7, hr, htok, ho, hv⟩ := appT_run 0 B vl l t _ h2.tok w.heap.size (heap_alloc_new _ _) hn hsz
  have hP7 : w7.heap[P]? = some (.cells (bkc cr us idl ab gr ge tk st en v vl vs ed u9) 64 (0, 0)) := (ho.block P (lt_of_row h2.row) (by
    intro q
    rcases h2.tok.2 with ⟨p, _⟩ | ⟨g2, cap2, cur2, p1, _, p3, _⟩
    · rw [p] at q; cases q
    · rw [p1] at q
      obtain rfl : g2 = P := by simpa [Value.ownBlock] using q
      rw [h2.row] at p3
      simp at p3)).trans h2.row
  have hown7 : OwnS B w7 v [tRead] := row_keepO h2.own h2.tok (by decide) ho
  have hspr7 : NmO B w7 vs sp := row_keepO h2.spr h2.tok (by decide) ho
  refine ⟨v', w7, fun T => hr, hP7, ⟨setRow_row hP7, h.hP, own_set2 hown7 hP7 (by decide) _, row_keepR htok hP7 (by decide) _, row_keepR hspr7 hP7 (by decide) _⟩, fun w0 h0 => ?_⟩
  have h7 : Below B w0 w7 := ho.below (h0.alloc h.size _) hsz (fun q e => (World.ownsRow.lt h2.tok q e).1)
  exact bel_set h7 P _ h.hP (Nat.le_trans hsz ho.size)
/-- A number behind the others. -/
theorem BM.appN (h : BM B w P cr us idl ab gr ge tk st en l sp ed u9 v vl vs) (z : Int) (hn : sp.length ≤ 1000000) : ∃ v' w7, (∀ T, (Builtin.append_ #[62, 62] T #[vs, .slice (some ⟨w.heap.size, 0, none⟩) 1 1]).run Tryz.prog (w.alloc (.cells #[I z] 3)) = .ok v' w7) ∧ w7.heap[P]? = some (.cells (bkc cr us idl ab gr ge tk st en v vl vs ed u9) 64 (0, 0)) ∧ BM B (w7.setRow P (bkc cr us idl ab gr ge tk st en v vl v' ed u9)) P cr us idl ab gr ge tk st en l (sp ++ [z]) ed u9 v vl v' ∧ (∀ w0, Below B w0 w → Below B w0 (w7.setRow P (bkc cr us idl ab gr ge tk st en v vl v' ed u9))) := by
  have hb := (Below.refl w.heap.size w).alloc (Nat.le_refl _) (.cells #[I z] 3)
  have h2 := h.keep hb
  have hsz : B ≤ (w.alloc (.cells #[I z] 3)).heap.size := h2.size
  obtain ⟨v', w7, hr, hspr, ho, hv⟩ := appN_run 0 B vs sp z _ h2.spr w.heap.size (heap_alloc_new _ _) hn hsz
  have hP7 : w7.heap[P]? = some (.cells (bkc cr us idl ab gr ge tk st en v vl vs ed u9) 64 (0, 0)) := (ho.block P (lt_of_row h2.row) (by
    intro q
    rcases h2.spr.2 with ⟨p, _⟩ | ⟨g2, cap2, cur2, p1, _, p3, _⟩
    · rw [p] at q; cases q
    · rw [p1] at q
      obtain rfl : g2 = P := by simpa [Value.ownBlock] using q
      rw [h2.row] at p3
      simp at p3)).trans h2.row
  have hown7 : OwnS B w7 v [tRead] := row_keepO h2.own h2.spr (by decide) ho
  have htok7 : TkO B w7 vl l := row_keepO h2.tok h2.spr (by decide) ho
  refine ⟨v', w7, fun T => hr, hP7, ⟨setRow_row hP7, h.hP, own_set2 hown7 hP7 (by decide) _, row_keepR htok7 hP7 (by decide) _, row_keepR hspr hP7 (by decide) _⟩, fun w0 h0 => ?_⟩
  have h7 : Below B w0 w7 := ho.below (h0.alloc h.size _) hsz (fun q e => (World.ownsRow.lt h2.spr q e).1)
  exact bel_set h7 P _ h.hP (Nat.le_trans hsz ho.size)
end
end Go.Proofs.YtmjaobddgaglhaaGreatDoor
