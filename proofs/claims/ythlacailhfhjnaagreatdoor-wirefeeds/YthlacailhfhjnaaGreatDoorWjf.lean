import Derived.Test.YthlacailhfhjnaaGreatDoorZrgt
import Derived.Test.YthlacailhfhjnaaGreatDoorWjc
namespace Go.Proofs.YthlacailhfhjnaaGreatDoor
open Go.RowKit Go.Lib
theorem push49b {b : Nat} {ops : Array Oper} {rest : List Oper} {o : Oper} {a : Act} {Q : Exit → Act → World → Prop} (hgd : o.guard = none) (s x : Operand)
    (ho : o.op = .call { callee := .builtin .append, args := #[s, x], argTypes := #[49, 49] }) (v : Value) (xs : List Value) (hs : a.eval s = v) (w0 : World) (p : Option Addr) (n c : Nat) (hb : Sq b 22 w0 v xs)
    (hx : a.eval x = .slice (some ⟨w0.heap.size, 0, none⟩) 1 1) (hL : xs.length ≤ 100000000000) (hB : b ≤ w0.heap.size)
    (h : ∀ v' w', Sq b 22 w' v' (xs ++ [.slice p n c]) → (w0.alloc (.cells #[.slice p n c] 22)).grownBy w' v.ownBlock → wpList Tryz.prog ops Q rest (a.put o.dst v') w') : wpList Tryz.prog ops Q (o :: rest) a (w0.alloc (.cells #[.slice p n c] 22)) := by
  obtain ⟨i0, hi, hz0, hz1, hz2⟩ := info_parts info22
  refine wpList_append_own _ hgd s x 49 ho b 22 i0 (.slice none 0 0) 1 24 Tryz.underlying49 hi hz0 hz1 hz2 rfl (by decide) v xs.length xs hs (hb.keep (fun g hg => Below.heap_alloc w0 _ g (hb.lt g hg))) ⟨w0.heap.size, 0, none⟩ 1 1 [.slice p n c] hx rfl ?_ ?_ (by unfold maxLen; omega) (by omega) (by simp; omega) ?_
  · intro j u hj
    match j, hj with
    | 0, hj => simp at hj; subst hj; simp [Addr.add]
    | (j + 1), hj => simp at hj
  · intro u hu; simp at hu; subst hu; rfl
  · intro v' w' ho' hg _
    refine h v' w' ?_ hg
    unfold Sq
    rw [List.length_append]
    exact ho'
theorem push50b {b : Nat} {ops : Array Oper} {rest : List Oper} {o : Oper} {a : Act} {Q : Exit → Act → World → Prop} (hgd : o.guard = none) (s x : Operand)
    (ho : o.op = .call { callee := .builtin .append, args := #[s, x], argTypes := #[50, 50] }) (v : Value) (xs : List Value) (hs : a.eval s = v) (w0 : World) (i : Int) (hb : Sq b 3 w0 v xs)
    (hx : a.eval x = .slice (some ⟨w0.heap.size, 0, none⟩) 1 1) (hL : xs.length ≤ 100000000000) (hB : b ≤ w0.heap.size)
    (h : ∀ v' w', Sq b 3 w' v' (xs ++ [.int .i64 i]) → (w0.alloc (.cells #[.int .i64 i] 3)).grownBy w' v.ownBlock → wpList Tryz.prog ops Q rest (a.put o.dst v') w') : wpList Tryz.prog ops Q (o :: rest) a (w0.alloc (.cells #[.int .i64 i] 3)) := by
  obtain ⟨i0, hi, hz0, hz1, hz2⟩ := info_parts info3
  refine wpList_append_own _ hgd s x 50 ho b 3 i0 (.int .i64 0) 1 8 Tryz.underlying50 hi hz0 hz1 hz2 rfl (by decide) v xs.length xs hs (hb.keep (fun g hg => Below.heap_alloc w0 _ g (hb.lt g hg))) ⟨w0.heap.size, 0, none⟩ 1 1 [.int .i64 i] hx rfl ?_ ?_ (by unfold maxLen; omega) (by omega) (by simp; omega) ?_
  · intro j u hj
    match j, hj with
    | 0, hj => simp at hj; subst hj; simp [Addr.add]
    | (j + 1), hj => simp at hj
  · intro u hu; simp at hu; subst hu; rfl
  · intro v' w' ho' hg _
    refine h v' w' ?_ hg
    unfold Sq
    rw [List.length_append]
    exact ho'
section
variable {B b G n : Nat} {vs : Nat → Value} {m : Nat → Nat} {w0 : World} {lo i : Nat} {U V V2 : List Vw} {x al wh : Value} {len : Nat} {w w' : World} {Z : Nat} {fr wa mm mw ml : Value}
/-- The views, with the book that holds the rows of them. -/
structure AlY (B b G n : Nat) (vs : Nat → Value) (m : Nat → Nat) (w0 : World) (lo i : Nat) (U V V2 : List Vw) (x : Value) (len : Nat) (al wh : Value) (Z : Nat) (fr wa mm mw ml : Value) (w : World) : Prop where
  build ::
  a : Alw B b G n vs m w0 lo i U V V2 x len al wh w
  blk : w.heap[Z]? = some (.cells (bk8 fr wa al wh mm mw ml) 53 (0, 0))
  hz : B ≤ Z
theorem AlY.keep (h : AlY B b G n vs m w0 lo i U V V2 x len al wh Z fr wa mm mw ml w) (k : Below w.heap.size w w') : AlY B b G n vs m w0 lo i U V V2 x len al wh Z fr wa mm mw ml w' :=
  ⟨h.a.keep k, (k.block _ (lt_heap h.blk)).trans h.blk, h.hz⟩
theorem AlY.take (h : AlY B b G n vs m w0 lo i U V V2 x len al wh Z fr wa mm mw ml w) (hl : lo < n) : AlY B b G n vs m w0 (lo + 1) lo U V V2 (vs lo) (m lo) al wh Z fr wa mm mw ml w := ⟨h.a.take hl, h.blk, h.hz⟩
theorem AlY.seen (h : AlY B b G n vs m w0 lo i U V V2 x len al wh Z fr wa mm mw ml w) (hi : i < n) (hlen : len ≤ 1000000) : ∃ p c, x = .slice p len c ∧ AlY B b G n vs m w0 lo i (U ++ [⟨p, len, c, i⟩]) V V2 x len al wh Z fr wa mm mw ml w := by
  obtain ⟨p, c, e, hv⟩ := h.a.vst.view hi hlen
  exact ⟨p, c, e, ⟨hv, h.a.s1, h.a.s2, h.a.below, h.a.room, h.a.lowG, h.a.lowB⟩, h.blk, h.hz⟩
theorem AlY.neK (h : AlY B b G n vs m w0 lo i U V V2 x len al wh Z fr wa mm mw ml w) {g : Nat} {cur : Array Value} {e : TypeId} (hc : w.heap[g]? = some (.cells cur e (0, 0))) (he : e ≠ 53) : g ≠ Z := fun q => by
  subst q
  rw [h.blk] at hc
  cases hc
  exact he rfl
theorem AlY.push1 {p : Option Addr} {c : Nat} {al' : Value} (h : AlY B b G n vs m w0 lo i U V V2 x len al wh Z fr wa mm mw ml w) (hv : Vst B G n vs m lo i (U ++ [⟨p, len, c, i⟩]) x len w)
    (hs : Sq b 22 w' al' (V.map Vw.val ++ [.slice p len c])) (hg : (w.alloc (.cells #[.slice p len c] 22)).grownBy w' al.ownBlock) :
    AlY B b G n vs m w0 lo i (U ++ [⟨p, len, c, i⟩]) (V ++ [⟨p, len, c, i⟩]) V2 x len al' wh Z fr wa mm mw ml (w'.setCell ⟨Z, 3, none⟩ al') := by
  have hZ := lt_heap h.blk
  have e1 : w'.heap[Z]? = some (.cells (bk8 fr wa al wh mm mw ml) 53 (0, 0)) := (hg.block Z (by simp; omega) (fun q => by
    obtain ⟨cur, e⟩ := h.a.s1.kind Z q.symm
    exact h.neK e (by decide) rfl)).trans ((Below.heap_alloc w _ Z hZ).trans h.blk)
  refine ⟨(h.a.push1 hv hs hg).other e1 h.hz 3 al', ?_, h.hz⟩
  rw [heap_setCell_same _ _ _ _ 53 _ e1]
  rfl
theorem AlY.push2 {y : Vw} {wh' : Value} (h : AlY B b G n vs m w0 lo i U V V2 x len al wh Z fr wa mm mw ml w)
    (hs : Sq b 3 w' wh' (V2.map who ++ [who y])) (hg : (w.alloc (.cells #[who y] 3)).grownBy w' wh.ownBlock) :
    AlY B b G n vs m w0 lo i U V (V2 ++ [y]) x len al wh' Z fr wa mm mw ml (w'.setCell ⟨Z, 4, none⟩ wh') := by
  have hZ := lt_heap h.blk
  have e1 : w'.heap[Z]? = some (.cells (bk8 fr wa al wh mm mw ml) 53 (0, 0)) := (hg.block Z (by simp; omega) (fun q => by
    obtain ⟨cur, e⟩ := h.a.s2.kind Z q.symm
    exact h.neK e (by decide) rfl)).trans ((Below.heap_alloc w _ Z hZ).trans h.blk)
  refine ⟨(h.a.push2 hs hg).other e1 h.hz 4 wh', ?_, h.hz⟩
  rw [heap_setCell_same _ _ _ _ 53 _ e1]
  rfl
theorem AlY.grow {x' : Value} (h : AlY B b G n vs m w0 lo i U V V2 x len al wh Z fr wa mm mw ml w) (hr : RwF w' x' (List.replicate len (mk i) ++ [mk i])) (hg : GrF x len (w.alloc (.cells #[S (mk i).1, S (mk i).2] 35)) w') (hx : (∃ g, x.ownBlock = some g ∧ x'.ownBlock = some g) ∨ x'.ownBlock = some (w.heap.size + 1)) : AlY B b G n vs m w0 lo i U V V2 x' (len + 1) al wh Z fr wa mm mw ml w' := by
  have hZ := lt_heap h.blk
  refine ⟨h.a.grow hr hg hx, (hg.block Z (by simp; omega) (fun q => ?_)).trans ((Below.heap_alloc w _ Z hZ).trans h.blk), h.hz⟩
  obtain ⟨cur, e⟩ := h.a.vst.xrow.kind Z q
  exact h.neK e (by decide) rfl
end
section
variable {B b G n : Nat} {vs : Nat → Value} {m : Nat → Nat} {w0 : World} {lo i : Nat} {U V V2 : List Vw} {x al wh : Value} {len : Nat} {w w' : World} {Z : Nat} {fr wa mm mw ml : Value}
theorem AlY.blk1 {o : Obj} (h : AlY B b G n vs m w0 lo i U V V2 x len al wh Z fr wa mm mw ml w) (hg : (w.alloc o).grownBy w' al.ownBlock) : w'.heap[Z]? = some (.cells (bk8 fr wa al wh mm mw ml) 53 (0, 0)) :=
  (hg.block Z (by have := lt_heap h.blk; simp; omega) (fun q => by
    obtain ⟨cur, e⟩ := h.a.s1.kind Z q.symm
    exact h.neK e (by decide) rfl)).trans ((Below.heap_alloc w _ Z (lt_heap h.blk)).trans h.blk)
theorem AlY.blk2 {o : Obj} (h : AlY B b G n vs m w0 lo i U V V2 x len al wh Z fr wa mm mw ml w) (hg : (w.alloc o).grownBy w' wh.ownBlock) : w'.heap[Z]? = some (.cells (bk8 fr wa al wh mm mw ml) 53 (0, 0)) :=
  (hg.block Z (by have := lt_heap h.blk; simp; omega) (fun q => by
    obtain ⟨cur, e⟩ := h.a.s2.kind Z q.symm
    exact h.neK e (by decide) rfl)).trans ((Below.heap_alloc w _ Z (lt_heap h.blk)).trans h.blk)
end
end Go.Proofs.YthlacailhfhjnaaGreatDoor
