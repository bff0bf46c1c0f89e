import Derived.Test.YthlacailhfhjnaaGreatDoorWfk
namespace Go.Proofs.YthlacailhfhjnaaGreatDoor
open Go.RowKit Go.Lib
def sp4 : List Fl := List.replicate 4 spare
theorem mid_sp (l : List Fl) : mid l 4 = l ++ sp4 := by simp [mid, sp4]
/-- What holds ahead of a turn: the two boxes, and the two lent blocks. -/
structure Prt (w : World) (P2 P3 g1 g2 : Nat) (mm mp mb : Bs) (st : Int) (ba : Bs) (lm la : List Fl) (wr : World) : Prop where
  x2 : ∃ a c, wr.heap[P2]? = some (.cells #[S mm, S mp, .slice a lm.length c, S mb] 24 (0, 0))
  x3 : ∃ a c, wr.heap[P3]? = some (.cells #[.int .i64 st, .slice a la.length c, S ba] 26 (0, 0))
  y1 : Blk g1 (lm ++ sp4) wr
  y2 : Blk g2 (la ++ sp4) wr
  ne : g1 ≠ g2
  ge : w.heap.size ≤ P2 ∧ w.heap.size ≤ P3 ∧ w.heap.size ≤ g1 ∧ w.heap.size ≤ g2
  bel : Below w.heap.size w wr
/-- What holds inside a turn: the boxes of x and y too, with rows of their own. -/
structure Pal (w : World) (P2 P3 g1 g2 X5 X8 : Nat) (mm mp mb : Bs) (st : Int) (ba : Bs) (lm la l1 l2 : List Fl) (v2 v3 V1 V2 : Value) (wr : World) : Prop where
  x2 : wr.heap[P2]? = some (.cells #[S mm, S mp, v2, S mb] 24 (0, 0))
  x3 : wr.heap[P3]? = some (.cells #[.int .i64 st, v3, S ba] 26 (0, 0))
  x5 : wr.heap[X5]? = some (.cells #[S mm, S mp, V1, S mb] 24 (0, 0))
  x8 : wr.heap[X8]? = some (.cells #[.int .i64 st, V2, S ba] 26 (0, 0))
  y1 : Blk g1 (l1 ++ sp4) wr
  y2 : Blk g2 (l2 ++ sp4) wr
  o1 : wr.ownsRow 0 35 2 V1 lm.length (cellsF lm)
  o2 : wr.ownsRow 0 35 2 V2 la.length (cellsF la)
  n1 : g1 ≠ g2
  n2 : P2 ≠ X5
  n3 : P3 ≠ X8
  n4 : V1.ownBlock ≠ some g1 ∧ V1.ownBlock ≠ some g2 ∧ V2.ownBlock ≠ some g1 ∧ V2.ownBlock ≠ some g2
  ge : w.heap.size ≤ P2 ∧ w.heap.size ≤ P3 ∧ w.heap.size ≤ g1 ∧ w.heap.size ≤ g2
  bel : Below w.heap.size w wr
variable {w wr w' : World} {P2 P3 g1 g2 X5 X8 : Nat} {mm mp mb ba : Bs} {st : Int} {lm la l1 l2 : List Fl} {v2 v3 V1 V2 : Value}
theorem Prt.below (h : Prt w P2 P3 g1 g2 mm mp mb st ba lm la wr) (hb : Below wr.heap.size wr w') : Prt w P2 P3 g1 g2 mm mp mb st ba lm la w' := by
  obtain ⟨a, c, x2⟩ := h.x2
  obtain ⟨a', c', x3⟩ := h.x3
  exact ⟨⟨a, c, (hb.block _ (lt_of_row x2)).trans x2⟩, ⟨a', c', (hb.block _ (lt_of_row x3)).trans x3⟩, h.y1.keep hb, h.y2.keep hb, h.ne, h.ge, h.bel.trans (hb.mono h.bel.size)⟩
theorem blk_ne {a b : Nat} {cs cs' : Array Value} {T T' : TypeId} (h1 : wr.heap[a]? = some (.cells cs T (0, 0))) (h2 : wr.heap[b]? = some (.cells cs' T' (0, 0))) (hT : T ≠ T') : a ≠ b := by
  intro e
  subst e
  have := h1.symm.trans h2
  simp only [Option.some.injEq, Obj.cells.injEq] at this
  exact hT this.2.1
theorem own_ne {a n m : Nat} {cs : Array Value} {T : TypeId} {v : Value} {xs : List Value} (h1 : wr.heap[a]? = some (.cells cs T (0, 0))) (h2 : wr.ownsRow 0 35 n v m xs) (hT : T ≠ 35) : ∀ k, v.ownBlock = some k → k ≠ a := by
  intro k hk
  obtain ⟨cs', q⟩ := owns_lt h2 k hk
  exact blk_ne q h1 (fun e => hT e.symm)
theorem Pal.below (h : Pal w P2 P3 g1 g2 X5 X8 mm mp mb st ba lm la l1 l2 v2 v3 V1 V2 wr) (hb : Below wr.heap.size wr w') : Pal w P2 P3 g1 g2 X5 X8 mm mp mb st ba lm la l1 l2 v2 v3 V1 V2 w' := by
  have ow : ∀ {V : Value} {l : List Fl}, wr.ownsRow 0 35 2 V l.length (cellsF l) → w'.ownsRow 0 35 2 V l.length (cellsF l) := fun q => owns_same q (fun k hk => by
    obtain ⟨cs, r⟩ := owns_lt q k hk
    exact hb.block k (lt_of_row r))
  exact ⟨(hb.block _ (lt_of_row h.x2)).trans h.x2, (hb.block _ (lt_of_row h.x3)).trans h.x3, (hb.block _ (lt_of_row h.x5)).trans h.x5, (hb.block _ (lt_of_row h.x8)).trans h.x8, h.y1.keep hb, h.y2.keep hb, ow h.o1, ow h.o2, h.n1, h.n2, h.n3, h.n4, h.ge, h.bel.trans (hb.mono h.bel.size)⟩
theorem blk_keep {g k : Nat} {l : List Fl} {v : Value} {j : Nat} (h : Blk g l wr) (hne : g ≠ k) : Blk g l (wr.setCell ⟨k, j, none⟩ v) := by
  unfold Blk
  rw [heap_setCell_other wr ⟨k, j, none⟩ g v hne]
  exact h
theorem Pal.set2 (h : Pal w P2 P3 g1 g2 X5 X8 mm mp mb st ba lm la l1 l2 v2 v3 V1 V2 wr) (v : Value) : Pal w P2 P3 g1 g2 X5 X8 mm mp mb st ba lm la l1 l2 v v3 V1 V2 (wr.setCell ⟨P2, 2, none⟩ v) := by
  have n23 := blk_ne h.x3 h.x2 (by decide)
  have n28 := blk_ne h.x8 h.x2 (by decide)
  have m1 := blk_ne h.y1 h.x2 (by decide)
  have m2 := blk_ne h.y2 h.x2 (by decide)
  refine ⟨heap_setCell_same wr P2 2 _ 24 v h.x2, (heap_setCell_other wr _ _ v n23).trans h.x3, (heap_setCell_other wr _ _ v h.n2.symm).trans h.x5, (heap_setCell_other wr _ _ v n28).trans h.x8, blk_keep h.y1 m1, blk_keep h.y2 m2, owns_same h.o1 (fun k hk => heap_setCell_other wr _ _ v (own_ne h.x2 h.o1 (by decide) k hk)), owns_same h.o2 (fun k hk => heap_setCell_other wr _ _ v (own_ne h.x2 h.o2 (by decide) k hk)), h.n1, h.n2, h.n3, h.n4, h.ge, h.bel.setCell h.ge.1 _⟩
theorem Pal.set3 (h : Pal w P2 P3 g1 g2 X5 X8 mm mp mb st ba lm la l1 l2 v2 v3 V1 V2 wr) (v : Value) : Pal w P2 P3 g1 g2 X5 X8 mm mp mb st ba lm la l1 l2 v2 v V1 V2 (wr.setCell ⟨P3, 1, none⟩ v) := by
  have n23 := blk_ne h.x2 h.x3 (by decide)
  have n28 := blk_ne h.x5 h.x3 (by decide)
  have m1 := blk_ne h.y1 h.x3 (by decide)
  have m2 := blk_ne h.y2 h.x3 (by decide)
  refine ⟨(heap_setCell_other wr _ _ v n23).trans h.x2, heap_setCell_same wr P3 1 _ 26 v h.x3, (heap_setCell_other wr _ _ v n28).trans h.x5, (heap_setCell_other wr _ _ v h.n3.symm).trans h.x8, blk_keep h.y1 m1, blk_keep h.y2 m2, owns_same h.o1 (fun k hk => heap_setCell_other wr _ _ v (own_ne h.x3 h.o1 (by decide) k hk)), owns_same h.o2 (fun k hk => heap_setCell_other wr _ _ v (own_ne h.x3 h.o2 (by decide) k hk)), h.n1, h.n2, h.n3, h.n4, h.ge, h.bel.setCell h.ge.2.1 _⟩
theorem two_other {g k i j : Nat} {v v' : Value} (hne : k ≠ g) : ((wr.setCell ⟨g, i, none⟩ v).setCell ⟨g, j, none⟩ v').heap[k]? = wr.heap[k]? :=
  (heap_setCell_other _ ⟨g, j, none⟩ k v' hne).trans (heap_setCell_other wr ⟨g, i, none⟩ k v hne)
theorem Pal.put1 (h : Pal w P2 P3 g1 g2 X5 X8 mm mp mb st ba lm la l1 l2 v2 v3 V1 V2 wr) (i : Nat) (hi : i < l1.length) (f : Fl) : Pal w P2 P3 g1 g2 X5 X8 mm mp mb st ba lm la (l1.set i f) l2 v2 v3 V1 V2 ((wr.setCell ⟨g1, i * 2, none⟩ (S f.1)).setCell ⟨g1, i * 2 + 1, none⟩ (S f.2)) := by
  have q := h.y1.set2 i (by simp; omega) f
  rw [List.set_append, if_pos hi] at q
  refine ⟨(two_other (blk_ne h.x2 h.y1 (by decide))).trans h.x2, (two_other (blk_ne h.x3 h.y1 (by decide))).trans h.x3, (two_other (blk_ne h.x5 h.y1 (by decide))).trans h.x5, (two_other (blk_ne h.x8 h.y1 (by decide))).trans h.x8, q, (two_other h.n1.symm).trans h.y2, owns_same h.o1 (fun k hk => two_other (fun e => h.n4.1 (by rw [hk, e]))), owns_same h.o2 (fun k hk => two_other (fun e => h.n4.2.2.1 (by rw [hk, e]))), h.n1, h.n2, h.n3, h.n4, h.ge, (h.bel.setCell h.ge.2.2.1 _).setCell h.ge.2.2.1 _⟩
theorem Pal.put2 (h : Pal w P2 P3 g1 g2 X5 X8 mm mp mb st ba lm la l1 l2 v2 v3 V1 V2 wr) (i : Nat) (hi : i < l2.length) (f : Fl) : Pal w P2 P3 g1 g2 X5 X8 mm mp mb st ba lm la l1 (l2.set i f) v2 v3 V1 V2 ((wr.setCell ⟨g2, i * 2, none⟩ (S f.1)).setCell ⟨g2, i * 2 + 1, none⟩ (S f.2)) := by
  have q := h.y2.set2 i (by simp; omega) f
  rw [List.set_append, if_pos hi] at q
  refine ⟨(two_other (blk_ne h.x2 h.y2 (by decide))).trans h.x2, (two_other (blk_ne h.x3 h.y2 (by decide))).trans h.x3, (two_other (blk_ne h.x5 h.y2 (by decide))).trans h.x5, (two_other (blk_ne h.x8 h.y2 (by decide))).trans h.x8, (two_other h.n1).trans h.y1, q, owns_same h.o1 (fun k hk => two_other (fun e => h.n4.2.1 (by rw [hk, e]))), owns_same h.o2 (fun k hk => two_other (fun e => h.n4.2.2.2 (by rw [hk, e]))), h.n1, h.n2, h.n3, h.n4, h.ge, (h.bel.setCell h.ge.2.2.2 _).setCell h.ge.2.2.2 _⟩
end Go.Proofs.YthlacailhfhjnaaGreatDoor
