import Derived.Test.YthlacailhfhjnaaGreatDoorWfr
namespace Go.Proofs.YthlacailhfhjnaaGreatDoor
open Go.RowKit Go.Lib
section
variable {w wr w' : World} {P4 P5 X11 X12 X14 X15 : Nat} {m x z : Ms} {st ys vs : Int} {fa yh vh : List Fl} {ba yb vb : Bs} {Bz Bv : Nat}
theorem Swi.below (h : Swi w P4 P5 X11 X12 X14 X15 m st fa ba x ys yh yb z vs vh vb Bz Bv wr) (hb : Below wr.heap.size wr w') : Swi w P4 P5 X11 X12 X14 X15 m st fa ba x ys yh yb z vs vh vb Bz Bv w' :=
  ⟨h.bx.below hb, h.mx.below hb, h.ax.below hb, h.mz.below hb, h.av.below hb, h.lz, h.lv, h.o1⟩
end
theorem row_pos {w : World} {V : Value} {l : List Bs} (h : w.ownsRow 0 9 1 V l.length (l.map S)) (hn : 0 < l.length) : ∃ g cap, V = .slice (some ⟨g, 0, none⟩) l.length cap ∧ (∀ k, k < l.length → w.cell? ⟨g, k, none⟩ = some (S (l.getD k []))) ∧ (∀ k, w.frozen? ⟨g, k, none⟩ = false) ∧ g < w.heap.size := by
  rcases h.2 with ⟨e, q⟩ | ⟨g, cap, cur, e1, e2, e3, e4, e5, e6, e7⟩
  · omega
  · refine ⟨g, cap, e1, fun k hk => ?_, fun k => frozen_of_heap e3 k, lt_of_row e3⟩
    rw [cell_of_row w g k _ 9 (0, 0) e3]
    have : (cur.toList.take (l.length * 1))[k]? = (l.map S)[k]? := by rw [e7]
    rw [List.getElem?_take, if_pos (by omega)] at this
    rw [← Array.getElem?_toList, this]
    simp [hk]
theorem row_set {w : World} {g n cap k : Nat} {l : List Bs} (h : w.ownsRow 0 9 1 (.slice (some ⟨g, 0, none⟩) n cap) l.length (l.map S)) (x : Bs) : (w.setCell ⟨g, k, none⟩ (S x)).ownsRow 0 9 1 (.slice (some ⟨g, 0, none⟩) n cap) (l.set k x).length ((l.set k x).map S) := by
  rcases h.2 with ⟨e, q⟩ | ⟨g', cap', cur, e1, e2, e3, e4, e5, e6, e7⟩
  · cases e
  · simp only [Value.slice.injEq, Option.some.injEq, Addr.mk.injEq, and_true] at e1
    obtain ⟨rfl, rfl, rfl⟩ := e1
    rw [List.length_set]
    refine ⟨by simp, .inr ⟨g, cap, cur.setIfInBounds k (S x), rfl, e2, heap_setCell_same w g k _ 9 _ e3, e4, e5, by simp [e6], ?_⟩⟩
    rw [Array.toList_setIfInBounds, List.take_set, e7, List.map_set]
/-- Three rows of texts; the first is its own. -/
structure Tri (w : World) (V1 V2 V3 : Value) (l1 l : List Bs) (wr : World) : Prop where
  r1 : wr.ownsRow 0 9 1 V1 l1.length (l1.map S)
  r2 : wr.ownsRow 0 9 1 V2 l.length (l.map S)
  r3 : wr.ownsRow 0 9 1 V3 l.length (l.map S)
  n2 : ∀ k, V1.ownBlock = some k → V2.ownBlock ≠ some k
  n3 : ∀ k, V1.ownBlock = some k → V3.ownBlock ≠ some k
  g1 : ∀ k, V1.ownBlock = some k → w.heap.size ≤ k
  bel : Below w.heap.size w wr
section
variable {w wr w' : World} {V1 V2 V3 : Value} {l1 l : List Bs}
theorem own_below {V : Value} {n : Nat} {xs : List Value} (h : wr.ownsRow 0 9 1 V n xs) (hb : Below wr.heap.size wr w') : w'.ownsRow 0 9 1 V n xs := owns_same h (fun j hj => by
  obtain ⟨cs, q⟩ := owns_lt h j hj
  exact hb.block j (lt_of_row q))
theorem Tri.below (h : Tri w V1 V2 V3 l1 l wr) (hb : Below wr.heap.size wr w') : Tri w V1 V2 V3 l1 l w' :=
  ⟨own_below h.r1 hb, own_below h.r2 hb, own_below h.r3 hb, h.n2, h.n3, h.g1, h.bel.trans (hb.mono h.bel.size)⟩
theorem Tri.set {g n cap : Nat} (h : Tri w (.slice (some ⟨g, 0, none⟩) n cap) V2 V3 l1 l wr) (k : Nat) (x : Bs) : Tri w (.slice (some ⟨g, 0, none⟩) n cap) V2 V3 (l1.set k x) l (wr.setCell ⟨g, k, none⟩ (S x)) :=
  ⟨row_set h.r1 x, owns_same h.r2 (fun j hj => heap_setCell_other wr _ _ _ (fun e => h.n2 g rfl (by rw [hj]; exact congrArg some e))), owns_same h.r3 (fun j hj => heap_setCell_other wr _ _ _ (fun e => h.n3 g rfl (by rw [hj]; exact congrArg some e))), h.n2, h.n3, h.g1, h.bel.setCell (h.g1 g rfl) _⟩
theorem Tri.push (h : Tri w V1 V2 V3 l1 l wr) {V : Value} {x : Bs} (r1 : w'.ownsRow 0 9 1 V (l1.length + 1) (l1.map S ++ [S x])) (r2 : Only (fun k => V1.ownBlock = some k) wr w') (r3 : ∀ k, V.ownBlock = some k → V1.ownBlock = some k ∨ wr.heap.size ≤ k) : Tri w V V2 V3 (l1 ++ [x]) l w' := by
  have hlt : ∀ {V : Value}, wr.ownsRow 0 9 1 V l.length (l.map S) → ∀ k, V.ownBlock = some k → k < wr.heap.size := fun {V} q k hk => by
    obtain ⟨cs, e⟩ := owns_lt q k hk
    exact lt_of_row e
  refine ⟨by rw [List.length_append, List.map_append]; exact r1, owns_same h.r2 (fun j hj => r2.block j (hlt h.r2 j hj) (fun e => h.n2 j e hj)), owns_same h.r3 (fun j hj => r2.block j (hlt h.r3 j hj) (fun e => h.n3 j e hj)), ?_, ?_, ?_, r2.below h.bel h.bel.size h.g1⟩
  · intro k hk e
    rcases r3 k hk with q | q
    · exact h.n2 k q e
    · have := hlt h.r2 k e; omega
  · intro k hk e
    rcases r3 k hk with q | q
    · exact h.n3 k q e
    · have := hlt h.r3 k e; omega
  · intro k hk
    rcases r3 k hk with q | q
    · exact h.g1 k q
    · exact Nat.le_trans h.bel.size q
end
/-- The three rows as they came out, one behind the other. -/
theorem tri_of {w wq wA wB wC : World} {V1 V2 V3 : Value} {l : List Bs} (hb : Below w.heap.size w wq) (h1 : Ows wq V1 l wA) (h2 : Ows wA V2 l wB) (h3 : Ows wB V3 l wC) : Tri w V1 V2 V3 l l wC := by
  have hbB : Below wA.heap.size wA wB := h2.bel
  have hbC : Below wB.heap.size wB wC := h3.bel
  have b1 := hb.trans (h1.bel.mono hb.size)
  have b2 := b1.trans (hbB.mono b1.size)
  have lt1 : ∀ k, V1.ownBlock = some k → k < wA.heap.size := fun k hk => by
    obtain ⟨cs, q⟩ := owns_lt h1.row k hk
    exact lt_of_row q
  refine ⟨own_below (own_below h1.row hbB) hbC, own_below h2.row hbC, h3.row, ?_, ?_, ?_, b2.trans (hbC.mono b2.size)⟩
  · intro k hk e
    have := lt1 k hk
    have := h2.new k e
    omega
  · intro k hk e
    have := lt1 k hk
    have := h3.new k e
    have := hbB.size
    omega
  · intro k hk
    exact Nat.le_trans hb.size (h1.new k hk)
/-- How far it is marked. -/
def mkd (l : List Bs) (k : Nat) : List Bs := List.replicate k [109, 97, 114, 107] ++ l.drop k
theorem mkd_len (l : List Bs) (k : Nat) (h : k ≤ l.length) : (mkd l k).length = l.length := by simp [mkd]; omega
theorem mkd_at (l : List Bs) (k : Nat) : (mkd l k).getD k [] = l.getD k [] := by
  unfold mkd
  rw [List.getD_eq_getElem?_getD, List.getElem?_append_right (by simp), List.getElem?_drop, List.getD_eq_getElem?_getD]
  simp
theorem mkd_set (l : List Bs) (k : Nat) (h : k < l.length) : (mkd l k).set k [109, 97, 114, 107] = mkd l (k + 1) := by
  unfold mkd
  rw [List.set_append, if_neg (by simp)]
  simp only [List.length_replicate, Nat.sub_self]
  rw [List.drop_eq_getElem_cons h, List.set_cons_zero, List.replicate_succ', List.append_assoc]
  rfl
end Go.Proofs.YthlacailhfhjnaaGreatDoor
