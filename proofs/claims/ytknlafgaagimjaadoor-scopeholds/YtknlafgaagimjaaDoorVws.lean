import Derived.Test.YtknlafgaagimjaaDoorGrw
namespace Go.Proofs.YtknlafgaagimjaaDoor
open Go.RowKit Go.Lib
theorem info24 : (Tryd.prog.info? 24).map (fun i => (i.zero, i.size, i.bytes)) = some (some (.slice none 0 0), 1, 24) := by kernel_rfl
theorem info3 : (Tryd.prog.info? 3).map (fun i => (i.zero, i.size, i.bytes)) = some (some (.int .i64 0), 1, 8) := by kernel_rfl
/-- A row of one's own of values of one cell each: slices (type 24) or numbers (type 3). -/
def Seq (b : Nat) (e : TypeId) (w : World) (v : Value) (xs : List Value) : Prop := w.ownsRow b e 1 v xs.length xs
theorem Seq.nil (b : Nat) (e : TypeId) (w : World) : Seq b e w (.slice none 0 0) [] := World.ownsRow_nil _ _ _ _
theorem Seq.keep {b : Nat} {e : TypeId} {w w' : World} {v : Value} {xs : List Value} (h : Seq b e w v xs) (hb : ∀ g, v.ownBlock = some g → w'.heap[g]? = w.heap[g]?) : Seq b e w' v xs := by
  refine ⟨h.1, ?_⟩
  rcases h.2 with q | ⟨g, cap, cur, e1, e2, e3, e4⟩
  · exact .inl q
  · exact .inr ⟨g, cap, cur, e1, e2, (hb g (by rw [e1]; rfl)).trans e3, e4⟩
theorem Seq.lt {b : Nat} {e : TypeId} {w : World} {v : Value} {xs : List Value} (h : Seq b e w v xs) : ∀ g, v.ownBlock = some g → g < w.heap.size := fun g hg => (World.ownsRow.lt h g hg).2
theorem Seq.high {b : Nat} {e : TypeId} {w : World} {v : Value} {xs : List Value} (h : Seq b e w v xs) : ∀ g, v.ownBlock = some g → b ≤ g := fun g hg => (World.ownsRow.lt h g hg).1
theorem Seq.below {b : Nat} {e : TypeId} {w w' : World} {v : Value} {xs : List Value} (h : Seq b e w v xs) (k : Below w.heap.size w w') : Seq b e w' v xs := h.keep (fun g hg => k.block g (h.lt g hg))
/-- What its block holds. -/
theorem Seq.kind {b : Nat} {e : TypeId} {w : World} {v : Value} {xs : List Value} (h : Seq b e w v xs) : ∀ g, v.ownBlock = some g → ∃ cur, w.heap[g]? = some (.cells cur e (0, 0)) := by
  intro g hg
  rcases h.2 with ⟨q, _⟩ | ⟨g', cap, cur, e1, e2, e3, e4⟩
  · rw [q] at hg; cases hg
  · have : g' = g := by rw [e1] at hg; simpa [Value.ownBlock] using hg
    subst this
    exact ⟨cur, e3⟩
theorem Row.kind {w : World} {v : Value} {L : List Bs} (h : Row w v L) : ∀ g, v.ownBlock = some g → ∃ cur, w.heap[g]? = some (.cells cur 9 (0, 0)) := by
  intro g hg
  rcases h.form with ⟨q, _⟩ | ⟨g', cap, cur, e1, e2, _⟩
  · rw [q] at hg; cases hg
  · have : g' = g := by rw [e1] at hg; simpa [Value.ownBlock] using hg
    subst this
    exact ⟨cur, e2⟩
theorem Seq.at {b : Nat} {e : TypeId} {w : World} {v : Value} {xs : List Value} (h : Seq b e w v xs) (k : Nat) (hk : k < xs.length) : ∃ g cap, v = .slice (some ⟨g, 0, none⟩) xs.length cap ∧ w.cell? ⟨g, k, none⟩ = some (xs.getD k undef) := by
  rcases h.2 with ⟨_, q⟩ | ⟨g, cap, cur, e1, e2, e3, e4⟩
  · omega
  · refine ⟨g, cap, e1, ?_⟩
    have := World.ownsRow.cells h (g := g) (by rw [e1]; rfl) k (xs.getD k undef) (by simp [hk])
    have hadd : ∀ i, (⟨g, 0, none⟩ : Addr).add i = ⟨g, i, none⟩ := fun i => by unfold Addr.add; split <;> simp_all
    rw [hadd] at this
    exact this
theorem Seq.len {b : Nat} {e : TypeId} {w : World} {v : Value} {xs : List Value} (h : Seq b e w v xs) : ∃ p cap, v = .slice p xs.length cap := by
  rcases h.2 with ⟨q, q2⟩ | ⟨g, cap, cur, e1, _⟩
  · exact ⟨none, 0, by rw [q, q2]⟩
  · exact ⟨_, cap, e1⟩
/-- all = append(all, x): every block but its own stands. -/
theorem push30 {b : Nat} {ops : Array Oper} {rest : List Oper} {o : Oper} {a : Act} {Q : Exit → Act → World → Prop} (hgd : o.guard = none) (s x : Operand)
    (ho : o.op = .call { callee := .builtin .append, args := #[s, x], argTypes := #[25, 25] }) (v : Value) (xs : List Value) (hs : a.eval s = v) (w0 : World) (p : Option Addr) (n c : Nat) (hb : Seq b 24 w0 v xs)
    (hx : a.eval x = .slice (some ⟨w0.heap.size, 0, none⟩) 1 1) (hL : xs.length ≤ 1000000000) (hB : b ≤ w0.heap.size)
    (h : ∀ v' w', Seq b 24 w' v' (xs ++ [.slice p n c]) → (w0.alloc (.cells #[.slice p n c] 24)).grownBy w' v.ownBlock → wpList Tryd.prog ops Q rest (a.put o.dst v') w') : wpList Tryd.prog ops Q (o :: rest) a (w0.alloc (.cells #[.slice p n c] 24)) := by
  obtain ⟨i0, hi, hz0, hz1, hz2⟩ := info_parts info24
  refine wpList_append_own _ hgd s x 25 ho b 24 i0 (.slice none 0 0) 1 24 Tryd.underlying25 hi hz0 hz1 hz2 rfl (by decide) v xs.length xs hs (hb.keep (fun g hg => Below.heap_alloc w0 _ g (hb.lt g hg))) ⟨w0.heap.size, 0, none⟩ 1 1 [.slice p n c] hx rfl ?_ ?_ (by unfold maxLen; omega) (by omega) (by simp; omega) ?_
  · intro j u hj
    match j, hj with
    | 0, hj => simp at hj; subst hj; simp [Addr.add]
    | (j + 1), hj => simp at hj
  · intro u hu; simp at hu; subst hu; rfl
  · intro v' w' ho' hg _
    refine h v' w' ?_ hg
    unfold Seq
    rw [List.length_append]
    exact ho'
theorem push60 {b : Nat} {ops : Array Oper} {rest : List Oper} {o : Oper} {a : Act} {Q : Exit → Act → World → Prop} (hgd : o.guard = none) (s x : Operand)
    (ho : o.op = .call { callee := .builtin .append, args := #[s, x], argTypes := #[52, 52] }) (v : Value) (xs : List Value) (hs : a.eval s = v) (w0 : World) (i : Int) (hb : Seq b 3 w0 v xs)
    (hx : a.eval x = .slice (some ⟨w0.heap.size, 0, none⟩) 1 1) (hL : xs.length ≤ 1000000000) (hB : b ≤ w0.heap.size)
    (h : ∀ v' w', Seq b 3 w' v' (xs ++ [.int .i64 i]) → (w0.alloc (.cells #[.int .i64 i] 3)).grownBy w' v.ownBlock → wpList Tryd.prog ops Q rest (a.put o.dst v') w') : wpList Tryd.prog ops Q (o :: rest) a (w0.alloc (.cells #[.int .i64 i] 3)) := by
  obtain ⟨i0, hi, hz0, hz1, hz2⟩ := info_parts info3
  refine wpList_append_own _ hgd s x 52 ho b 3 i0 (.int .i64 0) 1 8 Tryd.underlying52 hi hz0 hz1 hz2 rfl (by decide) v xs.length xs hs (hb.keep (fun g hg => Below.heap_alloc w0 _ g (hb.lt g hg))) ⟨w0.heap.size, 0, none⟩ 1 1 [.int .i64 i] hx rfl ?_ ?_ (by unfold maxLen; omega) (by omega) (by simp; omega) ?_
  · intro j u hj
    match j, hj with
    | 0, hj => simp at hj; subst hj; simp [Addr.add]
    | (j + 1), hj => simp at hj
  · intro u hu; simp at hu; subst hu; rfl
  · intro v' w' ho' hg _
    refine h v' w' ?_ hg
    unfold Seq
    rw [List.length_append]
    exact ho'
/-- A view of a list of marks: where, how long, whose. -/
structure View where
  p : Option Addr
  n : Nat
  c : Nat
  i : Nat
def View.val (x : View) : Value := .slice x.p x.n x.c
def View.good (w : World) (x : View) : Prop := Sts w x.p x.n (List.replicate x.n (Go.Proofs.YtknlafgaagimjaaDoor.mk x.i))
theorem View.keep {w w' : World} {x : View} (h : x.good w) (hc : ∀ g j, x.p = some ⟨g, 0, none⟩ → j < x.n → w'.cell? ⟨g, j, none⟩ = w.cell? ⟨g, j, none⟩) (ho : ∀ g o, x.p = some ⟨g, o, none⟩ → o = 0) : x.good w' := by
  refine ⟨h.1, fun h0 => ?_⟩
  obtain ⟨p, o, e, hcells⟩ := h.2 h0
  have := ho p o e
  subst this
  refine ⟨p, 0, e, fun j hj => ?_⟩
  rw [hc p (0 + j) e (by omega)]
  exact hcells j hj
end Go.Proofs.YtknlafgaagimjaaDoor
