import Derived.Test.YtbmcaejbfjpmiaaDoorPce
namespace Go.Proofs.YtbmcaejbfjpmiaaDoor
open Go.RowKit Go.Lib
def cellsF (fs : List Fl) : List Value := fs.flatMap fun f => [S f.1, S f.2]
theorem cellsF_len (fs : List Fl) : (cellsF fs).length = fs.length * 2 := by
  unfold cellsF
  induction fs with
  | nil => rfl
  | cons f l ih => simp at ih ⊢; omega
theorem cellsF_append (a b : List Fl) : cellsF (a ++ b) = cellsF a ++ cellsF b := by simp [cellsF]
theorem cellsF_at (fs : List Fl) (j : Nat) (h : j < fs.length) : (cellsF fs)[j * 2]? = some (S (fs.getD j f0).1) ∧ (cellsF fs)[j * 2 + 1]? = some (S (fs.getD j f0).2) := by
  induction fs generalizing j with
  | nil => simp at h
  | cons f l ih =>
    cases j with
    | zero => simp [cellsF]
    | succ j =>
      have := ih j (by simpa using h)
      have e : cellsF (f :: l) = S f.1 :: S f.2 :: cellsF l := by simp [cellsF]
      rw [e, show (j + 1) * 2 = j * 2 + 1 + 1 by omega]
      simpa using this
theorem info44 : (Tryd.prog.info? 44).map (fun i => (i.zero, i.size, i.bytes)) = some (some (.agg #[.string ⟨#[]⟩, .string ⟨#[]⟩]), 2, 32) := by kernel_rfl
/-- Fields in memory of one's own, that may be made longer. -/
def OwnF (base : Nat) (v : Value) (fs : List Fl) (W0 w : World) : Prop := w.ownsRow base 44 2 v fs.length (cellsF fs) ∧ Below base W0 w ∧ base ≤ w.heap.size
theorem OwnF.nil (w : World) : OwnF w.heap.size (.slice none 0 0) [] w w := ⟨World.ownsRow_nil _ _ _ _, Below.refl _ _, Nat.le_refl _⟩
theorem OwnF.alloc {base : Nat} {v : Value} {fs : List Fl} {W0 w : World} (h : OwnF base v fs W0 w) (o : Obj) : OwnF base v fs W0 (w.alloc o) :=
  ⟨h.1.alloc o, h.2.1.alloc h.2.2 o, Nat.le_trans h.2.2 ((Below.refl 0 w).alloc (Nat.zero_le _) o).size⟩
theorem OwnF.keep {base : Nat} {v : Value} {fs : List Fl} {W0 w w' : World} (h : OwnF base v fs W0 w) (k : Below w.heap.size w w') : OwnF base v fs W0 w' := by
  refine ⟨⟨h.1.1, ?_⟩, h.2.1.trans (k.mono h.2.2), Nat.le_trans h.2.2 k.size⟩
  rcases h.1.2 with hn | ⟨g, cap, cur, hv, hb, hg, rest⟩
  · exact .inl hn
  · refine .inr ⟨g, cap, cur, hv, hb, ?_, rest⟩
    rw [k.block g (Array.getElem?_eq_some_iff.1 hg).1]
    exact hg
theorem OwnF.len {base : Nat} {v : Value} {fs : List Fl} {W0 w : World} (h : OwnF base v fs W0 w) : ∃ p cap, v = .slice p fs.length cap := by
  rcases h.1.2 with ⟨e, q⟩ | ⟨g, cap, cur, e1, e2⟩
  · exact ⟨none, 0, by rw [e, q]⟩
  · exact ⟨_, cap, e1⟩
theorem OwnF.fls {base : Nat} {v : Value} {fs : List Fl} {W0 w : World} (h : OwnF base v fs W0 w) : ∃ p cap, v = .slice p fs.length cap ∧ Fls w p fs.length fs := by
  have hc := fun {g : Nat} (hg : v.ownBlock = some g) => h.1.cells hg
  rcases h.1.2 with ⟨e, q⟩ | ⟨g, cap, cur, e1, e2⟩
  · exact ⟨none, 0, by rw [e, q], rfl, fun h => by omega⟩
  · refine ⟨_, cap, e1, rfl, fun _ => ⟨g, 0, rfl, fun j hj => ?_⟩⟩
    subst e1
    obtain ⟨h1, h2⟩ := cellsF_at fs j hj
    have a1 := hc (g := g) rfl _ _ h1
    have a2 := hc (g := g) rfl _ _ h2
    have hadd : ∀ i, (⟨g, 0, none⟩ : Addr).add i = ⟨g, i, none⟩ := fun i => by unfold Addr.add; split <;> simp_all
    rw [hadd] at a1 a2
    rw [Nat.zero_add]
    exact ⟨a1, a2⟩
theorem pushF {ops : Array Oper} {rest : List Oper} {o : Oper} {a : Act} {Q : Exit → Act → World → Prop} (hgd : o.guard = none) (s x : Operand)
    (ho : o.op = .call { callee := .builtin .append, args := #[s, x], argTypes := #[31, 31] })
    (base : Nat) (v : Value) (fs : List Fl) (hs : a.eval s = v) (W0 w0 : World) (f : Fl) (hb : OwnF base v fs W0 w0)
    (hx : a.eval x = .slice (some ⟨w0.heap.size, 0, none⟩) 1 1) (hlen : fs.length ≤ 2000000000000)
    (h : ∀ v' w', OwnF base v' (fs ++ [f]) W0 w' → wpList Tryd.prog ops Q rest (a.put o.dst v') w') : wpList Tryd.prog ops Q (o :: rest) a (w0.alloc (.cells #[S f.1, S f.2] 44)) := by
  obtain ⟨i0, hi, hz0, hz1, hz2⟩ := info_parts info44
  have hb' := hb.alloc (.cells #[S f.1, S f.2] 44)
  refine wpList_append_own _ hgd s x 31 ho base 44 i0 (.agg #[.string ⟨#[]⟩, .string ⟨#[]⟩]) 2 32 Tryd.underlying31 hi hz0 hz1 hz2 rfl (by decide) v fs.length (cellsF fs) hs hb'.1 ⟨w0.heap.size, 0, none⟩ 1 1 [S f.1, S f.2] hx rfl ?_ ?_ (by unfold maxLen; omega) (by omega) hb'.2.2 ?_
  · intro j u hj
    match j, hj with
    | 0, hj => simp at hj; subst hj; simp [Addr.add]
    | 1, hj => simp at hj; subst hj; simp [Addr.add]
    | (j + 2), hj => simp at hj
  · intro u hu
    simp at hu
    rcases hu with rfl | rfl <;> rfl
  · intro v' w' ho' hg _
    refine h v' w' ⟨?_, hb'.2.1.grown hg hb'.2.2 (fun k hk => (hb'.1.lt k hk).1), Nat.le_trans hb'.2.2 hg.size⟩
    rw [List.length_append, cellsF_append]
    exact ho'
end Go.Proofs.YtbmcaejbfjpmiaaDoor
