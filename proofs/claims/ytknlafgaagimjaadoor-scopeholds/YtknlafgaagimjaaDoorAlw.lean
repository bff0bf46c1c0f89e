import Derived.Test.YtknlafgaagimjaaDoorVst
namespace Go.Proofs.YtknlafgaagimjaaDoor
open Go.RowKit Go.Lib
def who (v : View) : Value := .int .i64 (v.i : Int)
/-- The views, the row of them (al), and the row of whose they are (wh). -/
structure Alw (B b G n : Nat) (vs : Nat → Value) (m : Nat → Nat) (w0 : World) (lo i : Nat) (V V2 : List View) (x : Value) (len : Nat) (al wh : Value) (w : World) : Prop where
  build ::
  vst : Vst B G n vs m lo i V x len w
  s1 : Seq b 24 w al (V.map View.val)
  s2 : Seq b 3 w wh (V2.map who)
  below : Below B w0 w
  room : b ≤ w.heap.size
  lowG : G < b
  lowB : B ≤ b
variable {B b G n : Nat} {vs : Nat → Value} {m : Nat → Nat} {w0 : World} {lo i : Nat} {V V2 : List View} {x al wh : Value} {len : Nat} {w w' : World}
theorem lt_heap {w : World} {g : Nat} {o : Obj} (e : w.heap[g]? = some o) : g < w.heap.size := (Array.getElem?_eq_some_iff.1 e).1
theorem Alw.push1 {p : Option Addr} {c : Nat} {al' : Value} (h : Alw B b G n vs m w0 lo i V V2 x len al wh w) (hv : Vst B G n vs m lo i (V ++ [⟨p, len, c, i⟩]) x len w)
    (hs : Seq b 24 w' al' (V.map View.val ++ [.slice p len c])) (hg : (w.alloc (.cells #[.slice p len c] 24)).grownBy w' al.ownBlock) : Alw B b G n vs m w0 lo i (V ++ [⟨p, len, c, i⟩]) V2 x len al' wh w' := by
  have hsz : (w.alloc (.cells #[.slice p len c] 24)).heap.size = w.heap.size + 1 := by simp
  have hst : ∀ k, k < w.heap.size → al.ownBlock ≠ some k → w'.heap[k]? = w.heap[k]? := fun k hk hne => (hg.block k (by omega) (Ne.symm hne)).trans (Below.heap_alloc w _ k hk)
  have hal : ∀ g cur e, e ≠ 24 → w.heap[g]? = some (.cells cur e (0, 0)) → al.ownBlock ≠ some g := by
    intro g cur e he hc q
    obtain ⟨cur', e'⟩ := h.s1.kind g q
    rw [hc] at e'
    cases e'
    exact he rfl
  refine ⟨hv.keep ?_, by rw [List.map_append]; exact hs, h.s2.keep ?_, h.below.trans ⟨hg.os, hg.tape, hg.output, by have := hg.size; omega, fun k hk => hst k ?_ ?_⟩, by have := hg.size; have := h.room; omega, h.lowG, h.lowB⟩
  · intro g cur e he hc
    rcases he with rfl | rfl
    · exact hst g (lt_heap hc) (hal g cur 9 (by decide) hc)
    · exact hst g (lt_heap hc) (fun q => by have := h.s1.high g q; have := h.lowG; omega)
  · intro g hg'
    obtain ⟨cur, e⟩ := h.s2.kind g hg'
    exact hst g (lt_heap e) (hal g cur 3 (by decide) e)
  · have := h.lowB; have := h.room; omega
  · intro q
    have := h.s1.high k q; have := h.lowB; omega
theorem Alw.push2 {y : View} {wh' : Value} (h : Alw B b G n vs m w0 lo i V V2 x len al wh w)
    (hs : Seq b 3 w' wh' (V2.map who ++ [who y])) (hg : (w.alloc (.cells #[who y] 3)).grownBy w' wh.ownBlock) : Alw B b G n vs m w0 lo i V (V2 ++ [y]) x len al wh' w' := by
  have hsz : (w.alloc (.cells #[who y] 3)).heap.size = w.heap.size + 1 := by simp
  have hst : ∀ k, k < w.heap.size → wh.ownBlock ≠ some k → w'.heap[k]? = w.heap[k]? := fun k hk hne => (hg.block k (by omega) (Ne.symm hne)).trans (Below.heap_alloc w _ k hk)
  have hal : ∀ g cur e, e ≠ 3 → w.heap[g]? = some (.cells cur e (0, 0)) → wh.ownBlock ≠ some g := by
    intro g cur e he hc q
    obtain ⟨cur', e'⟩ := h.s2.kind g q
    rw [hc] at e'
    cases e'
    exact he rfl
  refine ⟨h.vst.keep ?_, h.s1.keep ?_, by rw [List.map_append]; exact hs, h.below.trans ⟨hg.os, hg.tape, hg.output, by have := hg.size; omega, fun k hk => hst k ?_ ?_⟩, by have := hg.size; have := h.room; omega, h.lowG, h.lowB⟩
  · intro g cur e he hc
    rcases he with rfl | rfl
    · exact hst g (lt_heap hc) (hal g cur 9 (by decide) hc)
    · exact hst g (lt_heap hc) (fun q => by have := h.s2.high g q; have := h.lowG; omega)
  · intro g hg'
    obtain ⟨cur, e⟩ := h.s1.kind g hg'
    exact hst g (lt_heap e) (hal g cur 24 (by decide) e)
  · have := h.lowB; have := h.room; omega
  · intro q
    have := h.s2.high k q; have := h.lowB; omega
/-- What leaves every old block leaves all of it. -/
theorem Alw.keep (h : Alw B b G n vs m w0 lo i V V2 x len al wh w) (k : Below w.heap.size w w') : Alw B b G n vs m w0 lo i V V2 x len al wh w' :=
  ⟨h.vst.keep (fun g _ _ _ hc => k.block g (lt_heap hc)), h.s1.below k, h.s2.below k, h.below.trans (k.mono (Nat.le_trans h.lowB h.room)), Nat.le_trans h.room k.size, h.lowG, h.lowB⟩
theorem Alw.take (h : Alw B b G n vs m w0 lo i V V2 x len al wh w) (hl : lo < n) : Alw B b G n vs m w0 (lo + 1) lo V V2 (vs lo) (m lo) al wh w := ⟨h.vst.take hl, h.s1, h.s2, h.below, h.room, h.lowG, h.lowB⟩
theorem Alw.grow {x' : Value} (h : Alw B b G n vs m w0 lo i V V2 x len al wh w) (hr : Row w' x' (List.replicate len (mk i) ++ [mk i])) (hg : Grown x len (w.alloc (.cells #[S (mk i)] 9)) w') (hx : (∃ g, x.ownBlock = some g ∧ x'.ownBlock = some g) ∨ x'.ownBlock = some (w.heap.size + 1)) : Alw B b G n vs m w0 lo i V V2 x' (len + 1) al wh w' := by
  have ha := h.keep (((Below.refl w.heap.size w).alloc (Nat.le_refl _) (.cells #[S (mk i)] 9)))
  have hsz : (w.alloc (.cells #[S (mk i)] 9)).heap.size = w.heap.size + 1 := by simp
  rw [← hsz] at hx
  generalize w.alloc (.cells #[S (mk i)] 9) = w1 at *
  have hne : ∀ g cur e, e ≠ 9 → w1.heap[g]? = some (.cells cur e (0, 0)) → x.ownBlock ≠ some g := by
    intro g cur e he hc q
    obtain ⟨cur', e'⟩ := ha.vst.xrow.kind g q
    rw [hc] at e'
    cases e'
    exact he rfl
  have hB1 : B ≤ w1.heap.size := Nat.le_trans ha.lowB ha.room
  refine ⟨ha.vst.grow hB1 hr hg hx, ha.s1.keep ?_, ha.s2.keep ?_, ha.below.trans ⟨hg.os, hg.tape, hg.output, hg.size, fun k hk => hg.block k (by omega) (fun q => ?_)⟩, Nat.le_trans ha.room hg.size, ha.lowG, ha.lowB⟩
  · intro g q
    obtain ⟨cur, e⟩ := ha.s1.kind g q
    exact hg.block g (lt_heap e) (hne g cur 24 (by decide) e)
  · intro g q
    obtain ⟨cur, e⟩ := ha.s2.kind g q
    exact hg.block g (lt_heap e) (hne g cur 3 (by decide) e)
  · have := ha.vst.xabove k q
    omega
end Go.Proofs.YtknlafgaagimjaaDoor
