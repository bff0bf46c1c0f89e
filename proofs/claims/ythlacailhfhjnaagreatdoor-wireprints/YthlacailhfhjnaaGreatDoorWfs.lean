import Derived.Test.YthlacailhfhjnaaGreatDoorWfr
import Derived.Test.YthlacailhfhjnaaGreatDoorRgp
namespace Go.Proofs.YthlacailhfhjnaaGreatDoor
open Go.RowKit Go.Lib
theorem lens_set {l : List Fl} (h : Lens l) (k : Nat) (f : Fl) (hf : f.1.length ≤ 140737488351232 ∧ f.2.length ≤ 140737488351232) : Lens (l.set k f) := by
  intro j
  have := h j
  rw [List.getD_eq_getElem?_getD] at this ⊢
  rw [List.getElem?_set]
  split
  · split
    · exact hf
    · exact ⟨by simp [fl0], by simp [fl0]⟩
  · exact this
theorem lens_app {l l' : List Fl} (h : Lens l) (h' : Lens l') : Lens (l ++ l') := by
  intro j
  have h1 := h j
  have h2 := h' (j - l.length)
  rw [List.getD_eq_getElem?_getD] at h1 h2 ⊢
  by_cases hj : j < l.length
  · rw [List.getElem?_append_left hj]; exact h1
  · rw [List.getElem?_append_right (by omega)]; exact h2
/-- A field of a row of one's own, written over. -/
theorem owns_set2 {w : World} {G n c : Nat} {F : List Fl} (h : w.ownsRow 0 35 2 (.slice (some ⟨G, 0, none⟩) n c) F.length (cellsF F)) (k : Nat) (hk : k < F.length) (f : Fl) :
    (∃ cs, w.heap[G]? = some (.cells cs 35 (0, 0)) ∧ k * 2 + 1 < cs.size) ∧ ((w.setCell ⟨G, k * 2, none⟩ (S f.1)).setCell ⟨G, k * 2 + 1, none⟩ (S f.2)).ownsRow 0 35 2 (.slice (some ⟨G, 0, none⟩) n c) (F.set k f).length (cellsF (F.set k f)) := by
  rcases h.2 with ⟨e, q⟩ | ⟨g, cap, cur, e1, e2, e3, e4, e5, e6, e7⟩
  · cases e
  · simp only [Value.slice.injEq, Option.some.injEq, Addr.mk.injEq, and_true] at e1
    obtain ⟨rfl, rfl, rfl⟩ := e1
    refine ⟨⟨cur, e3, by omega⟩, ?_⟩
    rw [List.length_set]
    refine ⟨by rw [cellsF_len, List.length_set], .inr ⟨G, c, ((cur.setIfInBounds (k * 2) (S f.1)).setIfInBounds (k * 2 + 1) (S f.2)), rfl, e2, ?_, e4, e5, by simp [e6], ?_⟩⟩
    · have q := heap_setCell_same w G (k * 2) _ 35 (S f.1) e3
      exact heap_setCell_same _ G (k * 2 + 1) _ 35 (S f.2) q
    · rw [Array.toList_setIfInBounds, Array.toList_setIfInBounds, List.take_set, List.take_set, e7, cellsF_set2 F k f hk]
/-- append of fields to nil, where there are some. -/
theorem wp_appN {ops : Array Oper} {rest : List Oper} {o : Oper} {a : Act} {w : World} {Q : Exit → Act → World → Prop} (hgd : o.guard = none) (s x : Operand)
    (ho : o.op = .call { callee := .builtin .append, args := #[s, x], argTypes := #[22, 22] }) (hs : a.eval s = .slice none 0 0) {q : Option Addr} {n c : Nat} (hx : a.eval x = .slice q n c) {l2 : List Fl}
    (h2 : Fls w q n l2) (hq : q = none → c = 0) (hn : l2.length ≤ 1000000000000) (hp : 0 < n)
    (hK : ∀ G cap w', w'.ownsRow 0 35 2 (.slice (some ⟨G, 0, none⟩) n cap) l2.length (cellsF l2) → Below w.heap.size w w' → w.heap.size ≤ G → wpList Tryz.prog ops Q rest (a.put o.dst (.slice (some ⟨G, 0, none⟩) n cap)) w') : wpList Tryz.prog ops Q (o :: rest) a w := by
  refine wp_appG hgd s x ho hs hx (owns_nil w) h2 hq (by simpa using hn) ?_
  intro V' w' h1 h3 h4
  rw [List.nil_append] at h1
  rcases h1.2 with ⟨e, q⟩ | ⟨g, cap, cur, e1, e2, e3, e4⟩
  · exact absurd q (by have := h2.1; omega)
  · subst e1
    rw [← h2.1]
    refine hK g cap w' ?_ ⟨h3.os, h3.tape, h3.output, h3.size, fun k hk => h3.block k hk (fun e => by cases e)⟩ ?_
    · rw [h2.1] at *; exact h1
    · rcases h4 with e | e
      · cases e
      · have : g = w.heap.size := Option.some.inj e
        omega
/-- What holds while both lists are laid into one. -/
structure W11 (w0 : World) (X14 : Nat) (x : Ms) (hx : Value) (l l2 : List Fl) (c : Value × Value) (L : Nat → Bool) (W : World) : Prop where
  only : Only (fun k => k = X14) w0 W
  d5 : L 5 = true → L 2 = true
  d7 : L 7 = true → L 5 = true
  r1 : L 2 = true → L 5 = false → W.ownsRow 0 35 2 c.1 l.length (cellsF l) ∧ ∀ k, c.1.ownBlock = some k → w0.heap.size ≤ k
  r2 : L 5 = true → W.ownsRow 0 35 2 c.2 (l ++ l2).length (cellsF (l ++ l2))
  b0 : L 7 = false → W.heap[X14]? = some (.cells #[S x.m, S x.p, hx, S x.b] 24 (0, 0))
  b1 : L 7 = true → W.heap[X14]? = some (.cells #[S x.m, S x.p, c.2, S x.b] 24 (0, 0))
section
variable {w0 W : World} {X14 : Nat} {x : Ms} {hx : Value} {l l2 : List Fl} {c : Value × Value} {L : Nat → Bool}
theorem W11.pure (h : W11 w0 X14 x hx l l2 c L W) (i : Nat) (h2 : i ≠ 2) (h5 : i ≠ 5) (h7 : i ≠ 7) : W11 w0 X14 x hx l l2 c (upd L i) W := by
  have e2 : upd L i 2 = L 2 := upd_ne (fun e => h2 e.symm)
  have e5 : upd L i 5 = L 5 := upd_ne (fun e => h5 e.symm)
  have e7 : upd L i 7 = L 7 := upd_ne (fun e => h7 e.symm)
  exact ⟨h.only, by rw [e2, e5]; exact h.d5, by rw [e7, e5]; exact h.d7, by rw [e2, e5]; exact h.r1, by rw [e5]; exact h.r2, by rw [e7]; exact h.b0, by rw [e7]; exact h.b1⟩
theorem W11.one (h : W11 w0 X14 x hx l l2 c L W) (h2 : L 2 = false) {V : Value} {W' : World} (ho : W'.ownsRow 0 35 2 V l.length (cellsF l)) (hb : Below W.heap.size W W') (hV : V.ownBlock = none ∨ V.ownBlock = some W.heap.size) (hl : X14 < w0.heap.size) : W11 w0 X14 x hx l l2 (V, c.2) (upd L 2) W' := by
  have h5 : L 5 = false := by
    cases q : L 5
    · rfl
    · rw [h.d5 q] at h2; cases h2
  have h7 : L 7 = false := by
    cases q : L 7
    · rfl
    · rw [h.d7 q] at h5; cases h5
  have e5 : upd L 2 5 = false := (upd_ne (by decide)).trans h5
  have e7 : upd L 2 7 = false := (upd_ne (by decide)).trans h7
  refine ⟨h.only.trans (Only.of_below (P := fun k => k = X14) hb) (fun _ _ q => q), ?_, ?_, fun _ _ => ⟨ho, fun k hk => ?_⟩, ?_, fun _ => (hb.block _ (by have := h.only.size; omega)).trans (h.b0 h7), ?_⟩
  · intro q; rw [e5] at q; cases q
  · intro q; rw [e7] at q; cases q
  · rcases hV with q | q
    · simp only at hk
      rw [q] at hk; cases hk
    · simp only at hk
      rw [q] at hk
      have := h.only.size
      have := Option.some.inj hk
      omega
  · intro q; rw [e5] at q; cases q
  · intro q; rw [e7] at q; cases q
theorem W11.two (h : W11 w0 X14 x hx l l2 c L W) (h2 : L 2 = true) (h5 : L 5 = false) {V : Value} {W' : World} (ho : W'.ownsRow 0 35 2 V (l ++ l2).length (cellsF (l ++ l2))) (hb : Only (fun k => c.1.ownBlock = some k) W W') (hl : X14 < w0.heap.size) : W11 w0 X14 x hx l l2 (c.1, V) (upd L 5) W' := by
  have h7 : L 7 = false := by
    cases q : L 7
    · rfl
    · rw [h.d7 q] at h5; cases h5
  have e2 : upd L 5 2 = true := (upd_ne (by decide)).trans h2
  have e7 : upd L 5 7 = false := (upd_ne (by decide)).trans h7
  have hn := (h.r1 h2 h5).2
  refine ⟨h.only.trans hb (fun k hk q => by have := hn k q; omega), fun _ => e2, ?_, ?_, fun _ => ho, fun _ => (hb.block _ (by have := h.only.size; omega) (fun q => by have := hn _ q; omega)).trans (h.b0 h7), ?_⟩
  · intro q; rw [e7] at q; cases q
  · intro _ q; rw [upd_eq] at q; cases q
  · intro q; rw [e7] at q; cases q
theorem W11.laid7 (h : W11 w0 X14 x hx l l2 c L W) (h5 : L 5 = true) (h7 : L 7 = false) : W11 w0 X14 x hx l l2 c (upd L 7) (W.setCell ⟨X14, 0 + 2, none⟩ c.2) ∧ (∃ a n k, c.2 = .slice a n k) ∧ (∃ u, W.cell? ⟨X14, 0 + 2, none⟩ = some u) ∧ W.frozen? ⟨X14, 0 + 2, none⟩ = false := by
  have hr := h.r2 h5
  have hb := h.b0 h7
  have e5 : upd L 7 5 = true := (upd_ne (by decide)).trans h5
  have e2 : upd L 7 2 = true := (upd_ne (by decide)).trans (h.d5 h5)
  refine ⟨⟨h.only.trans (Only.setCell W ⟨X14, 0 + 2, none⟩ c.2) (fun _ _ q => q), fun _ => e2, fun _ => e5, ?_, fun _ => ?_, ?_, fun _ => heap_setCell_same W X14 2 _ 24 c.2 hb⟩, ?_, ⟨_, cell_of_row W _ 2 _ 24 (0, 0) hb⟩, frozen_of_heap hb _⟩
  · intro _ q; rw [e5] at q; cases q
  · exact owns_same hr (fun k hk => heap_setCell_other W _ _ _ (own_ne hb hr (by decide) k hk))
  · intro q; rw [upd_eq] at q; cases q
  · obtain ⟨p, k, e⟩ := owns_form hr
    exact ⟨p, _, k, e⟩
theorem W11.mb (h : W11 w0 X14 x hx l l2 c L W) (h5 : L 5 = true) (h7 : L 7 = true) : MB X14 { x with hs := l ++ l2 } W.heap.size W := by
  have hr := h.r2 h5
  have hb := h.b1 h7
  obtain ⟨p, k, e⟩ := owns_form hr
  rw [e] at hr hb
  have hc := owns_cases hr
  exact ⟨p, k, hb, owns_fls hr rfl, hc.2.1, fls_own hr⟩
end
end Go.Proofs.YthlacailhfhjnaaGreatDoor
