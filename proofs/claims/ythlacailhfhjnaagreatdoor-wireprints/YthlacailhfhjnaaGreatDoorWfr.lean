import Derived.Test.YthlacailhfhjnaaGreatDoorWfo
namespace Go.Proofs.YthlacailhfhjnaaGreatDoor
open Go.RowKit Go.Lib
section
variable {P B : Nat} {z : Ms} {st : Int} {f : List Fl} {b : Bs} {w w' : World}
theorem MB.set0 (h : MB P z B w) (hB : B ≤ P) (v : Bs) : MB P { z with m := v } B (w.setCell ⟨P, 0, none⟩ (S v)) := by
  obtain ⟨a, c, x, f, n, q⟩ := h
  exact ⟨a, c, heap_setCell_same w P 0 _ 24 _ x, f.only q (Only.setCell w ⟨P, 0, none⟩ (S v)) (fun k e => by subst e; exact hB), n, q⟩
theorem MB.set1 (h : MB P z B w) (hB : B ≤ P) (v : Bs) : MB P { z with p := v } B (w.setCell ⟨P, 1, none⟩ (S v)) := by
  obtain ⟨a, c, x, f, n, q⟩ := h
  exact ⟨a, c, heap_setCell_same w P 1 _ 24 _ x, f.only q (Only.setCell w ⟨P, 1, none⟩ (S v)) (fun k e => by subst e; exact hB), n, q⟩
theorem MB.set3 (h : MB P z B w) (hB : B ≤ P) (v : Bs) : MB P { z with b := v } B (w.setCell ⟨P, 3, none⟩ (S v)) := by
  obtain ⟨a, c, x, f, n, q⟩ := h
  exact ⟨a, c, heap_setCell_same w P 3 _ 24 _ x, f.only q (Only.setCell w ⟨P, 3, none⟩ (S v)) (fun k e => by subst e; exact hB), n, q⟩
theorem AB.set0 (h : AB P st f b B w) (hB : B ≤ P) (v : Int) : AB P v f b B (w.setCell ⟨P, 0, none⟩ (.int .i64 v)) := by
  obtain ⟨a, c, x, f, n, q⟩ := h
  exact ⟨a, c, heap_setCell_same w P 0 _ 26 _ x, f.only q (Only.setCell w ⟨P, 0, none⟩ (.int .i64 v)) (fun k e => by subst e; exact hB), n, q⟩
theorem AB.set2 (h : AB P st f b B w) (hB : B ≤ P) (v : Bs) : AB P st f v B (w.setCell ⟨P, 2, none⟩ (S v)) := by
  obtain ⟨a, c, x, f, n, q⟩ := h
  exact ⟨a, c, heap_setCell_same w P 2 _ 26 _ x, f.only q (Only.setCell w ⟨P, 2, none⟩ (S v)) (fun k e => by subst e; exact hB), n, q⟩
theorem fls_own {F : List Fl} {p : Option Addr} {n c : Nat} (ho : w.ownsRow 0 35 2 (.slice p n c) F.length (cellsF F)) : ∀ q o, p = some ⟨q, o, none⟩ → 0 < n → q < w.heap.size := by
  intro q o e hn
  have hc := owns_cases ho
  obtain ⟨p', o', e', hl, _⟩ := (owns_fls ho hc.1).at hn
  rw [e] at e'
  cases e'
  exact hl
/-- Other headers, in a row of one's own. -/
theorem MB.set2 (h : MB P z B w) {V : Value} {F : List Fl} (ho : w.ownsRow 0 35 2 V F.length (cellsF F)) : MB P { z with hs := F } w.heap.size (w.setCell ⟨P, 2, none⟩ V) := by
  obtain ⟨a, c, x, f, n, q⟩ := h
  obtain ⟨p', c', rfl⟩ := owns_form ho
  have hc := owns_cases ho
  have ho' : (w.setCell ⟨P, 2, none⟩ (.slice p' F.length c')).ownsRow 0 35 2 (.slice p' F.length c') F.length (cellsF F) := owns_same ho (fun k hk => heap_setCell_other w _ _ _ (own_ne x ho (by decide) k hk))
  exact ⟨p', c', heap_setCell_same w P 2 _ 24 _ x, owns_fls ho' rfl, hc.2.1, fls_own ho⟩
theorem MB.cells (h : MB P z B w) : ∃ p c, w.cell? ⟨P, 0, none⟩ = some (S z.m) ∧ w.cell? ⟨P, 1, none⟩ = some (S z.p) ∧ w.cell? ⟨P, 2, none⟩ = some (.slice p z.hs.length c) ∧ w.cell? ⟨P, 3, none⟩ = some (S z.b) ∧ (∀ j, w.frozen? ⟨P, j, none⟩ = false) ∧ Fls w p z.hs.length z.hs ∧ (p = none → c = 0) ∧ ∀ q o, p = some ⟨q, o, none⟩ → 0 < z.hs.length → q < B := by
  obtain ⟨p, c, x, f, n, q⟩ := h
  exact ⟨p, c, cell_of_row w _ 0 _ 24 (0, 0) x, cell_of_row w _ 1 _ 24 (0, 0) x, cell_of_row w _ 2 _ 24 (0, 0) x, cell_of_row w _ 3 _ 24 (0, 0) x, fun j => frozen_of_heap x j, f, n, q⟩
theorem AB.cells (h : AB P st f b B w) : ∃ p c, w.cell? ⟨P, 0, none⟩ = some (.int .i64 st) ∧ w.cell? ⟨P, 1, none⟩ = some (.slice p f.length c) ∧ w.cell? ⟨P, 2, none⟩ = some (S b) ∧ (∀ j, w.frozen? ⟨P, j, none⟩ = false) ∧ Fls w p f.length f ∧ (p = none → c = 0) ∧ ∀ q o, p = some ⟨q, o, none⟩ → 0 < f.length → q < B := by
  obtain ⟨p, c, x, f, n, q⟩ := h
  exact ⟨p, c, cell_of_row w _ 0 _ 26 (0, 0) x, cell_of_row w _ 1 _ 26 (0, 0) x, cell_of_row w _ 2 _ 26 (0, 0) x, fun j => frozen_of_heap x j, f, n, q⟩
end
/-- The boxes of the message and the answer that came in. -/
structure Bx (w : World) (P4 P5 : Nat) (m : Ms) (st : Int) (fa : List Fl) (ba : Bs) (wr : World) : Prop where
  bel : Below w.heap.size w wr
  mb : MB P4 m w.heap.size wr
  ab : AB P5 st fa ba w.heap.size wr
section
variable {w wr w' : World} {P4 P5 : Nat} {m : Ms} {st : Int} {fa : List Fl} {ba : Bs}
theorem Bx.below (h : Bx w P4 P5 m st fa ba wr) (hb : Below wr.heap.size wr w') : Bx w P4 P5 m st fa ba w' := ⟨h.bel.trans (hb.mono h.bel.size), h.mb.below hb, h.ab.below hb⟩
theorem Bx.env {B : Nat} (h : Bx w P4 P5 m st fa ba wr) (hE : Env B w) : Env B wr := hE.below (h.bel.mono hE.le)
end
/-- Ahead of the switch: what came in, what was made of it, and a copy of that. -/
structure Swi (w : World) (P4 P5 X11 X12 X14 X15 : Nat) (m : Ms) (st : Int) (fa : List Fl) (ba : Bs) (x : Ms) (ys : Int) (yh : List Fl) (yb : Bs) (z : Ms) (vs : Int) (vh : List Fl) (vb : Bs) (Bz Bv : Nat) (wr : World) : Prop where
  bx : Bx w P4 P5 m st fa ba wr
  mx : MB X11 x X14 wr
  ax : AB X12 ys yh yb X14 wr
  mz : MB X14 z Bz wr
  av : AB X15 vs vh vb Bv wr
  lz : LM z
  lv : LA vh vb
  o1 : P4 < X14 ∧ P5 < X14 ∧ X11 < X14 ∧ X12 < X14 ∧ X15 = X14 + 1 ∧ w.heap.size ≤ X14
section
variable {w wr w' : World} {P4 P5 X11 X12 X14 X15 : Nat} {m x z : Ms} {st ys vs : Int} {fa yh vh : List Fl} {ba yb vb : Bs} {Bz Bv : Nat}
/-- Nothing but the copies' boxes was written. -/
theorem Swi.mk' (h : Swi w P4 P5 X11 X12 X14 X15 m st fa ba x ys yh yb z vs vh vb Bz Bv wr) {z' : Ms} {vs' : Int} {vh' : List Fl} {vb' : Bs} {Bz' Bv' : Nat} (ho : Only (fun k => k = X14 ∨ k = X15) wr w') (mz : MB X14 z' Bz' w') (av : AB X15 vs' vh' vb' Bv' w') (lz : LM z') (lv : LA vh' vb') : Swi w P4 P5 X11 X12 X14 X15 m st fa ba x ys yh yb z' vs' vh' vb' Bz' Bv' w' := by
  obtain ⟨q1, q2, q3, q4, q5, q6⟩ := h.o1
  refine ⟨⟨ho.below h.bx.bel h.bx.bel.size (fun k e => by omega), h.bx.mb.only ho (by omega) (fun k e => by omega), h.bx.ab.only ho (by omega) (fun k e => by omega)⟩, h.mx.only ho (by omega) (fun k e => by omega), h.ax.only ho (by omega) (fun k e => by omega), mz, av, lz, lv, h.o1⟩
end
end Go.Proofs.YthlacailhfhjnaaGreatDoor
