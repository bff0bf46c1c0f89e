import Derived.Test.YthddilflldkmfaaDoorYrz
import Derived.Test.YthddilflldkmfaaDoorSza
import Derived.Test.YthddilflldkmfaaDoorRgc
import Derived.Test.YthddilflldkmfaaDoorDone
import Derived.Test.YthddilflldkmfaaDoorPick
namespace Go.Proofs.YthddilflldkmfaaDoor
open Go.RowKit Go.Lib
/-- Where two Readers, and two of the document's, lie: all apart. -/
structure Apt (B G Y : Nat → Nat) (gr gy : Nat) : Prop where
  bg : ∀ i j, i < 2 → j < 2 → B i ≠ G j
  bY : ∀ i j, i < 2 → j < 2 → B i ≠ Y j
  yg : ∀ i j, i < 2 → j < 2 → Y i ≠ G j
  bb : ∀ i j, i < 2 → j < 2 → i ≠ j → B i ≠ B j
  yy : ∀ i j, i < 2 → j < 2 → i ≠ j → Y i ≠ Y j
  br : ∀ i, i < 2 → B i ≠ gr ∧ B i ≠ gy
  yr : ∀ i, i < 2 → Y i ≠ gr ∧ Y i ≠ gy
/-- They tell the same. -/
structure Two (B G Y : Nat → Nat) (gr gy : Nat) (R : Nat → List UInt8) (E : Nat → Nat) (W : World) : Prop where
  rd : ∀ k, k < 2 → ∃ off cap, RAt (B k) (G k) off cap (R k) (E k) W
  yd : ∀ k, k < 2 → YAt (Y k) (R k) (E k) W
  cr : ∀ k, k < 2 → W.cell? ⟨gr, k, none⟩ = some (.pointer (some ⟨B k, 0, none⟩))
  cy : ∀ k, k < 2 → W.cell? ⟨gy, k, none⟩ = some (.pointer (some ⟨Y k, 0, none⟩))
variable {B G Y : Nat → Nat} {gr gy : Nat} {R : Nat → List UInt8} {E : Nat → Nat} {W W' : World}
theorem Two.ltr (h : Two B G Y gr gy R E W) : gr < W.heap.size := block_lt_of_cell (h.cr 0 (by decide))
theorem Two.lty (h : Two B G Y gr gy R E W) : gy < W.heap.size := block_lt_of_cell (h.cy 0 (by decide))
theorem Two.ltb (h : Two B G Y gr gy R E W) (k : Nat) (hk : k < 2) : B k < W.heap.size := by
  obtain ⟨o, c, q⟩ := h.rd k hk
  exact lt_of_row q.row
theorem Two.ltY (h : Two B G Y gr gy R E W) (k : Nat) (hk : k < 2) : Y k < W.heap.size := lt_of_row (h.yd k hk)
theorem Two.below (h : Two B G Y gr gy R E W) (hb : Below W.heap.size W W') : Two B G Y gr gy R E W' := by
  have ho : Only (fun _ => False) W W' := Only.of_below hb
  refine ⟨fun k hk => ?_, fun k hk => (h.yd k hk).keep ho (fun q => q), fun k hk => (hb.cell (by exact h.ltr)).trans (h.cr k hk), fun k hk => (hb.cell (by exact h.lty)).trans (h.cy k hk)⟩
  obtain ⟨o, c, q⟩ := h.rd k hk
  exact ⟨o, c, q.keep ho (fun q => q) (fun q => q)⟩
def put1 {α : Type} (f : Nat → α) (k : Nat) (v : α) : Nat → α := fun j => if j = k then v else f j
theorem Two.step (h : Two B G Y gr gy R E W) (ap : Apt B G Y gr gy) (k : Nat) (hk : k < 2) {R' : List UInt8} {E' : Nat} (hr : ∃ off cap, RAt (B k) (G k) off cap R' E' W') (hy : YAt (Y k) R' E' W') (ho : Only (fun x => x = B k ∨ x = Y k) W W') :
    Two B G Y gr gy (put1 R k R') (put1 E k E') W' := by
  refine ⟨fun i hi => ?_, fun i hi => ?_, fun i hi => (World.cell?_of_block (ho.block gr h.ltr ?_)).trans (h.cr i hi), fun i hi => (World.cell?_of_block (ho.block gy h.lty ?_)).trans (h.cy i hi)⟩
  · unfold put1
    by_cases e : i = k
    · subst e
      simpa using hr
    · simp only [if_neg e]
      obtain ⟨o, c, q⟩ := h.rd i hi
      refine ⟨o, c, q.keep ho ?_ ?_⟩
      · rintro (q | q)
        · exact ap.bb i k hi hk e q
        · exact ap.bY i k hi hk q
      · rintro (q | q)
        · exact ap.bg k i hk hi q.symm
        · exact ap.yg k i hk hi q.symm
  · unfold put1
    by_cases e : i = k
    · subst e
      simpa using hy
    · simp only [if_neg e]
      refine (h.yd i hi).keep ho ?_
      rintro (q | q)
      · exact ap.bY k i hk hi q.symm
      · exact ap.yy i k hi hk e q
  · rintro (q | q)
    · exact (ap.br k hk).1 q.symm
    · exact (ap.yr k hk).1 q.symm
  · rintro (q | q)
    · exact (ap.br k hk).2 q.symm
    · exact (ap.yr k hk).2 q.symm
/-- What holds while both are called. -/
def WdD (b g y : Nat) (R R' : List UInt8) (E E' : Nat) (w : World) (L : Nat → Bool) (W : World) : Prop :=
  (∃ off cap, RAt b g off cap (if L 6 then R' else R) (if L 6 then E' else E) W) ∧ YAt y (if L 13 then R' else R) (if L 13 then E' else E) W ∧ Only (fun x => x = b ∨ x = y) w W
variable {b g y : Nat} {S S' : List UInt8} {e e' : Nat} {w : World} {L : Nat → Bool}
theorem WdD.pure (h : WdD b g y S S' e e' w L W) (x : Nat) (h6 : x ≠ 6) (h13 : x ≠ 13) : WdD b g y S S' e e' w (upd L x) W := by
  unfold WdD at h ⊢
  have e1 : upd L x 6 = L 6 := by simp [upd, Ne.symm h6]
  have e2 : upd L x 13 = L 13 := by simp [upd, Ne.symm h13]
  rw [e1, e2]
  exact h
theorem WdD.call1 (h : WdD b g y S S' e e' w L W) (hby : b ≠ y) (ht : RTo b g S' e' W W') : WdD b g y S S' e e' w (upd L 6) W' := by
  obtain ⟨h1, h2, h3⟩ := h
  have e2 : upd L 6 13 = L 13 := by simp [upd]
  have e1 : upd L 6 6 = true := by simp [upd]
  refine ⟨?_, ?_, h3.trans ht.2 (fun k _ q => .inl q)⟩
  · rw [e1]
    simpa using ht.1
  · rw [e2]
    exact h2.keep ht.2 (fun q => hby q.symm)
theorem WdD.call2 (h : WdD b g y S S' e e' w L W) (hby : b ≠ y) (hgy : y ≠ g) (ht : YTo y S' e' W W') : WdD b g y S S' e e' w (upd L 13) W' := by
  obtain ⟨h1, h2, h3⟩ := h
  have e2 : upd L 13 6 = L 6 := by simp [upd]
  have e1 : upd L 13 13 = true := by simp [upd]
  refine ⟨?_, ?_, h3.trans ht.2 (fun k _ q => .inr q)⟩
  · rw [e2]
    obtain ⟨o, c, q⟩ := h1
    exact ⟨o, c, q.keep ht.2 hby (fun q => hgy q.symm)⟩
  · rw [e1]
    simpa using ht.1
theorem WdD.cell (h : WdD b g y S S' e e' w L W) {p : Nat} (hp : p < w.heap.size) (h1 : p ≠ b) (h2 : p ≠ y) (j : Nat) : W.cell? ⟨p, j, none⟩ = w.cell? ⟨p, j, none⟩ :=
  World.cell?_of_block (h.2.2.block p hp (by rintro (q | q); exact h1 q; exact h2 q))
theorem rGo_len (R : List UInt8) (E e k : Nat) : (rGo R E e k).1.length ≤ R.length := by
  unfold rGo
  split
  · exact Nat.le_refl _
  · split
    · exact Nat.le_refl _
    · simp
end Go.Proofs.YthddilflldkmfaaDoor
