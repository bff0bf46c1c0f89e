import Derived.Test.YtmjaobddgaglhaaGreatDoorZhnum
import Derived.Deep.WholeRow
import Derived.Deep.MidRow
import Derived.BigQuiet
import Derived.Deep.QuietTactic
namespace Go.Proofs.YtmjaobddgaglhaaGreatDoor
open Go.RowKit
open Sha
theorem below_row {B : Nat} {a w : World} (h : Below B a w) {g : Nat} (hg : B ≤ g) (cs : Array Value) : Below B a (w.setRow g cs) :=
  h.trans ⟨rfl, rfl, rfl, by simp, fun k hk => Go.setRow_other w g k cs (by omega)⟩
/-- A block that holds just these cells, none of them frozen. -/
def RowK (w : World) (b : Nat) (cs : Array Value) (t : TypeId) : Prop := w.heap[b]? = some (.cells cs t (0, 0))
theorem RowK.cell {w : World} {b : Nat} {cs : Array Value} {t : TypeId} (h : RowK w b cs t) (j : Nat) : w.cell? ⟨b, j, none⟩ = cs[j]? := cell_of_row w b j cs t (0, 0) h
theorem RowK.frozen {w : World} {b : Nat} {cs : Array Value} {t : TypeId} (h : RowK w b cs t) (j : Nat) : w.frozen? ⟨b, j, none⟩ = false := frozen_of_row w b j cs t h
theorem RowK.lt {w : World} {b : Nat} {cs : Array Value} {t : TypeId} (h : RowK w b cs t) : b < w.heap.size := by
  unfold RowK at h
  exact (Array.getElem?_eq_some_iff.1 h).1
theorem RowK.drew {w : World} {b : Nat} {cs : Array Value} {t : TypeId} (h : RowK w b cs t) : RowK w.drew b cs t := h
theorem RowK.drewN {w : World} {b : Nat} {cs : Array Value} {t : TypeId} (h : RowK w b cs t) (n : Nat) : RowK (w.drewN n) b cs t := by
  unfold RowK at *
  rw [show (w.drewN n).heap = w.heap from by simp]; exact h
theorem RowK.alloc {w : World} {b : Nat} {cs : Array Value} {t : TypeId} (h : RowK w b cs t) (o : Obj) : RowK (w.alloc o) b cs t := by
  unfold RowK at *
  rw [Below.heap_alloc w o b (RowK.lt h)]; exact h
theorem RowK.new (w : World) (cs : Array Value) (t : TypeId) : RowK (w.alloc (.cells cs t)) w.heap.size cs t := heap_alloc_new w _
theorem RowK.set {w : World} {b : Nat} {cs : Array Value} {t : TypeId} (h : RowK w b cs t) (j : Nat) (v : Value) : RowK (w.setCell ⟨b, j, none⟩ v) b (cs.setIfInBounds j v) t := by
  have := heap_setCell_same w b j cs t v h
  exact this
theorem RowK.set_other {w : World} {b : Nat} {cs : Array Value} {t : TypeId} (h : RowK w b cs t) (a : Addr) (v : Value) (hn : b ≠ a.block) : RowK (w.setCell a v) b cs t := by
  unfold RowK at *
  rw [heap_setCell_other w a b v hn]; exact h
theorem RowK.below {w w' : World} {B b : Nat} {cs : Array Value} {t : TypeId} (h : RowK w b cs t) (hb : Below B w w') (hl : b < B) : RowK w' b cs t := (hb.block b hl).trans h
theorem RowK.setRow {w : World} {b : Nat} {old : Array Value} {t : TypeId} (h : RowK w b old t) (cs : Array Value) : RowK (w.setRow b cs) b cs t := setRow_heap w b old cs t (0, 0) h
theorem RowK.setRow_other {w : World} {b : Nat} {cs : Array Value} {t : TypeId} (h : RowK w b cs t) (g : Nat) (c : Array Value) (hn : b ≠ g) : RowK (w.setRow g c) b cs t := (Go.setRow_other w g b c hn).trans h
end Go.Proofs.YtmjaobddgaglhaaGreatDoor
