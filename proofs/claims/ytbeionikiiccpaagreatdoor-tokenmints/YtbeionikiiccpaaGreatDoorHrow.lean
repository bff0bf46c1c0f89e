import Derived.Test.YtbeionikiiccpaaGreatDoorZhnum
import Derived.Deep.WholeRow
import Derived.Deep.MidRow
import Derived.BigQuiet
import Derived.Deep.QuietTactic
namespace Go.Proofs.YtbeionikiiccpaaGreatDoor
open Go.RowKit
open Sha
theorem below_row {B : Nat} {a w : World} (h : Below B a w) {g : Nat} (hg : B ≤ g) (cs : Array Value) : Below B a (w.setRow g cs) :=
  h.trans ⟨rfl, rfl, rfl, by simp, fun k hk => Go.setRow_other w g k cs (by omega)⟩
/-- A block that holds just these cells, none of them frozen. -/
def Row (w : World) (b : Nat) (cs : Array Value) (t : TypeId) : Prop := w.heap[b]? = some (.cells cs t (0, 0))
theorem Row.cell {w : World} {b : Nat} {cs : Array Value} {t : TypeId} (h : Row w b cs t) (j : Nat) : w.cell? ⟨b, j, none⟩ = cs[j]? := cell_of_row w b j cs t (0, 0) h
theorem Row.frozen {w : World} {b : Nat} {cs : Array Value} {t : TypeId} (h : Row w b cs t) (j : Nat) : w.frozen? ⟨b, j, none⟩ = false := frozen_of_row w b j cs t h
theorem Row.lt {w : World} {b : Nat} {cs : Array Value} {t : TypeId} (h : Row w b cs t) : b < w.heap.size := by
  unfold Row at h
  exact (Array.getElem?_eq_some_iff.1 h).1
theorem Row.drew {w : World} {b : Nat} {cs : Array Value} {t : TypeId} (h : Row w b cs t) : Row w.drew b cs t := h
theorem Row.drewN {w : World} {b : Nat} {cs : Array Value} {t : TypeId} (h : Row w b cs t) (n : Nat) : Row (w.drewN n) b cs t := by
  unfold Row at *
  rw [show (w.drewN n).heap = w.heap from by simp]; exact h
theorem Row.alloc {w : World} {b : Nat} {cs : Array Value} {t : TypeId} (h : Row w b cs t) (o : Obj) : Row (w.alloc o) b cs t := by
  unfold Row at *
  rw [Below.heap_alloc w o b (Row.lt h)]; exact h
theorem Row.new (w : World) (cs : Array Value) (t : TypeId) : Row (w.alloc (.cells cs t)) w.heap.size cs t := heap_alloc_new w _
theorem Row.set {w : World} {b : Nat} {cs : Array Value} {t : TypeId} (h : Row w b cs t) (j : Nat) (v : Value) : Row (w.setCell ⟨b, j, none⟩ v) b (cs.setIfInBounds j v) t := by
  have := heap_setCell_same w b j cs t v h
  exact this
theorem Row.set_other {w : World} {b : Nat} {cs : Array Value} {t : TypeId} (h : Row w b cs t) (a : Addr) (v : Value) (hn : b ≠ a.block) : Row (w.setCell a v) b cs t := by
  unfold Row at *
  rw [heap_setCell_other w a b v hn]; exact h
theorem Row.below {w w' : World} {B b : Nat} {cs : Array Value} {t : TypeId} (h : Row w b cs t) (hb : Below B w w') (hl : b < B) : Row w' b cs t := (hb.block b hl).trans h
theorem Row.setRow {w : World} {b : Nat} {old : Array Value} {t : TypeId} (h : Row w b old t) (cs : Array Value) : Row (w.setRow b cs) b cs t := setRow_heap w b old cs t (0, 0) h
theorem Row.setRow_other {w : World} {b : Nat} {cs : Array Value} {t : TypeId} (h : Row w b cs t) (g : Nat) (c : Array Value) (hn : b ≠ g) : Row (w.setRow g c) b cs t := (Go.setRow_other w g b c hn).trans h
end Go.Proofs.YtbeionikiiccpaaGreatDoor
