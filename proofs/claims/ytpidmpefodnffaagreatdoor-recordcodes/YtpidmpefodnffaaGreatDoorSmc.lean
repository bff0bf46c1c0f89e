import Derived.Test.YtpidmpefodnffaaGreatDoorSma
import Derived.Test.YtpidmpefodnffaaGreatDoorOwp
import Derived.Deep.Cut
import Derived.Deep.CutRange
namespace Go.Proofs.YtpidmpefodnffaaGreatDoor
open Go.RowKit
set_option maxHeartbeats 8000000
set_option maxRecDepth 20000
/-- Rows that are kept. -/
def Kpr (l : List (Nat × Array Value × TypeId)) (W : World) : Prop := ∀ q, q ∈ l → W.heap[q.1]? = some (.cells q.2.1 q.2.2 (0, 0))
theorem Kpr.below {l : List (Nat × Array Value × TypeId)} {W W' : World} (h : Kpr l W) (hb : Below W.heap.size W W') : Kpr l W' := fun q hq => (hb.block _ (lt_of_row (h q hq))).trans (h q hq)
theorem Kpr.add {l : List (Nat × Array Value × TypeId)} {W : World} (h : Kpr l W) (cs : Array Value) (ty : TypeId) : Kpr ((W.heap.size, cs, ty) :: l) (W.alloc (.cells cs ty)) := fun q hq => by
  rcases List.mem_cons.1 hq with rfl | hq
  · exact heap_alloc_new _ _
  · exact (((Below.refl _ W).alloc (Nat.le_refl _) (.cells cs ty)).block _ (lt_of_row (h q hq))).trans (h q hq)
theorem Kpr.swap {a b : Nat × Array Value × TypeId} {l : List (Nat × Array Value × TypeId)} {W : World} (h : Kpr (a :: b :: l) W) : Kpr (b :: a :: l) W := fun q hq => h q (by
  simp only [List.mem_cons] at hq ⊢
  rcases hq with h | h | h
  · exact .inr (.inl h)
  · exact .inl h
  · exact .inr (.inr h))
theorem Kpr.tail {a : Nat × Array Value × TypeId} {l : List (Nat × Array Value × TypeId)} {W : World} (h : Kpr (a :: l) W) : Kpr l W := fun q hq => h q (List.mem_cons_of_mem _ hq)
theorem Kpr.r0 {a : Nat × Array Value × TypeId} {l : List (Nat × Array Value × TypeId)} {W : World} (h : Kpr (a :: l) W) : W.heap[a.1]? = some (.cells a.2.1 a.2.2 (0, 0)) := h a (List.mem_cons_self ..)
theorem Kpr.set {g : Nat} {cs : Array Value} {ty : TypeId} {l : List (Nat × Array Value × TypeId)} {W : World} (h : Kpr ((g, cs, ty) :: l) W) (hne : ∀ q, q ∈ l → q.1 ≠ g) (vs : Array Value) : Kpr ((g, vs, ty) :: l) (W.setRow g vs) := fun q hq => by
  rcases List.mem_cons.1 hq with rfl | hq
  · exact setRow_row h.r0
  · exact ((setRow_Only W g vs).block _ (lt_of_row (h.tail q hq)) (hne q hq)).trans (h.tail q hq)
theorem bset {w W : World} (h : Below w.heap.size w W) (g : Nat) (hg : w.heap.size < g) (vs : Array Value) : Below w.heap.size w (W.setRow g vs) := (setRow_Only W g vs).below h h.size (fun k e => by omega)
theorem bal {w W : World} (h : Below w.heap.size w W) (o : Obj) : Below w.heap.size w (W.alloc o) := h.alloc h.size o
theorem btr {w W W' : World} (h : Below w.heap.size w W) (hb : Below W.heap.size W W') : Below w.heap.size w W' := h.trans (hb.mono h.size)
end Go.Proofs.YtpidmpefodnffaaGreatDoor
