import Derived.Test.YthlacailhfhjnaaGreatDoorWid
import Derived.Test.YthlacailhfhjnaaGreatDoorWhl
import Derived.Test.YthlacailhfhjnaaGreatDoorWea
namespace Go.Proofs.YthlacailhfhjnaaGreatDoor
open Go.RowKit Go.Lib
variable {B b G n : Nat} {vs : Nat → Value} {m : Nat → Nat} {w0 : World} {lo i : Nat} {U V V2 : List Vw} {x al wh : Value} {len : Nat} {w w' : World} {Z : Nat} {fr wa : Value}
/-- A cell of a block of another kind is written. -/
theorem Alw.other (h : Alw B b G n vs m w0 lo i U V V2 x len al wh w) {cs : Array Value} (hZ : w.heap[Z]? = some (.cells cs 53 (0, 0))) (hB : B ≤ Z) (o : Nat) (v : Value) : Alw B b G n vs m w0 lo i U V V2 x len al wh (w.setCell ⟨Z, o, none⟩ v) := by
  have key : ∀ (g : Nat) (cur : Array Value) (e : TypeId), e ≠ 53 → w.heap[g]? = some (Obj.cells cur e (0, 0)) → (w.setCell ⟨Z, o, none⟩ v).heap[g]? = w.heap[g]? := by
    intro g cur e he hc
    refine heap_setCell_other _ _ _ _ (fun q => ?_)
    subst q
    rw [hZ] at hc
    cases hc
    exact he rfl
  obtain ⟨cG, hG⟩ := h.vst.kind
  refine ⟨h.vst.keep (fun g cur e he hc => ?_), h.s1.keep (fun g hg => ?_), h.s2.keep (fun g hg => ?_), h.below.setCell (p := ⟨Z, o, none⟩) hB _, by have := h.room; simp; omega, h.lowG, h.lowB⟩
  · rcases he with rfl | rfl
    · exact key g cur 35 (by decide) hc
    · exact key _ cG 22 (by decide) hG
  · obtain ⟨cur, e⟩ := h.s1.kind g hg
    exact key g cur 22 (by decide) e
  · obtain ⟨cur, e⟩ := h.s2.kind g hg
    exact key g cur 3 (by decide) e
end Go.Proofs.YthlacailhfhjnaaGreatDoor
