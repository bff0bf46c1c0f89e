import Derived.Test.YtpidmpefodnffaaGreatDoorScf
namespace Go.Proofs.YtpidmpefodnffaaGreatDoor
open Go.RowKit Go.Lib Go.Maps
theorem invK (key : Value) (kl : Lit) (h : keyOf Tryz.prog 9 key = some kl) : ∃ x : Bs, key = encStr x := by
  obtain ⟨x, hx, _⟩ := Maps.keyOf_str Tryz.underlying9 h
  exact ⟨x, hx⟩
theorem invV (v : Value) (y : DataW Unit × List MemPlace) (h : unitElem (H := Unit) v = some y) : ∃ c : Unit, v = (fun _ : Unit => Value.agg #[]) c := ⟨(), (unitElem_inv h).1⟩
end Go.Proofs.YtpidmpefodnffaaGreatDoor
