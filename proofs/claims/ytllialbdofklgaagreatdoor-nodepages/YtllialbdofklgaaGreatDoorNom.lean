import Derived.Test.YtllialbdofklgaaGreatDoorZnfd
import Derived.Test.YtllialbdofklgaaGreatDoorZndn
import Derived.Deep.CutRange
import Derived.Test.YtllialbdofklgaaGreatDoorZrgsd
import Derived.Test.YtllialbdofklgaaGreatDoorZnok
import Derived.Test.YtllialbdofklgaaGreatDoorNoa
namespace Go.Proofs.YtllialbdofklgaaGreatDoor
open Go.RowKit
set_option maxHeartbeats 16000000
set_option maxRecDepth 8000
theorem Ins.tk {w : World} {g o n : Nat} {l : List Int} (h : Ins w (some ⟨g, o, none⟩) n l) (i : Nat) (hi : i ≤ n) : Ins w (some ⟨g, o, none⟩) i (l.take i) := by
  have hn := h.1
  refine ⟨by rw [List.length_take]; omega, fun h0 => ?_⟩
  obtain ⟨p, q, e, hc⟩ := h.2 (by omega)
  cases e
  refine ⟨g, o, rfl, fun j hj => ?_⟩
  rw [hc j (by omega)]
  simp only [List.getD_eq_getElem?_getD, List.getElem?_take, if_pos hj]
theorem Ins.dr {w : World} {g o n : Nat} {l : List Int} (h : Ins w (some ⟨g, o, none⟩) n l) (i : Nat) : Ins w (some ⟨g, o + i, none⟩) (n - i) (l.drop i) := by
  have hn := h.1
  refine ⟨by rw [List.length_drop]; omega, fun h0 => ?_⟩
  obtain ⟨p, q, e, hc⟩ := h.2 (by omega)
  cases e
  refine ⟨g, o + i, rfl, fun j hj => ?_⟩
  rw [Nat.add_assoc, hc (i + j) (by omega)]
  simp only [List.getD_eq_getElem?_getD, List.getElem?_drop]
end Go.Proofs.YtllialbdofklgaaGreatDoor
