import Derived.Test.YtllialbdofklgaaGreatDoorNcp
namespace Go.Proofs.YtllialbdofklgaaGreatDoor
open Go.RowKit
set_option maxHeartbeats 4000000
set_option maxRecDepth 8000
/-- Numbers in memory. -/
def Ins (w : World) (a : Option Addr) (n : Nat) (l : List Int) : Prop :=
  n = l.length ∧ (0 < n → ∃ p o, a = some ⟨p, o, none⟩ ∧ ∀ j, j < n → w.cell? ⟨p, o + j, none⟩ = some (I (l.getD j 0)))
theorem Ins.at {w : World} {a : Option Addr} {n : Nat} {l : List Int} (h : Ins w a n l) {j : Nat} (hj : j < n) : ∃ p o, a = some ⟨p, o, none⟩ ∧ p < w.heap.size ∧ w.cell? ⟨p, o + j, none⟩ = some (I (l.getD j 0)) := by
  obtain ⟨p, o, e, hc⟩ := h.2 (by omega)
  exact ⟨p, o, e, blk_lt (hc j hj), hc j hj⟩
theorem Ins.below {w w' : World} {a : Option Addr} {n : Nat} {l : List Int} (h : Ins w a n l) (hb : Below w.heap.size w w') : Ins w' a n l := by
  refine ⟨h.1, fun hn => ?_⟩
  obtain ⟨p, o, e, hc⟩ := h.2 hn
  exact ⟨p, o, e, fun j hj => (hb.cell (by exact blk_lt (hc j hj))).trans (hc j hj)⟩
theorem Ins.only {P : Nat → Prop} {w w' : World} {a : Option Addr} {n : Nat} {l : List Int} (h : Ins w a n l) (hb : Only P w w') (hp : ∀ g o, a = some ⟨g, o, none⟩ → ¬ P g) : Ins w' a n l := by
  refine ⟨h.1, fun hn => ?_⟩
  obtain ⟨p, o, e, hc⟩ := h.2 hn
  exact ⟨p, o, e, fun j hj => (World.cell?_of_block (hb.block p (blk_lt (hc j hj)) (hp p o e))).trans (hc j hj)⟩
theorem Ins.of {w : World} {v : Value} {l : List Int} (h : w.ownsRow 0 3 1 v l.length (l.map fun n => I n)) : ∃ p cap, v = .slice p l.length cap ∧ Ins w p l.length l ∧ (∀ g o, p = some ⟨g, o, none⟩ → v.ownBlock = some g) := by
  rcases h.2 with ⟨e, q⟩ | ⟨g, cap, cur, e1, e2⟩
  · exact ⟨none, 0, by rw [e, q], ⟨rfl, fun h => by omega⟩, fun g o e => by cases e⟩
  · refine ⟨_, cap, e1, ⟨rfl, fun _ => ⟨g, 0, rfl, fun j hj => ?_⟩⟩, fun g' o e => ?_⟩
    · subst e1
      rw [Nat.zero_add]
      exact owns_cell h j _ (by simp [hj])
    · cases e
      rw [e1]
      rfl
theorem Ins.nil (w : World) (a : Option Addr) : Ins w a 0 [] := ⟨rfl, fun h => by omega⟩
end Go.Proofs.YtllialbdofklgaaGreatDoor
