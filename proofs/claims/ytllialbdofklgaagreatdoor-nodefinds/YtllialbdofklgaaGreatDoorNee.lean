import Derived.Test.YtllialbdofklgaaGreatDoorNed
import Derived.Test.YtllialbdofklgaaGreatDoorRgln
namespace Go.Proofs.YtllialbdofklgaaGreatDoor
open Go.RowKit
set_option maxHeartbeats 16000000
set_option maxRecDepth 8000
/-- Between two operations of lent's regions. -/
structure Wl (V : World) (X j : Nat) (old nv : Value) (P : World → Prop) (L : Nat → Bool) (W W0 : World) : Prop where
  bel : Below V.heap.size V W0
  sz : L 2 = false → W0.heap.size = V.heap.size
  p : L 2 = true → P W0
  d : L 8 = true → L 1 = true ∧ L 2 = true ∧ L 4 = true
  w0 : L 8 = false → W = W0
  w1 : L 8 = true → W = W0.setCell ⟨X, 0 + j, none⟩ nv
theorem Wl.pure {V : World} {X j : Nat} {old nv : Value} {P : World → Prop} {L : Nat → Bool} {W W0 : World} (h : Wl V X j old nv P L W W0) (i : Nat) (h2 : i ≠ 2) (h8 : i ≠ 8) : Wl V X j old nv P (upd L i) W W0 := by
  refine ⟨h.bel, fun q => h.sz (by rwa [upd_ne h2.symm] at q), fun q => h.p (by rwa [upd_ne h2.symm] at q), fun q => ?_, fun q => h.w0 (by rwa [upd_ne h8.symm] at q), fun q => h.w1 (by rwa [upd_ne h8.symm] at q)⟩
  have := h.d (by rwa [upd_ne h8.symm] at q)
  refine ⟨?_, ?_, ?_⟩
  · by_cases e : i = 1
    · rw [e]; exact upd_eq _ _
    · rw [upd_ne (Ne.symm e)]; exact this.1
  · rw [upd_ne h2.symm]; exact this.2.1
  · by_cases e : i = 4
    · rw [e]; exact upd_eq _ _
    · rw [upd_ne (Ne.symm e)]; exact this.2.2
theorem Wl.start {V : World} {X j : Nat} {old nv : Value} {P : World → Prop} : Wl V X j old nv P (fun _ => false) V.drew V.drew :=
  ⟨(Below.refl _ _).drew, fun _ => rfl, (fun q => nomatch q), (fun q => nomatch q), fun _ => rfl, (fun q => nomatch q)⟩
theorem Wl.load {V : World} {X j : Nat} {old nv : Value} {P : World → Prop} {L : Nat → Bool} {W W0 : World} (h : Wl V X j old nv P L W W0) (h8 : L 8 = false) (hc : V.cell? ⟨X, 0 + j, none⟩ = some old) : W.cell? ⟨X, 0 + j, none⟩ = some old := by
  rw [h.w0 h8]
  exact (h.bel.cell (blk_lt hc)).trans hc
theorem Wl.store {V : World} {X j : Nat} {old nv : Value} {P : World → Prop} {L : Nat → Bool} {W W0 : World} (h : Wl V X j old nv P L W W0) (h8 : L 8 = false) (h1 : L 1 = true) (h4 : L 4 = true) (h2 : L 2 = true) : Wl V X j old nv P (upd L 8) (W.setCell ⟨X, 0 + j, none⟩ nv) W0 := by
  refine ⟨h.bel, fun q => ?_, fun q => h.p h2, fun _ => ⟨?_, ?_, ?_⟩, fun q => ?_, fun _ => by rw [h.w0 h8]⟩
  · rw [upd_ne (by decide), h2] at q; cases q
  · rw [upd_ne (by decide)]; exact h1
  · rw [upd_ne (by decide)]; exact h2
  · rw [upd_ne (by decide)]; exact h4
  · rw [upd_eq] at q; cases q
end Go.Proofs.YtllialbdofklgaaGreatDoor
