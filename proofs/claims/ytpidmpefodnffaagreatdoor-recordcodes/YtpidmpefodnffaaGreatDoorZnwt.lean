import Derived.Test.YtpidmpefodnffaaGreatDoorWrtd
namespace Go.Proofs.YtpidmpefodnffaaGreatDoor
open Go.RowKit
set_option maxHeartbeats 4000000
set_option maxRecDepth 8000
/-- A Writer that came behind w0, and has laid X without a fault. -/
def Wt (w0 : World) (b : Nat) (X : Bs) (w : World) : Prop := ∃ v, WAt b v X 0 w ∧ Below w0.heap.size w0 w ∧ w0.heap.size ≤ b ∧ ∀ k, v.ownBlock = some k → w0.heap.size ≤ k
theorem Wt.to {w0 w w' : World} {b : Nat} {Y : Bs} {v : Value} (hB : Below w0.heap.size w0 w) (hb : w0.heap.size ≤ b) (hv : ∀ k, v.ownBlock = some k → w0.heap.size ≤ k) (h : WTo b v Y 0 w w') : Wt w0 b Y w' := by
  obtain ⟨v', h1, h2, h3⟩ := h
  refine ⟨v', h1, h2.below hB hB.size (fun k hk => ?_), hb, fun k hk => ?_⟩
  · rcases hk with rfl | hk
    · exact hb
    · exact hv k hk
  · rcases h3 k hk with q | q
    · exact hv k q
    · exact Nat.le_trans hB.size q
theorem Wt.new (w0 : World) : Calls Tryz.prog 150 #[] w0 fun e w' => e = .returned (ptr w0.heap.size) ∧ Wt w0 w0.heap.size [] w' := by
  refine (newwriter_any w0).mono ?_
  rintro e w' ⟨rfl, h1, h2⟩
  exact ⟨rfl, _, h1, h2, Nat.le_refl _, fun k hk => by cases hk⟩
theorem Wt.done {w0 w : World} {b : Nat} {X : Bs} (h : Wt w0 b X w) :
    Calls Tryz.prog 151 #[ptr b] w fun e w' => e = .returned (.tuple #[S X, I 0]) ∧ Below w0.heap.size w0 w' := by
  obtain ⟨v, h1, h2, h3, h4⟩ := h
  refine (wdone_ok b v X w h1).mono ?_
  rintro e w' ⟨rfl, hw⟩
  exact ⟨rfl, h2.trans (hw.mono h2.size)⟩
theorem Wt.below {w0 w : World} {b : Nat} {X : Bs} (h : Wt w0 b X w) : Below w0.heap.size w0 w := by
  obtain ⟨v, h1, h2, h3, h4⟩ := h
  exact h2
/-- What was laid is kept by whatever leaves the old blocks. -/
theorem Wt.keep {w0 w w' : World} {b : Nat} {X : Bs} (h : Wt w0 b X w) (k : Below w.heap.size w w') : Wt w0 b X w' := by
  obtain ⟨v, h1, h2, h3, h4⟩ := h
  exact ⟨v, h1.keep (Only.of_below (P := fun _ => False) k) (fun q => q) (fun _ _ q => q), h2.trans (k.mono h2.size), h3, h4⟩
end Go.Proofs.YtpidmpefodnffaaGreatDoor
namespace Go.Proofs.YtpidmpefodnffaaGreatDoor
open Go.RowKit
set_option maxHeartbeats 4000000
set_option maxRecDepth 8000
theorem Wt.text {w0 w : World} {b : Nat} {X : Bs} (h : Wt w0 b X w) (most : Nat) (s : Bs) (hm : most ≤ 255) (hs : s.length ≤ most) (hX : X.length ≤ 1000000000) :
    Calls Tryz.prog 137 #[ptr b, I most, S s] w fun e w' => e = .returned (.tuple #[]) ∧ Wt w0 b (X ++ (be 1 s.length ++ s)) w' := by
  obtain ⟨v, h1, h2, h3, h4⟩ := h
  refine (wtext_any b v X 0 most s w h1 (by omega)).mono ?_
  rintro e w' ⟨rfl, hw⟩
  have e1 : textE most s.length = 0 := by
    unfold textE
    rw [if_pos ⟨by omega, by omega⟩, if_pos (by omega)]
  have e2 : textY most s = be 1 s.length ++ s := by
    unfold textY ahd
    rw [if_pos (by omega)]
  rw [e1, e2, wPut_ok] at hw
  exact ⟨rfl, Wt.to h2 h3 h4 hw⟩
end Go.Proofs.YtpidmpefodnffaaGreatDoor
