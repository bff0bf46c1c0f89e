import Derived.Test.YtbeionikiiccpaaGreatDoorNwt
import Derived.Test.YtbeionikiiccpaaGreatDoorRedc
import Derived.Test.YtbeionikiiccpaaGreatDoorZreda
namespace Go.Proofs.YtbeionikiiccpaaGreatDoor
open Go.RowKit
set_option maxHeartbeats 4000000
set_option maxRecDepth 8000
/-- What a Reader tells of a number, and where it stands then. -/
def rv (size : Nat) (s : Bs × Nat) : Int := if fine s.2 (rNumE size s.1) then (nat (s.1.take size) : Int) else 0
def rs (size : Nat) (s : Bs × Nat) : Bs × Nat := rGo s.1 s.2 (rNumE size s.1) size
def ra (n : Int) (s : Bs × Nat) : Bs := if fine s.2 (rRawE n s.1) then s.1.take n.toNat else []
def rr2 (n : Int) (s : Bs × Nat) : Bs × Nat := rGo s.1 s.2 (rRawE n s.1) n.toNat
/-- A Reader that came behind w0. -/
def Rd (w0 : World) (b g : Nat) (s : Bs × Nat) (w : World) : Prop := (∃ off cap, RAt b g off cap s.1 s.2 w) ∧ Below w0.heap.size w0 w ∧ w0.heap.size ≤ b ∧ w0.heap.size ≤ g
theorem rGo_len (R : Bs) (E e k : Nat) : (rGo R E e k).1.length ≤ R.length := by
  unfold rGo
  split
  · exact Nat.le_refl _
  · split
    · exact Nat.le_refl _
    · simp
theorem Rd.new (s : Bs) (w : World) : Calls Tryz.prog 55 #[S s] w fun e w' => ∃ b g, e = .returned (ptr b) ∧ Rd w b g (s, 0) w' := by
  refine (newreader_any s w).mono ?_
  rintro e w' ⟨b, g, cap, rfl, h1, h2, h3, h4⟩
  exact ⟨b, g, rfl, ⟨0, cap, h3⟩, h4, h1, h2⟩
theorem Rd.num {w0 w : World} {b g : Nat} {s : Bs × Nat} (h : Rd w0 b g s w) (size : Nat) (hs : s.1.length ≤ 1000) :
    Calls Tryz.prog 56 #[ptr b, I size] w fun e w' => e = .returned (I (rv size s)) ∧ Rd w0 b g (rs size s) w' ∧ Only (fun k => k = b) w w' := by
  obtain ⟨⟨off, cap, h1⟩, h2, h3, h4⟩ := h
  refine (rnum_any b g off cap s.1 s.2 size w h1 (by omega)).mono ?_
  rintro e w' ⟨rfl, h5, h6⟩
  rw [Int.toNat_natCast] at h5 ⊢
  exact ⟨rfl, ⟨h5, h6.below h2 h2.size (fun k hk => by rw [hk]; exact h3), h3, h4⟩, h6⟩
theorem Rd.raw {w0 w : World} {b g : Nat} {s : Bs × Nat} (h : Rd w0 b g s w) (n : Int) (hs : s.1.length ≤ 1000) :
    Calls Tryz.prog 57 #[ptr b, I n] w fun e w' => e = .returned (S (ra n s)) ∧ Rd w0 b g (rr2 n s) w' ∧ Only (fun k => k = b) w w' := by
  obtain ⟨⟨off, cap, h1⟩, h2, h3, h4⟩ := h
  refine (rraw_any b g off cap s.1 s.2 n w h1 (by omega)).mono ?_
  rintro e w' ⟨rfl, h5, h6⟩
  exact ⟨rfl, ⟨h5, h6.below h2 h2.size (fun k hk => by rw [hk]; exact h3), h3, h4⟩, h6⟩
theorem Rd.keep {P : Nat → Prop} {w0 w w' : World} {b g : Nat} {s : Bs × Nat} (h : Rd w0 b g s w) (k : Only P w w') (hb : ¬ P b) (hg : ¬ P g) (hp : ∀ i, P i → w0.heap.size ≤ i) : Rd w0 b g s w' := by
  obtain ⟨⟨off, cap, h1⟩, h2, h3, h4⟩ := h
  exact ⟨⟨off, cap, h1.keep k hb hg⟩, k.below h2 h2.size hp, h3, h4⟩
end Go.Proofs.YtbeionikiiccpaaGreatDoor
