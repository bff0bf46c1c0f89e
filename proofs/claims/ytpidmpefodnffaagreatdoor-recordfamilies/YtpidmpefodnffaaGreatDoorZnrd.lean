import Derived.Test.YtpidmpefodnffaaGreatDoorZwrta
import Derived.Test.YtpidmpefodnffaaGreatDoorRedc
namespace Go.Proofs.YtpidmpefodnffaaGreatDoor
open Go.RowKit
set_option maxHeartbeats 4000000
set_option maxRecDepth 8000
/-- What a Reader tells of a number, and where it stands then. -/
def rv (size : Nat) (s : Bs × Nat) : Int := if fine s.2 (rNumE size s.1) then (nat (s.1.take size) : Int) else 0
def rs (size : Nat) (s : Bs × Nat) : Bs × Nat := rGo s.1 s.2 (rNumE size s.1) size
def ra (n : Int) (s : Bs × Nat) : Bs := if fine s.2 (rRawE n s.1) then s.1.take n.toNat else []
def rr2 (n : Int) (s : Bs × Nat) : Bs × Nat := rGo s.1 s.2 (rRawE n s.1) n.toNat
/-- A Reader that came behind w0. -/
def Rd (w0 : World) (b g : Nat) (s : Bs × Nat) (w : World) : Prop := (∃ off cap, RAt b g off cap s.1 s.2 w) ∧ Below w0.heap.size w0 w ∧ w0.heap.size ≤ b ∧ w0.heap.size ≤ g
theorem rGo_len (R : Bs) (E e k : Nat) : (rGo R E e k).1.length ≤ R.length := by
  unfold rGo
  split
  · exact Nat.le_refl _
  · split
    · exact Nat.le_refl _
    · simp
theorem Rd.new (s : Bs) (w : World) : Calls Tryz.prog 152 #[S s] w fun e w' => ∃ b g, e = .returned (ptr b) ∧ Rd w b g (s, 0) w' := by
  refine (newreader_any s w).mono ?_
  rintro e w' ⟨b, g, cap, rfl, h1, h2, h3, h4⟩
  exact ⟨b, g, rfl, ⟨0, cap, h3⟩, h4, h1, h2⟩
end Go.Proofs.YtpidmpefodnffaaGreatDoor
namespace Go.Proofs.YtpidmpefodnffaaGreatDoor
open Go.RowKit
set_option maxHeartbeats 8000000
set_option maxRecDepth 8000
/-- What a Reader tells of a text, and where it stands then. -/
def tv (most : Nat) (s : Bs × Nat) : Bs := if fine s.2 (rTextE most s.1) then rTextS most s.1 else []
def ts (most : Nat) (s : Bs × Nat) : Bs × Nat := rGo s.1 s.2 (rTextE most s.1) (rTextK most s.1)
variable {w0 : World} {T b g : Nat} {lf : Bool} {K V : List Bs} {L : List Int} {vK vV vI : Value} {s s' : Bs × Nat} {w w' : World}
end Go.Proofs.YtpidmpefodnffaaGreatDoor
