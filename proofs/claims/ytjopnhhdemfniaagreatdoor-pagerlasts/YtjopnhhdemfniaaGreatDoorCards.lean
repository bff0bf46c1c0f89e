/-
  DERIVED. GIVEN WITH THE SEED: THE CARDS: each row of YtjopnhhdemfniaaGreatDoorRows.lean that lists a variable, with what it lists TIED to the program's text (the seventh form; the later family's looks); each row that meets fmt, with fmt's text TOLD by the authors' own Lean function (tested against real Go, not proved from fmt's source: count such statements apart). THE CARD IS WHAT COUNTS. Prove the row's statement (the work); the ties are given (YtjopnhhdemfniaaGreatDoorTie.lean); close each card by the builder's one call (the guide's Derived/Test/ToyasCard.lean, 'card_holds'). Laid BY PROGRAM, IN A SANDBOX (cutbox-door.mjs). By AI agents, Wed Nov 11 2026. No macro, syntax, notation, axiom, sorry.
-/
import Derived.Test.YtjopnhhdemfniaaGreatDoorRows
import GoSem.ClaimSeven
namespace Go.Proofs.YtjopnhhdemfniaaGreatDoor
namespace Rows

/-- THE TIED CARD OF 'latchkeylaw09.PagerPages'. -/
def pagerPagesCard : Claim7 := { stood := { row := pagerPagesRow, standIns := [], harness := (true, "8b1e5f80413d134e8bda5c4132ed98ce2e3233e61ab6998f555dd4430e6e9a3f"), looks := true }, kinds := [], alts := [], laidByText := true, laidKinds := [.handle], laidTests := true, laidLooks := .later }
def PagerPagesCardSaid : Prop := Claim7.holds Tryz.pinned (.plain (OpenSpec.ofChange pagerPagesSpec)) pagerPagesCard

/-- THE TIED CARD OF 'latchkeylaw09.PagerHeads'. -/
def pagerHeadsCard : Claim7 := { stood := { row := pagerHeadsRow, standIns := [], harness := (true, "8b1e5f80413d134e8bda5c4132ed98ce2e3233e61ab6998f555dd4430e6e9a3f"), looks := true }, kinds := [], alts := [], laidByText := true, laidKinds := [.handle], laidTests := true, laidLooks := .later }
def PagerHeadsCardSaid : Prop := Claim7.holds Tryz.pinned (.plain (OpenSpec.ofChange pagerHeadsSpec)) pagerHeadsCard

/-- THE TIED CARD OF 'latchkeylaw09.PagerPlays'. -/
def pagerPlaysCard : Claim7 := { stood := { row := pagerPlaysRow, standIns := [], harness := (true, "8b1e5f80413d134e8bda5c4132ed98ce2e3233e61ab6998f555dd4430e6e9a3f"), looks := true }, kinds := [], alts := [], laidByText := true, laidKinds := [.handle], laidTests := true, laidLooks := .later }
def PagerPlaysCardSaid : Prop := Claim7.holds Tryz.pinned (.plain (OpenSpec.ofChange pagerPlaysSpec)) pagerPlaysCard

/-- THE TIED CARD OF 'latchkeylaw09.PagerLoads'. -/
def pagerLoadsCard : Claim7 := { stood := { row := pagerLoadsRow, standIns := [], harness := (true, "8b1e5f80413d134e8bda5c4132ed98ce2e3233e61ab6998f555dd4430e6e9a3f"), looks := true }, kinds := [], alts := [], laidByText := true, laidKinds := [.handle], laidTests := true, laidLooks := .later }
def PagerLoadsCardSaid : Prop := Claim7.holds Tryz.pinned (.plain (OpenSpec.ofChange pagerLoadsSpec)) pagerLoadsCard

/-- THE TIED CARD OF 'latchkeylaw09.PagerLasts'. -/
def pagerLastsCard : Claim7 := { stood := { row := pagerLastsRow, standIns := [], harness := (true, "8b1e5f80413d134e8bda5c4132ed98ce2e3233e61ab6998f555dd4430e6e9a3f"), looks := true }, kinds := [], alts := [], laidByText := true, laidKinds := [.handle], laidTests := true, laidLooks := .later }
def PagerLastsCardSaid : Prop := Claim7.holds Tryz.pinned (.plain (OpenSpec.ofChange pagerLastsSpec)) pagerLastsCard

/-- THE TIED CARD OF 'latchkeylaw09.PagerHolds'. -/
def pagerHoldsCard : Claim7 := { stood := { row := pagerHoldsRow, standIns := [], harness := (true, "8b1e5f80413d134e8bda5c4132ed98ce2e3233e61ab6998f555dd4430e6e9a3f"), looks := true }, kinds := [], alts := [], laidByText := true, laidKinds := [.handle], laidTests := true, laidLooks := .later }
def PagerHoldsCardSaid : Prop := Claim7.holds Tryz.pinned (.plain (OpenSpec.ofChange pagerHoldsSpec)) pagerHoldsCard

/-- THE SECOND FORM's CARD OF 'latchkeylaw09.PagerPages'. -/
def pagerPagesUptoCard : Claim7 := { stood := { row := pagerPagesUptoRow, standIns := [], harness := (true, "8b1e5f80413d134e8bda5c4132ed98ce2e3233e61ab6998f555dd4430e6e9a3f"), looks := true }, kinds := [], alts := [], laidByText := true, laidKinds := [.handle], laidTests := true, laidLooks := .later }
def PagerPagesUptoCardSaid : Prop := Claim7.holds Tryz.pinned (.plain (OpenSpec.upto pagerPagesSpec)) pagerPagesUptoCard

/-- THE SECOND FORM's CARD OF 'latchkeylaw09.PagerHeads'. -/
def pagerHeadsUptoCard : Claim7 := { stood := { row := pagerHeadsUptoRow, standIns := [], harness := (true, "8b1e5f80413d134e8bda5c4132ed98ce2e3233e61ab6998f555dd4430e6e9a3f"), looks := true }, kinds := [], alts := [], laidByText := true, laidKinds := [.handle], laidTests := true, laidLooks := .later }
def PagerHeadsUptoCardSaid : Prop := Claim7.holds Tryz.pinned (.plain (OpenSpec.upto pagerHeadsSpec)) pagerHeadsUptoCard

/-- THE SECOND FORM's CARD OF 'latchkeylaw09.PagerPlays'. -/
def pagerPlaysUptoCard : Claim7 := { stood := { row := pagerPlaysUptoRow, standIns := [], harness := (true, "8b1e5f80413d134e8bda5c4132ed98ce2e3233e61ab6998f555dd4430e6e9a3f"), looks := true }, kinds := [], alts := [], laidByText := true, laidKinds := [.handle], laidTests := true, laidLooks := .later }
def PagerPlaysUptoCardSaid : Prop := Claim7.holds Tryz.pinned (.plain (OpenSpec.upto pagerPlaysSpec)) pagerPlaysUptoCard

/-- THE SECOND FORM's CARD OF 'latchkeylaw09.PagerLoads'. -/
def pagerLoadsUptoCard : Claim7 := { stood := { row := pagerLoadsUptoRow, standIns := [], harness := (true, "8b1e5f80413d134e8bda5c4132ed98ce2e3233e61ab6998f555dd4430e6e9a3f"), looks := true }, kinds := [], alts := [], laidByText := true, laidKinds := [.handle], laidTests := true, laidLooks := .later }
def PagerLoadsUptoCardSaid : Prop := Claim7.holds Tryz.pinned (.plain (OpenSpec.upto pagerLoadsSpec)) pagerLoadsUptoCard

/-- THE SECOND FORM's CARD OF 'latchkeylaw09.PagerLasts'. -/
def pagerLastsUptoCard : Claim7 := { stood := { row := pagerLastsUptoRow, standIns := [], harness := (true, "8b1e5f80413d134e8bda5c4132ed98ce2e3233e61ab6998f555dd4430e6e9a3f"), looks := true }, kinds := [], alts := [], laidByText := true, laidKinds := [.handle], laidTests := true, laidLooks := .later }
def PagerLastsUptoCardSaid : Prop := Claim7.holds Tryz.pinned (.plain (OpenSpec.upto pagerLastsSpec)) pagerLastsUptoCard

/-- THE SECOND FORM's CARD OF 'latchkeylaw09.PagerHolds'. -/
def pagerHoldsUptoCard : Claim7 := { stood := { row := pagerHoldsUptoRow, standIns := [], harness := (true, "8b1e5f80413d134e8bda5c4132ed98ce2e3233e61ab6998f555dd4430e6e9a3f"), looks := true }, kinds := [], alts := [], laidByText := true, laidKinds := [.handle], laidTests := true, laidLooks := .later }
def PagerHoldsUptoCardSaid : Prop := Claim7.holds Tryz.pinned (.plain (OpenSpec.upto pagerHoldsSpec)) pagerHoldsUptoCard
end Rows
end Go.Proofs.YtjopnhhdemfniaaGreatDoor
