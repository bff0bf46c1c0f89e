/-
  DERIVED. GIVEN WITH THE SEED: THE CARDS: each row of YtmjaobddgaglhaaGreatDoorRows.lean that lists a variable, with what it lists TIED to the program's text (the seventh form; the later family's looks); each row that meets fmt, with fmt's text TOLD by the authors' own Lean function (tested against real Go, not proved from fmt's source: count such statements apart). THE CARD IS WHAT COUNTS. Prove the row's statement (the work); the ties are given (YtmjaobddgaglhaaGreatDoorTie.lean); close each card by the builder's one call (the guide's Derived/Test/ToyasCard.lean, 'card_holds'). Laid BY PROGRAM, IN A SANDBOX (cutbox-door.mjs). By AI agents, Wed Nov 11 2026. No macro, syntax, notation, axiom, sorry.
-/
import Derived.Test.YtmjaobddgaglhaaGreatDoorRows
import GoSem.ClaimSeven
namespace Go.Proofs.YtmjaobddgaglhaaGreatDoor
namespace Rows

/-- THE TIED CARD OF 'latchkeylaw18.FamilyActs'. -/
def familyActsCard : Claim7 := { stood := { row := familyActsRow, standIns := [], harness := (true, "c02353873a91e86474cf7ad3902faf55b575be4da8b608c0392197ab7d3a01ca"), looks := true }, kinds := [], alts := [], laidByText := true, laidKinds := [.handle], laidTests := true, laidLooks := .later }
def FamilyActsCardSaid : Prop := Claim7.holds Tryz.pinned (.plain (OpenSpec.ofChange familyActsSpec)) familyActsCard

/-- THE TIED CARD OF 'latchkeylaw18.FamilyBegins'. -/
def familyBeginsCard : Claim7 := { stood := { row := familyBeginsRow, standIns := [], harness := (true, "c02353873a91e86474cf7ad3902faf55b575be4da8b608c0392197ab7d3a01ca"), looks := true }, kinds := [], alts := [], laidByText := true, laidKinds := [.handle], laidTests := true, laidLooks := .later }
def FamilyBeginsCardSaid : Prop := Claim7.holds Tryz.pinned (.plain (OpenSpec.ofChange familyBeginsSpec)) familyBeginsCard

/-- THE TIED CARD OF 'latchkeylaw18.FamilyOnce'. -/
def familyOnceCard : Claim7 := { stood := { row := familyOnceRow, standIns := [], harness := (true, "c02353873a91e86474cf7ad3902faf55b575be4da8b608c0392197ab7d3a01ca"), looks := true }, kinds := [], alts := [], laidByText := true, laidKinds := [.handle], laidTests := true, laidLooks := .later }
def FamilyOnceCardSaid : Prop := Claim7.holds Tryz.pinned (.plain (OpenSpec.ofChange familyOnceSpec)) familyOnceCard

/-- THE SECOND FORM's CARD OF 'latchkeylaw18.FamilyActs'. -/
def familyActsUptoCard : Claim7 := { stood := { row := familyActsUptoRow, standIns := [], harness := (true, "c02353873a91e86474cf7ad3902faf55b575be4da8b608c0392197ab7d3a01ca"), looks := true }, kinds := [], alts := [], laidByText := true, laidKinds := [.handle], laidTests := true, laidLooks := .later }
def FamilyActsUptoCardSaid : Prop := Claim7.holds Tryz.pinned (.plain (OpenSpec.upto familyActsSpec)) familyActsUptoCard

/-- THE SECOND FORM's CARD OF 'latchkeylaw18.FamilyBegins'. -/
def familyBeginsUptoCard : Claim7 := { stood := { row := familyBeginsUptoRow, standIns := [], harness := (true, "c02353873a91e86474cf7ad3902faf55b575be4da8b608c0392197ab7d3a01ca"), looks := true }, kinds := [], alts := [], laidByText := true, laidKinds := [.handle], laidTests := true, laidLooks := .later }
def FamilyBeginsUptoCardSaid : Prop := Claim7.holds Tryz.pinned (.plain (OpenSpec.upto familyBeginsSpec)) familyBeginsUptoCard

/-- THE SECOND FORM's CARD OF 'latchkeylaw18.FamilyOnce'. -/
def familyOnceUptoCard : Claim7 := { stood := { row := familyOnceUptoRow, standIns := [], harness := (true, "c02353873a91e86474cf7ad3902faf55b575be4da8b608c0392197ab7d3a01ca"), looks := true }, kinds := [], alts := [], laidByText := true, laidKinds := [.handle], laidTests := true, laidLooks := .later }
def FamilyOnceUptoCardSaid : Prop := Claim7.holds Tryz.pinned (.plain (OpenSpec.upto familyOnceSpec)) familyOnceUptoCard
end Rows
end Go.Proofs.YtmjaobddgaglhaaGreatDoor
