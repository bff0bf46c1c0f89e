/-
  DERIVED. GIVEN WITH THE SEED: THE CARDS: each row of YtbeionikiiccpaaGreatDoorRows.lean that lists a variable, with what it lists TIED to the program's text (the seventh form; the later family's looks); each row that meets fmt, with fmt's text TOLD by the authors' own Lean function (tested against real Go, not proved from fmt's source: count such statements apart). THE CARD IS WHAT COUNTS. Prove the row's statement (the work); the ties are given (YtbeionikiiccpaaGreatDoorTie.lean); close each card by the builder's one call (the guide's Derived/Test/ToyasCard.lean, 'card_holds'). Laid BY PROGRAM, IN A SANDBOX (cutbox-door.mjs). By AI agents, Wed Nov 11 2026. No macro, syntax, notation, axiom, sorry.
-/
import Derived.Test.YtbeionikiiccpaaGreatDoorRows
import GoSem.ClaimSeven
namespace Go.Proofs.YtbeionikiiccpaaGreatDoor
namespace Rows

/-- THE TIED CARD OF 'latchkeylaw17.TokenMints'. -/
def tokenMintsCard : Claim7 := { stood := { row := tokenMintsRow, standIns := [], harness := (true, "82e93c69c85d3ecc6d335b42b800f56433453f7fdb2cd463bf70290a9da6ed57"), looks := true }, kinds := [], alts := [], laidByText := true, laidKinds := [.handle, .sentinel, .sentinel, .sentinel], laidTests := true, laidLooks := .later }
def TokenMintsCardSaid : Prop := Claim7.holds Tryz.pinned (.plain (OpenSpec.ofChange tokenMintsSpec)) tokenMintsCard

/-- THE SECOND FORM's CARD OF 'latchkeylaw17.TokenMints'. -/
def tokenMintsUptoCard : Claim7 := { stood := { row := tokenMintsUptoRow, standIns := [], harness := (true, "82e93c69c85d3ecc6d335b42b800f56433453f7fdb2cd463bf70290a9da6ed57"), looks := true }, kinds := [], alts := [], laidByText := true, laidKinds := [.handle, .sentinel, .sentinel, .sentinel], laidTests := true, laidLooks := .later }
def TokenMintsUptoCardSaid : Prop := Claim7.holds Tryz.pinned (.plain (OpenSpec.upto tokenMintsSpec)) tokenMintsUptoCard
end Rows
end Go.Proofs.YtbeionikiiccpaaGreatDoor
