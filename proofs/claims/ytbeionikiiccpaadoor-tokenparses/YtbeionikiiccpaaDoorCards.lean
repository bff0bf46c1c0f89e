/-
  DERIVED. GIVEN WITH THE SEED: THE CARDS: each row of YtbeionikiiccpaaDoorRows.lean that lists a variable, with what it lists TIED to the program's text (the seventh form; the later family's looks); each row that meets fmt, with fmt's text TOLD by the authors' own Lean function (tested against real Go, not proved from fmt's source: count such statements apart). THE CARD IS WHAT COUNTS. Prove the row's statement (the work); the ties are given (YtbeionikiiccpaaDoorTie.lean); close each card by the builder's one call (the guide's Derived/Test/ToyasCard.lean, 'card_holds'). Laid BY PROGRAM, IN A SANDBOX (cutbox-door.mjs). By AI agents, Wed Nov 11 2026. No macro, syntax, notation, axiom, sorry.
-/
import Derived.Test.YtbeionikiiccpaaDoorRows
import GoSem.ClaimSeven
namespace Go.Proofs.YtbeionikiiccpaaDoor
namespace Rows

/-- THE TIED CARD OF 'latchkeylaw17.TokenParses'. -/
def tokenParsesCard : Claim7 := { stood := { row := tokenParsesRow, standIns := [], harness := (true, "01f49a13a466c3d0f35f5c1894ee328fab10617b76564751fc0447af270a6d84"), looks := true }, kinds := [], alts := [], laidByText := true, laidKinds := [.handle, .sentinel, .sentinel, .sentinel], laidTests := true, laidLooks := .later }
def TokenParsesCardSaid : Prop := Claim7.holds Tryd.pinned (.plain (OpenSpec.ofChange tokenParsesSpec)) tokenParsesCard

/-- THE TIED CARD OF 'latchkeylaw17.TokenBack'. -/
def tokenBackCard : Claim7 := { stood := { row := tokenBackRow, standIns := [], harness := (true, "01f49a13a466c3d0f35f5c1894ee328fab10617b76564751fc0447af270a6d84"), looks := true }, kinds := [], alts := [], laidByText := true, laidKinds := [.handle, .sentinel, .sentinel, .sentinel], laidTests := true, laidLooks := .later }
def TokenBackCardSaid : Prop := Claim7.holds Tryd.pinned (.plain (OpenSpec.ofChange tokenBackSpec)) tokenBackCard

/-- THE TIED CARD OF 'latchkeylaw17.TokenTyped'. -/
def tokenTypedCard : Claim7 := { stood := { row := tokenTypedRow, standIns := [], harness := (true, "01f49a13a466c3d0f35f5c1894ee328fab10617b76564751fc0447af270a6d84"), looks := true }, kinds := [], alts := [], laidByText := true, laidKinds := [.handle, .sentinel, .sentinel, .sentinel], laidTests := true, laidLooks := .later }
def TokenTypedCardSaid : Prop := Claim7.holds Tryd.pinned (.plain (OpenSpec.ofChange tokenTypedSpec)) tokenTypedCard

/-- THE SECOND FORM's CARD OF 'latchkeylaw17.TokenParses'. -/
def tokenParsesUptoCard : Claim7 := { stood := { row := tokenParsesUptoRow, standIns := [], harness := (true, "01f49a13a466c3d0f35f5c1894ee328fab10617b76564751fc0447af270a6d84"), looks := true }, kinds := [], alts := [], laidByText := true, laidKinds := [.handle, .sentinel, .sentinel, .sentinel], laidTests := true, laidLooks := .later }
def TokenParsesUptoCardSaid : Prop := Claim7.holds Tryd.pinned (.plain (OpenSpec.upto tokenParsesSpec)) tokenParsesUptoCard

/-- THE SECOND FORM's CARD OF 'latchkeylaw17.TokenBack'. -/
def tokenBackUptoCard : Claim7 := { stood := { row := tokenBackUptoRow, standIns := [], harness := (true, "01f49a13a466c3d0f35f5c1894ee328fab10617b76564751fc0447af270a6d84"), looks := true }, kinds := [], alts := [], laidByText := true, laidKinds := [.handle, .sentinel, .sentinel, .sentinel], laidTests := true, laidLooks := .later }
def TokenBackUptoCardSaid : Prop := Claim7.holds Tryd.pinned (.plain (OpenSpec.upto tokenBackSpec)) tokenBackUptoCard

/-- THE SECOND FORM's CARD OF 'latchkeylaw17.TokenTyped'. -/
def tokenTypedUptoCard : Claim7 := { stood := { row := tokenTypedUptoRow, standIns := [], harness := (true, "01f49a13a466c3d0f35f5c1894ee328fab10617b76564751fc0447af270a6d84"), looks := true }, kinds := [], alts := [], laidByText := true, laidKinds := [.handle, .sentinel, .sentinel, .sentinel], laidTests := true, laidLooks := .later }
def TokenTypedUptoCardSaid : Prop := Claim7.holds Tryd.pinned (.plain (OpenSpec.upto tokenTypedSpec)) tokenTypedUptoCard
end Rows
end Go.Proofs.YtbeionikiiccpaaDoor
