/-
  NARROWER THAN 'FOR EVERY INPUT', by the rows' own cells (each row's printed sentence says how): PagerPages: laid · PagerHeads: laid · PagerPlays: laid · PagerLoads: laid · PagerLasts: laid · PagerHolds: laid.
  DERIVED. THE GIVEN ROWS OF THIS SEAT. 6 by the template 'for every input the law returns true; each argument reads behind the call as it read before'; 0 by the template 'total and deterministic' (their statements: YtjopnhhdemfniaaGreatDoorTotals.lean).
  GIVEN WITH THE SEED: the statements are not yours to turn. If you find one false, say at which input.
  Laid BY PROGRAM, IN A SANDBOX (cutbox-rows.mjs): the forced cells as the released guide's own fill.sh prints them over the translation 64d70dcca1a13780… (all of the seat's roots in one cut). By AI agents, Wed Nov 11 2026. No macro, syntax, notation, axiom, sorry.
-/
import Derived.Test.YtjopnhhdemfniaaGreatDoorChecked
import GoSem.Claim
import GoSem.ClaimJoined
import GoSem.ClaimMapViews
import Derived.JoinedTies
import Derived.KernelRfl
namespace Go.Proofs.YtjopnhhdemfniaaGreatDoor
/- THE CELL 'sum', in the pinned program and in every row, IS THE sha256 OF THE DUMP (.gsa) THAT YtjopnhhdemfniaaGreatDoorProg.lean LOADS. Nothing in Lean hashes anything: it is a label: what it is worth is what the hold of that sum in a sandbox is worth. -/
noncomputable def Tryz.pinned : Pinned := { name := "ytjopnhhdemfniaagreatdoor", sum := "64d70dcca1a137805d05b932efc0754d15c1c3f1a9badaa8988b6ca470d4af15", checked := Tryz.checked }
namespace Rows
def none {H : Type} : Left H := { results := [], args := [] }

/- WHAT THE LISTED PACKAGE-LEVEL VARIABLES READ AS WHEN THE CALL BEGINS. Each datum BY PROGRAM (the guide's laid-datum.mjs) off the statement by which the dump's own 'gosem.cut.vars' lays the variable. In a bare row this is a premise. The card (YtjopnhhdemfniaaGreatDoorCards.lean) ties it to the program's text. -/
def laid_errors_errorType {H : Type} : DataW H := .iface "internal/reflectlite.rtype" (.agg [.ptr (.lit (.string [101, 114, 114, 111, 114]))])

/-- 'latchkeylaw09.PagerPages': WHATEVER THE INPUT: true; the input reads as it did. -/
def pagerPagesSpec : ChangeSpec := { name := "pagerPages", fn := fun _ => fun
  | [d1, d2, d3, d4] => { results := [.lit (.bool true)], args := [d1, d2, d3, d4] }
  | _ => none }
def pagerPagesRow : OpenClaim := { program := "ytjopnhhdemfniaagreatdoor", sum := "64d70dcca1a137805d05b932efc0754d15c1c3f1a9badaa8988b6ca470d4af15", func := "latchkey/latchkeylaw09.PagerPages", spec := "pagerPages", inPlace := ["internal/abi.NoEscape", "internal/bytealg.MakeNoZero", "internal/reflectlite.ValueOf", "(internal/reflectlite.Value).Type", "(internal/reflectlite.Value).IsNil", "internal/reflectlite.TypeOf", "(internal/reflectlite.Value).Elem", "(internal/reflectlite.Value).Set", "slices.overlaps[latchkey/api.Write]"], unfollowed := true, recurses := true, named := ["errors.errorType"], apart := false, laid := [("errors.errorType", laid_errors_errorType)] }
def PagerPagesSaid : Prop := pagerPagesRow.holds Tryz.pinned (OpenSpec.ofChange pagerPagesSpec)

/-- ITS FALSE NEIGHBOUR: 'it returns false'. Refute it at one input. -/
def pagerPagesWrong : ChangeSpec := { name := "pagerPages", fn := fun _ => fun
  | [d1, d2, d3, d4] => { results := [.lit (.bool false)], args := [d1, d2, d3, d4] }
  | _ => none }
def PagerPagesWrongFalsely : Prop := pagerPagesRow.holds Tryz.pinned (OpenSpec.ofChange pagerPagesWrong)

/-- 'latchkeylaw09.PagerHeads': WHATEVER THE INPUT: true; the input reads as it did. -/
def pagerHeadsSpec : ChangeSpec := { name := "pagerHeads", fn := fun _ => fun
  | [d1, d2, d3, d4, d5, d6, d7] => { results := [.lit (.bool true)], args := [d1, d2, d3, d4, d5, d6, d7] }
  | _ => none }
def pagerHeadsRow : OpenClaim := { program := "ytjopnhhdemfniaagreatdoor", sum := "64d70dcca1a137805d05b932efc0754d15c1c3f1a9badaa8988b6ca470d4af15", func := "latchkey/latchkeylaw09.PagerHeads", spec := "pagerHeads", inPlace := ["internal/abi.NoEscape", "internal/bytealg.MakeNoZero", "internal/reflectlite.ValueOf", "(internal/reflectlite.Value).Type", "(internal/reflectlite.Value).IsNil", "internal/reflectlite.TypeOf", "(internal/reflectlite.Value).Elem", "(internal/reflectlite.Value).Set", "slices.overlaps[latchkey/api.Write]"], unfollowed := true, recurses := true, named := ["errors.errorType"], apart := false, laid := [("errors.errorType", laid_errors_errorType)] }
def PagerHeadsSaid : Prop := pagerHeadsRow.holds Tryz.pinned (OpenSpec.ofChange pagerHeadsSpec)

/-- ITS FALSE NEIGHBOUR: 'it returns false'. Refute it at one input. -/
def pagerHeadsWrong : ChangeSpec := { name := "pagerHeads", fn := fun _ => fun
  | [d1, d2, d3, d4, d5, d6, d7] => { results := [.lit (.bool false)], args := [d1, d2, d3, d4, d5, d6, d7] }
  | _ => none }
def PagerHeadsWrongFalsely : Prop := pagerHeadsRow.holds Tryz.pinned (OpenSpec.ofChange pagerHeadsWrong)

/-- 'latchkeylaw09.PagerPlays': WHATEVER THE INPUT: true; the input reads as it did. -/
def pagerPlaysSpec : ChangeSpec := { name := "pagerPlays", fn := fun _ => fun
  | [d1, d2, d3] => { results := [.lit (.bool true)], args := [d1, d2, d3] }
  | _ => none }
def pagerPlaysRow : OpenClaim := { program := "ytjopnhhdemfniaagreatdoor", sum := "64d70dcca1a137805d05b932efc0754d15c1c3f1a9badaa8988b6ca470d4af15", func := "latchkey/latchkeylaw09.PagerPlays", spec := "pagerPlays", inPlace := ["internal/abi.NoEscape", "internal/bytealg.MakeNoZero", "internal/reflectlite.ValueOf", "(internal/reflectlite.Value).Type", "(internal/reflectlite.Value).IsNil", "internal/reflectlite.TypeOf", "(internal/reflectlite.Value).Elem", "(internal/reflectlite.Value).Set", "slices.overlaps[latchkey/api.Write]"], unfollowed := true, recurses := true, named := ["errors.errorType"], apart := false, laid := [("errors.errorType", laid_errors_errorType)] }
def PagerPlaysSaid : Prop := pagerPlaysRow.holds Tryz.pinned (OpenSpec.ofChange pagerPlaysSpec)

/-- ITS FALSE NEIGHBOUR: 'it returns false'. Refute it at one input. -/
def pagerPlaysWrong : ChangeSpec := { name := "pagerPlays", fn := fun _ => fun
  | [d1, d2, d3] => { results := [.lit (.bool false)], args := [d1, d2, d3] }
  | _ => none }
def PagerPlaysWrongFalsely : Prop := pagerPlaysRow.holds Tryz.pinned (OpenSpec.ofChange pagerPlaysWrong)

/-- 'latchkeylaw09.PagerLoads': WHATEVER THE INPUT: true; the input reads as it did. -/
def pagerLoadsSpec : ChangeSpec := { name := "pagerLoads", fn := fun _ => fun
  | [d1, d2] => { results := [.lit (.bool true)], args := [d1, d2] }
  | _ => none }
def pagerLoadsRow : OpenClaim := { program := "ytjopnhhdemfniaagreatdoor", sum := "64d70dcca1a137805d05b932efc0754d15c1c3f1a9badaa8988b6ca470d4af15", func := "latchkey/latchkeylaw09.PagerLoads", spec := "pagerLoads", inPlace := ["internal/abi.NoEscape", "internal/bytealg.MakeNoZero", "internal/reflectlite.ValueOf", "(internal/reflectlite.Value).Type", "(internal/reflectlite.Value).IsNil", "internal/reflectlite.TypeOf", "(internal/reflectlite.Value).Elem", "(internal/reflectlite.Value).Set", "slices.overlaps[latchkey/api.Write]"], unfollowed := true, recurses := true, named := ["errors.errorType"], apart := false, laid := [("errors.errorType", laid_errors_errorType)] }
def PagerLoadsSaid : Prop := pagerLoadsRow.holds Tryz.pinned (OpenSpec.ofChange pagerLoadsSpec)

/-- ITS FALSE NEIGHBOUR: 'it returns false'. Refute it at one input. -/
def pagerLoadsWrong : ChangeSpec := { name := "pagerLoads", fn := fun _ => fun
  | [d1, d2] => { results := [.lit (.bool false)], args := [d1, d2] }
  | _ => none }
def PagerLoadsWrongFalsely : Prop := pagerLoadsRow.holds Tryz.pinned (OpenSpec.ofChange pagerLoadsWrong)

/-- 'latchkeylaw09.PagerLasts': WHATEVER THE INPUT: true; the input reads as it did. -/
def pagerLastsSpec : ChangeSpec := { name := "pagerLasts", fn := fun _ => fun
  | [d1, d2, d3, d4] => { results := [.lit (.bool true)], args := [d1, d2, d3, d4] }
  | _ => none }
def pagerLastsRow : OpenClaim := { program := "ytjopnhhdemfniaagreatdoor", sum := "64d70dcca1a137805d05b932efc0754d15c1c3f1a9badaa8988b6ca470d4af15", func := "latchkey/latchkeylaw09.PagerLasts", spec := "pagerLasts", inPlace := ["internal/abi.NoEscape", "internal/bytealg.MakeNoZero", "internal/reflectlite.ValueOf", "(internal/reflectlite.Value).Type", "(internal/reflectlite.Value).IsNil", "internal/reflectlite.TypeOf", "(internal/reflectlite.Value).Elem", "(internal/reflectlite.Value).Set", "slices.overlaps[latchkey/api.Write]"], unfollowed := true, recurses := true, named := ["errors.errorType"], apart := false, laid := [("errors.errorType", laid_errors_errorType)] }
def PagerLastsSaid : Prop := pagerLastsRow.holds Tryz.pinned (OpenSpec.ofChange pagerLastsSpec)

/-- ITS FALSE NEIGHBOUR: 'it returns false'. Refute it at one input. -/
def pagerLastsWrong : ChangeSpec := { name := "pagerLasts", fn := fun _ => fun
  | [d1, d2, d3, d4] => { results := [.lit (.bool false)], args := [d1, d2, d3, d4] }
  | _ => none }
def PagerLastsWrongFalsely : Prop := pagerLastsRow.holds Tryz.pinned (OpenSpec.ofChange pagerLastsWrong)

/-- 'latchkeylaw09.PagerHolds': WHATEVER THE INPUT: true; the input reads as it did. -/
def pagerHoldsSpec : ChangeSpec := { name := "pagerHolds", fn := fun _ => fun
  | [d1, d2] => { results := [.lit (.bool true)], args := [d1, d2] }
  | _ => none }
def pagerHoldsRow : OpenClaim := { program := "ytjopnhhdemfniaagreatdoor", sum := "64d70dcca1a137805d05b932efc0754d15c1c3f1a9badaa8988b6ca470d4af15", func := "latchkey/latchkeylaw09.PagerHolds", spec := "pagerHolds", inPlace := ["internal/abi.NoEscape", "internal/bytealg.MakeNoZero", "internal/reflectlite.ValueOf", "(internal/reflectlite.Value).Type", "(internal/reflectlite.Value).IsNil", "internal/reflectlite.TypeOf", "(internal/reflectlite.Value).Elem", "(internal/reflectlite.Value).Set", "slices.overlaps[latchkey/api.Write]"], unfollowed := true, recurses := true, named := ["errors.errorType"], apart := false, laid := [("errors.errorType", laid_errors_errorType)] }
def PagerHoldsSaid : Prop := pagerHoldsRow.holds Tryz.pinned (OpenSpec.ofChange pagerHoldsSpec)

/-- ITS FALSE NEIGHBOUR: 'it returns false'. Refute it at one input. -/
def pagerHoldsWrong : ChangeSpec := { name := "pagerHolds", fn := fun _ => fun
  | [d1, d2] => { results := [.lit (.bool false)], args := [d1, d2] }
  | _ => none }
def PagerHoldsWrongFalsely : Prop := pagerHoldsRow.holds Tryz.pinned (OpenSpec.ofChange pagerHoldsWrong)

/- THE SECOND FORM. 'bulk': how many values and letters a reading holds, each counted each time it is reached (what is shared counts as often as it is met; a slice's spare places count too). A statement '..UptoSaid' is the law's where the arguments, and the package variables that the reading takes, are together of bulk at most 1048576: NARROWER than '..Said'. Prove '..Said' where nothing that the law and all that it calls make is longer than what came in: it says more and counts as full. Else prove '..UptoSaid'. A law counts once. -/
mutual
def uptoBulk {H : Type} : DataW H → Nat
  | .lit (.string bytes) => bytes.length + 1
  | .lit _ => 1
  | .nil => 1
  | .ptr d => uptoBulk d + 1
  | .slice elems spare => uptoBulkAll elems + uptoBulkAll spare + 1
  | .agg parts => uptoBulkAll parts + 1
  | .iface _ d => uptoBulk d + 1
  | .map entries => uptoBulkEntries entries + 1
  | .held _ => 1
def uptoBulkAll {H : Type} : List (DataW H) → Nat
  | [] => 0
  | d :: r => uptoBulk d + uptoBulkAll r
def uptoBulkEntries {H : Type} : List (Lit × DataW H) → Nat
  | [] => 0
  | x :: r => uptoBulkEntry x + uptoBulkEntries r
def uptoBulkEntry {H : Type} : Lit × DataW H → Nat
  | (.string bytes, d) => bytes.length + uptoBulk d + 1
  | (_, d) => uptoBulk d + 1
 end
def uptoSmall : (H : Type) → List (DataW H) → Bool := fun _ ds => decide (uptoBulkAll ds ≤ 1048576)
def OpenSpec.upto (s : _root_.Go.ChangeSpec) : _root_.Go.OpenSpec := { _root_.Go.OpenSpec.ofChange s with cond := some uptoSmall }

/-- 'latchkeylaw09.PagerPages', WHERE WHAT IT READS IS OF BULK AT MOST 1048576: true; the input reads as it did. -/
def pagerPagesUptoRow : OpenClaim := { program := "ytjopnhhdemfniaagreatdoor", sum := "64d70dcca1a137805d05b932efc0754d15c1c3f1a9badaa8988b6ca470d4af15", func := "latchkey/latchkeylaw09.PagerPages", spec := "pagerPages", inPlace := ["internal/abi.NoEscape", "internal/bytealg.MakeNoZero", "internal/reflectlite.ValueOf", "(internal/reflectlite.Value).Type", "(internal/reflectlite.Value).IsNil", "internal/reflectlite.TypeOf", "(internal/reflectlite.Value).Elem", "(internal/reflectlite.Value).Set", "slices.overlaps[latchkey/api.Write]"], unfollowed := true, recurses := true, named := ["errors.errorType"], apart := false, laid := [("errors.errorType", laid_errors_errorType)], narrowed := true }
def PagerPagesUptoSaid : Prop := pagerPagesUptoRow.holds Tryz.pinned (OpenSpec.upto pagerPagesSpec)

/-- 'latchkeylaw09.PagerHeads', WHERE WHAT IT READS IS OF BULK AT MOST 1048576: true; the input reads as it did. -/
def pagerHeadsUptoRow : OpenClaim := { program := "ytjopnhhdemfniaagreatdoor", sum := "64d70dcca1a137805d05b932efc0754d15c1c3f1a9badaa8988b6ca470d4af15", func := "latchkey/latchkeylaw09.PagerHeads", spec := "pagerHeads", inPlace := ["internal/abi.NoEscape", "internal/bytealg.MakeNoZero", "internal/reflectlite.ValueOf", "(internal/reflectlite.Value).Type", "(internal/reflectlite.Value).IsNil", "internal/reflectlite.TypeOf", "(internal/reflectlite.Value).Elem", "(internal/reflectlite.Value).Set", "slices.overlaps[latchkey/api.Write]"], unfollowed := true, recurses := true, named := ["errors.errorType"], apart := false, laid := [("errors.errorType", laid_errors_errorType)], narrowed := true }
def PagerHeadsUptoSaid : Prop := pagerHeadsUptoRow.holds Tryz.pinned (OpenSpec.upto pagerHeadsSpec)

/-- 'latchkeylaw09.PagerPlays', WHERE WHAT IT READS IS OF BULK AT MOST 1048576: true; the input reads as it did. -/
def pagerPlaysUptoRow : OpenClaim := { program := "ytjopnhhdemfniaagreatdoor", sum := "64d70dcca1a137805d05b932efc0754d15c1c3f1a9badaa8988b6ca470d4af15", func := "latchkey/latchkeylaw09.PagerPlays", spec := "pagerPlays", inPlace := ["internal/abi.NoEscape", "internal/bytealg.MakeNoZero", "internal/reflectlite.ValueOf", "(internal/reflectlite.Value).Type", "(internal/reflectlite.Value).IsNil", "internal/reflectlite.TypeOf", "(internal/reflectlite.Value).Elem", "(internal/reflectlite.Value).Set", "slices.overlaps[latchkey/api.Write]"], unfollowed := true, recurses := true, named := ["errors.errorType"], apart := false, laid := [("errors.errorType", laid_errors_errorType)], narrowed := true }
def PagerPlaysUptoSaid : Prop := pagerPlaysUptoRow.holds Tryz.pinned (OpenSpec.upto pagerPlaysSpec)

/-- 'latchkeylaw09.PagerLoads', WHERE WHAT IT READS IS OF BULK AT MOST 1048576: true; the input reads as it did. -/
def pagerLoadsUptoRow : OpenClaim := { program := "ytjopnhhdemfniaagreatdoor", sum := "64d70dcca1a137805d05b932efc0754d15c1c3f1a9badaa8988b6ca470d4af15", func := "latchkey/latchkeylaw09.PagerLoads", spec := "pagerLoads", inPlace := ["internal/abi.NoEscape", "internal/bytealg.MakeNoZero", "internal/reflectlite.ValueOf", "(internal/reflectlite.Value).Type", "(internal/reflectlite.Value).IsNil", "internal/reflectlite.TypeOf", "(internal/reflectlite.Value).Elem", "(internal/reflectlite.Value).Set", "slices.overlaps[latchkey/api.Write]"], unfollowed := true, recurses := true, named := ["errors.errorType"], apart := false, laid := [("errors.errorType", laid_errors_errorType)], narrowed := true }
def PagerLoadsUptoSaid : Prop := pagerLoadsUptoRow.holds Tryz.pinned (OpenSpec.upto pagerLoadsSpec)

/-- 'latchkeylaw09.PagerLasts', WHERE WHAT IT READS IS OF BULK AT MOST 1048576: true; the input reads as it did. -/
def pagerLastsUptoRow : OpenClaim := { program := "ytjopnhhdemfniaagreatdoor", sum := "64d70dcca1a137805d05b932efc0754d15c1c3f1a9badaa8988b6ca470d4af15", func := "latchkey/latchkeylaw09.PagerLasts", spec := "pagerLasts", inPlace := ["internal/abi.NoEscape", "internal/bytealg.MakeNoZero", "internal/reflectlite.ValueOf", "(internal/reflectlite.Value).Type", "(internal/reflectlite.Value).IsNil", "internal/reflectlite.TypeOf", "(internal/reflectlite.Value).Elem", "(internal/reflectlite.Value).Set", "slices.overlaps[latchkey/api.Write]"], unfollowed := true, recurses := true, named := ["errors.errorType"], apart := false, laid := [("errors.errorType", laid_errors_errorType)], narrowed := true }
def PagerLastsUptoSaid : Prop := pagerLastsUptoRow.holds Tryz.pinned (OpenSpec.upto pagerLastsSpec)

/-- 'latchkeylaw09.PagerHolds', WHERE WHAT IT READS IS OF BULK AT MOST 1048576: true; the input reads as it did. -/
def pagerHoldsUptoRow : OpenClaim := { program := "ytjopnhhdemfniaagreatdoor", sum := "64d70dcca1a137805d05b932efc0754d15c1c3f1a9badaa8988b6ca470d4af15", func := "latchkey/latchkeylaw09.PagerHolds", spec := "pagerHolds", inPlace := ["internal/abi.NoEscape", "internal/bytealg.MakeNoZero", "internal/reflectlite.ValueOf", "(internal/reflectlite.Value).Type", "(internal/reflectlite.Value).IsNil", "internal/reflectlite.TypeOf", "(internal/reflectlite.Value).Elem", "(internal/reflectlite.Value).Set", "slices.overlaps[latchkey/api.Write]"], unfollowed := true, recurses := true, named := ["errors.errorType"], apart := false, laid := [("errors.errorType", laid_errors_errorType)], narrowed := true }
def PagerHoldsUptoSaid : Prop := pagerHoldsUptoRow.holds Tryz.pinned (OpenSpec.upto pagerHoldsSpec)

end Rows
end Go.Proofs.YtjopnhhdemfniaaGreatDoor
