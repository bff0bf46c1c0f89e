import Derived.Test.YtfaahjbkdlkmjaaDoorJlai
import Derived.Test.YtfaahjbkdlkmjaaDoorTie
import Derived.Test.YtfaahjbkdlkmjaaDoorCards
import Derived.Test.YtfaahjbkdlkmjaaDoorJbkb
import Derived.Test.YtfaahjbkdlkmjaaDoorJop
import Derived.SevenTiedAt
/- Jot: JotBack's card. -/
namespace Go.Proofs.YtfaahjbkdlkmjaaDoor.jotBack
open Go Go.ChangeShapes Go.WideShapes Go.ChangeAt Go.RowKit
open Go.ChangeMaps (open_string shut_string)
set_option linter.unusedVariables false
set_option maxRecDepth 100000 in
theorem lifted (os : Os) (started : os.Started) (H : Type) (enc : TypeId × Value → H) :
    ReturnsInHanded {} Tryd.checked os 3 .any (fun w args => (Rows.jotBackSpec.pre enc Tryd.prog Tryd.f3 [] false w args ∧ laidMetH Tryd.prog Rows.jotBackRow.laid w) ∧ sizedMet enc Tryd.prog Tryd.f3 (OpenSpec.ofChange Rows.jotBackSpec) false w args)
      (Rows.jotBackSpec.post enc Tryd.prog Tryd.f3 false true false false) := by
  refine lift rfl started (by kernel_rfl) Tryd.func3
    (ChangeSpec.witness_at (enc := enc) (C := Tryd.checked) (os := os) (X := fun w _ => laidMetH Tryd.prog Rows.jotBackRow.laid w) false ({ World.holding Tryd.prog os ⟨#[], #[], []⟩ with heap := (((((World.holding Tryd.prog os ⟨#[], #[], []⟩).heap.modify 0 (putC (flat2 Rows.laid_internal_strconv_uint64pow10))).modify 1 (putC firstCells)).modify 2 (putC (flat2 Rows.laid_unicode_utf8_acceptRanges))).modify 3 (putC (flat2 Rows.laid_math_bits_deBruijn32tab))).modify 4 (putC (flat2 Rows.laid_math_bits_deBruijn64tab)) } : World) #[.agg #[I 0, I 0, S [], .slice none 0 0, .slice none 0 0]] 8 rfl (by kernel_rfl) (by kernel_rfl) (by kernel_rfl) (by kernel_rfl) (by kernel_rfl) (wit_met os _)) ?_
  intro W base args ds gs before hval0 hW _ hE
  have hval : ∀ (j : Nat) t v, Tryd.f3.params[j]? = some t → args[j]? = some v → Value.okWide Tryd.prog W .any base t v := hval0
  have hW' := hW
  obtain ⟨p, q, hA0, hV, rfl, hfz, hnd⟩ := hW
  have hA : DataW.TrodAll enc Tryd.prog W 0 (fun _ => true) true Tryd.f3.params.toList args.toList ds p := hA0
  rw [Tryd.params3] at hA hval
  obtain ⟨v0, vs0, d0, ds0, p0, q0, hargs, rfl, rfl, h0, r0⟩ := trodAll_cons hA
  obtain ⟨rfl, rfl, rfl⟩ := trodAll_nil r0
  obtain rfl : args = #[v0] := by cases args; simp_all
  obtain ⟨rfl, rfl⟩ := trodVars_none hV
  have k0 := h0
  have lt0 : ∀ x ∈ p0, x.block < W.heap.size := by obtain ⟨m, hm⟩ := k0; exact DataW.trod_lt m _ _ _ hm
  obtain ⟨cs, rfl, hc⟩ := okWide_struct Tryd.underlying25 (hval 0 25 v0 rfl rfl)
  obtain ⟨fuel, hf⟩ := h0
  obtain ⟨it, hit, hjp⟩ := open_jot (SizeOf.sizeOf d0 + 1) d0 p0 fuel _ (by omega) hf
  have hcs : cs = #[I it.j.k, I it.j.n, S it.j.t, .slice it.na it.j.ns.length it.nc, .slice it.xa it.j.xs.length it.xc] := by
    have : cs.toList = it.cells := hit
    apply Array.ext'
    rw [this]
    rfl
  subst hcs
  clear hA0 hval0
  have hw : Calls Tryd.prog 3 #[.agg #[I it.j.k, I it.j.n, S it.j.t, .slice it.na it.j.ns.length it.nc, .slice it.xa it.j.xs.length it.xc]] W fun e w' => e = .returned (.bool true) ∧ Below W.heap.size W w' := back_any it.j it.na it.nc it.xa it.xc W hE hjp
  refine hw.mono fun e W' ⟨he, bel⟩ => ?_
  subst he
  exact ⟨_, rfl, _, _, _, [], _, [], hW', trodAll_mk1 (shut_bool Tryd.underlying4 _), (trodAll_cons_mk (Below.trod laidOut (by kernel_rfl) (of_decide_eq_true (by kernel_rfl)) k0 bel lt0) trodAll_mk0), rfl, bel.frame _, fun h => by cases h⟩
theorem over : Rows.jotBackRow.holds Tryd.pinned (OpenSpec.ofChange Rows.jotBackSpec) :=
  OpenClaim.holds_of_wide 3 Tryd.f3 rfl rfl rfl rfl rfl rfl rfl ⟨rfl, rfl, rfl, rfl, rfl⟩ rfl rfl rfl rfl rfl (by kernel_rfl) Tryd.func3 (by kernel_rfl)
    (of_decide_eq_true (by kernel_rfl)) (by unfold Func.isWrapper; first | (rw [if_pos (by decide +kernel)]; kernel_rfl) | (rw [if_neg (by decide +kernel)]; exact ⟨rfl, rfl⟩))
    (fun os started H enc _ => lifted os started H enc)
end Go.Proofs.YtfaahjbkdlkmjaaDoor.jotBack
namespace Go.Proofs.YtfaahjbkdlkmjaaDoor
open Go
theorem jotBack_holds : Rows.JotBackCardSaid :=
  Claim7.holds_tied_plain_at .later [] [.data, .data, .data, .data, .pinned] true (true, "193d18a973ccd5499482851a4275e0123b01a8fbf369bc5270306a85cf2a1fbd") true
    jotBack.over (fun _ h => by cases h) (by kernel_rfl) (fun _ h => by cases h) jotBack_row_tie rfl ⟨rfl, rfl⟩ (by kernel_rfl) rfl
    (fun f fn hf hfn => by
      obtain rfl : f = 3 := Option.some.inj ((show Tryd.prog.funcNamed Rows.jotBackRow.func = some 3 by kernel_rfl).symm.trans hf) |>.symm
      obtain rfl : fn = Tryd.f3 := (Option.some.inj (Tryd.func3.symm.trans hfn)).symm
      exact ⟨by kernel_rfl, fun j t ht => by
        rw [Tryd.params3] at ht
        have h3 : t = 25 := by
          rcases j with _ | j
          · simpa using ht.symm
          · simp at ht
        subst h3
        exact (show Tryd.prog.wantsStandIn 25 = false by kernel_rfl)⟩)
    (by kernel_rfl)
end Go.Proofs.YtfaahjbkdlkmjaaDoor
