import Derived.Test.YthlacailhfhjnaaGreatDoorLifh
import Derived.Test.YthlacailhfhjnaaGreatDoorTie
import Derived.Test.YthlacailhfhjnaaGreatDoorCards
import Derived.SevenTiedAt
namespace Go.Proofs.YthlacailhfhjnaaGreatDoor.wireFeeds
open Go Go.ChangeShapes Go.WideShapes Go.ChangeAt Go.RowKit
open Go.ChangeMaps (open_string shut_string)
set_option linter.unusedVariables false
set_option maxRecDepth 100000 in
theorem lifted (os : Os) (started : os.Started) (H : Type) (enc : TypeId × Value → H) :
    ReturnsInHanded {} Tryz.checked os 4 .any (fun w args => (Rows.wireFeedsSpec.pre enc Tryz.prog Tryz.f4 [] false w args ∧ laidMetH Tryz.prog laidL w) ∧ sizedMet enc Tryz.prog Tryz.f4 (OpenSpec.ofChange Rows.wireFeedsSpec) false w args)
      (Rows.wireFeedsSpec.post enc Tryz.prog Tryz.f4 false true false false) := by
  refine lift (L := laidL) rfl started (by kernel_rfl) Tryz.func4
    (ChangeSpec.witness_at (enc := enc) (C := Tryz.checked) (os := os) (X := fun w _ => laidMetH Tryz.prog laidL w) false ({ World.holding Tryz.prog os ⟨#[synB, rngB], #[], []⟩ with heap := (((((((World.holding Tryz.prog os ⟨#[synB, rngB], #[], []⟩).heap.modify 1 (putC (flat2 Rows.laid_internal_strconv_uint64pow10))).modify 2 (putC errS)).modify 3 (putC errR)).modify 4 (putC (flat2 Rows.laid_math_bits_deBruijn32tab))).modify 5 (putC (flat2 Rows.laid_math_bits_deBruijn64tab))).modify 6 (putC (flat2 Rows.laid_unicode_utf8_first))).modify 7 (putC (flat2 Rows.laid_unicode_utf8_acceptRanges)) } : World) #[.slice none 0 0] 8 rfl (by kernel_rfl) (by kernel_rfl) (by kernel_rfl) (by kernel_rfl) (by kernel_rfl) (wit_met os _)) ?_
  intro W base args ds gs before hval0 hW hsz0 hE
  have hval : ∀ (j : Nat) t v, Tryz.f4.params[j]? = some t → args[j]? = some v → Value.okWide Tryz.prog W .any base t v := hval0
  have hsz : (DataW.weightsEach Tryz.prog (Tryz.f4.params.toList ++ Rows.wireFeedsSpec.plain.varTypes Tryz.prog) (ds ++ gs)).all (· ≤ reachBytes) = true := hsz0
  clear hsz0
  have hW' := hW
  obtain ⟨p, q, hA0, hV, rfl, hfz, hnd⟩ := hW
  have hA : DataW.TrodAll enc Tryz.prog W 0 (fun _ => true) true Tryz.f4.params.toList args.toList ds p := hA0
  rw [Tryz.params4] at hA hval hsz
  obtain ⟨v0, vs0, d0, ds0, p0, q0, hargs, rfl, rfl, h0, r0⟩ := trodAll_cons hA
  obtain ⟨rfl, rfl, rfl⟩ := trodAll_nil r0
  obtain rfl : args = #[v0] := by cases args; simp_all
  obtain ⟨rfl, rfl⟩ := trodVars_none hV
  have lt0 : ∀ x ∈ p0, x.block < W.heap.size := by obtain ⟨m, hm⟩ := h0; exact DataW.trod_lt m _ _ _ hm
  have k0 := h0
  obtain ⟨a0, len0, cap0, rfl⟩ := okWide_slice Tryz.underlying39 (hval 0 39 v0 rfl rfl)
  obtain ⟨fuel, hf⟩ := h0
  obtain ⟨a1, qs, cap1, e1, hP, hn, hS, hI⟩ := open_pieces hf (fun x hx => of_decide_eq_true (List.all_eq_true.1 hsz _ (DataW.weights_mem_each (j := 0) rfl rfl x hx)))
  clear hA0 hval0
  rw [e1] at k0 hW' ⊢
  have hw : Calls Tryz.prog 4 #[.slice a1 qs.length cap1] W fun e w' => e = .returned (.bool true) ∧ Below W.heap.size W w' := wireFeeds_any qs a1 qs.length cap1 W hE hP hn hS hI
  refine hw.mono fun e W' ⟨he, bel⟩ => ?_
  subst he
  exact ⟨_, rfl, _, _, _, [], _, [], hW', trodAll_mk1 (shut_bool Tryz.underlying4 _), (trodAll_cons_mk (Below.trod laidOut (by kernel_rfl) (of_decide_eq_true (by kernel_rfl)) k0 bel lt0) trodAll_mk0), rfl, bel.frame _, fun h => by cases h⟩
theorem over : Rows.wireFeedsRow.holds Tryz.pinned (OpenSpec.ofChange Rows.wireFeedsSpec) :=
  OpenClaim.holds_of_wide 4 Tryz.f4 rfl rfl rfl rfl rfl rfl rfl ⟨rfl, rfl, rfl, rfl, rfl⟩ rfl rfl rfl rfl rfl (by kernel_rfl) Tryz.func4 (by kernel_rfl)
    (of_decide_eq_true (by kernel_rfl)) (by unfold Func.isWrapper; first | (rw [if_pos (by decide +kernel)]; kernel_rfl) | (rw [if_neg (by decide +kernel)]; exact ⟨rfl, rfl⟩))
    (fun os started H enc _ => by
      have := lifted os started H enc
      unfold laidL at this
      exact this)
end Go.Proofs.YthlacailhfhjnaaGreatDoor.wireFeeds
namespace Go.Proofs.YthlacailhfhjnaaGreatDoor
open Go
theorem wireFeeds_holds : Rows.WireFeedsCardSaid :=
  Claim7.holds_tied_plain_at .later [] [.data, .data, .data, .data, .sentinel, .sentinel, .pinned] true (true, "63417e66a2c10f55d8f718bc86a1021b3ce859b4c971e976b5195b08fd6937cf") true
    wireFeeds.over (fun _ h => by cases h) (by kernel_rfl) (fun _ h => by cases h) wireFeeds_row_tie rfl ⟨rfl, rfl⟩ (by kernel_rfl) rfl
    (fun f fn hf hfn => by
      obtain rfl : f = 4 := Option.some.inj ((show Tryz.prog.funcNamed Rows.wireFeedsRow.func = some 4 by kernel_rfl).symm.trans hf) |>.symm
      obtain rfl : fn = Tryz.f4 := (Option.some.inj (Tryz.func4.symm.trans hfn)).symm
      exact ⟨by kernel_rfl, fun j t ht => by
        rw [Tryz.params4] at ht
        rcases j with _ | j
        · obtain rfl : t = 39 := by simpa using ht.symm
          exact (show Tryz.prog.wantsStandIn 39 = false by kernel_rfl)
        · simp at ht⟩)
    (by kernel_rfl)
end Go.Proofs.YthlacailhfhjnaaGreatDoor
