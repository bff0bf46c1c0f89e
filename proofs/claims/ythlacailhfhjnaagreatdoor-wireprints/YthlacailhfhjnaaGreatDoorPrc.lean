import Derived.Test.YthlacailhfhjnaaGreatDoorLify
import Derived.Test.YthlacailhfhjnaaGreatDoorTie
import Derived.Test.YthlacailhfhjnaaGreatDoorCards
import Derived.Test.YthlacailhfhjnaaGreatDoorWfp
import Derived.SevenTiedAt
namespace Go.Proofs.YthlacailhfhjnaaGreatDoor.wirePrints
open Go Go.ChangeShapes Go.WideShapes Go.ChangeAt Go.RowKit
open Go.ChangeMaps (open_string shut_string)
set_option linter.unusedVariables false
set_option maxRecDepth 100000 in
theorem lifted (os : Os) (started : os.Started) (H : Type) (enc : TypeId × Value → H) :
    ReturnsInHanded {} Tryz.checked os 3 .any (fun w args => (Rows.wirePrintsSpec.pre enc Tryz.prog Tryz.f3 [] false w args ∧ laidMetH Tryz.prog laidL w) ∧ sizedMet enc Tryz.prog Tryz.f3 (OpenSpec.ofChange Rows.wirePrintsSpec) false w args)
      (Rows.wirePrintsSpec.post enc Tryz.prog Tryz.f3 false true false false) := by
  refine lift (L := laidL) rfl started (by kernel_rfl) Tryz.func3
    (ChangeSpec.witness_at (enc := enc) (C := Tryz.checked) (os := os) (X := fun w _ => laidMetH Tryz.prog laidL w) false ({ World.holding Tryz.prog os ⟨#[synB, rngB], #[], []⟩ with heap := (((((((World.holding Tryz.prog os ⟨#[synB, rngB], #[], []⟩).heap.modify 1 (putC (flat2 Rows.laid_internal_strconv_uint64pow10))).modify 2 (putC errS)).modify 3 (putC errR)).modify 4 (putC (flat2 Rows.laid_math_bits_deBruijn32tab))).modify 5 (putC (flat2 Rows.laid_math_bits_deBruijn64tab))).modify 6 (putC (flat2 Rows.laid_unicode_utf8_first))).modify 7 (putC (flat2 Rows.laid_unicode_utf8_acceptRanges)) } : World) #[.agg #[.string ByteArray.empty, .string ByteArray.empty, .slice none 0 0, .string ByteArray.empty], .agg #[.int .i64 0, .slice none 0 0, .string ByteArray.empty], .int .i64 0, .string ByteArray.empty] 8 rfl (by kernel_rfl) (by kernel_rfl) (by kernel_rfl) (by kernel_rfl) (by kernel_rfl) (wit_met os _)) ?_
  intro W base args ds gs before hval0 hW hsz0 hE
  have hval : ∀ (j : Nat) t v, Tryz.f3.params[j]? = some t → args[j]? = some v → Value.okWide Tryz.prog W .any base t v := hval0
  have hsz : (DataW.weightsEach Tryz.prog (Tryz.f3.params.toList ++ Rows.wirePrintsSpec.plain.varTypes Tryz.prog) (ds ++ gs)).all (· ≤ reachBytes) = true := hsz0
  clear hsz0
  have hW' := hW
  obtain ⟨p, q, hA0, hV, rfl, hfz, hnd⟩ := hW
  have hA : DataW.TrodAll enc Tryz.prog W 0 (fun _ => true) true Tryz.f3.params.toList args.toList ds p := hA0
  rw [Tryz.params3] at hA hval hsz
  obtain ⟨v0, vs0, d0, ds0, p0, q0, hargs, rfl, rfl, h0, r0⟩ := trodAll_cons hA
  obtain ⟨v1, vs1, d1, ds1, p1, q1, rfl, rfl, rfl, h1, r1⟩ := trodAll_cons r0
  obtain ⟨v2, vs2, d2, ds2, p2, q2, rfl, rfl, rfl, h2, r2⟩ := trodAll_cons r1
  obtain ⟨v3, vs3, d3, ds3, p3, q3, rfl, rfl, rfl, h3, r3⟩ := trodAll_cons r2
  obtain ⟨rfl, rfl, rfl⟩ := trodAll_nil r3
  obtain rfl : args = #[v0, v1, v2, v3] := by cases args; simp_all
  obtain ⟨rfl, rfl⟩ := trodVars_none hV
  have k0 := h0
  have k1 := h1
  have lt0 : ∀ x ∈ p0, x.block < W.heap.size := by obtain ⟨m, hm⟩ := k0; exact DataW.trod_lt m _ _ _ hm
  have lt1 : ∀ x ∈ p1, x.block < W.heap.size := by obtain ⟨m, hm⟩ := k1; exact DataW.trod_lt m _ _ _ hm
  obtain ⟨m, a1, cap1, rfl, c1, f1, n1, l1, m1, m2, m3⟩ := open_message2 (hval 0 24 v0 rfl rfl) h0 (fun x hx => of_decide_eq_true (List.all_eq_true.1 hsz _ (DataW.weights_mem_each (j := 0) rfl rfl x hx)))
  obtain ⟨st, a0, qs, cap0, b0, rfl, hst, c0, f0, n0, l0, w0⟩ := open_answer2 (hval 1 26 v1 rfl rfl) h1 (fun x hx => of_decide_eq_true (List.all_eq_true.1 hsz _ (DataW.weights_mem_each (j := 1) rfl rfl x hx)))
  obtain ⟨a3, rfl, rfl, rfl, w3⟩ := open_int Tryz.underlying3 (hval 2 3 v2 rfl rfl) h2
  obtain ⟨a2, rfl, rfl, rfl, w2⟩ := open_string Tryz.underlying9 (hval 3 9 v3 rfl rfl) h3
  have s2 : a2.data.toList.length ≤ 140737488351232 := sized_string hsz (j := 3) rfl rfl
  clear hA0 hval0
  have hw : Calls Tryz.prog 3 #[.agg #[S m.m, S m.p, .slice a1 m.hs.length cap1, S m.b], .agg #[.int .i64 st, .slice a0 qs.length cap0, S b0], .int .i64 a3, .string a2] W fun e w' => e = .returned (.bool true) ∧ Below W.heap.size W w' := by
    have h := wirePrints_any m a1 cap1 st qs b0 a0 cap0 a3 a2.data.toList W hE f1 c1 l1 n1 m1 m2 m3 f0 c0 l0 n0 w0 hst.1 hst.2 (i64_of w3).1 (i64_of w3).2 s2
    have e : S a2.data.toList = .string a2 := by simp [S]
    rw [e] at h
    exact h
  refine hw.mono fun e W' ⟨he, bel⟩ => ?_
  subst he
  exact ⟨_, rfl, _, _, _, [], _, [], hW', trodAll_mk1 (shut_bool Tryz.underlying4 _), (trodAll_cons_mk (Below.trod laidOut (by kernel_rfl) (of_decide_eq_true (by kernel_rfl)) k0 bel lt0) (trodAll_cons_mk (Below.trod laidOut (by kernel_rfl) (of_decide_eq_true (by kernel_rfl)) k1 bel lt1) (trodAll_cons_mk (shut_int Tryz.underlying3 w3) (trodAll_cons_mk (shut_string Tryz.underlying9 w2) trodAll_mk0)))), rfl, bel.frame _, fun h => by cases h⟩
theorem over : Rows.wirePrintsRow.holds Tryz.pinned (OpenSpec.ofChange Rows.wirePrintsSpec) :=
  OpenClaim.holds_of_wide 3 Tryz.f3 rfl rfl rfl rfl rfl rfl rfl ⟨rfl, rfl, rfl, rfl, rfl⟩ rfl rfl rfl rfl rfl (by kernel_rfl) Tryz.func3 (by kernel_rfl)
    (of_decide_eq_true (by kernel_rfl)) (by unfold Func.isWrapper; first | (rw [if_pos (by decide +kernel)]; kernel_rfl) | (rw [if_neg (by decide +kernel)]; exact ⟨rfl, rfl⟩))
    (fun os started H enc _ => by
      have := lifted os started H enc
      unfold laidL at this
      exact this)
end Go.Proofs.YthlacailhfhjnaaGreatDoor.wirePrints
namespace Go.Proofs.YthlacailhfhjnaaGreatDoor
open Go
theorem wirePrints_holds : Rows.WirePrintsCardSaid :=
  Claim7.holds_tied_plain_at .later [] [.data, .data, .data, .data, .sentinel, .sentinel, .pinned] true (true, "63417e66a2c10f55d8f718bc86a1021b3ce859b4c971e976b5195b08fd6937cf") true
    wirePrints.over (fun _ h => by cases h) (by kernel_rfl) (fun _ h => by cases h) wirePrints_row_tie rfl ⟨rfl, rfl⟩ (by kernel_rfl) rfl
    (fun f fn hf hfn => by
      obtain rfl : f = 3 := Option.some.inj ((show Tryz.prog.funcNamed Rows.wirePrintsRow.func = some 3 by kernel_rfl).symm.trans hf) |>.symm
      obtain rfl : fn = Tryz.f3 := (Option.some.inj (Tryz.func3.symm.trans hfn)).symm
      exact ⟨by kernel_rfl, fun j t ht => by
        rw [Tryz.params3] at ht
        rcases j with _ | _ | _ | _ | j
        · obtain rfl : t = 24 := by simpa using ht.symm
          exact (show Tryz.prog.wantsStandIn 24 = false by kernel_rfl)
        · obtain rfl : t = 26 := by simpa using ht.symm
          exact (show Tryz.prog.wantsStandIn 26 = false by kernel_rfl)
        · obtain rfl : t = 3 := by simpa using ht.symm
          exact (show Tryz.prog.wantsStandIn 3 = false by kernel_rfl)
        · obtain rfl : t = 9 := by simpa using ht.symm
          exact (show Tryz.prog.wantsStandIn 9 = false by kernel_rfl)
        · simp at ht⟩)
    (by kernel_rfl)
end Go.Proofs.YthlacailhfhjnaaGreatDoor
