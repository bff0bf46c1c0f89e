import Derived.Test.YtmjaobddgaglhaaGreatDoorLof
import Derived.Test.YtmjaobddgaglhaaGreatDoorTie
import Derived.Test.YtmjaobddgaglhaaGreatDoorCards
import Derived.Test.YtmjaobddgaglhaaGreatDoorFmo
import Derived.Test.YtmjaobddgaglhaaGreatDoorFpg
import Derived.SevenTiedAt
namespace Go.Proofs.YtmjaobddgaglhaaGreatDoor
open Go Go.ChangeShapes Go.WideShapes Go.ChangeAt
theorem cells28 : Tryz.prog.cellsOf 28 = 28 := by kernel_rfl
theorem cells24b : Tryz.prog.cellsOf 24 = 14 := by kernel_rfl
theorem cells26b : Tryz.prog.cellsOf 26 = 9 := by kernel_rfl
set_option maxRecDepth 20000 in
theorem open_act {H : Type} {enc : TypeId × Value → H} {W : World} {v : Value} {base : Nat} {d : DataW H} {ps : List MemPlace} {ts : List TypeId} {ds : List (DataW H)} {j : Nat} (hval : Value.okWide Tryz.prog W .any base 28 v)
    (h : DataW.Trod enc Tryz.prog W 0 (fun _ => true) true 28 v d ps) (ht : ts[j]? = some 28) (hd : ds[j]? = some d) (hsz : (DataW.weightsEach Tryz.prog ts ds).all (· ≤ reachBytes) = true) :
    ∃ (id : Int) (cl : Bs) (su : Bs) (va : Option Addr) (vc : Nat) (sc : List Bs) (cr : Int) (us : Int) (idl : Int) (ab : Int) (gr : Int) (ge : Int) (tk : Int) (st : Int) (en : Int) (co : Int) (ti : Int) (fa : Int) (tg : Int) (ha : Bs) (mi : Int) (sp : Bool) (at9 : Int) (ne : Int) (se : Bs) (nx : Int) (nw : Int) (stt : Int) (re : Int) (s : Bs), v = .agg #[I id, S cl, S su, .slice va sc.length vc, I cr, I us, I idl, I ab, I gr, I ge, I tk, I st, I en, I co, I ti, I fa, I tg, S ha, I mi, .bool sp, I at9, I ne, S se, I nx, I nw, I stt, I re, S s] ∧ cl.length ≤ 9223372036854775807 ∧ su.length ≤ 9223372036854775807 ∧ s.length ≤ 9223372036854775807 ∧ Sts W va sc.length sc ∧ sc.length ≤ 8796093022100 ∧ Lns sc ∧ (va = none → vc = 0) := by
  obtain ⟨cs, rfl, hc⟩ := okWide_struct Tryz.underlying28 hval
  rw [cells28] at hc
  obtain ⟨fuel, hf⟩ := h
  obtain ⟨xs, k, hk, hxy, _, hxl, hfs⟩ := DataW.trod_struct Tryz.underlying28 hf
  have hd2 : d = .agg (xs.map (·.1)) := congrArg Prod.fst hxy
  subst hd2
  have hs2 := sized_struct hsz ht hd Tryz.underlying28
  obtain ⟨l⟩ := cs
  match xs, hxl, l, hc with
  | [y0, y1, y2, y3, y4, y5, y6], _, [v0, v1, v2, v3, v4, v5, v6, v7, v8, v9, v10, v11, v12, v13, v14, v15, v16, v17, v18, v19, v20, v21, v22, v23, v24, v25, v26, v27], _ =>
    have g0 := hfs 0 _ rfl
    have g1 := hfs 1 _ rfl
    have g2 := hfs 2 _ rfl
    have g3 := hfs 3 _ rfl
    have g4 := hfs 4 _ rfl
    have g5 := hfs 5 _ rfl
    have g6 := hfs 6 _ rfl
    simp [cells9, cells3, cells24b, cells26b, Value.cells] at g0 g1 g2 g3 g4 g5 g6
    obtain ⟨xs3, k3, hk3, hxy3, _, hxl3, hfs3⟩ := DataW.trod_struct Tryz.underlying24 g0
    have hd3 : y0.1 = .agg (xs3.map (·.1)) := congrArg Prod.fst hxy3
    have hs3 := sized_struct (j := 0) hs2 rfl (show _ = some (DataW.agg (xs3.map (·.1))) by rw [← hd3]; rfl) Tryz.underlying24
    obtain ⟨xs4, k4, hk4, hxy4, _, hxl4, hfs4⟩ := DataW.trod_struct Tryz.underlying26 g1
    match xs3, hxl3, hfs3, hs3, xs4, hxl4, hfs4 with
    | [x0, x1, x2, x3, x4, x5, x6, x7, x8, x9, x10, x11, x12, x13], _, hfs3, hs3, [w0, w1, w2, w3, w4, w5, w6, w7, w8], _, hfs4 =>
      have e0 := hfs3 0 _ rfl
      have e1 := hfs3 1 _ rfl
      have e2 := hfs3 2 _ rfl
      have e3 := hfs3 3 _ rfl
      have e4 := hfs3 4 _ rfl
      have e5 := hfs3 5 _ rfl
      have e6 := hfs3 6 _ rfl
      have e7 := hfs3 7 _ rfl
      have e8 := hfs3 8 _ rfl
      have e9 := hfs3 9 _ rfl
      have e10 := hfs3 10 _ rfl
      have e11 := hfs3 11 _ rfl
      have e12 := hfs3 12 _ rfl
      have e13 := hfs3 13 _ rfl
      have f0 := hfs4 0 _ rfl
      have f1 := hfs4 1 _ rfl
      have f2 := hfs4 2 _ rfl
      have f3 := hfs4 3 _ rfl
      have f4 := hfs4 4 _ rfl
      have f5 := hfs4 5 _ rfl
      have f6 := hfs4 6 _ rfl
      have f7 := hfs4 7 _ rfl
      have f8 := hfs4 8 _ rfl
      simp [cells9, cells3, cells4, cells22] at e0 e1 e2 e3 e4 e5 e6 e7 e8 e9 e10 e11 e12 e13 f0 f1 f2 f3 f4 f5 f6 f7 f8
      obtain ⟨z0, rfl⟩ := open_int e0
      obtain ⟨z1, rfl, b1⟩ := open_text e1
      obtain ⟨z2, rfl, b2⟩ := open_text e2
      obtain ⟨va, sc, vc, rfl, d1, d2, d3, d4, d5⟩ := open_list2 (j := 3) e3 rfl rfl hs3
      obtain ⟨z4, rfl⟩ := open_int e4
      obtain ⟨z5, rfl⟩ := open_int e5
      obtain ⟨z6, rfl⟩ := open_int e6
      obtain ⟨z7, rfl⟩ := open_int e7
      obtain ⟨z8, rfl⟩ := open_int e8
      obtain ⟨z9, rfl⟩ := open_int e9
      obtain ⟨z10, rfl⟩ := open_int e10
      obtain ⟨z11, rfl⟩ := open_int e11
      obtain ⟨z12, rfl⟩ := open_int e12
      obtain ⟨z13, rfl⟩ := open_int e13
      obtain ⟨k10, rfl⟩ := open_int f0
      obtain ⟨k11, rfl⟩ := open_int f1
      obtain ⟨k12, rfl⟩ := open_int f2
      obtain ⟨k13, rfl, bb3⟩ := open_text f3
      obtain ⟨k14, rfl⟩ := open_int f4
      obtain ⟨k15, rfl⟩ := open_truth f5
      obtain ⟨k16, rfl⟩ := open_int f6
      obtain ⟨k17, rfl⟩ := open_int f7
      obtain ⟨k18, rfl, bb8⟩ := open_text f8
      obtain ⟨n2, rfl⟩ := open_int g2
      obtain ⟨n3, rfl⟩ := open_int g3
      obtain ⟨n4, rfl⟩ := open_int g4
      obtain ⟨n5, rfl⟩ := open_int g5
      obtain ⟨n6, rfl, b6⟩ := open_text g6
      exact ⟨z0, z1, z2, va, vc, sc, z4, z5, z6, z7, z8, z9, z10, z11, z12, z13, k10, k11, k12, k13, k14, k15, k16, k17, k18, n2, n3, n4, n5, n6, rfl, b1, b2, b6, d1, d2, d3, d5⟩
end Go.Proofs.YtmjaobddgaglhaaGreatDoor
namespace Go.Proofs.YtmjaobddgaglhaaGreatDoor.familyActs
open Go Go.ChangeShapes Go.WideShapes Go.ChangeAt Go.RowKit
open Go.ChangeMaps (open_string shut_string)
set_option linter.unusedVariables false
set_option maxRecDepth 100000 in
theorem lifted (os : Os) (started : os.Started) (H : Type) (enc : TypeId × Value → H) :
    ReturnsInHanded {} Tryz.checked os 3 .any (fun w args => (Rows.familyActsSpec.pre enc Tryz.prog Tryz.f3 [] false w args ∧ laidMetH Tryz.prog laidL w) ∧ sizedMet enc Tryz.prog Tryz.f3 (OpenSpec.ofChange Rows.familyActsSpec) false w args)
      (Rows.familyActsSpec.post enc Tryz.prog Tryz.f3 false true false false) := by
  refine returnsInHanded_of_change_and (C := Tryz.checked) (X := fun w _ => laidMetH Tryz.prog laidL w) (fun _ _ _ hh h => h.of_heap hh) own started (by kernel_rfl) Tryz.func3
    (ChangeSpec.witness_at (enc := enc) (C := Tryz.checked) (os := os) (X := fun w _ => laidMetH Tryz.prog laidL w) false ({ World.holding Tryz.prog os ⟨#[], #[], []⟩ with heap := (World.holding Tryz.prog os ⟨#[], #[], []⟩).heap.modify 0 (fun | .cells _ t frozen => .cells #[.iface 212 (.agg #[.pointer (some ⟨2, 159, none⟩)])] t frozen | o => o) } : World) #[.agg #[.int .i64 0, .string ByteArray.empty, .string ByteArray.empty, .slice none 0 0, .int .i64 0, .int .i64 0, .int .i64 0, .int .i64 0, .int .i64 0, .int .i64 0, .int .i64 0, .int .i64 0, .int .i64 0, .int .i64 0, .int .i64 0, .int .i64 0, .int .i64 0, .string ByteArray.empty, .int .i64 0, .bool false, .int .i64 0, .int .i64 0, .string ByteArray.empty, .int .i64 0, .int .i64 0, .int .i64 0, .int .i64 0, .string ByteArray.empty]] 8 rfl (by kernel_rfl) (by kernel_rfl) (by kernel_rfl) (by kernel_rfl) (by kernel_rfl) (laidWorld_met os _)) ?_
  intro W base args ds gs before hval0 hW _ hsz0 hL _
  have hval : ∀ (j : Nat) t v, Tryz.f3.params[j]? = some t → args[j]? = some v → Value.okWide Tryz.prog W .any base t v := hval0
  have hsz : (DataW.weightsEach Tryz.prog (Tryz.f3.params.toList ++ Rows.familyActsSpec.plain.varTypes Tryz.prog) (ds ++ gs)).all (· ≤ reachBytes) = true := hsz0
  clear hsz0
  have hW' := hW
  obtain ⟨p, q, hA0, hV, rfl, hfz, hnd⟩ := hW
  have hA : DataW.TrodAll enc Tryz.prog W 0 (fun _ => true) true Tryz.f3.params.toList args.toList ds p := hA0
  rw [Tryz.params3] at hA hval hsz
  obtain ⟨v0, vs0, d0, ds0, p0, q0, hargs, rfl, rfl, h0, r0⟩ := trodAll_cons hA
  obtain ⟨rfl, rfl, rfl⟩ := trodAll_nil r0
  obtain rfl : args = #[v0] := by cases args; simp_all
  obtain ⟨rfl, rfl⟩ := trodVars_none hV
  have k0 := h0
  have lt0 : ∀ x ∈ p0, x.block < W.heap.size := by obtain ⟨m, hm⟩ := k0; exact DataW.trod_lt m _ _ _ hm
  obtain ⟨id, cl, su, va, vc, sc, cr, us, idl, ab, gr, ge, tk, st, en, co, ti, fa, tg, ha, mi, sp, at9, ne, se, nx, nw, stt, re, s, rfl, a1, a2, a3, a4, a5, a6, a7⟩ := open_act (j := 0) (hval 0 28 v0 rfl rfl) h0 rfl rfl hsz
  clear hA0 hval0
  refine (familyActs_any id cl su va vc sc cr us idl ab gr ge tk st en co ti fa tg ha mi sp at9 ne se nx nw stt re s W a1 a2 a3 a4 a5 a6 a7).mono fun e W' ⟨he, bel⟩ => ?_
  subst he
  exact ⟨_, rfl, _, _, _, [], _, [], hW', trodAll_mk1 (shut_bool Tryz.underlying4 _), (trodAll_cons_mk (Below.trod laidOut (by kernel_rfl) (of_decide_eq_true (by kernel_rfl)) k0 bel lt0) trodAll_mk0), rfl, bel.frame _, fun h => by cases h⟩
theorem over : Rows.familyActsRow.holds Tryz.pinned (OpenSpec.ofChange Rows.familyActsSpec) :=
  OpenClaim.holds_of_wide 3 Tryz.f3 rfl rfl rfl rfl rfl rfl rfl ⟨rfl, rfl, rfl, rfl, rfl⟩ rfl rfl rfl rfl rfl (by kernel_rfl) Tryz.func3 (by kernel_rfl)
    (of_decide_eq_true (by kernel_rfl)) (by unfold Func.isWrapper; first | (rw [if_pos (by decide +kernel)]; kernel_rfl) | (rw [if_neg (by decide +kernel)]; exact ⟨rfl, rfl⟩))
    (fun os started H enc _ => lifted os started H enc)
end Go.Proofs.YtmjaobddgaglhaaGreatDoor.familyActs
namespace Go.Proofs.YtmjaobddgaglhaaGreatDoor
open Go
theorem familyActs_holds : Rows.FamilyActsCardSaid :=
  Claim7.holds_tied_plain_at .later [] [.handle] true (true, "c02353873a91e86474cf7ad3902faf55b575be4da8b608c0392197ab7d3a01ca") true
    familyActs.over (fun _ h => by cases h) (by kernel_rfl) (fun _ h => by cases h) familyActs_row_tie rfl ⟨rfl, rfl⟩ (by kernel_rfl) rfl
    (fun f fn hf hfn => by
      obtain rfl : f = 3 := Option.some.inj ((show Tryz.prog.funcNamed Rows.familyActsRow.func = some 3 by kernel_rfl).symm.trans hf) |>.symm
      obtain rfl : fn = Tryz.f3 := (Option.some.inj (Tryz.func3.symm.trans hfn)).symm
      exact ⟨by kernel_rfl, fun j t ht => by
        rw [Tryz.params3] at ht
        rcases j with _ | j
        · obtain rfl : t = 28 := by simpa using ht.symm
          exact (show Tryz.prog.wantsStandIn 28 = false by kernel_rfl)
        · simp at ht⟩)
    (by kernel_rfl)
end Go.Proofs.YtmjaobddgaglhaaGreatDoor
