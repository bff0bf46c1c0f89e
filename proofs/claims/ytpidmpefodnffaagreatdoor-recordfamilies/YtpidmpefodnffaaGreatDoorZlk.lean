import Derived.Test.YtpidmpefodnffaaGreatDoorLof
import Derived.Test.YtpidmpefodnffaaGreatDoorTie
import Derived.Test.YtpidmpefodnffaaGreatDoorCards
import Derived.Test.YtpidmpefodnffaaGreatDoorZlj
import Derived.SevenTiedAt
namespace Go.Proofs.YtpidmpefodnffaaGreatDoor
open Go Go.ChangeShapes Go.WideShapes Go.ChangeAt
set_option maxRecDepth 20000 in
/-- Texts within a struct, within reach. -/
theorem open_list2 {H : Type} {enc : TypeId × Value → H} {W : World} {v : Value} {fuel : Nat} {y : DataW H × List MemPlace} {ts : List TypeId} {ds : List (DataW H)} {j : Nat} (hf : DataW.trod enc Tryz.prog W 0 (fun _ => true) true fuel 22 [v] = some y)
    (ht : ts[j]? = some 22) (hd : ds[j]? = some y.1) (hsz : (DataW.weightsEach Tryz.prog ts ds).all (· ≤ reachBytes) = true) :
    ∃ (a : Option Addr) (l : List Bs) (cap : Nat), v = .slice a l.length cap ∧ Sts W a l.length l ∧ l.length ≤ 8796093022100 ∧ Lns l ∧ l.length ≤ cap ∧ (a = none → cap = 0) := by
  rcases open_strings Tryz.underlying22 Tryz.underlying9 cells9 hf with ⟨hcs, _⟩ | ⟨x, len, c, ss, hcs, _, hl, hm, hss, hx, hel, hmx⟩
  · simp at hcs
    subst hcs
    exact ⟨none, [], 0, rfl, Sts.nil _ _, by simp, (fun j => by simp), by simp, fun _ => rfl⟩
  · simp at hcs
    subst hcs
    simp only [if_true] at hss
    have hd' : y.1 = .slice (strs (ss.take len)) (strs (ss.drop len)) := congrArg Prod.fst hx
    rw [hd'] at hd
    have h1 := sized_slice hsz ht hd Tryz.underlying22
    rw [bytes9] at h1
    have hlen : (ss.take len).length = len := by rw [List.length_take]; omega
    have hl2 : ((ss.take len).map fun s => s.data.toList).length = len := by rw [List.length_map, hlen]
    refine ⟨some x, (ss.take len).map fun s => s.data.toList, c, by rw [hl2], ⟨rfl, fun h0 => ?_⟩, ?_, ?_, by omega, fun e => by cases e⟩
    · rw [hl2] at h0 ⊢
      obtain ⟨b, off, spot⟩ := x
      have hspot : spot = none := by simpa [Addr.add] using World.cell?_spot (hel 0 (by omega))
      subst hspot
      refine ⟨b, off, rfl, fun k hk => ?_⟩
      have e0 := hel k (by omega)
      rw [WideShapes.add_plain] at e0
      rw [e0]
      have hk' : k < ss.length := by omega
      simp [hk, hk']
    · rw [hl2]
      have hr : reachBytes = 140737488351232 := rfl
      simp [strs] at h1
      omega
    · intro k
      by_cases hk : k < len
      · have hk' : k < ss.length := by omega
        have := hmx ss[k] (List.getElem_mem hk')
        unfold maxLen at this
        simpa [hk, hk'] using this
      · rw [List.getD_eq_getElem?_getD, List.getElem?_eq_none (by rw [hl2]; omega)]
        simp
theorem cells40z : Tryz.prog.cellsOf 40 = 14 := by kernel_rfl
set_option maxRecDepth 20000 in
theorem open_family2 {H : Type} {enc : TypeId × Value → H} {W : World} {v : Value} {base : Nat} {d : DataW H} {ps : List MemPlace} {ts : List TypeId} {ds : List (DataW H)} {j : Nat} (hval : Value.okWide Tryz.prog W .any base 40 v)
    (h : DataW.Trod enc Tryz.prog W 0 (fun _ => true) true 40 v d ps) (ht : ts[j]? = some 40) (hd : ds[j]? = some d) (hsz : (DataW.weightsEach Tryz.prog ts ds).all (· ≤ reachBytes) = true) :
    ∃ (id9 : Int) (cl : Bs) (su : Bs) (va : Option Addr) (vc : Nat) (sc : List Bs) (cr : Int) (us : Int) (idl : Int) (ab : Int) (gr : Int) (ge : Int) (tk9 : Int) (st : Int) (en : Int) (co : Int), v = .agg #[I id9, S cl, S su, .slice va sc.length vc, I cr, I us, I idl, I ab, I gr, I ge, I tk9, I st, I en, I co] ∧ cl.length ≤ 9223372036854775807 ∧ su.length ≤ 9223372036854775807 ∧ Sts W va sc.length sc ∧ sc.length ≤ 8796093022100 ∧ Lns sc ∧ (va = none → vc = 0) := by
  obtain ⟨cs, rfl, hc⟩ := okWide_struct Tryz.underlying40 hval
  rw [cells40z] at hc
  obtain ⟨fuel, hf⟩ := h
  obtain ⟨xs, k, hk, hxy, _, hxl, hfs⟩ := DataW.trod_struct Tryz.underlying40 hf
  have hd2 : d = .agg (xs.map (·.1)) := congrArg Prod.fst hxy
  subst hd2
  have hs2 := sized_struct hsz ht hd Tryz.underlying40
  obtain ⟨l⟩ := cs
  match xs, hxl, l, hc with
  | [y0, y1, y2, y3, y4, y5, y6, y7, y8, y9, y10, y11, y12, y13], _, [v0, v1, v2, v3, v4, v5, v6, v7, v8, v9, v10, v11, v12, v13], _ =>
    have g0 := hfs 0 _ rfl
    have g1 := hfs 1 _ rfl
    have g2 := hfs 2 _ rfl
    have g3 := hfs 3 _ rfl
    have g4 := hfs 4 _ rfl
    have g5 := hfs 5 _ rfl
    have g6 := hfs 6 _ rfl
    have g7 := hfs 7 _ rfl
    have g8 := hfs 8 _ rfl
    have g9 := hfs 9 _ rfl
    have g10 := hfs 10 _ rfl
    have g11 := hfs 11 _ rfl
    have g12 := hfs 12 _ rfl
    have g13 := hfs 13 _ rfl
    simp [cells9, cells3, cells22, Value.cells] at g0 g1 g2 g3 g4 g5 g6 g7 g8 g9 g10 g11 g12 g13
    obtain ⟨z0, rfl⟩ := open_int g0
    obtain ⟨z1, rfl, b1⟩ := open_text g1
    obtain ⟨z2, rfl, b2⟩ := open_text g2
    obtain ⟨va, l3, vc, rfl, e1, e2, e3, e4, e5⟩ := open_list2 (j := 3) g3 rfl rfl hs2
    obtain ⟨z4, rfl⟩ := open_int g4
    obtain ⟨z5, rfl⟩ := open_int g5
    obtain ⟨z6, rfl⟩ := open_int g6
    obtain ⟨z7, rfl⟩ := open_int g7
    obtain ⟨z8, rfl⟩ := open_int g8
    obtain ⟨z9, rfl⟩ := open_int g9
    obtain ⟨z10, rfl⟩ := open_int g10
    obtain ⟨z11, rfl⟩ := open_int g11
    obtain ⟨z12, rfl⟩ := open_int g12
    obtain ⟨z13, rfl⟩ := open_int g13
    exact ⟨z0, z1, z2, va, vc, l3, z4, z5, z6, z7, z8, z9, z10, z11, z12, z13, rfl, b1, b2, e1, e2, e3, e5⟩
end Go.Proofs.YtpidmpefodnffaaGreatDoor
namespace Go.Proofs.YtpidmpefodnffaaGreatDoor.recordFamilies
open Go Go.ChangeShapes Go.WideShapes Go.ChangeAt Go.RowKit
open Go.ChangeMaps (open_string shut_string)
set_option linter.unusedVariables false
set_option maxRecDepth 100000 in
theorem lifted (os : Os) (started : os.Started) (H : Type) (enc : TypeId × Value → H) :
    ReturnsInHanded {} Tryz.checked os 4 .any (fun w args => (Rows.recordFamiliesSpec.pre enc Tryz.prog Tryz.f4 [] false w args ∧ laidMetH Tryz.prog laidL w) ∧ sizedMet enc Tryz.prog Tryz.f4 (OpenSpec.ofChange Rows.recordFamiliesSpec) false w args)
      (Rows.recordFamiliesSpec.post enc Tryz.prog Tryz.f4 false true false false) := by
  refine returnsInHanded_of_change_and (C := Tryz.checked) (X := fun w _ => laidMetH Tryz.prog laidL w) (fun _ _ _ hh h => h.of_heap hh) own started (by kernel_rfl) Tryz.func4
    (ChangeSpec.witness_at (enc := enc) (C := Tryz.checked) (os := os) (X := fun w _ => laidMetH Tryz.prog laidL w) false ({ World.holding Tryz.prog os ⟨#[], #[], []⟩ with heap := (World.holding Tryz.prog os ⟨#[], #[], []⟩).heap.modify 0 (fun | .cells _ t frozen => .cells #[.iface 250 (.agg #[.pointer (some ⟨4, 223, none⟩)])] t frozen | o => o) } : World) #[.agg #[.int .i64 0, .string ByteArray.empty, .string ByteArray.empty, .slice none 0 0, .int .i64 0, .int .i64 0, .int .i64 0, .int .i64 0, .int .i64 0, .int .i64 0, .int .i64 0, .int .i64 0, .int .i64 0, .int .i64 0], .agg #[.int .i64 0, .string ByteArray.empty, .string ByteArray.empty, .slice none 0 0, .int .i64 0, .int .i64 0, .int .i64 0, .int .i64 0, .int .i64 0, .int .i64 0, .int .i64 0, .int .i64 0, .int .i64 0, .int .i64 0]] 8 rfl (by kernel_rfl) (by kernel_rfl) (by kernel_rfl) (by kernel_rfl) (by kernel_rfl) (laidWorld_met os _)) ?_
  intro W base args ds gs before hval0 hW _ hsz0 hL _
  have hval : ∀ (j : Nat) t v, Tryz.f4.params[j]? = some t → args[j]? = some v → Value.okWide Tryz.prog W .any base t v := hval0
  have hsz : (DataW.weightsEach Tryz.prog (Tryz.f4.params.toList ++ Rows.recordFamiliesSpec.plain.varTypes Tryz.prog) (ds ++ gs)).all (· ≤ reachBytes) = true := hsz0
  clear hsz0
  have hW' := hW
  obtain ⟨p, q, hA0, hV, rfl, hfz, hnd⟩ := hW
  have hA : DataW.TrodAll enc Tryz.prog W 0 (fun _ => true) true Tryz.f4.params.toList args.toList ds p := hA0
  rw [Tryz.params4] at hA hval hsz
  obtain ⟨v0, vs0, d0, ds0, p0, q0, hargs, rfl, rfl, h0, r0⟩ := trodAll_cons hA
  obtain ⟨v1, vs1, d1, ds1, p1, q1, rfl, rfl, rfl, h1, r1⟩ := trodAll_cons r0
  obtain ⟨rfl, rfl, rfl⟩ := trodAll_nil r1
  obtain rfl : args = #[v0, v1] := by cases args; simp_all
  obtain ⟨rfl, rfl⟩ := trodVars_none hV
  have k0 := h0
  have lt0 : ∀ x ∈ p0, x.block < W.heap.size := by obtain ⟨m, hm⟩ := k0; exact DataW.trod_lt m _ _ _ hm
  have k1 := h1
  have lt1 : ∀ x ∈ p1, x.block < W.heap.size := by obtain ⟨m, hm⟩ := k1; exact DataW.trod_lt m _ _ _ hm
  obtain ⟨id91, cl1, su1, va1, vc1, sc1, cr1, us1, idl1, ab1, gr1, ge1, tk91, st1, en1, co1, rfl, hcl1, hsu1, hsc1, hsl1, hln1, hno1⟩ := open_family2 (j := 0) (hval 0 40 v0 rfl rfl) h0 rfl rfl hsz
  obtain ⟨id92, cl2, su2, va2, vc2, sc2, cr2, us2, idl2, ab2, gr2, ge2, tk92, st2, en2, co2, rfl, hcl2, hsu2, hsc2, hsl2, hln2, hno2⟩ := open_family2 (j := 1) (hval 1 40 v1 rfl rfl) h1 rfl rfl hsz
  clear hA0 hval0
  refine (recordFamilies_any id91 cl1 su1 va1 vc1 sc1 cr1 us1 idl1 ab1 gr1 ge1 tk91 st1 en1 co1 id92 cl2 su2 va2 vc2 sc2 cr2 us2 idl2 ab2 gr2 ge2 tk92 st2 en2 co2 W hcl1 hsu1 hsc1 hsl1 hln1 hno1 hcl2 hsu2 hsc2 hsl2 hln2 hno2).mono fun e W' ⟨he, bel⟩ => ?_
  subst he
  exact ⟨_, rfl, _, _, _, [], _, [], hW', trodAll_mk1 (shut_bool Tryz.underlying4 _), (trodAll_cons_mk (Below.trod laidOut (by kernel_rfl) (of_decide_eq_true (by kernel_rfl)) k0 bel lt0) (trodAll_cons_mk (Below.trod laidOut (by kernel_rfl) (of_decide_eq_true (by kernel_rfl)) k1 bel lt1) trodAll_mk0)), rfl, bel.frame _, fun h => by cases h⟩
theorem over : Rows.recordFamiliesRow.holds Tryz.pinned (OpenSpec.ofChange Rows.recordFamiliesSpec) :=
  OpenClaim.holds_of_wide 4 Tryz.f4 rfl rfl rfl rfl rfl rfl rfl ⟨rfl, rfl, rfl, rfl, rfl⟩ rfl rfl rfl rfl rfl (by kernel_rfl) Tryz.func4 (by kernel_rfl)
    (of_decide_eq_true (by kernel_rfl)) (by unfold Func.isWrapper; first | (rw [if_pos (by decide +kernel)]; kernel_rfl) | (rw [if_neg (by decide +kernel)]; exact ⟨rfl, rfl⟩))
    (fun os started H enc _ => lifted os started H enc)
end Go.Proofs.YtpidmpefodnffaaGreatDoor.recordFamilies
namespace Go.Proofs.YtpidmpefodnffaaGreatDoor
open Go
theorem recordFamilies_holds : Rows.RecordFamiliesCardSaid :=
  Claim7.holds_tied_plain_at .later [] [.handle] true (true, "ecf484d20e7a1038a3651dff2190ef167a74c7d665adc97d2589f4a11f0bbaab") true
    recordFamilies.over (fun _ h => by cases h) (by kernel_rfl) (fun _ h => by cases h) recordFamilies_row_tie rfl ⟨rfl, rfl⟩ (by kernel_rfl) rfl
    (fun f fn hf hfn => by
      obtain rfl : f = 4 := Option.some.inj ((show Tryz.prog.funcNamed Rows.recordFamiliesRow.func = some 4 by kernel_rfl).symm.trans hf) |>.symm
      obtain rfl : fn = Tryz.f4 := (Option.some.inj (Tryz.func4.symm.trans hfn)).symm
      exact ⟨by kernel_rfl, fun j t ht => by
        rw [Tryz.params4] at ht
        rcases j with _ | _ | j
        · obtain rfl : t = 40 := by simpa using ht.symm
          exact (show Tryz.prog.wantsStandIn 40 = false by kernel_rfl)
        · obtain rfl : t = 40 := by simpa using ht.symm
          exact (show Tryz.prog.wantsStandIn 40 = false by kernel_rfl)
        · simp at ht⟩)
    (by kernel_rfl)
end Go.Proofs.YtpidmpefodnffaaGreatDoor
