import Derived.Test.YtmjaobddgaglhaaGreatDoorLof
import Derived.Test.YtmjaobddgaglhaaGreatDoorTie
import Derived.Test.YtmjaobddgaglhaaGreatDoorCards
import Derived.Test.YtmjaobddgaglhaaGreatDoorFmn
import Derived.SevenTiedAt
namespace Go.Proofs.YtmjaobddgaglhaaGreatDoor
open Go Go.ChangeShapes Go.WideShapes Go.ChangeAt
set_option maxRecDepth 20000 in
/-- Texts within a struct, within reach. -/
theorem open_list2 {H : Type} {enc : TypeId × Value → H} {W : World} {v : Value} {fuel : Nat} {y : DataW H × List MemPlace} {ts : List TypeId} {ds : List (DataW H)} {j : Nat} (hf : DataW.trod enc Tryz.prog W 0 (fun _ => true) true fuel 22 [v] = some y)
    (ht : ts[j]? = some 22) (hd : ds[j]? = some y.1) (hsz : (DataW.weightsEach Tryz.prog ts ds).all (· ≤ reachBytes) = true) :
    ∃ (a : Option Addr) (l : List Bs) (cap : Nat), v = .slice a l.length cap ∧ Sts W a l.length l ∧ l.length ≤ 8796093022100 ∧ Lns l ∧ l.length ≤ cap ∧ (a = none → cap = 0) := by
  rcases open_strings Tryz.underlying22 Tryz.underlying9 cells9 hf with ⟨hcs, _⟩ | ⟨x, len, c, ss, hcs, _, hl, hm, hss, hx, hel, hmx⟩
  · simp at hcs
    subst hcs
    exact ⟨none, [], 0, rfl, Sts.nil _ _, by simp, (fun j => by simp), by simp, fun _ => rfl⟩
  · simp at hcs
    subst hcs
    simp only [if_true] at hss
    have hd' : y.1 = .slice (strs (ss.take len)) (strs (ss.drop len)) := congrArg Prod.fst hx
    rw [hd'] at hd
    have h1 := sized_slice hsz ht hd Tryz.underlying22
    rw [bytes9] at h1
    have hlen : (ss.take len).length = len := by rw [List.length_take]; omega
    have hl2 : ((ss.take len).map fun s => s.data.toList).length = len := by rw [List.length_map, hlen]
    refine ⟨some x, (ss.take len).map fun s => s.data.toList, c, by rw [hl2], ⟨rfl, fun h0 => ?_⟩, ?_, ?_, by omega, fun e => by cases e⟩
    · rw [hl2] at h0 ⊢
      obtain ⟨b, off, spot⟩ := x
      have hspot : spot = none := by simpa [Addr.add] using World.cell?_spot (hel 0 (by omega))
      subst hspot
      refine ⟨b, off, rfl, fun k hk => ?_⟩
      have e0 := hel k (by omega)
      rw [WideShapes.add_plain] at e0
      rw [e0]
      have hk' : k < ss.length := by omega
      simp [hk, hk']
    · rw [hl2]
      have hr : reachBytes = 140737488351232 := rfl
      simp [strs] at h1
      omega
    · intro k
      by_cases hk : k < len
      · have hk' : k < ss.length := by omega
        have := hmx ss[k] (List.getElem_mem hk')
        unfold maxLen at this
        simpa [hk, hk'] using this
      · rw [List.getD_eq_getElem?_getD, List.getElem?_eq_none (by rw [hl2]; omega)]
        simp
theorem cells48 : Tryz.prog.cellsOf 48 = 11 := by kernel_rfl
theorem cells50 : Tryz.prog.cellsOf 50 = 17 := by kernel_rfl
set_option maxRecDepth 20000 in
theorem open_first {H : Type} {enc : TypeId × Value → H} {W : World} {v : Value} {base : Nat} {d : DataW H} {ps : List MemPlace} {ts : List TypeId} {ds : List (DataW H)} {j : Nat} (hval : Value.okWide Tryz.prog W .any base 50 v)
    (h : DataW.Trod enc Tryz.prog W 0 (fun _ => true) true 50 v d ps) (ht : ts[j]? = some 50) (hd : ds[j]? = some d) (hsz : (DataW.weightsEach Tryz.prog ts ds).all (· ≤ reachBytes) = true) :
    ∃ (id : Int) (fi : Int) (nw : Int) (na : Bs) (pu : Bool) (of : Bool) (ch : Bs) (ol : Bs) (un : Int) (vb : Option Addr) (vd : Nat) (sd : List Bs) (idl : Int) (ab : Int) (gr : Int) (li : Int) (su : Bs) (s : Bs) (va : Option Addr) (vc : Nat) (sc : List Bs), v = .agg #[I id, I fi, I nw, S na, .bool pu, .bool of, S ch, S ol, I un, .slice vb sd.length vd, I idl, I ab, I gr, I li, S su, S s, .slice va sc.length vc] ∧ na.length ≤ 9223372036854775807 ∧ su.length ≤ 9223372036854775807 ∧ s.length ≤ 9223372036854775807 ∧ Sts W vb sd.length sd ∧ sd.length ≤ 8796093022100 ∧ Lns sd ∧ (vb = none → vd = 0) ∧ Sts W va sc.length sc ∧ sc.length ≤ 8796093022100 ∧ Lns sc ∧ (va = none → vc = 0) := by
  obtain ⟨cs, rfl, hc⟩ := okWide_struct Tryz.underlying50 hval
  rw [cells50] at hc
  obtain ⟨fuel, hf⟩ := h
  obtain ⟨xs, k, hk, hxy, _, hxl, hfs⟩ := DataW.trod_struct Tryz.underlying50 hf
  have hd2 : d = .agg (xs.map (·.1)) := congrArg Prod.fst hxy
  subst hd2
  have hs2 := sized_struct hsz ht hd Tryz.underlying50
  obtain ⟨l⟩ := cs
  match xs, hxl, l, hc with
  | [y0, y1, y2, y3, y4, y5, y6], _, [v0, v1, v2, v3, v4, v5, v6, v7, v8, v9, v10, v11, v12, v13, v14, v15, v16], _ =>
    have g0 := hfs 0 _ rfl
    have g1 := hfs 1 _ rfl
    have g2 := hfs 2 _ rfl
    have g3 := hfs 3 _ rfl
    have g4 := hfs 4 _ rfl
    have g5 := hfs 5 _ rfl
    have g6 := hfs 6 _ rfl
    simp [cells9, cells3, cells22, cells48, Value.cells] at g0 g1 g2 g3 g4 g5 g6
    obtain ⟨xs3, k3, hk3, hxy3, _, hxl3, hfs3⟩ := DataW.trod_struct Tryz.underlying48 g3
    have hd3 : y3.1 = .agg (xs3.map (·.1)) := congrArg Prod.fst hxy3
    have hs3 := sized_struct (j := 3) hs2 rfl (show _ = some (DataW.agg (xs3.map (·.1))) by rw [← hd3]; rfl) Tryz.underlying48
    match xs3, hxl3, hfs3, hs3 with
    | [x0, x1, x2, x3, x4, x5, x6, x7, x8, x9, x10], _, hfs3, hs3 =>
      have e0 := hfs3 0 _ rfl
      have e1 := hfs3 1 _ rfl
      have e2 := hfs3 2 _ rfl
      have e3 := hfs3 3 _ rfl
      have e4 := hfs3 4 _ rfl
      have e5 := hfs3 5 _ rfl
      have e6 := hfs3 6 _ rfl
      have e7 := hfs3 7 _ rfl
      have e8 := hfs3 8 _ rfl
      have e9 := hfs3 9 _ rfl
      have e10 := hfs3 10 _ rfl
      simp [cells9, cells3, cells4, cells22] at e0 e1 e2 e3 e4 e5 e6 e7 e8 e9 e10
      obtain ⟨z0, rfl⟩ := open_int g0
      obtain ⟨z1, rfl⟩ := open_int g1
      obtain ⟨z2, rfl⟩ := open_int g2
      obtain ⟨z3, rfl, b3⟩ := open_text e0
      obtain ⟨z4, rfl⟩ := open_truth e1
      obtain ⟨z5, rfl⟩ := open_truth e2
      obtain ⟨z6, rfl, b6⟩ := open_text e3
      obtain ⟨z7, rfl, b7⟩ := open_text e4
      obtain ⟨z8, rfl⟩ := open_int e5
      obtain ⟨vb, sd, vd, rfl, d1, d2, d3, d4, d5⟩ := open_list2 (j := 6) e6 rfl rfl hs3
      obtain ⟨z10, rfl⟩ := open_int e7
      obtain ⟨z11, rfl⟩ := open_int e8
      obtain ⟨z12, rfl⟩ := open_int e9
      obtain ⟨z13, rfl⟩ := open_int e10
      obtain ⟨z14, rfl, b14⟩ := open_text g4
      obtain ⟨z15, rfl, b15⟩ := open_text g5
      obtain ⟨va, sc, vc, rfl, f1, f2, f3, f4, f5⟩ := open_list2 (j := 6) g6 rfl rfl hs2
      exact ⟨z0, z1, z2, z3, z4, z5, z6, z7, z8, vb, vd, sd, z10, z11, z12, z13, z14, z15, va, vc, sc, rfl, b3, b14, b15, d1, d2, d3, d5, f1, f2, f3, f5⟩
end Go.Proofs.YtmjaobddgaglhaaGreatDoor
namespace Go.Proofs.YtmjaobddgaglhaaGreatDoor.familyBegins
open Go Go.ChangeShapes Go.WideShapes Go.ChangeAt Go.RowKit
open Go.ChangeMaps (open_string shut_string)
set_option linter.unusedVariables false
set_option maxRecDepth 100000 in
theorem lifted (os : Os) (started : os.Started) (H : Type) (enc : TypeId × Value → H) :
    ReturnsInHanded {} Tryz.checked os 4 .any (fun w args => (Rows.familyBeginsSpec.pre enc Tryz.prog Tryz.f4 [] false w args ∧ laidMetH Tryz.prog laidL w) ∧ sizedMet enc Tryz.prog Tryz.f4 (OpenSpec.ofChange Rows.familyBeginsSpec) false w args)
      (Rows.familyBeginsSpec.post enc Tryz.prog Tryz.f4 false true false false) := by
  refine returnsInHanded_of_change_and (C := Tryz.checked) (X := fun w _ => laidMetH Tryz.prog laidL w) (fun _ _ _ hh h => h.of_heap hh) own started (by kernel_rfl) Tryz.func4
    (ChangeSpec.witness_at (enc := enc) (C := Tryz.checked) (os := os) (X := fun w _ => laidMetH Tryz.prog laidL w) false ({ World.holding Tryz.prog os ⟨#[], #[], []⟩ with heap := (World.holding Tryz.prog os ⟨#[], #[], []⟩).heap.modify 0 (fun | .cells _ t frozen => .cells #[.iface 212 (.agg #[.pointer (some ⟨2, 159, none⟩)])] t frozen | o => o) } : World) #[.agg #[.int .i64 0, .int .i64 0, .int .i64 0, .string ByteArray.empty, .bool false, .bool false, .string ByteArray.empty, .string ByteArray.empty, .int .i64 0, .slice none 0 0, .int .i64 0, .int .i64 0, .int .i64 0, .int .i64 0, .string ByteArray.empty, .string ByteArray.empty, .slice none 0 0], .agg #[.int .i64 0, .int .i64 0, .int .i64 0, .string ByteArray.empty, .bool false, .bool false, .string ByteArray.empty, .string ByteArray.empty, .int .i64 0, .slice none 0 0, .int .i64 0, .int .i64 0, .int .i64 0, .int .i64 0, .string ByteArray.empty, .string ByteArray.empty, .slice none 0 0]] 8 rfl (by kernel_rfl) (by kernel_rfl) (by kernel_rfl) (by kernel_rfl) (by kernel_rfl) (laidWorld_met os _)) ?_
  intro W base args ds gs before hval0 hW _ hsz0 hL _
  have hval : ∀ (j : Nat) t v, Tryz.f4.params[j]? = some t → args[j]? = some v → Value.okWide Tryz.prog W .any base t v := hval0
  have hsz : (DataW.weightsEach Tryz.prog (Tryz.f4.params.toList ++ Rows.familyBeginsSpec.plain.varTypes Tryz.prog) (ds ++ gs)).all (· ≤ reachBytes) = true := hsz0
  clear hsz0
  have hW' := hW
  obtain ⟨p, q, hA0, hV, rfl, hfz, hnd⟩ := hW
  have hA : DataW.TrodAll enc Tryz.prog W 0 (fun _ => true) true Tryz.f4.params.toList args.toList ds p := hA0
  rw [Tryz.params4] at hA hval hsz
  obtain ⟨v0, vs0, d0, ds0, p0, q0, hargs, rfl, rfl, h0, r0⟩ := trodAll_cons hA
  obtain ⟨v1, vs1, d1, ds1, p1, q1, rfl, rfl, rfl, h1, r1⟩ := trodAll_cons r0
  obtain ⟨rfl, rfl, rfl⟩ := trodAll_nil r1
  obtain rfl : args = #[v0, v1] := by cases args; simp_all
  obtain ⟨rfl, rfl⟩ := trodVars_none hV
  have k0 := h0
  have lt0 : ∀ x ∈ p0, x.block < W.heap.size := by obtain ⟨m, hm⟩ := k0; exact DataW.trod_lt m _ _ _ hm
  have k1 := h1
  have lt1 : ∀ x ∈ p1, x.block < W.heap.size := by obtain ⟨m, hm⟩ := k1; exact DataW.trod_lt m _ _ _ hm
  obtain ⟨id1, fi1, nw1, na1, pu1, of1, ch1, ol1, un1, vb1, vd1, sd1, idl1, ab1, gr1, li1, su1, s1, va1, vc1, sc1, rfl, hp1⟩ := open_first (j := 0) (hval 0 50 v0 rfl rfl) h0 rfl rfl hsz
  obtain ⟨id2, fi2, nw2, na2, pu2, of2, ch2, ol2, un2, vb2, vd2, sd2, idl2, ab2, gr2, li2, su2, s2, va2, vc2, sc2, rfl, hp2⟩ := open_first (j := 1) (hval 1 50 v1 rfl rfl) h1 rfl rfl hsz
  clear hA0 hval0
  refine (familyBegins_any id1 fi1 nw1 na1 pu1 of1 ch1 ol1 un1 vb1 vd1 sd1 idl1 ab1 gr1 li1 su1 s1 va1 vc1 sc1 id2 fi2 nw2 na2 pu2 of2 ch2 ol2 un2 vb2 vd2 sd2 idl2 ab2 gr2 li2 su2 s2 va2 vc2 sc2 W hp1 hp2).mono fun e W' ⟨he, bel⟩ => ?_
  subst he
  exact ⟨_, rfl, _, _, _, [], _, [], hW', trodAll_mk1 (shut_bool Tryz.underlying4 _), (trodAll_cons_mk (Below.trod laidOut (by kernel_rfl) (of_decide_eq_true (by kernel_rfl)) k0 bel lt0) (trodAll_cons_mk (Below.trod laidOut (by kernel_rfl) (of_decide_eq_true (by kernel_rfl)) k1 bel lt1) trodAll_mk0)), rfl, bel.frame _, fun h => by cases h⟩
theorem over : Rows.familyBeginsRow.holds Tryz.pinned (OpenSpec.ofChange Rows.familyBeginsSpec) :=
  OpenClaim.holds_of_wide 4 Tryz.f4 rfl rfl rfl rfl rfl rfl rfl ⟨rfl, rfl, rfl, rfl, rfl⟩ rfl rfl rfl rfl rfl (by kernel_rfl) Tryz.func4 (by kernel_rfl)
    (of_decide_eq_true (by kernel_rfl)) (by unfold Func.isWrapper; first | (rw [if_pos (by decide +kernel)]; kernel_rfl) | (rw [if_neg (by decide +kernel)]; exact ⟨rfl, rfl⟩))
    (fun os started H enc _ => lifted os started H enc)
end Go.Proofs.YtmjaobddgaglhaaGreatDoor.familyBegins
namespace Go.Proofs.YtmjaobddgaglhaaGreatDoor
open Go
theorem familyBegins_holds : Rows.FamilyBeginsCardSaid :=
  Claim7.holds_tied_plain_at .later [] [.handle] true (true, "c02353873a91e86474cf7ad3902faf55b575be4da8b608c0392197ab7d3a01ca") true
    familyBegins.over (fun _ h => by cases h) (by kernel_rfl) (fun _ h => by cases h) familyBegins_row_tie rfl ⟨rfl, rfl⟩ (by kernel_rfl) rfl
    (fun f fn hf hfn => by
      obtain rfl : f = 4 := Option.some.inj ((show Tryz.prog.funcNamed Rows.familyBeginsRow.func = some 4 by kernel_rfl).symm.trans hf) |>.symm
      obtain rfl : fn = Tryz.f4 := (Option.some.inj (Tryz.func4.symm.trans hfn)).symm
      exact ⟨by kernel_rfl, fun j t ht => by
        rw [Tryz.params4] at ht
        rcases j with _ | _ | j
        · obtain rfl : t = 50 := by simpa using ht.symm
          exact (show Tryz.prog.wantsStandIn 50 = false by kernel_rfl)
        · obtain rfl : t = 50 := by simpa using ht.symm
          exact (show Tryz.prog.wantsStandIn 50 = false by kernel_rfl)
        · simp at ht⟩)
    (by kernel_rfl)
end Go.Proofs.YtmjaobddgaglhaaGreatDoor
