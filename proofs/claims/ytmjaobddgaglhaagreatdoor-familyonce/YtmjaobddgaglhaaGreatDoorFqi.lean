import Derived.Test.YtmjaobddgaglhaaGreatDoorLof
import Derived.Test.YtmjaobddgaglhaaGreatDoorTie
import Derived.Test.YtmjaobddgaglhaaGreatDoorCards
import Derived.Test.YtmjaobddgaglhaaGreatDoorFmn
import Derived.SevenTiedAt
import Derived.Test.YtmjaobddgaglhaaGreatDoorFqh
import Derived.Deep.Slices
namespace Go.Proofs.YtmjaobddgaglhaaGreatDoor
open Go Go.ChangeShapes Go.WideShapes Go.ChangeAt
theorem cells56 : Tryz.prog.cellsOf 56 = 4 := by kernel_rfl
theorem cells66 : Tryz.prog.cellsOf 66 = 2 := by kernel_rfl
theorem wfq_i64 {z : Int} (q : (Lit.int .i64 z).wf = true) : -9223372036854775808 ≤ z ∧ z ≤ 9223372036854775807 := by
  simp [Lit.wf, IntKind.min, IntKind.max, IntKind.signed, IntKind.bits] at q
  omega
theorem getD_atq {α : Type} (f : Nat → α) (d : α) (n k : Nat) (h : k < n) : ((List.range n).map f).getD k d = f k := by simp [h]
set_option maxRecDepth 20000 in
theorem open_life {H : Type} {enc : TypeId × Value → H} {W : World} {v : Value} {base : Nat} {d : DataW H} {ps : List MemPlace} (hval : Value.okWide Tryz.prog W .any base 56 v)
    (h : DataW.Trod enc Tryz.prog W 0 (fun _ => true) true 56 v d ps) :
    ∃ z0 z1 z2 z3 : Int, v = .agg #[I z0, I z1, I z2, I z3] ∧ (-9223372036854775808 ≤ z0 ∧ z0 ≤ 9223372036854775807) ∧ (-9223372036854775808 ≤ z1 ∧ z1 ≤ 9223372036854775807) ∧ (-9223372036854775808 ≤ z2 ∧ z2 ≤ 9223372036854775807) ∧ (-9223372036854775808 ≤ z3 ∧ z3 ≤ 9223372036854775807) := by
  obtain ⟨cs, rfl, hc⟩ := okWide_struct Tryz.underlying56 hval
  rw [cells56] at hc
  obtain ⟨fuel, hf⟩ := h
  obtain ⟨xs, k, hk, hxy, _, hxl, hfs⟩ := DataW.trod_struct Tryz.underlying56 hf
  obtain ⟨l⟩ := cs
  match xs, hxl, l, hc with
  | [y0, y1, y2, y3], _, [v0, v1, v2, v3], _ =>
    have g0 := hfs 0 _ rfl
    have g1 := hfs 1 _ rfl
    have g2 := hfs 2 _ rfl
    have g3 := hfs 3 _ rfl
    simp [cells3, Value.cells] at g0 g1 g2 g3
    obtain ⟨z0, ez0, -, w0⟩ := DataW.trod_int Tryz.underlying3 g0
    obtain ⟨z1, ez1, -, w1⟩ := DataW.trod_int Tryz.underlying3 g1
    obtain ⟨z2, ez2, -, w2⟩ := DataW.trod_int Tryz.underlying3 g2
    obtain ⟨z3, ez3, -, w3⟩ := DataW.trod_int Tryz.underlying3 g3
    simp only [List.cons.injEq, and_true] at ez0 ez1 ez2 ez3
    subst ez0 ez1 ez2 ez3
    exact ⟨z0, z1, z2, z3, rfl, wfq_i64 w0, wfq_i64 w1, wfq_i64 w2, wfq_i64 w3⟩
/-- What stands in the two cells of a show. -/
structure ShC (W : World) (a : Addr) (i : Nat) (q : Int × Int) : Prop where
  c0 : W.cell? (a.add (i * 2)) = some (I q.1)
  c1 : W.cell? (a.add (i * 2 + 1)) = some (I q.2)
  b0 : -9223372036854775808 ≤ q.1 ∧ q.1 ≤ 9223372036854775807
  b1 : -9223372036854775808 ≤ q.2 ∧ q.2 ≤ 9223372036854775807
set_option maxRecDepth 20000 in
theorem open_shows {H : Type} {enc : TypeId × Value → H} {W : World} {a : Option Addr} {len cap : Nat} {d : DataW H} {ps : List MemPlace}
    (h : DataW.Trod enc Tryz.prog W 0 (fun _ => true) true 57 (.slice a len cap) d ps) :
    ∃ qs : List (Int × Int), ShA W a len qs := by
  obtain ⟨fuel, hf⟩ := h
  rcases Go.Deep.open_slice Tryz.underlying57 hf with ⟨hcs, _⟩ | ⟨x, l, c, m, n, D, Pl, hcs, _, hl, hm, hmm, hx, hel⟩
  · simp [Value.cells] at hcs
    obtain ⟨rfl, rfl, rfl⟩ := hcs
    exact ⟨[], rfl, fun q => by simp at q⟩
  · simp [Value.cells] at hcs
    obtain ⟨rfl, rfl, rfl⟩ := hcs
    simp only [if_true] at hmm
    subst hmm
    have each : ∀ i, i < m → ∃ q : Int × Int, ShC W x i q := by
      intro i hi
      obtain ⟨cs', h1, h2⟩ := hel i hi
      rw [cells66] at h1
      obtain ⟨_, hlen, hcell⟩ := World.cells?_some h1
      obtain ⟨xs, k, hk, hxy, _, hxl, hf⟩ := DataW.trod_struct Tryz.underlying66 h2
      match xs, hxl, cs', hlen with
      | [y0, y1], _, [v0, v1], _ =>
        have g0 := hf 0 _ rfl
        have g1 := hf 1 _ rfl
        simp [cells3] at g0 g1
        have e0 := hcell 0 (by omega)
        have e1 := hcell 1 (by omega)
        rw [Go.Deep.add_add] at e0 e1
        obtain ⟨z0, ez0, -, w0⟩ := DataW.trod_int Tryz.underlying3 g0
        obtain ⟨z1, ez1, -, w1⟩ := DataW.trod_int Tryz.underlying3 g1
        simp only [List.cons.injEq, and_true] at ez0 ez1
        subst ez0 ez1
        exact ⟨⟨z0, z1⟩, by simpa using e0, by simpa using e1, wfq_i64 w0, wfq_i64 w1⟩
    obtain ⟨q, hq⟩ := Go.Deep.choose_lt each
    have hlen : ((List.range len).map q).length = len := by simp
    refine ⟨(List.range len).map q, hlen.symm, fun h0 => ?_⟩
    obtain ⟨b, off, spot⟩ := x
    have hspot : spot = none := by simpa [Addr.add] using World.cell?_spot (hq 0 (by omega)).c0
    subst hspot
    refine ⟨b, off, rfl, ?_, fun j y hy => ?_⟩
    · have e := (hq 0 (by omega)).c0
      rw [WideShapes.add_plain] at e
      exact World.block_lt_of_cell? _ _ e
    · have hj : j < len := by
        have := (List.getElem?_eq_some_iff.mp hy).1
        rw [hlen] at this
        exact this
      have ey : y = q j := by
        have := getD_atq q (0, 0) len j hj
        rw [List.getD_eq_getElem?_getD, hy] at this
        exact this
      subst ey
      have e := hq j (by omega)
      have e0 := e.c0
      have e1 := e.c1
      rw [WideShapes.add_plain] at e0 e1
      exact ⟨e0, by rw [Nat.add_assoc]; exact e1, e.b0, e.b1⟩
end Go.Proofs.YtmjaobddgaglhaaGreatDoor
namespace Go.Proofs.YtmjaobddgaglhaaGreatDoor.familyOnce
open Go Go.ChangeShapes Go.WideShapes Go.ChangeAt Go.RowKit
open Go.ChangeMaps (open_string shut_string)
set_option linter.unusedVariables false
set_option maxRecDepth 100000 in
theorem lifted (os : Os) (started : os.Started) (H : Type) (enc : TypeId × Value → H) :
    ReturnsInHanded {} Tryz.checked os 5 .any (fun w args => (Rows.familyOnceSpec.pre enc Tryz.prog Tryz.f5 [] false w args ∧ laidMetH Tryz.prog laidL w) ∧ sizedMet enc Tryz.prog Tryz.f5 (OpenSpec.ofChange Rows.familyOnceSpec) false w args)
      (Rows.familyOnceSpec.post enc Tryz.prog Tryz.f5 false true false false) := by
  refine returnsInHanded_of_change_and (C := Tryz.checked) (X := fun w _ => laidMetH Tryz.prog laidL w) (fun _ _ _ hh h => h.of_heap hh) own started (by kernel_rfl) Tryz.func5
    (ChangeSpec.witness_at (enc := enc) (C := Tryz.checked) (os := os) (X := fun w _ => laidMetH Tryz.prog laidL w) false ({ World.holding Tryz.prog os ⟨#[], #[], []⟩ with heap := (World.holding Tryz.prog os ⟨#[], #[], []⟩).heap.modify 0 (fun | .cells _ t frozen => .cells #[.iface 212 (.agg #[.pointer (some ⟨2, 159, none⟩)])] t frozen | o => o) } : World) #[.agg #[.int .i64 0, .int .i64 0, .int .i64 0, .int .i64 0], .slice none 0 0] 8 rfl (by kernel_rfl) (by kernel_rfl) (by kernel_rfl) (by kernel_rfl) (by kernel_rfl) (laidWorld_met os _)) ?_
  intro W base args ds gs before hval0 hW _ hsz0 hL _
  have hval : ∀ (j : Nat) t v, Tryz.f5.params[j]? = some t → args[j]? = some v → Value.okWide Tryz.prog W .any base t v := hval0
  clear hsz0
  have hW' := hW
  obtain ⟨p, q, hA0, hV, rfl, hfz, hnd⟩ := hW
  have hA : DataW.TrodAll enc Tryz.prog W 0 (fun _ => true) true Tryz.f5.params.toList args.toList ds p := hA0
  rw [Tryz.params5] at hA hval
  obtain ⟨v0, vs0, d0, ds0, p0, q0, hargs, rfl, rfl, h0, r0⟩ := trodAll_cons hA
  obtain ⟨v1, vs1, d1, ds1, p1, q1, rfl, rfl, rfl, h1, r1⟩ := trodAll_cons r0
  obtain ⟨rfl, rfl, rfl⟩ := trodAll_nil r1
  obtain rfl : args = #[v0, v1] := by cases args; simp_all
  obtain ⟨rfl, rfl⟩ := trodVars_none hV
  have k0 := h0
  have k1 := h1
  have lt0 : ∀ x ∈ p0, x.block < W.heap.size := by obtain ⟨m, hm⟩ := k0; exact DataW.trod_lt m _ _ _ hm
  have lt1 : ∀ x ∈ p1, x.block < W.heap.size := by obtain ⟨m, hm⟩ := k1; exact DataW.trod_lt m _ _ _ hm
  obtain ⟨z0, z1, z2, z3, rfl, a1, a2, a3, a4⟩ := open_life (hval 0 56 v0 rfl rfl) h0
  obtain ⟨a, len, cap, rfl⟩ := okWide_slice Tryz.underlying57 (hval 1 57 v1 rfl rfl)
  obtain ⟨qs, hsh⟩ := open_shows h1
  clear hA0 hval0
  refine (familyOnce_any z0 z1 z2 z3 a len cap qs W a1 a2 a3 a4 hsh).mono fun e W' ⟨he, bel⟩ => ?_
  subst he
  exact ⟨_, rfl, _, _, _, [], _, [], hW', trodAll_mk1 (shut_bool Tryz.underlying4 _), (trodAll_cons_mk (Below.trod laidOut (by kernel_rfl) (of_decide_eq_true (by kernel_rfl)) k0 bel lt0) (trodAll_cons_mk (Below.trod laidOut (by kernel_rfl) (of_decide_eq_true (by kernel_rfl)) k1 bel lt1) trodAll_mk0)), rfl, bel.frame _, fun h => by cases h⟩
theorem over : Rows.familyOnceRow.holds Tryz.pinned (OpenSpec.ofChange Rows.familyOnceSpec) :=
  OpenClaim.holds_of_wide 5 Tryz.f5 rfl rfl rfl rfl rfl rfl rfl ⟨rfl, rfl, rfl, rfl, rfl⟩ rfl rfl rfl rfl rfl (by kernel_rfl) Tryz.func5 (by kernel_rfl)
    (of_decide_eq_true (by kernel_rfl)) (by unfold Func.isWrapper; first | (rw [if_pos (by decide +kernel)]; kernel_rfl) | (rw [if_neg (by decide +kernel)]; exact ⟨rfl, rfl⟩))
    (fun os started H enc _ => lifted os started H enc)
end Go.Proofs.YtmjaobddgaglhaaGreatDoor.familyOnce
namespace Go.Proofs.YtmjaobddgaglhaaGreatDoor
open Go
theorem familyOnce_holds : Rows.FamilyOnceCardSaid :=
  Claim7.holds_tied_plain_at .later [] [.handle] true (true, "c02353873a91e86474cf7ad3902faf55b575be4da8b608c0392197ab7d3a01ca") true
    familyOnce.over (fun _ h => by cases h) (by kernel_rfl) (fun _ h => by cases h) familyOnce_row_tie rfl ⟨rfl, rfl⟩ (by kernel_rfl) rfl
    (fun f fn hf hfn => by
      obtain rfl : f = 5 := Option.some.inj ((show Tryz.prog.funcNamed Rows.familyOnceRow.func = some 5 by kernel_rfl).symm.trans hf) |>.symm
      obtain rfl : fn = Tryz.f5 := (Option.some.inj (Tryz.func5.symm.trans hfn)).symm
      exact ⟨by kernel_rfl, fun j t ht => by
        rw [Tryz.params5] at ht
        rcases j with _ | _ | j
        · obtain rfl : t = 56 := by simpa using ht.symm
          exact (show Tryz.prog.wantsStandIn 56 = false by kernel_rfl)
        · obtain rfl : t = 57 := by simpa using ht.symm
          exact (show Tryz.prog.wantsStandIn 57 = false by kernel_rfl)
        · simp at ht⟩)
    (by kernel_rfl)
end Go.Proofs.YtmjaobddgaglhaaGreatDoor
