import Derived.Test.YtfaahjbkdlkmjaaDoorJek
import Derived.Test.YtfaahjbkdlkmjaaDoorJlai
import Derived.Deep.Slices
import Derived.SizedLaws
import Derived.SliceStrings
import Derived.OpenShut
import Derived.ChangeSame
/- Jot: a value among the arguments. -/
namespace Go.Proofs.YtfaahjbkdlkmjaaDoor
open Go Go.ChangeShapes Go.WideShapes Go.ChangeAt Go.RowKit Go.Lib
set_option linter.unusedVariables false
set_option linter.unusedSimpArgs false
theorem cells9 : Tryd.prog.cellsOf 9 = 1 := by kernel_rfl
theorem cells3 : Tryd.prog.cellsOf 3 = 1 := by kernel_rfl
theorem cells22 : Tryd.prog.cellsOf 22 = 1 := by kernel_rfl
theorem cells23 : Tryd.prog.cellsOf 23 = 1 := by kernel_rfl
theorem cells25 : Tryd.prog.cellsOf 25 = 5 := by kernel_rfl
theorem laidOut : laidOutB Tryd.prog = true := by kernel_rfl
theorem getD_at {α : Type} (f : Nat → α) (z : α) (n k : Nat) (h : k < n) : ((List.range n).map f).getD k z = f k := by simp [h]
set_option maxRecDepth 20000 in
/-- Names among the arguments. -/
theorem open_names {H : Type} {enc : TypeId × Value → H} {W : World} {v : Value} {fuel : Nat} {y : DataW H × List MemPlace} (hf : DataW.trod enc Tryd.prog W 0 (fun _ => true) true fuel 22 [v] = some y) :
    ∃ (a : Option Addr) (l : List Bs) (cap : Nat), v = .slice a l.length cap ∧ Nms W a l := by
  rcases open_strings Tryd.underlying22 Tryd.underlying9 cells9 hf with ⟨hcs, _⟩ | ⟨x, len, c, ss, hcs, _, hl, hm, hss, hx, hel, hmx⟩
  · simp at hcs
    subst hcs
    exact ⟨none, [], 0, rfl, by simp, fun x hx => absurd hx (by simp), fun h => absurd h (by simp)⟩
  · simp at hcs
    subst hcs
    simp only [if_true] at hss
    have hlen : (ss.take len).length = len := by rw [List.length_take]; omega
    have hl2 : ((ss.take len).map fun s => s.data.toList).length = len := by rw [List.length_map, hlen]
    unfold maxLen at hm
    refine ⟨some x, (ss.take len).map fun s => s.data.toList, c, by rw [hl2], by omega, ?_, fun h0 => ?_⟩
    · intro y hy
      obtain ⟨s, hs, rfl⟩ := List.mem_map.1 hy
      have := hmx s (List.mem_of_mem_take hs)
      unfold maxLen at this
      simpa using this
    · rw [hl2] at h0
      obtain ⟨b, off, spot⟩ := x
      have hspot : spot = none := by simpa [Addr.add] using World.cell?_spot (hel 0 (by omega))
      subst hspot
      refine ⟨b, off, rfl, fun k y hk => ?_⟩
      have hk1 : k < len := by
        have := (List.getElem?_eq_some_iff.1 hk).1
        omega
      have e0 := hel k (by omega)
      rw [WideShapes.add_plain] at e0
      rw [e0]
      have hk' : k < ss.length := by omega
      rw [List.getElem?_map, List.getElem?_take, if_pos hk1, List.getElem?_eq_getElem hk'] at hk
      simp only [Option.map_some, Option.some.injEq] at hk
      subst hk
      simp [hk']
theorem jsp_of {W : World} {b : Nat} : ∀ (l : List It) (o : Nat), (∀ i (x : It), l[i]? = some x → (∀ m v, x.cells[m]? = some v → W.cell? ⟨b, o + i * 5 + m, none⟩ = some v) ∧ JP W x.na x.xa x.j) → JsP W b o (l.map It.j)
  | [], o, h => by rw [List.map_nil, JsP]; trivial
  | ⟨.mk k n t ns xs, na, nc, xa, xc⟩ :: l, o, h => by
    rw [List.map_cons, JsP]
    have h0 := h 0 _ rfl
    refine ⟨⟨na, nc, xa, xc, fun i v hi => ?_, h0.2⟩, jsp_of l (o + 5) (fun i x hx => ?_)⟩
    · have := h0.1 i v hi
      simpa using this
    · have := h (i + 1) x hx
      rw [show o + (i + 1) * 5 = o + 5 + i * 5 by omega] at this
      exact this
set_option maxRecDepth 20000 in
set_option maxHeartbeats 1000000 in
/-- A value among the arguments. -/
theorem open_jot {H : Type} {enc : TypeId × Value → H} {W : World} : ∀ (N : Nat) (d : DataW H) (ps : List MemPlace) (fuel : Nat) (cs : List Value), SizeOf.sizeOf d < N →
    DataW.trod enc Tryd.prog W 0 (fun _ => true) true fuel 25 cs = some (d, ps) → ∃ it : It, cs = it.cells ∧ JP W it.na it.xa it.j
  | 0, d, ps, fuel, cs, hN, hf => by omega
  | N + 1, d, ps, fuel, cs, hN, hf => by
    obtain ⟨xs, k, hk, hxy, hcl, hxl, hfs⟩ := DataW.trod_struct Tryd.underlying25 hf
    rw [cells25] at hcl
    match xs, hxl, cs, hcl with
    | [y0, y1, y2, y3, y4], _, [v0, v1, v2, v3, v4], _ =>
      have g0 := hfs 0 _ rfl
      have g1 := hfs 1 _ rfl
      have g2 := hfs 2 _ rfl
      have g3 := hfs 3 _ rfl
      have g4 := hfs 4 _ rfl
      simp [cells3, cells9, cells22, cells23, Value.cells] at g0 g1 g2 g3 g4
      obtain ⟨z0, ez0, _⟩ := DataW.trod_int Tryd.underlying3 g0
      obtain ⟨z1, ez1, _⟩ := DataW.trod_int Tryd.underlying3 g1
      obtain ⟨z2, ez2, _, w2⟩ := DataW.trod_string Tryd.underlying9 g2
      obtain ⟨na, ns, nc, rfl, hns⟩ := open_names g3
      simp only [List.cons.injEq, and_true] at ez0 ez1 ez2
      subst ez0 ez1 ez2
      unfold maxLen at w2
      rcases Go.Deep.open_slice Tryd.underlying23 g4 with ⟨hcs, _⟩ | ⟨x, len, c, m, n, D, Pl, hcs, _, hl, hm, hmm, hx, hel⟩
      · simp at hcs
        subst hcs
        refine ⟨⟨.mk z0 z1 z2.data.toList ns [], na, nc, none, 0⟩, ?_, ?_⟩
        · simp [It.cells, cellsJ, J.k, J.n, J.t, J.ns, J.xs, S]
        · show JP W na none (.mk z0 z1 z2.data.toList ns [])
          rw [JP]
          exact ⟨by simpa using w2, hns, by simp, fun h => absurd h (by simp)⟩
      · simp at hcs
        subst hcs
        simp only [if_true] at hmm
        subst hmm
        have hsz : ∀ i, i < len → SizeOf.sizeOf (D i) < N := by
          intro i hi
          have e1 : d = .agg ([y0, y1, y2, y3, y4].map (·.1)) := congrArg Prod.fst hxy
          have e2 : y4.1 = .slice ((List.range len).map D) ((List.range (m - len)).map fun j => D (len + j)) := congrArg Prod.fst hx
          have s1 : SizeOf.sizeOf (D i) < SizeOf.sizeOf ((List.range len).map D) := List.sizeOf_lt_of_mem (List.mem_map.2 ⟨i, List.mem_range.2 hi, rfl⟩)
          have s2 : SizeOf.sizeOf ((List.range len).map D) < SizeOf.sizeOf y4.1 := by rw [e2]; simp; omega
          have s3 : SizeOf.sizeOf y4.1 < SizeOf.sizeOf d := by rw [e1]; simp; omega
          omega
        have each : ∀ i, i < len → ∃ it : It, (∀ q v, it.cells[q]? = some v → W.cell? ((x.add (i * 5)).add q) = some v) ∧ JP W it.na it.xa it.j := by
          intro i hi
          obtain ⟨cs', h1, h2⟩ := hel i (by omega)
          rw [cells25] at h1
          obtain ⟨_, hlen, hcell⟩ := World.cells?_some h1
          obtain ⟨it, rfl, hjp⟩ := open_jot N (D i) (Pl i) n cs' (hsz i hi) h2
          refine ⟨it, fun q v hq => ?_, hjp⟩
          have hq5 : q < 5 := (List.getElem?_eq_some_iff.1 hq).1
          have := hcell q (by omega)
          rw [this]
          exact hq
        have : Inhabited It := ⟨⟨jz, none, 0, none, 0⟩⟩
        obtain ⟨I9, hI9⟩ := Go.Deep.choose_lt each
        have hlen : (((List.range len).map I9).map It.j).length = len := by simp
        refine ⟨⟨.mk z0 z1 z2.data.toList ns (((List.range len).map I9).map It.j), na, nc, some x, m⟩, ?_, ?_⟩
        · simp [It.cells, cellsJ, J.k, J.n, J.t, J.ns, J.xs, S]
        · show JP W na (some x) (.mk z0 z1 z2.data.toList ns (((List.range len).map I9).map It.j))
          rw [JP]
          unfold maxLen at hm
          refine ⟨by simpa using w2, hns, by rw [hlen]; omega, fun h0 => ?_⟩
          rw [hlen] at h0
          obtain ⟨b, off, spot⟩ := x
          have hspot : spot = none := by simpa [Addr.add] using World.cell?_spot ((hI9 0 h0).1 0 _ rfl)
          subst hspot
          refine ⟨b, off, rfl, jsp_of _ off (fun i x hx => ?_)⟩
          have hi : i < len := by have := (List.getElem?_eq_some_iff.1 hx).1; simpa using this
          obtain rfl : I9 i = x := by
            rw [List.getElem?_map, List.getElem?_range hi] at hx
            simpa using hx
          refine ⟨fun q v hq => ?_, (hI9 i hi).2⟩
          have := (hI9 i hi).1 q v hq
          rw [WideShapes.add_plain, WideShapes.add_plain] at this
          exact this
end Go.Proofs.YtfaahjbkdlkmjaaDoor
