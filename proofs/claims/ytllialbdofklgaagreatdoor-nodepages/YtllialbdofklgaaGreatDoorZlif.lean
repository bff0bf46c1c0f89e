import Derived.Test.YtllialbdofklgaaGreatDoorLai
import Derived.Test.YtllialbdofklgaaGreatDoorZndb
import Derived.Deep.Slices
import Derived.SizedLaws
import Derived.SliceStrings
namespace Go.Proofs.YtllialbdofklgaaGreatDoor
open Go Go.ChangeShapes Go.WideShapes Go.ChangeAt
theorem cells9 : Tryz.prog.cellsOf 9 = 1 := by kernel_rfl
theorem cells22 : Tryz.prog.cellsOf 22 = 1 := by kernel_rfl
theorem cells23 : Tryz.prog.cellsOf 23 = 1 := by kernel_rfl
theorem cells3 : Tryz.prog.cellsOf 3 = 1 := by kernel_rfl
theorem cells4 : Tryz.prog.cellsOf 4 = 1 := by kernel_rfl
theorem cells25 : Tryz.prog.cellsOf 25 = 4 := by kernel_rfl
theorem laidOut : laidOutB Tryz.prog = true := by kernel_rfl
theorem getD_at {α : Type} (f : Nat → α) (z : α) (n k : Nat) (h : k < n) : ((List.range n).map f).getD k z = f k := by simp [h]
end Go.Proofs.YtllialbdofklgaaGreatDoor
namespace Go.Proofs.YtllialbdofklgaaGreatDoor
open Go Go.ChangeShapes Go.WideShapes Go.ChangeAt
set_option maxRecDepth 20000 in
/-- Texts among the arguments. -/
theorem open_strs2 {H : Type} {enc : TypeId × Value → H} {W : World} {v : Value} {fuel : Nat} {y : DataW H × List MemPlace} (hf : DataW.trod enc Tryz.prog W 0 (fun _ => true) true fuel 22 [v] = some y) :
    ∃ (a : Option Addr) (l : List Bs) (cap : Nat), v = .slice a l.length cap ∧ Sts W a l.length l ∧ (a = none → cap = 0) ∧ l.length ≤ 9223372036854775807 ∧ (∀ j, (l.getD j []).length ≤ 9223372036854775807) ∧ l.length ≤ cap ∧ cap ≤ 9223372036854775807 := by
  rcases open_strings Tryz.underlying22 Tryz.underlying9 cells9 hf with ⟨hcs, _⟩ | ⟨x, len, c, ss, hcs, _, hl, hm, hss, hx, hel, hmx⟩
  · simp at hcs
    subst hcs
    exact ⟨none, [], 0, rfl, ⟨rfl, fun h => absurd h (by simp)⟩, fun _ => rfl, by simp, (fun j => by simp), by simp, by simp⟩
  · simp at hcs
    subst hcs
    simp only [if_true] at hss
    have hlen : (ss.take len).length = len := by rw [List.length_take]; omega
    have hl2 : ((ss.take len).map fun s => s.data.toList).length = len := by rw [List.length_map, hlen]
    unfold maxLen at hm
    refine ⟨some x, (ss.take len).map fun s => s.data.toList, c, by rw [hl2], ⟨rfl, fun h0 => ?_⟩, (fun e => by cases e), by omega, ?_, by omega, by omega⟩
    · rw [hl2] at h0 ⊢
      obtain ⟨b, off, spot⟩ := x
      have hspot : spot = none := by simpa [Addr.add] using World.cell?_spot (hel 0 (by omega))
      subst hspot
      refine ⟨b, off, rfl, fun k hk => ?_⟩
      have e0 := hel k (by omega)
      rw [WideShapes.add_plain] at e0
      rw [e0]
      have hk' : k < ss.length := by omega
      simp [hk, hk']
    · intro k
      by_cases hk : k < len
      · have hk' : k < ss.length := by omega
        have := hmx ss[k] (List.getElem_mem hk')
        unfold maxLen at this
        simpa [hk, hk'] using this
      · rw [List.getD_eq_getElem?_getD, List.getElem?_eq_none (by rw [hl2]; omega)]
        simp
set_option maxRecDepth 20000 in
/-- Numbers among the arguments. -/
theorem open_ints2 {H : Type} {enc : TypeId × Value → H} {W : World} {v : Value} {fuel : Nat} {y : DataW H × List MemPlace} (hf : DataW.trod enc Tryz.prog W 0 (fun _ => true) true fuel 23 [v] = some y) :
    ∃ (a : Option Addr) (l : List Int) (cap : Nat), v = .slice a l.length cap ∧ Ins W a l.length l ∧ (a = none → cap = 0) ∧ l.length ≤ 9223372036854775807 ∧ l.length ≤ cap ∧ cap ≤ 9223372036854775807 := by
  rcases Go.Deep.open_slice1 Tryz.underlying23 cells3 hf with ⟨hcs, _⟩ | ⟨x, len, c, m, n, V, D, Pl, hcs, _, hl, hm, hmm, hx, hel⟩
  · simp at hcs
    subst hcs
    exact ⟨none, [], 0, rfl, ⟨rfl, fun h => absurd h (by simp)⟩, fun _ => rfl, by simp, by simp, by simp⟩
  · simp at hcs
    subst hcs
    simp only [if_true] at hmm
    subst hmm
    have each : ∀ i, i < m → ∃ z : Int, W.cell? (x.add i) = some (.int .i64 z) := by
      intro i hi
      obtain ⟨h1, h2⟩ := hel i hi
      obtain ⟨z, ez, _, w0⟩ := DataW.trod_int Tryz.underlying3 h2
      simp only [List.cons.injEq, and_true] at ez
      rw [ez] at h1
      exact ⟨z, h1⟩
    obtain ⟨z, hz⟩ := Go.Deep.choose_lt each
    have hlen : ((List.range len).map z).length = len := by simp
    unfold maxLen at hm
    refine ⟨some x, (List.range len).map z, m, by rw [hlen], ⟨rfl, fun h0 => ?_⟩, (fun e => by cases e), by omega, by omega, by omega⟩
    rw [hlen] at h0 ⊢
    obtain ⟨b, off, spot⟩ := x
    have hspot : spot = none := by simpa [Addr.add] using World.cell?_spot (hz 0 (by omega))
    subst hspot
    refine ⟨b, off, rfl, fun k hk => ?_⟩
    rw [getD_at z 0 len k hk]
    have := hz k (by omega)
    rw [WideShapes.add_plain] at this
    exact this
set_option maxRecDepth 20000 in
/-- A node among the arguments. -/
theorem open_node2 {H : Type} {enc : TypeId × Value → H} {W : World} {v : Value} {base : Nat} {d : DataW H} {ps : List MemPlace} (hval : Value.okWide Tryz.prog W .any base 25 v)
    (h : DataW.Trod enc Tryz.prog W 0 (fun _ => true) true 25 v d ps) :
    ∃ (n : Nd) (ka va ia : Option Addr) (kc vc ic : Nat), v = nda n ka va ia kc vc ic ∧ NA n ka va ia W ∧ (ka = none → kc = 0) ∧ (va = none → vc = 0) ∧ (ia = none → ic = 0) ∧ n.keys.length ≤ 9223372036854775807 ∧ n.vals.length ≤ 9223372036854775807 ∧ n.kids.length ≤ 9223372036854775807 ∧ (∀ j, (n.keys.getD j []).length ≤ 9223372036854775807) ∧ (∀ j, (n.vals.getD j []).length ≤ 9223372036854775807) ∧ n.keys.length ≤ kc ∧ n.vals.length ≤ vc ∧ n.kids.length ≤ ic ∧ ic ≤ 9223372036854775807 := by
  obtain ⟨cs, rfl, hc⟩ := okWide_struct Tryz.underlying25 hval
  rw [cells25] at hc
  obtain ⟨fuel, hf⟩ := h
  obtain ⟨xs, k, hk, hxy, _, hxl, hfs⟩ := DataW.trod_struct Tryz.underlying25 hf
  obtain ⟨l⟩ := cs
  match xs, hxl, l, hc with
  | [y0, y1, y2, y3], _, [v0, v1, v2, v3], _ =>
    have g0 := hfs 0 _ rfl
    have g1 := hfs 1 _ rfl
    have g2 := hfs 2 _ rfl
    have g3 := hfs 3 _ rfl
    simp [cells4, cells22, cells23, Value.cells] at g0 g1 g2 g3
    obtain ⟨z0, ez0, _⟩ := DataW.trod_bool Tryz.underlying4 g0
    obtain ⟨ka, ks, kc, rfl, k1, k2, k3, k4, k5, k6⟩ := open_strs2 g1
    obtain ⟨va, vs, vc, rfl, w1, w2, w3, w4, w5, w6⟩ := open_strs2 g2
    obtain ⟨ia, is, ic, rfl, i1, i2, i3, i4, i5⟩ := open_ints2 g3
    simp only [List.cons.injEq, and_true] at ez0
    subst ez0
    exact ⟨⟨z0, ks, vs, is⟩, ka, va, ia, kc, vc, ic, rfl, ⟨k1, w1, i1⟩, k2, w2, i2, k3, w3, i3, k4, w4, k5, w5, i4, i5⟩
end Go.Proofs.YtllialbdofklgaaGreatDoor
namespace Go.Proofs.YtllialbdofklgaaGreatDoor
open Go Go.ChangeShapes Go.WideShapes Go.ChangeAt
theorem cells27b : Tryz.prog.cellsOf 27 = 5 := by kernel_rfl
set_option maxRecDepth 20000 in
/-- A page among the arguments, and the room of its links. -/
theorem open_page2 {H : Type} {enc : TypeId × Value → H} {W : World} {v : Value} {base : Nat} {d : DataW H} {ps : List MemPlace} (hval : Value.okWide Tryz.prog W .any base 27 v)
    (h : DataW.Trod enc Tryz.prog W 0 (fun _ => true) true 27 v d ps) :
    ∃ (k nu bi : Int) (la : Option Addr) (L : List Int) (lc : Nat) (x : Bs), v = .agg #[I k, I nu, I bi, .slice la L.length lc, S x] ∧ Ins W la L.length L ∧ (la = none → lc = 0) ∧ L.length ≤ 9223372036854775807 ∧ x.length ≤ 9223372036854775807 := by
  obtain ⟨cs, rfl, hc⟩ := okWide_struct Tryz.underlying27 hval
  rw [cells27b] at hc
  obtain ⟨fuel, hf⟩ := h
  obtain ⟨xs, k, hk, hxy, _, hxl, hfs⟩ := DataW.trod_struct Tryz.underlying27 hf
  obtain ⟨l⟩ := cs
  match xs, hxl, l, hc with
  | [y0, y1, y2, y3, y4], _, [v0, v1, v2, v3, v4], _ =>
    have g0 := hfs 0 _ rfl
    have g1 := hfs 1 _ rfl
    have g2 := hfs 2 _ rfl
    have g3 := hfs 3 _ rfl
    have g4 := hfs 4 _ rfl
    simp [cells3, cells23, cells9, Value.cells] at g0 g1 g2 g3 g4
    obtain ⟨z0, ez0, _⟩ := DataW.trod_int Tryz.underlying3 g0
    obtain ⟨z1, ez1, _⟩ := DataW.trod_int Tryz.underlying3 g1
    obtain ⟨z2, ez2, _⟩ := DataW.trod_int Tryz.underlying3 g2
    obtain ⟨ia, is, ic, rfl, i1, i2, i3, i4, i5⟩ := open_ints2 g3
    obtain ⟨z4, ez4, _, w4⟩ := DataW.trod_string Tryz.underlying9 g4
    simp only [List.cons.injEq, and_true] at ez0 ez1 ez2 ez4
    subst ez0 ez1 ez2 ez4
    unfold maxLen at w4
    refine ⟨z0, z1, z2, ia, is, ic, z4.data.toList, by simp, i1, i2, i3, ?_⟩
    rw [Array.length_toList]
    exact Nat.le_trans w4 (by omega)
end Go.Proofs.YtllialbdofklgaaGreatDoor
