import Derived.Test.YtjopnhhdemfniaaGreatDoorLai
import Derived.Test.YtjopnhhdemfniaaGreatDoorPgb
import Derived.Deep.Slices
import Derived.SizedLaws
import Derived.SliceStrings
namespace Go.Proofs.YtjopnhhdemfniaaGreatDoor
open Go Go.ChangeShapes Go.WideShapes Go.ChangeAt
theorem cells9 : Tryz.prog.cellsOf 9 = 1 := by kernel_rfl
theorem cells22 : Tryz.prog.cellsOf 22 = 1 := by kernel_rfl
theorem cells3 : Tryz.prog.cellsOf 3 = 1 := by kernel_rfl
theorem cells24 : Tryz.prog.cellsOf 24 = 5 := by kernel_rfl
theorem laidOut : laidOutB Tryz.prog = true := by kernel_rfl
theorem rng_at {α : Type} (f : Nat → α) (z : α) (n k : Nat) (h : k < n) : ((List.range n).map f).getD k z = f k := by simp [h]
theorem wf_i64 {z : Int} (q : (Lit.int .i64 z).wf = true) : -9223372036854775808 ≤ z ∧ z ≤ 9223372036854775807 := by
  simp [Lit.wf, IntKind.min, IntKind.max, IntKind.signed, IntKind.bits] at q
  omega
set_option maxRecDepth 20000 in
/-- Numbers among the arguments. -/
theorem open_ints2 {H : Type} {enc : TypeId × Value → H} {W : World} {v : Value} {fuel : Nat} {y : DataW H × List MemPlace} (hf : DataW.trod enc Tryz.prog W 0 (fun _ => true) true fuel 22 [v] = some y) :
    ∃ (a : Option Addr) (l : List Int) (cap : Nat), v = .slice a l.length cap ∧ Ins W a l.length l ∧ (a = none → cap = 0) ∧ l.length ≤ 9223372036854775807 ∧ ∀ z ∈ l, -9223372036854775808 ≤ z ∧ z ≤ 9223372036854775807 := by
  rcases Go.Deep.open_slice1 Tryz.underlying22 cells3 hf with ⟨hcs, _⟩ | ⟨x, len, c, m, n, V, D, Pl, hcs, _, hl, hm, hmm, hx, hel⟩
  · simp at hcs
    subst hcs
    exact ⟨none, [], 0, rfl, ⟨rfl, fun h => absurd h (by simp)⟩, fun _ => rfl, by simp, by simp⟩
  · simp at hcs
    subst hcs
    simp only [if_true] at hmm
    subst hmm
    have each : ∀ i, i < m → ∃ z : Int, W.cell? (x.add i) = some (.int .i64 z) ∧ -9223372036854775808 ≤ z ∧ z ≤ 9223372036854775807 := by
      intro i hi
      obtain ⟨h1, h2⟩ := hel i hi
      obtain ⟨z, ez, _, w0⟩ := DataW.trod_int Tryz.underlying3 h2
      simp only [List.cons.injEq, and_true] at ez
      rw [ez] at h1
      exact ⟨z, h1, wf_i64 w0⟩
    obtain ⟨z, hz⟩ := Go.Deep.choose_lt each
    have hlen : ((List.range len).map z).length = len := by simp
    unfold maxLen at hm
    refine ⟨some x, (List.range len).map z, m, by rw [hlen], ⟨rfl, fun h0 => ?_⟩, (fun e => by cases e), by omega, fun u hu => ?_⟩
    · rw [hlen] at h0 ⊢
      obtain ⟨b, off, spot⟩ := x
      have hspot : spot = none := by simpa [Addr.add] using World.cell?_spot (hz 0 (by omega)).1
      subst hspot
      refine ⟨b, off, rfl, fun k hk => ?_⟩
      rw [rng_at z 0 len k hk]
      have := (hz k (by omega)).1
      rw [WideShapes.add_plain] at this
      exact this
    · obtain ⟨i, hi, rfl⟩ := List.mem_map.1 hu
      exact (hz i (by have := List.mem_range.1 hi; omega)).2
set_option maxRecDepth 20000 in
/-- A page among the arguments, and the room of its links. -/
theorem open_page2 {H : Type} {enc : TypeId × Value → H} {W : World} {v : Value} {base : Nat} {d : DataW H} {ps : List MemPlace} (hval : Value.okWide Tryz.prog W .any base 24 v)
    (h : DataW.Trod enc Tryz.prog W 0 (fun _ => true) true 24 v d ps) :
    ∃ (k nu bi : Int) (la : Option Addr) (L : List Int) (lc : Nat) (x : Bs), v = .agg #[I k, I nu, I bi, .slice la L.length lc, S x] ∧ Ins W la L.length L ∧ (la = none → lc = 0) ∧ L.length ≤ 9223372036854775807 ∧ x.length ≤ 9223372036854775807 ∧ (-9223372036854775808 ≤ k ∧ k ≤ 9223372036854775807) ∧ (-9223372036854775808 ≤ nu ∧ nu ≤ 9223372036854775807) ∧ (-9223372036854775808 ≤ bi ∧ bi ≤ 9223372036854775807) ∧ ∀ z ∈ L, -9223372036854775808 ≤ z ∧ z ≤ 9223372036854775807 := by
  obtain ⟨cs, rfl, hc⟩ := okWide_struct Tryz.underlying24 hval
  rw [cells24] at hc
  obtain ⟨fuel, hf⟩ := h
  obtain ⟨xs, k, hk, hxy, _, hxl, hfs⟩ := DataW.trod_struct Tryz.underlying24 hf
  obtain ⟨l⟩ := cs
  match xs, hxl, l, hc with
  | [y0, y1, y2, y3, y4], _, [v0, v1, v2, v3, v4], _ =>
    have g0 := hfs 0 _ rfl
    have g1 := hfs 1 _ rfl
    have g2 := hfs 2 _ rfl
    have g3 := hfs 3 _ rfl
    have g4 := hfs 4 _ rfl
    simp [cells3, cells22, cells9, Value.cells] at g0 g1 g2 g3 g4
    obtain ⟨z0, ez0, _, q0⟩ := DataW.trod_int Tryz.underlying3 g0
    obtain ⟨z1, ez1, _, q1⟩ := DataW.trod_int Tryz.underlying3 g1
    obtain ⟨z2, ez2, _, q2⟩ := DataW.trod_int Tryz.underlying3 g2
    obtain ⟨ia, is, ic, rfl, i1, i2, i3, i4⟩ := open_ints2 g3
    obtain ⟨z4, ez4, _, w4⟩ := DataW.trod_string Tryz.underlying9 g4
    simp only [List.cons.injEq, and_true] at ez0 ez1 ez2 ez4
    subst ez0 ez1 ez2 ez4
    unfold maxLen at w4
    refine ⟨z0, z1, z2, ia, is, ic, z4.data.toList, by simp, i1, i2, i3, ?_, wf_i64 q0, wf_i64 q1, wf_i64 q2, i4⟩
    rw [Array.length_toList]
    exact Nat.le_trans w4 (by omega)
end Go.Proofs.YtjopnhhdemfniaaGreatDoor
