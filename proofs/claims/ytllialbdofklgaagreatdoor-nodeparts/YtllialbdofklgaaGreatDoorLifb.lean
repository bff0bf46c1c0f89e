import Derived.Test.YtllialbdofklgaaGreatDoorLif
import Derived.Test.YtllialbdofklgaaGreatDoorZnds
namespace Go.Proofs.YtllialbdofklgaaGreatDoor
open Go Go.ChangeShapes Go.WideShapes Go.ChangeAt
theorem cells77 : Tryz.prog.cellsOf 77 = 3 := by kernel_rfl
theorem cells27 : Tryz.prog.cellsOf 27 = 5 := by kernel_rfl
/-- What stands in a raw cell's three cells. -/
structure CeAt (W : World) (a : Addr) (i : Nat) (q : Ce) : Prop where
  c0 : W.cell? (a.add (i * 3)) = some (.string ⟨q.k.toArray⟩)
  c1 : W.cell? (a.add (i * 3 + 1)) = some (.string ⟨q.v.toArray⟩)
  c2 : W.cell? (a.add (i * 3 + 2)) = some (.int .i64 q.z)
  b0 : q.k.length ≤ 9223372036854775807 ∧ q.v.length ≤ 9223372036854775807
  b2 : -9223372036854775808 ≤ q.z ∧ q.z ≤ 9223372036854775807
set_option maxRecDepth 20000 in
/-- Raw cells among the arguments. -/
theorem open_cells {H : Type} {enc : TypeId × Value → H} {W : World} {v : Value} {base : Nat} {d : DataW H} {ps : List MemPlace} (hval : Value.okWide Tryz.prog W .any base 51 v)
    (h : DataW.Trod enc Tryz.prog W 0 (fun _ => true) true 51 v d ps) :
    ∃ (a : Option Addr) (l : List Ce) (cap : Nat), v = .slice a l.length cap ∧ Ces W a l.length l ∧ l.length ≤ 9223372036854775807 := by
  obtain ⟨sa, sl, sc, rfl⟩ := okWide_slice Tryz.underlying51 hval
  obtain ⟨fuel, hf⟩ := h
  rcases Go.Deep.open_slice Tryz.underlying51 hf with ⟨hcs, _⟩ | ⟨x, l, c, m, n, D, Pl, hcs, _, hl, hm, hmm, hx, hel⟩
  · simp [Value.cells] at hcs
    obtain ⟨rfl, rfl, rfl⟩ := hcs
    exact ⟨none, [], 0, rfl, ⟨rfl, fun j hj => by simp at hj, fun j hj => by simp at hj, fun hn => by simp at hn⟩, by simp⟩
  · simp [Value.cells] at hcs
    obtain ⟨rfl, rfl, rfl⟩ := hcs
    simp only [if_true] at hmm
    subst hmm
    have each : ∀ i, i < m → ∃ q : Ce, CeAt W x i q := by
      intro i hi
      obtain ⟨cs', h1, h2⟩ := hel i hi
      rw [cells77] at h1
      obtain ⟨_, hlen, hcell⟩ := World.cells?_some h1
      obtain ⟨xs, k, hk, hxy, _, hxl, hf⟩ := DataW.trod_struct Tryz.underlying77 h2
      match xs, hxl, cs', hlen with
      | [y0, y1, y2], _, [v0, v1, v2], _ =>
        have g0 := hf 0 _ rfl
        have g1 := hf 1 _ rfl
        have g2 := hf 2 _ rfl
        simp [cells3, cells9] at g0 g1 g2
        have e0 := hcell 0 (by omega)
        have e1 := hcell 1 (by omega)
        have e2 := hcell 2 (by omega)
        rw [Go.Deep.add_add] at e0 e1 e2
        obtain ⟨z0, ez0, rfl, w0⟩ := DataW.trod_string Tryz.underlying9 g0
        obtain ⟨z1, ez1, rfl, w1⟩ := DataW.trod_string Tryz.underlying9 g1
        obtain ⟨z2, ez2, rfl, w2⟩ := DataW.trod_int Tryz.underlying3 g2
        simp only [List.cons.injEq, and_true] at ez0 ez1 ez2
        subst ez0 ez1 ez2
        unfold maxLen at w0 w1
        refine ⟨⟨z0.data.toList, z1.data.toList, z2⟩, by simpa using e0, by simpa using e1, by simpa using e2, ⟨?_, ?_⟩, bounds_i64 w2⟩
        · show z0.data.toList.length ≤ _
          rw [Array.length_toList]
          exact Nat.le_trans w0 (by omega)
        · show z1.data.toList.length ≤ _
          rw [Array.length_toList]
          exact Nat.le_trans w1 (by omega)
    have : Inhabited Ce := ⟨ce0⟩
    obtain ⟨q, hq⟩ := Go.Deep.choose_lt each
    have hlen : ((List.range sl).map q).length = sl := by simp
    unfold maxLen at hm
    refine ⟨some x, (List.range sl).map q, m, by rw [hlen], ⟨rfl, fun j hj => ?_, fun j hj => ?_, fun h0 => ?_⟩, by omega⟩
    · rw [hlen] at hj
      rw [getD_at q ce0 sl j hj]
      exact (hq j (by omega)).b2
    · rw [hlen] at hj
      rw [getD_at q ce0 sl j hj]
      exact (hq j (by omega)).b0
    · rw [hlen] at h0 ⊢
      obtain ⟨b, off, spot⟩ := x
      have hspot : spot = none := by simpa [Addr.add] using World.cell?_spot (hq 0 (by omega)).c0
      subst hspot
      refine ⟨b, off, rfl, fun k hk => ?_⟩
      rw [getD_at q ce0 sl k hk]
      have h3 := hq k (by omega)
      have e0 := h3.c0
      have e1 := h3.c1
      have e2 := h3.c2
      rw [WideShapes.add_plain] at e0 e1 e2
      exact ⟨e0, by rw [Nat.add_assoc]; exact e1, by rw [Nat.add_assoc]; exact e2⟩
set_option maxRecDepth 20000 in
/-- A page among the arguments. -/
theorem open_page {H : Type} {enc : TypeId × Value → H} {W : World} {v : Value} {base : Nat} {d : DataW H} {ps : List MemPlace} (hval : Value.okWide Tryz.prog W .any base 27 v)
    (h : DataW.Trod enc Tryz.prog W 0 (fun _ => true) true 27 v d ps) :
    ∃ (k nu bi : Int) (la : Option Addr) (L : List Int) (lc : Nat) (x : Bs), v = .agg #[I k, I nu, I bi, .slice la L.length lc, S x] ∧ Ins W la L.length L ∧ L.length ≤ 9223372036854775807 ∧ x.length ≤ 9223372036854775807 := by
  obtain ⟨cs, rfl, hc⟩ := okWide_struct Tryz.underlying27 hval
  rw [cells27] at hc
  obtain ⟨fuel, hf⟩ := h
  obtain ⟨xs, k, hk, hxy, _, hxl, hfs⟩ := DataW.trod_struct Tryz.underlying27 hf
  obtain ⟨l⟩ := cs
  match xs, hxl, l, hc with
  | [y0, y1, y2, y3, y4], _, [v0, v1, v2, v3, v4], _ =>
    have g0 := hfs 0 _ rfl
    have g1 := hfs 1 _ rfl
    have g2 := hfs 2 _ rfl
    have g3 := hfs 3 _ rfl
    have g4 := hfs 4 _ rfl
    simp [cells3, cells23, cells9, Value.cells] at g0 g1 g2 g3 g4
    obtain ⟨z0, ez0, _⟩ := DataW.trod_int Tryz.underlying3 g0
    obtain ⟨z1, ez1, _⟩ := DataW.trod_int Tryz.underlying3 g1
    obtain ⟨z2, ez2, _⟩ := DataW.trod_int Tryz.underlying3 g2
    obtain ⟨ia, is, ic, rfl, i1, i2, i3⟩ := open_ints g3
    obtain ⟨z4, ez4, _, w4⟩ := DataW.trod_string Tryz.underlying9 g4
    simp only [List.cons.injEq, and_true] at ez0 ez1 ez2 ez4
    subst ez0 ez1 ez2 ez4
    unfold maxLen at w4
    refine ⟨z0, z1, z2, ia, is, ic, z4.data.toList, by simp, i1, i3, ?_⟩
    rw [Array.length_toList]
    exact Nat.le_trans w4 (by omega)
end Go.Proofs.YtllialbdofklgaaGreatDoor
