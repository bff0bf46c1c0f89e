import Derived.Test.YtjopnhhdemfniaaGreatDoorLpp
import Derived.Test.YtjopnhhdemfniaaGreatDoorQbq
namespace Go.Proofs.YtjopnhhdemfniaaGreatDoor
open Go Go.ChangeShapes Go.WideShapes Go.ChangeAt
theorem cells94 : Tryz.prog.cellsOf 94 = 4 := by kernel_rfl
theorem cells92 : Tryz.prog.cellsOf 92 = 2 := by kernel_rfl
structure HlAt (W : World) (x : Addr) (i : Nat) (q : Hl) : Prop where
  c0 : W.cell? (x.add (i * 4)) = some (I q.what)
  c1 : W.cell? (x.add (i * 4 + 1)) = some (I q.n)
  c2 : W.cell? (x.add (i * 4 + 2)) = some (I q.how)
  c3 : W.cell? (x.add (i * 4 + 3)) = some (I q.many)
  r : i64 q.what ∧ i64 q.n ∧ i64 q.how ∧ i64 q.many
set_option maxRecDepth 20000 in
/-- Steps among the arguments. -/
theorem open_holds {H : Type} {enc : TypeId × Value → H} {W : World} {a : Option Addr} {len cap : Nat} {d : DataW H} {ps : List MemPlace}
    (h : DataW.Trod enc Tryz.prog W 0 (fun _ => true) true 89 (.slice a len cap) d ps) :
    ∃ qs : List Hl, Scs W a len qs ∧ len ≤ 9223372036854775807 ∧ ∀ x ∈ qs, i64 x.what ∧ i64 x.n ∧ i64 x.how ∧ i64 x.many := by
  obtain ⟨fuel, hf⟩ := h
  rcases Go.Deep.open_slice Tryz.underlying89 hf with ⟨hcs, _⟩ | ⟨x, l, c, m, n, D, Pl, hcs, _, hl, hm, hmm, hx, hel⟩
  · simp [Value.cells] at hcs
    obtain ⟨rfl, rfl, rfl⟩ := hcs
    exact ⟨[], ⟨rfl, fun q => by simp at q⟩, by simp, fun x hx => by simp at hx⟩
  · simp [Value.cells] at hcs
    obtain ⟨rfl, rfl, rfl⟩ := hcs
    simp only [if_true] at hmm
    subst hmm
    have each : ∀ i, i < m → ∃ q : Hl, HlAt W x i q := by
      intro i hi
      obtain ⟨cs', h1, h2⟩ := hel i hi
      rw [cells94] at h1
      obtain ⟨_, hlen, hcell⟩ := World.cells?_some h1
      obtain ⟨xs, k, hk, hxy, _, hxl, hf⟩ := DataW.trod_struct Tryz.underlying94 h2
      match xs, hxl, cs', hlen with
      | [y0, y1, y2], _, [v0, v1, v2, v3], _ =>
        have g0 := hf 0 _ rfl
        have g1 := hf 1 _ rfl
        have g2 := hf 2 _ rfl
        simp [cells3, cells92] at g0 g1 g2
        obtain ⟨xs', k', hk', hxy', _, hxl', hf'⟩ := DataW.trod_struct Tryz.underlying92 g2
        have e0 := hcell 0 (by omega)
        have e1 := hcell 1 (by omega)
        have e2 := hcell 2 (by omega)
        have e3 := hcell 3 (by omega)
        rw [Go.Deep.add_add] at e0 e1 e2 e3
        match xs', hxl' with
        | [y2, y3], _ =>
          have g2' := hf' 0 _ rfl
          have g3' := hf' 1 _ rfl
          simp [cells3] at g2' g3'
          obtain ⟨z0, ez0, _, w0⟩ := DataW.trod_int Tryz.underlying3 g0
          obtain ⟨z1, ez1, _, w1⟩ := DataW.trod_int Tryz.underlying3 g1
          obtain ⟨z2, ez2, _, w2⟩ := DataW.trod_int Tryz.underlying3 g2'
          obtain ⟨z3, ez3, _, w3⟩ := DataW.trod_int Tryz.underlying3 g3'
          simp only [List.cons.injEq, and_true] at ez0 ez1 ez2 ez3
          subst ez0 ez1 ez2 ez3
          exact ⟨⟨z0, z1, z2, z3⟩, by simpa using e0, by simpa using e1, by simpa using e2, by simpa using e3, wf_i64 w0, wf_i64 w1, wf_i64 w2, wf_i64 w3⟩
    have : Inhabited Hl := ⟨noHl⟩
    obtain ⟨q, hq⟩ := Go.Deep.choose_lt each
    have hlen : ((List.range len).map q).length = len := by simp
    unfold maxLen at hm
    refine ⟨(List.range len).map q, ⟨hlen.symm, fun h0 => ?_⟩, by omega, ?_⟩
    · obtain ⟨b, off, spot⟩ := x
      have hspot : spot = none := by simpa [Addr.add] using World.cell?_spot (hq 0 (by omega)).c0
      subst hspot
      refine ⟨b, off, rfl, fun k hk => ?_⟩
      rw [rng_at q noHl len k hk]
      have := hq k (by omega)
      have e0 := this.c0
      have e1 := this.c1
      have e2 := this.c2
      have e3 := this.c3
      rw [WideShapes.add_plain] at e0 e1 e2 e3
      exact ⟨e0, by rw [Nat.add_assoc]; exact e1, by rw [Nat.add_assoc]; exact e2, by rw [Nat.add_assoc]; exact e3⟩
    · intro y hy
      simp only [List.mem_map, List.mem_range] at hy
      obtain ⟨k, hk, rfl⟩ := hy
      exact (hq k (by omega)).r
end Go.Proofs.YtjopnhhdemfniaaGreatDoor
