import Derived.Test.YtjopnhhdemfniaaGreatDoorLpp
import Derived.Test.YtjopnhhdemfniaaGreatDoorZqco
namespace Go.Proofs.YtjopnhhdemfniaaGreatDoor
open Go Go.ChangeShapes Go.WideShapes Go.ChangeAt
theorem cells92b : Tryz.prog.cellsOf 92 = 2 := by kernel_rfl
theorem cells73 : Tryz.prog.cellsOf 73 = 3 := by kernel_rfl
theorem cells71 : Tryz.prog.cellsOf 71 = 1 := by kernel_rfl
def bdT (t : Int × Int) : Prop := (-9223372036854775808 ≤ t.1 ∧ t.1 ≤ 9223372036854775807) ∧ -9223372036854775808 ≤ t.2 ∧ t.2 ≤ 9223372036854775807
structure TnAt (W : World) (x : Addr) (i : Nat) (q : Int × Int) : Prop where
  c0 : W.cell? (x.add (i * 2)) = some (I q.1)
  c1 : W.cell? (x.add (i * 2 + 1)) = some (I q.2)
  r : bdT q
set_option maxRecDepth 20000 in
/-- Turns among the arguments. -/
theorem open_turns {H : Type} {enc : TypeId × Value → H} {W : World} {v : Value} {fuel : Nat} {y : DataW H × List MemPlace} (hf : DataW.trod enc Tryz.prog W 0 (fun _ => true) true fuel 71 [v] = some y) :
    ∃ (a : Option Addr) (T : List (Int × Int)) (cap : Nat), v = .slice a T.length cap ∧ Tls W a T.length T ∧ T.length ≤ 9223372036854775807 ∧ ∀ t ∈ T, bdT t := by
  rcases Go.Deep.open_slice Tryz.underlying71 hf with ⟨hcs, _⟩ | ⟨x, len, c, m, n, D, Pl, hcs, _, hl, hm, hmm, hx, hel⟩
  · simp at hcs
    subst hcs
    exact ⟨none, [], 0, rfl, ⟨rfl, fun h => absurd h (by simp)⟩, by simp, by simp⟩
  · simp at hcs
    subst hcs
    simp only [if_true] at hmm
    subst hmm
    have each : ∀ i, i < m → ∃ q : Int × Int, TnAt W x i q := by
      intro i hi
      obtain ⟨cs', h1, h2⟩ := hel i hi
      rw [cells92b] at h1
      obtain ⟨_, hlen, hcell⟩ := World.cells?_some h1
      obtain ⟨xs, k, hk, hxy, _, hxl, hf⟩ := DataW.trod_struct Tryz.underlying92 h2
      match xs, hxl, cs', hlen with
      | [y0, y1], _, [v0, v1], _ =>
        have g0 := hf 0 _ rfl
        have g1 := hf 1 _ rfl
        simp [cells3] at g0 g1
        have e0 := hcell 0 (by omega)
        have e1 := hcell 1 (by omega)
        rw [Go.Deep.add_add] at e0 e1
        obtain ⟨z0, ez0, _, w0⟩ := DataW.trod_int Tryz.underlying3 g0
        obtain ⟨z1, ez1, _, w1⟩ := DataW.trod_int Tryz.underlying3 g1
        simp only [List.cons.injEq, and_true] at ez0 ez1
        subst ez0 ez1
        exact ⟨(z0, z1), by simpa using e0, by simpa using e1, wf_i64 w0, wf_i64 w1⟩
    obtain ⟨q, hq⟩ := Go.Deep.choose_lt each
    have hlen : ((List.range len).map q).length = len := by simp
    unfold maxLen at hm
    refine ⟨some x, (List.range len).map q, m, by rw [hlen], ⟨rfl, fun h0 => ?_⟩, by omega, fun t ht => ?_⟩
    · rw [hlen] at h0 ⊢
      obtain ⟨b, off, spot⟩ := x
      have hspot : spot = none := by simpa [Addr.add] using World.cell?_spot (hq 0 (by omega)).c0
      subst hspot
      refine ⟨b, off, rfl, fun k hk => ?_⟩
      rw [rng_at q (0, 0) len k hk]
      have := hq k (by omega)
      have e0 := this.c0
      have e1 := this.c1
      rw [WideShapes.add_plain] at e0 e1
      exact ⟨e0, by rw [Nat.add_assoc]; exact e1⟩
    · obtain ⟨i, hi, rfl⟩ := List.mem_map.1 ht
      exact (hq i (by have := List.mem_range.1 hi; omega)).r
structure ElAt (W : World) (x : Addr) (i : Nat) (lf : Lif) (ts : Option Addr) (cT : Nat) (ka : Option Addr) (kc : Nat) : Prop where
  c0 : W.cell? (x.add (i * 3)) = some (.slice ts lf.T.length cT)
  c1 : W.cell? (x.add (i * 3 + 1)) = some (I lf.arm)
  c2 : W.cell? (x.add (i * 3 + 2)) = some (.slice ka lf.K.length kc)
  tl : Tls W ts lf.T.length lf.T
  kl : Ins W ka lf.K.length lf.K
  r1 : i64 lf.arm
  r2 : ∀ t ∈ lf.T, bdT t
  r3 : ∀ z ∈ lf.K, -9223372036854775808 ≤ z ∧ z ≤ 9223372036854775807
  r4 : lf.T.length ≤ 9223372036854775807
  r5 : lf.K.length ≤ 9223372036854775807
set_option maxRecDepth 20000 in
/-- Lives among the arguments. -/
theorem open_lives {H : Type} {enc : TypeId × Value → H} {W : World} {a : Option Addr} {len cap : Nat} {d : DataW H} {ps : List MemPlace}
    (h : DataW.Trod enc Tryz.prog W 0 (fun _ => true) true 70 (.slice a len cap) d ps) :
    ∃ LL : List Lif, Als W a len LL ∧ len ≤ 9223372036854775807 ∧ ∀ x ∈ LL, i64 x.arm ∧ (∀ t ∈ x.T, (-9223372036854775808 ≤ t.1 ∧ t.1 ≤ 9223372036854775807) ∧ -9223372036854775808 ≤ t.2 ∧ t.2 ≤ 9223372036854775807) ∧ (∀ z ∈ x.K, -9223372036854775808 ≤ z ∧ z ≤ 9223372036854775807) ∧ x.T.length ≤ 9223372036854775807 ∧ x.K.length ≤ 9223372036854775807 := by
  obtain ⟨fuel, hf⟩ := h
  rcases Go.Deep.open_slice Tryz.underlying70 hf with ⟨hcs, _⟩ | ⟨x, l, c, m, n, D, Pl, hcs, _, hl, hm, hmm, hx, hel⟩
  · simp [Value.cells] at hcs
    obtain ⟨rfl, rfl, rfl⟩ := hcs
    exact ⟨[], ⟨rfl, fun q => by simp at q⟩, by simp, fun x hx => by simp at hx⟩
  · simp [Value.cells] at hcs
    obtain ⟨rfl, rfl, rfl⟩ := hcs
    simp only [if_true] at hmm
    subst hmm
    have each : ∀ i, i < m → ∃ q : Lif, ∃ ts cT ka kc, ElAt W x i q ts cT ka kc := by
      intro i hi
      obtain ⟨cs', h1, h2⟩ := hel i hi
      rw [cells73] at h1
      obtain ⟨_, hlen, hcell⟩ := World.cells?_some h1
      obtain ⟨xs, k, hk, hxy, _, hxl, hf⟩ := DataW.trod_struct Tryz.underlying73 h2
      match xs, hxl, cs', hlen with
      | [y0, y1, y2], _, [v0, v1, v2], _ =>
        have g0 := hf 0 _ rfl
        have g1 := hf 1 _ rfl
        have g2 := hf 2 _ rfl
        simp [cells3, cells71, cells22] at g0 g1 g2
        have e0 := hcell 0 (by omega)
        have e1 := hcell 1 (by omega)
        have e2 := hcell 2 (by omega)
        rw [Go.Deep.add_add] at e0 e1 e2
        obtain ⟨ta, T, tc, rfl, t1, t2, t3⟩ := open_turns g0
        obtain ⟨z1, ez1, _, w1⟩ := DataW.trod_int Tryz.underlying3 g1
        obtain ⟨ka, K, kc, rfl, k1, k2, k3, k4⟩ := open_ints2 g2
        simp only [List.cons.injEq, and_true] at ez1
        subst ez1
        exact ⟨⟨T, z1, K⟩, ta, tc, ka, kc, by simpa using e0, by simpa using e1, by simpa using e2, t1, k1, wf_i64 w1, t3, k4, t2, k3⟩
    have : Inhabited Lif := ⟨noLif⟩
    obtain ⟨q, hq⟩ := Go.Deep.choose_lt each
    have hlen : ((List.range len).map q).length = len := by simp
    unfold maxLen at hm
    refine ⟨(List.range len).map q, ⟨hlen.symm, fun h0 => ?_⟩, by omega, ?_⟩
    · obtain ⟨b, off, spot⟩ := x
      obtain ⟨_, _, _, _, hq0⟩ := hq 0 (by omega)
      have hspot : spot = none := by simpa [Addr.add] using World.cell?_spot hq0.c0
      subst hspot
      refine ⟨b, off, rfl, fun k hk => ?_⟩
      rw [rng_at q noLif len k hk]
      obtain ⟨ts, cT, ka, kc, hk⟩ := hq k (by omega)
      have e0 := hk.c0
      have e1 := hk.c1
      have e2 := hk.c2
      rw [WideShapes.add_plain] at e0 e1 e2
      exact ⟨ts, cT, ka, kc, e0, by rw [Nat.add_assoc]; exact e1, by rw [Nat.add_assoc]; exact e2, hk.tl, hk.kl⟩
    · intro y hy
      simp only [List.mem_map, List.mem_range] at hy
      obtain ⟨k, hk, rfl⟩ := hy
      obtain ⟨ts, cT, ka, kc, hk⟩ := hq k (by omega)
      exact ⟨hk.r1, hk.r2, hk.r3, hk.r4, hk.r5⟩
end Go.Proofs.YtjopnhhdemfniaaGreatDoor
