import Derived.Test.YthlacailhfhjnaaGreatDoorLif
import Derived.Test.YthlacailhfhjnaaGreatDoorWjk
namespace Go.Proofs.YthlacailhfhjnaaGreatDoor
open Go Go.ChangeShapes Go.WideShapes Go.ChangeAt
theorem bytes41 : Tryz.prog.bytesOf 41 = 24 := by kernel_rfl
theorem cells41 : Tryz.prog.cellsOf 41 = 2 := by kernel_rfl
theorem cells3p : Tryz.prog.cellsOf 3 = 1 := by kernel_rfl
/-- What stands in a piece's two cells. -/
structure PcAt {H : Type} (W : World) (a : Addr) (i : Nat) (D : Nat → DataW H) (q : Int × Bs) : Prop where
  c0 : W.cell? (a.add (i * 2)) = some (.int .i64 q.1)
  c1 : W.cell? (a.add (i * 2 + 1)) = some (S q.2)
  b : -9223372036854775808 ≤ q.1 ∧ q.1 ≤ 9223372036854775807
  l : (∀ x ∈ DataW.weights Tryz.prog 41 (D i), x ≤ 140737488351232) → q.2.length ≤ 140737488351232
set_option maxRecDepth 20000 in
/-- Pieces among the arguments. -/
theorem open_pieces {H : Type} {enc : TypeId × Value → H} {W : World} {v : Value} {fuel : Nat} {y : DataW H × List MemPlace}
    (hf : DataW.trod enc Tryz.prog W 0 (fun _ => true) true fuel 39 [v] = some y) (hsz : ∀ x ∈ DataW.weights Tryz.prog 39 y.1, x ≤ 140737488351232) :
    ∃ (a : Option Addr) (qs : List (Int × Bs)) (cap : Nat), v = .slice a qs.length cap ∧ Pcs W a qs.length qs ∧ qs.length ≤ 140737488351232 ∧ (∀ k, (qs.getD k pc0).2.length ≤ 140737488351232) ∧ (∀ k, -9223372036854775808 ≤ (qs.getD k pc0).1 ∧ (qs.getD k pc0).1 ≤ 9223372036854775807) := by
  rcases Go.Deep.open_slice Tryz.underlying39 hf with ⟨hcs, _⟩ | ⟨x, l, c, m, n, D, Pl, hcs, _, hl, hm, hmm, hx, hel⟩
  · simp at hcs
    exact ⟨none, [], 0, hcs, ⟨rfl, fun h => absurd h (by simp)⟩, by simp, fun k => by simp [pc0], fun k => by simp [pc0]⟩
  · simp at hcs
    simp only [if_true] at hmm
    subst hmm
    obtain ⟨d, ps⟩ := y
    have hd' : d = .slice ((List.range l).map D) ((List.range (m - l)).map fun j => D (l + j)) := congrArg Prod.fst hx
    subst hd'
    have h1 : (l + (m - l)) * 24 ≤ 140737488351232 := by
      have := hsz ((l + (m - l)) * 24) (by simp [DataW.weights, Tryz.underlying39, bytes41])
      exact this
    have each : ∀ i, i < m → ∃ q : Int × Bs, PcAt W x i D q := by
      intro i hi
      obtain ⟨cs', h1, h2⟩ := hel i hi
      rw [cells41] at h1
      obtain ⟨_, hlen, hcell⟩ := World.cells?_some h1
      obtain ⟨xs, k, hk, hxy, _, hxl, hf⟩ := DataW.trod_struct Tryz.underlying41 h2
      match xs, hxl, cs', hlen with
      | [y0, y1], _, [v0, v1], _ =>
        have g0 := hf 0 _ rfl
        have g1 := hf 1 _ rfl
        simp [cells9, cells3p] at g0 g1
        have e0 := hcell 0 (by omega)
        have e1 := hcell 1 (by omega)
        rw [Go.Deep.add_add] at e0 e1
        obtain ⟨z0, ez0, rfl, w0⟩ := DataW.trod_int Tryz.underlying3 g0
        obtain ⟨z1, ez1, rfl, _⟩ := DataW.trod_string Tryz.underlying9 g1
        simp only [List.cons.injEq, and_true] at ez0 ez1
        subst ez0 ez1
        simp only [Prod.mk.injEq] at hxy
        have hD : D i = _ := hxy.1
        refine ⟨(z0, z1.data.toList), by simpa using e0, by simpa [S] using e1, i64_of w0, fun hw => ?_⟩
        refine hw _ ?_
        rw [hD]
        simp only [DataW.weights, Tryz.underlying41]
        simp [DataW.weightsEach, DataW.weights]
    have : Inhabited (Int × Bs) := ⟨pc0⟩
    obtain ⟨q, hq⟩ := Go.Deep.choose_lt each
    have hlen : ((List.range l).map q).length = l := by simp
    have hout : ∀ k, ¬ k < l → ((List.range l).map q).getD k pc0 = pc0 := fun k hk => by
      rw [List.getD_eq_getElem?_getD, List.getElem?_eq_none (by simp; omega)]
      rfl
    refine ⟨some x, (List.range l).map q, m, by rw [hlen]; exact hcs, ⟨rfl, fun h0 => ?_⟩, by rw [hlen]; omega, fun k => ?_, fun k => ?_⟩
    · rw [hlen] at h0 ⊢
      obtain ⟨b, off, spot⟩ := x
      have hspot : spot = none := by simpa [Addr.add] using World.cell?_spot (hq 0 (by omega)).c0
      subst hspot
      refine ⟨b, off, rfl, fun k hk => ?_⟩
      rw [getD_at q pc0 l k hk]
      have := hq k (by omega)
      have e0 := this.c0
      have e1 := this.c1
      rw [WideShapes.add_plain] at e0 e1
      exact ⟨e0, by simpa [Nat.add_assoc] using e1⟩
    · by_cases hk : k < l
      · rw [getD_at q pc0 l k hk]
        refine (hq k (by omega)).l (fun y hy => hsz y ?_)
        simp only [DataW.weights, Tryz.underlying39]
        exact List.mem_cons_of_mem _ (List.mem_append.2 (.inl (weigh_all (d := D k) hy (List.mem_map.2 ⟨k, List.mem_range.2 hk, rfl⟩))))
      · rw [hout k hk]
        exact Nat.zero_le _
    · by_cases hk : k < l
      · rw [getD_at q pc0 l k hk]
        exact (hq k (by omega)).b
      · rw [hout k hk]
        decide
end Go.Proofs.YthlacailhfhjnaaGreatDoor
