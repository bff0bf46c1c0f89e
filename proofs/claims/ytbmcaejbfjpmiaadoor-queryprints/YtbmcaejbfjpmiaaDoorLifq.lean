import Derived.Test.YtbmcaejbfjpmiaaDoorLai
import Derived.Test.YtbmcaejbfjpmiaaDoorWgq
import Derived.Deep.Slices
import Derived.SizedLaws
namespace Go.Proofs.YtbmcaejbfjpmiaaDoor
open Go Go.ChangeShapes Go.WideShapes Go.ChangeAt
theorem bytes44 : Tryd.prog.bytesOf 44 = 32 := by kernel_rfl
theorem cells44 : Tryd.prog.cellsOf 44 = 2 := by kernel_rfl
theorem cells9 : Tryd.prog.cellsOf 9 = 1 := by kernel_rfl
theorem weigh_all {H : Type} {P : Program} {e : TypeId} {d : DataW H} {x : Nat} (hx : x ∈ DataW.weights P e d) : ∀ {l : List (DataW H)}, d ∈ l → x ∈ DataW.weightsAll P e l
  | y :: l, h => by
    rcases List.mem_cons.1 h with rfl | h
    · exact List.mem_append.2 (.inl hx)
    · exact List.mem_append.2 (.inr (weigh_all hx h))
/-- What stands in a field's two cells. -/
structure FlAt {H : Type} (W : World) (a : Addr) (i : Nat) (D : Nat → DataW H) (q : Fl) : Prop where
  c0 : W.cell? (a.add (i * 2)) = some (S q.1)
  c1 : W.cell? (a.add (i * 2 + 1)) = some (S q.2)
  d : D i = .agg [.lit (.string q.1), .lit (.string q.2)]
theorem getD_at {α : Type} (f : Nat → α) (d : α) (n k : Nat) (h : k < n) : ((List.range n).map f).getD k d = f k := by simp [h]
set_option maxRecDepth 20000 in
/-- Fields among the arguments: what they are, and how long their texts can be. -/
theorem open_fields {H : Type} {enc : TypeId × Value → H} {W : World} {a : Option Addr} {len cap : Nat} {d : DataW H} {ps : List MemPlace} {ts : List TypeId} {ds : List (DataW H)} {j : Nat}
    (h : DataW.Trod enc Tryd.prog W 0 (fun _ => true) true 31 (.slice a len cap) d ps) (ht : ts[j]? = some 31) (hd : ds[j]? = some d) (hsz : (DataW.weightsEach Tryd.prog ts ds).all (· ≤ reachBytes) = true) :
    ∃ qs : List Fl, len = qs.length ∧ Fls W a qs.length qs ∧ qs.length ≤ 140737488351232 ∧ len ≤ cap ∧ (a = none → cap = 0) ∧ (∀ k, (qs.getD k f0).1.length ≤ 140737488351232 ∧ (qs.getD k f0).2.length ≤ 140737488351232) := by
  obtain ⟨fuel, hf⟩ := h
  rcases Go.Deep.open_slice Tryd.underlying31 hf with ⟨hcs, _⟩ | ⟨x, l, c, m, n, D, Pl, hcs, _, hl, hm, hmm, hx, hel⟩
  · simp [Value.cells] at hcs
    obtain ⟨rfl, rfl, rfl⟩ := hcs
    exact ⟨[], rfl, ⟨rfl, fun q => by simp at q⟩, by simp, by omega, (fun _ => rfl), (fun k => by simp [f0])⟩
  · simp [Value.cells] at hcs
    obtain ⟨rfl, rfl, rfl⟩ := hcs
    simp only [if_true] at hmm
    subst hmm
    have hd' : d = .slice ((List.range len).map D) ((List.range (m - len)).map fun j => D (len + j)) := congrArg Prod.fst hx
    subst hd'
    have h1 := sized_slice hsz ht hd Tryd.underlying31
    rw [bytes44] at h1
    have each : ∀ i, i < m → ∃ q : Fl, FlAt W x i D q := by
      intro i hi
      obtain ⟨cs', h1, h2⟩ := hel i hi
      rw [cells44] at h1
      obtain ⟨_, hlen, hcell⟩ := World.cells?_some h1
      obtain ⟨xs, k, hk, hxy, _, hxl, hf⟩ := DataW.trod_struct Tryd.underlying44 h2
      match xs, hxl, cs', hlen with
      | [y0, y1], _, [v0, v1], _ =>
        have g0 := hf 0 _ rfl
        have g1 := hf 1 _ rfl
        simp [cells9] at g0 g1
        have e0 := hcell 0 (by omega)
        have e1 := hcell 1 (by omega)
        rw [Go.Deep.add_add] at e0 e1
        obtain ⟨z0, ez0, rfl, _⟩ := DataW.trod_string Tryd.underlying9 g0
        obtain ⟨z1, ez1, rfl, _⟩ := DataW.trod_string Tryd.underlying9 g1
        simp only [List.cons.injEq, and_true] at ez0 ez1
        subst ez0 ez1
        simp only [Prod.mk.injEq] at hxy
        exact ⟨(z0.data.toList, z1.data.toList), by simpa [S] using e0, by simpa [S] using e1, by simpa using hxy.1⟩
    have : Inhabited Fl := ⟨f0⟩
    obtain ⟨q, hq⟩ := Go.Deep.choose_lt each
    have hlen : ((List.range len).map q).length = len := by simp
    have htl : ∀ k, (((List.range len).map q).getD k f0).1.length ≤ 140737488351232 ∧ (((List.range len).map q).getD k f0).2.length ≤ 140737488351232 := by
      intro k
      by_cases hk : k < len
      · rw [getD_at q f0 len k hk]
        have e := (hq k (by omega)).d
        have key : ∀ y, y ∈ DataW.weights (H := H) Tryd.prog 44 (.agg [.lit (.string (q k).1), .lit (.string (q k).2)]) → y ≤ 140737488351232 := by
          intro y hy
          have := List.all_eq_true.1 hsz _ (DataW.weights_mem_each ht hd y (by
            show _ ∈ DataW.weights Tryd.prog 31 (.slice _ _)
            simp only [DataW.weights, Tryd.underlying31]
            refine List.mem_cons_of_mem _ (List.mem_append.2 (.inl (weigh_all (d := D k) ?_ (List.mem_map.2 ⟨k, List.mem_range.2 hk, rfl⟩))))
            rw [e]
            exact hy))
          exact of_decide_eq_true this
        refine ⟨key _ ?_, key _ ?_⟩
        · simp only [DataW.weights, Tryd.underlying44]
          simp [DataW.weightsEach, DataW.weights]
        · simp only [DataW.weights, Tryd.underlying44]
          simp [DataW.weightsEach, DataW.weights]
      · rw [List.getD_eq_getElem?_getD, List.getElem?_eq_none (by simp; omega)]
        simp [f0]
    refine ⟨(List.range len).map q, hlen.symm, ⟨rfl, fun h0 => ?_⟩, ?_, hl, fun h => (by cases h), htl⟩
    · rw [hlen] at h0 ⊢
      obtain ⟨b, off, spot⟩ := x
      have hspot : spot = none := by simpa [Addr.add] using World.cell?_spot (hq 0 (by omega)).c0
      subst hspot
      refine ⟨b, off, rfl, fun k hk => ?_⟩
      rw [getD_at q f0 len k hk]
      have := hq k (by omega)
      have e0 := this.c0
      have e1 := this.c1
      rw [WideShapes.add_plain] at e0 e1
      exact ⟨e0, e1⟩
    · rw [hlen]
      have hr : reachBytes = 140737488351232 := rfl
      simp only [List.length_map, List.length_range] at h1
      omega
theorem laidOut : laidOutB Tryd.prog = true := by kernel_rfl
end Go.Proofs.YtbmcaejbfjpmiaaDoor
