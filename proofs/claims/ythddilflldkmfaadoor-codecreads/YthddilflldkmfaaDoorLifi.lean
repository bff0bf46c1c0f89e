import Derived.Test.YthddilflldkmfaaDoorLaid
import Derived.Test.YthddilflldkmfaaDoorWgha
import Derived.Deep.Slices
import Derived.SizedLaws
namespace Go.Proofs.YthddilflldkmfaaDoor
open Go Go.ChangeShapes Go.WideShapes Go.ChangeAt
theorem bytes57 : Tryd.prog.bytesOf 57 = 48 := by kernel_rfl
theorem cells57 : Tryd.prog.cellsOf 57 = 5 := by kernel_rfl
theorem cells3 : Tryd.prog.cellsOf 3 = 1 := by kernel_rfl
theorem cells9 : Tryd.prog.cellsOf 9 = 1 := by kernel_rfl
theorem weigh_all {H : Type} {P : Program} {e : TypeId} {d : DataW H} {x : Nat} (hx : x ∈ DataW.weights P e d) : ∀ {l : List (DataW H)}, d ∈ l → x ∈ DataW.weightsAll P e l
  | y :: l, h => by
    rcases List.mem_cons.1 h with rfl | h
    · exact List.mem_append.2 (.inl hx)
    · exact List.mem_append.2 (.inr (weigh_all hx h))
/-- What stands in an item's five cells. -/
structure ItAt {H : Type} (W : World) (a : Addr) (i : Nat) (D : Nat → DataW H) (q : Raw) : Prop where
  c0 : W.cell? (a.add (i * 5)) = some (.int .i64 q.k)
  c1 : W.cell? (a.add (i * 5 + 1)) = some (.int .i64 q.s)
  c2 : W.cell? (a.add (i * 5 + 2)) = some (.int .i64 q.n)
  c3 : W.cell? (a.add (i * 5 + 3)) = some (.int .i64 q.m)
  c4 : W.cell? (a.add (i * 5 + 4)) = some (.string ⟨q.t.toArray⟩)
  b0 : i64 q.k
  b1 : i64 q.s
  b2 : i64 q.n
  b3 : i64 q.m
  d : D i = .agg [.lit (.int .i64 q.k), .lit (.int .i64 q.s), .lit (.int .i64 q.n), .lit (.int .i64 q.m), .lit (.string q.t)]
theorem getD_at {α : Type} (f : Nat → α) (d : α) (n k : Nat) (h : k < n) : ((List.range n).map f).getD k d = f k := by simp [h]
theorem it0_fit : it0.Fit := ⟨by unfold i64 it0; simp, by unfold i64 it0; simp, by unfold i64 it0; simp, by unfold i64 it0; simp, by simp [it0]⟩
set_option maxRecDepth 20000 in
/-- Items among the arguments: what they are, and how long their texts can be. -/
theorem open_items {H : Type} {enc : TypeId × Value → H} {W : World} {a : Option Addr} {len cap : Nat} {d : DataW H} {ps : List MemPlace} {ts : List TypeId} {ds : List (DataW H)} {j : Nat}
    (h : DataW.Trod enc Tryd.prog W 0 (fun _ => true) true 54 (.slice a len cap) d ps) (ht : ts[j]? = some 54) (hd : ds[j]? = some d) (hsz : (DataW.weightsEach Tryd.prog ts ds).all (· ≤ reachBytes) = true) :
    ∃ qs : List Raw, len = qs.length ∧ Its W a qs.length qs ∧ qs.length ≤ 140737488351232 ∧ (∀ k, (qs.getD k it0).t.length ≤ 140737488351232) ∧ ∀ k, (qs.getD k it0).Fit := by
  obtain ⟨fuel, hf⟩ := h
  rcases Go.Deep.open_slice Tryd.underlying54 hf with ⟨hcs, _⟩ | ⟨x, l, c, m, n, D, Pl, hcs, _, hl, hm, hmm, hx, hel⟩
  · simp [Value.cells] at hcs
    obtain ⟨rfl, rfl, rfl⟩ := hcs
    exact ⟨[], rfl, ⟨rfl, fun q => by simp at q⟩, by simp, fun k => by simp [it0], fun k => by simpa using it0_fit⟩
  · simp [Value.cells] at hcs
    obtain ⟨rfl, rfl, rfl⟩ := hcs
    simp only [if_true] at hmm
    subst hmm
    have hd' : d = .slice ((List.range len).map D) ((List.range (m - len)).map fun j => D (len + j)) := congrArg Prod.fst hx
    subst hd'
    have h1 := sized_slice hsz ht hd Tryd.underlying54
    rw [bytes57] at h1
    have each : ∀ i, i < m → ∃ q : Raw, ItAt W x i D q := by
      intro i hi
      obtain ⟨cs', h1, h2⟩ := hel i hi
      rw [cells57] at h1
      obtain ⟨_, hlen, hcell⟩ := World.cells?_some h1
      obtain ⟨xs, k, hk, hxy, _, hxl, hf⟩ := DataW.trod_struct Tryd.underlying57 h2
      match xs, hxl, cs', hlen with
      | [y0, y1, y2, y3, y4], _, [v0, v1, v2, v3, v4], _ =>
        have g0 := hf 0 _ rfl
        have g1 := hf 1 _ rfl
        have g2 := hf 2 _ rfl
        have g3 := hf 3 _ rfl
        have g4 := hf 4 _ rfl
        simp [cells3, cells9] at g0 g1 g2 g3 g4
        have e0 := hcell 0 (by omega)
        have e1 := hcell 1 (by omega)
        have e2 := hcell 2 (by omega)
        have e3 := hcell 3 (by omega)
        have e4 := hcell 4 (by omega)
        rw [Go.Deep.add_add] at e0 e1 e2 e3 e4
        obtain ⟨z0, ez0, rfl, w0⟩ := DataW.trod_int Tryd.underlying3 g0
        obtain ⟨z1, ez1, rfl, w1⟩ := DataW.trod_int Tryd.underlying3 g1
        obtain ⟨z2, ez2, rfl, w2⟩ := DataW.trod_int Tryd.underlying3 g2
        obtain ⟨z3, ez3, rfl, w3⟩ := DataW.trod_int Tryd.underlying3 g3
        obtain ⟨z4, ez4, rfl, _⟩ := DataW.trod_string Tryd.underlying9 g4
        simp only [List.cons.injEq, and_true] at ez0 ez1 ez2 ez3 ez4
        subst ez0 ez1 ez2 ez3 ez4
        simp only [Prod.mk.injEq] at hxy
        exact ⟨⟨z0, z1, z2, z3, z4.data.toList⟩, by simpa using e0, by simpa using e1, by simpa using e2, by simpa using e3, by simpa using e4, bounds_i64 w0, bounds_i64 w1, bounds_i64 w2, bounds_i64 w3, by simpa using hxy.1⟩
    have : Inhabited Raw := ⟨it0⟩
    obtain ⟨q, hq⟩ := Go.Deep.choose_lt each
    have hlen : ((List.range len).map q).length = len := by simp
    have htl : ∀ k, (((List.range len).map q).getD k it0).t.length ≤ 140737488351232 := by
      intro k
      by_cases hk : k < len
      · rw [getD_at q it0 len k hk]
        have e := (hq k (by omega)).d
        have := List.all_eq_true.1 hsz _ (DataW.weights_mem_each ht hd (q k).t.length (by
          show _ ∈ DataW.weights Tryd.prog 54 (.slice _ _)
          simp only [DataW.weights, Tryd.underlying54]
          refine List.mem_cons_of_mem _ (List.mem_append.2 (.inl (weigh_all (d := D k) ?_ (List.mem_map.2 ⟨k, List.mem_range.2 hk, rfl⟩))))
          rw [e]
          simp only [DataW.weights, Tryd.underlying57]
          simp [DataW.weightsEach, DataW.weights]))
        exact of_decide_eq_true this
      · rw [List.getD_eq_getElem?_getD, List.getElem?_eq_none (by simp; omega)]
        simp [it0]
    refine ⟨(List.range len).map q, hlen.symm, ⟨rfl, fun h0 => ?_⟩, ?_, htl, fun k => ?_⟩
    · rw [hlen] at h0 ⊢
      obtain ⟨b, off, spot⟩ := x
      have hspot : spot = none := by simpa [Addr.add] using World.cell?_spot (hq 0 (by omega)).c0
      subst hspot
      refine ⟨b, off, rfl, fun k hk => ?_⟩
      rw [getD_at q it0 len k hk]
      have := hq k (by omega)
      have e0 := this.c0
      have e1 := this.c1
      have e2 := this.c2
      have e3 := this.c3
      have e4 := this.c4
      rw [WideShapes.add_plain] at e0 e1 e2 e3 e4
      exact ⟨e0, e1, e2, e3, e4⟩
    · rw [hlen]
      have hr : reachBytes = 140737488351232 := rfl
      simp only [List.length_map, List.length_range] at h1
      omega
    · have ht := htl k
      by_cases hk : k < len
      · rw [getD_at q it0 len k hk] at ht ⊢
        have := hq k (by omega)
        exact ⟨this.b0, this.b1, this.b2, this.b3, by omega⟩
      · rw [List.getD_eq_getElem?_getD, List.getElem?_eq_none (by simp; omega)]
        simpa using it0_fit
end Go.Proofs.YthddilflldkmfaaDoor
