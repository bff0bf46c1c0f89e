import Derived.Test.YthddilflldkmfaaDoorLaid
import Derived.Test.YthddilflldkmfaaDoorRdw
import Derived.Deep.Slices
import Derived.SizedLaws
import Derived.Test.YthddilflldkmfaaDoorWrz
namespace Go.Proofs.YthddilflldkmfaaDoor
open Go Go.ChangeShapes Go.WideShapes Go.ChangeAt
theorem cellsI3 : Tryd.prog.cellsOf 3 = 1 := by kernel_rfl
theorem cellsS9 : Tryd.prog.cellsOf 9 = 1 := by kernel_rfl
theorem weigh_allO {H : Type} {P : Program} {e : TypeId} {d : DataW H} {x : Nat} (hx : x ∈ DataW.weights P e d) : ∀ {l : List (DataW H)}, d ∈ l → x ∈ DataW.weightsAll P e l
  | y :: l, h => by
    rcases List.mem_cons.1 h with rfl | h
    · exact List.mem_append.2 (.inl hx)
    · exact List.mem_append.2 (.inr (weigh_allO hx h))
theorem getD_atO {α : Type} (f : Nat → α) (d : α) (n k : Nat) (h : k < n) : ((List.range n).map f).getD k d = f k := by simp [h]
theorem bytes33 : Tryd.prog.bytesOf 33 = 72 := by kernel_rfl
theorem cells33 : Tryd.prog.cellsOf 33 = 6 := by kernel_rfl
theorem cells31 : Tryd.prog.cellsOf 31 = 1 := by kernel_rfl
/-- What stands in a step's six cells. -/
structure OpAt {H : Type} (W : World) (a : Addr) (i : Nat) (D : Nat → DataW H) (q : Ro) : Prop where
  c0 : W.cell? (a.add (i * 6)) = some (.int .i64 q.kd)
  c1 : W.cell? (a.add (i * 6 + 1)) = some (.int .i64 q.on)
  c2 : W.cell? (a.add (i * 6 + 2)) = some (.int .i64 q.sz)
  c3 : W.cell? (a.add (i * 6 + 3)) = some (.int .i64 q.nn)
  c4 : W.cell? (a.add (i * 6 + 4)) = some (.string ⟨q.s.toArray⟩)
  c5 : W.cell? (a.add (i * 6 + 5)) = some (.slice q.lp q.ln q.lc)
  b : q.Fit
  d : ∃ dl, D i = .agg [.lit (.int .i64 q.kd), .lit (.int .i64 q.on), .lit (.int .i64 q.sz), .lit (.int .i64 q.nn), .lit (.string q.s), dl]
theorem ro0_fit : ro0.Fit := ⟨by unfold i64 ro0; simp, by unfold i64 ro0; simp, by unfold i64 ro0; simp, by unfold i64 ro0; simp⟩
set_option maxRecDepth 20000 in
/-- A script among the arguments. -/
theorem open_ops {H : Type} {enc : TypeId × Value → H} {W : World} {a : Option Addr} {len cap : Nat} {d : DataW H} {ps : List MemPlace} {ts : List TypeId} {ds : List (DataW H)} {j : Nat}
    (h : DataW.Trod enc Tryd.prog W 0 (fun _ => true) true 22 (.slice a len cap) d ps) (ht : ts[j]? = some 22) (hd : ds[j]? = some d) (hsz : (DataW.weightsEach Tryd.prog ts ds).all (· ≤ reachBytes) = true) :
    ∃ qs : List Ro, len = qs.length ∧ Ros W a qs.length qs ∧ qs.length ≤ 140737488351232 ∧ (∀ k, (qs.getD k ro0).s.length ≤ 140737488351232) ∧ ∀ k, (qs.getD k ro0).Fit := by
  obtain ⟨fuel, hf⟩ := h
  rcases Go.Deep.open_slice Tryd.underlying22 hf with ⟨hcs, _⟩ | ⟨x, l, c, m, n, D, Pl, hcs, _, hl, hm, hmm, hx, hel⟩
  · simp [Value.cells] at hcs
    obtain ⟨rfl, rfl, rfl⟩ := hcs
    exact ⟨[], rfl, ⟨rfl, fun q => by simp at q⟩, by simp, fun k => by simp [ro0], fun k => by simpa using ro0_fit⟩
  · simp [Value.cells] at hcs
    obtain ⟨rfl, rfl, rfl⟩ := hcs
    simp only [if_true] at hmm
    subst hmm
    have hd' : d = .slice ((List.range len).map D) ((List.range (m - len)).map fun j => D (len + j)) := congrArg Prod.fst hx
    subst hd'
    have h1 := sized_slice hsz ht hd Tryd.underlying22
    rw [bytes33] at h1
    have each : ∀ i, i < m → ∃ q : Ro, OpAt W x i D q := by
      intro i hi
      obtain ⟨cs', h1, h2⟩ := hel i hi
      rw [cells33] at h1
      obtain ⟨_, hlen, hcell⟩ := World.cells?_some h1
      obtain ⟨xs, k, hk, hxy, _, hxl, hf⟩ := DataW.trod_struct Tryd.underlying33 h2
      match xs, hxl, cs', hlen with
      | [y0, y1, y2, y3, y4, y5], _, [v0, v1, v2, v3, v4, v5], _ =>
        have g0 := hf 0 _ rfl
        have g1 := hf 1 _ rfl
        have g2 := hf 2 _ rfl
        have g3 := hf 3 _ rfl
        have g4 := hf 4 _ rfl
        have g5 := hf 5 _ rfl
        simp [cellsI3, cellsS9, cells31] at g0 g1 g2 g3 g4 g5
        have e0 := hcell 0 (by omega)
        have e1 := hcell 1 (by omega)
        have e2 := hcell 2 (by omega)
        have e3 := hcell 3 (by omega)
        have e4 := hcell 4 (by omega)
        have e5 := hcell 5 (by omega)
        rw [Go.Deep.add_add] at e0 e1 e2 e3 e4 e5
        obtain ⟨z0, ez0, rfl, w0⟩ := DataW.trod_int Tryd.underlying3 g0
        obtain ⟨z1, ez1, rfl, w1⟩ := DataW.trod_int Tryd.underlying3 g1
        obtain ⟨z2, ez2, rfl, w2⟩ := DataW.trod_int Tryd.underlying3 g2
        obtain ⟨z3, ez3, rfl, w3⟩ := DataW.trod_int Tryd.underlying3 g3
        obtain ⟨z4, ez4, rfl, _⟩ := DataW.trod_string Tryd.underlying9 g4
        obtain ⟨lp, ln, lc, ez5⟩ : ∃ lp ln lc, v5 = Value.slice lp ln lc := by
          rcases Go.Deep.open_slice Tryd.underlying31 g5 with ⟨hcs, _⟩ | ⟨x', l', c', m', n', D', Pl', hcs, _⟩
          · simp at hcs
            exact ⟨_, _, _, hcs⟩
          · simp at hcs
            exact ⟨_, _, _, hcs⟩
        simp only [List.cons.injEq, and_true] at ez0 ez1 ez2 ez3 ez4
        subst ez0 ez1 ez2 ez3 ez4 ez5
        simp only [Prod.mk.injEq] at hxy
        exact ⟨⟨z0, z1, z2, z3, z4.data.toList, lp, ln, lc⟩, by simpa using e0, by simpa using e1, by simpa using e2, by simpa using e3, by simpa using e4, by simpa using e5, ⟨bounds_i64 w0, bounds_i64 w1, bounds_i64 w2, bounds_i64 w3⟩, ⟨_, by simpa using hxy.1⟩⟩
    have : Inhabited Ro := ⟨ro0⟩
    obtain ⟨q, hq⟩ := Go.Deep.choose_lt each
    have hlen : ((List.range len).map q).length = len := by simp
    have htl : ∀ k, (((List.range len).map q).getD k ro0).s.length ≤ 140737488351232 := by
      intro k
      by_cases hk : k < len
      · rw [getD_atO q ro0 len k hk]
        obtain ⟨dl, e⟩ := (hq k (by omega)).d
        have := List.all_eq_true.1 hsz _ (DataW.weights_mem_each ht hd (q k).s.length (by
          show _ ∈ DataW.weights Tryd.prog 22 (.slice _ _)
          simp only [DataW.weights, Tryd.underlying22]
          refine List.mem_cons_of_mem _ (List.mem_append.2 (.inl (weigh_allO (d := D k) ?_ (List.mem_map.2 ⟨k, List.mem_range.2 hk, rfl⟩))))
          rw [e]
          simp only [DataW.weights, Tryd.underlying33]
          simp [DataW.weightsEach, DataW.weights]))
        exact of_decide_eq_true this
      · rw [List.getD_eq_getElem?_getD, List.getElem?_eq_none (by simp; omega)]
        simp [ro0]
    refine ⟨(List.range len).map q, hlen.symm, ⟨rfl, fun h0 => ?_⟩, ?_, htl, fun k => ?_⟩
    · rw [hlen] at h0 ⊢
      obtain ⟨b, off, spot⟩ := x
      have hspot : spot = none := by simpa [Addr.add] using World.cell?_spot (hq 0 (by omega)).c0
      subst hspot
      refine ⟨b, off, rfl, fun k hk => ?_⟩
      rw [getD_atO q ro0 len k hk]
      have := hq k (by omega)
      have e0 := this.c0
      have e1 := this.c1
      have e2 := this.c2
      have e3 := this.c3
      have e4 := this.c4
      have e5 := this.c5
      rw [WideShapes.add_plain] at e0 e1 e2 e3 e4 e5
      exact ⟨e0, e1, e2, e3, e4, e5⟩
    · rw [hlen]
      have hr : reachBytes = 140737488351232 := rfl
      simp only [List.length_map, List.length_range] at h1
      omega
    · by_cases hk : k < len
      · rw [getD_atO q ro0 len k hk]
        exact (hq k (by omega)).b
      · rw [List.getD_eq_getElem?_getD, List.getElem?_eq_none (by simp; omega)]
        simpa using ro0_fit
end Go.Proofs.YthddilflldkmfaaDoor
namespace Go.Proofs.YthddilflldkmfaaDoor
open Go Go.ChangeShapes Go.WideShapes Go.ChangeAt
theorem open_list {H : Type} {enc : TypeId × Value → H} {W : World} {fuel : Nat} {v : Value} {y : DataW H × List MemPlace} (h : DataW.trod enc Tryd.prog W 0 (fun _ => true) true fuel 31 [v] = some y) :
    ∃ lp ln lc, v = Value.slice lp ln lc ∧ ∃ zs, ∀ y : Ro, y.lp = lp → y.ln = ln → y.lc = lc → Lz y zs W := by
  rcases Go.Deep.open_slice1 Tryd.underlying31 cellsI3 h with ⟨hcs, _⟩ | ⟨a, len, cap, m, n, V, D, Pl, hcs, _, hl, hm, hmm, _, hel⟩
  · simp at hcs
    exact ⟨none, 0, 0, hcs, [], fun y e1 e2 e3 => ⟨e2, fun h => absurd h (by omega), (fun z hz => nomatch hz), fun _ => e3⟩⟩
  · simp at hcs hmm
    subst hmm
    have each : ∀ i, i < m → ∃ z : Int, W.cell? (a.add i) = some (.int .i64 z) ∧ i64 z := by
      intro i hi
      obtain ⟨h1, h2⟩ := hel i hi
      obtain ⟨z, ez, _, w0⟩ := DataW.trod_int Tryd.underlying3 h2
      simp only [List.cons.injEq, and_true] at ez
      rw [ez] at h1
      exact ⟨z, h1, bounds_i64 w0⟩
    obtain ⟨z, hz⟩ := Go.Deep.choose_lt each
    refine ⟨some a, len, m, hcs, (List.range len).map z, fun y e1 e2 e3 => ⟨by rw [e2]; simp, fun h0 => ?_, fun c hc => ?_, fun e => by rw [e1] at e; cases e⟩⟩
    · rw [e2] at h0 ⊢
      obtain ⟨b, off, spot⟩ := a
      have hspot : spot = none := by simpa [Addr.add] using World.cell?_spot (hz 0 (by omega)).1
      subst hspot
      refine ⟨b, off, e1, fun j hj => ?_⟩
      rw [getD_atO z 0 len j hj]
      have := (hz j (by omega)).1
      rw [WideShapes.add_plain] at this
      exact this
    · obtain ⟨i, hi, rfl⟩ := List.mem_map.1 hc
      have := (hz i (by have := List.mem_range.1 hi; omega)).2
      unfold i64 at this
      exact this
set_option maxRecDepth 20000 in
/-- A script among the arguments. -/
theorem open_opsz {H : Type} {enc : TypeId × Value → H} {W : World} {a : Option Addr} {len cap : Nat} {d : DataW H} {ps : List MemPlace} {ts : List TypeId} {ds : List (DataW H)} {j : Nat}
    (h : DataW.Trod enc Tryd.prog W 0 (fun _ => true) true 22 (.slice a len cap) d ps) (ht : ts[j]? = some 22) (hd : ds[j]? = some d) (hsz : (DataW.weightsEach Tryd.prog ts ds).all (· ≤ reachBytes) = true) :
    ∃ (qs : List Ro) (zss : Nat → List Int), (∀ k, Lz (qs.getD k ro0) (zss k) W) ∧ (a = none → cap = 0) ∧ len = qs.length ∧ Ros W a qs.length qs ∧ qs.length ≤ 140737488351232 ∧ (∀ k, (qs.getD k ro0).s.length ≤ 140737488351232) ∧ ∀ k, (qs.getD k ro0).Fit := by
  obtain ⟨fuel, hf⟩ := h
  rcases Go.Deep.open_slice Tryd.underlying22 hf with ⟨hcs, _⟩ | ⟨x, l, c, m, n, D, Pl, hcs, _, hl, hm, hmm, hx, hel⟩
  · simp [Value.cells] at hcs
    obtain ⟨rfl, rfl, rfl⟩ := hcs
    exact ⟨[], fun _ => [], fun k => ⟨rfl, (fun h => nomatch h), (fun z hz => nomatch hz), fun _ => rfl⟩, fun _ => rfl, rfl, ⟨rfl, fun q => by simp at q⟩, by simp, fun k => by simp [ro0], fun k => by simpa using ro0_fit⟩
  · simp [Value.cells] at hcs
    obtain ⟨rfl, rfl, rfl⟩ := hcs
    simp only [if_true] at hmm
    subst hmm
    have hd' : d = .slice ((List.range len).map D) ((List.range (m - len)).map fun j => D (len + j)) := congrArg Prod.fst hx
    subst hd'
    have h1 := sized_slice hsz ht hd Tryd.underlying22
    rw [bytes33] at h1
    have each : ∀ i, i < m → ∃ q : Ro × List Int, OpAt W x i D q.1 ∧ Lz q.1 q.2 W := by
      intro i hi
      obtain ⟨cs', h1, h2⟩ := hel i hi
      rw [cells33] at h1
      obtain ⟨_, hlen, hcell⟩ := World.cells?_some h1
      obtain ⟨xs, k, hk, hxy, _, hxl, hf⟩ := DataW.trod_struct Tryd.underlying33 h2
      match xs, hxl, cs', hlen with
      | [y0, y1, y2, y3, y4, y5], _, [v0, v1, v2, v3, v4, v5], _ =>
        have g0 := hf 0 _ rfl
        have g1 := hf 1 _ rfl
        have g2 := hf 2 _ rfl
        have g3 := hf 3 _ rfl
        have g4 := hf 4 _ rfl
        have g5 := hf 5 _ rfl
        simp [cellsI3, cellsS9, cells31] at g0 g1 g2 g3 g4 g5
        have e0 := hcell 0 (by omega)
        have e1 := hcell 1 (by omega)
        have e2 := hcell 2 (by omega)
        have e3 := hcell 3 (by omega)
        have e4 := hcell 4 (by omega)
        have e5 := hcell 5 (by omega)
        rw [Go.Deep.add_add] at e0 e1 e2 e3 e4 e5
        obtain ⟨z0, ez0, rfl, w0⟩ := DataW.trod_int Tryd.underlying3 g0
        obtain ⟨z1, ez1, rfl, w1⟩ := DataW.trod_int Tryd.underlying3 g1
        obtain ⟨z2, ez2, rfl, w2⟩ := DataW.trod_int Tryd.underlying3 g2
        obtain ⟨z3, ez3, rfl, w3⟩ := DataW.trod_int Tryd.underlying3 g3
        obtain ⟨z4, ez4, rfl, _⟩ := DataW.trod_string Tryd.underlying9 g4
        obtain ⟨lp, ln, lc, ez5, zs, hzs⟩ : ∃ lp ln lc, v5 = Value.slice lp ln lc ∧ ∃ zs, ∀ y : Ro, y.lp = lp → y.ln = ln → y.lc = lc → Lz y zs W := open_list g5
        simp only [List.cons.injEq, and_true] at ez0 ez1 ez2 ez3 ez4
        subst ez0 ez1 ez2 ez3 ez4 ez5
        simp only [Prod.mk.injEq] at hxy
        exact ⟨⟨⟨z0, z1, z2, z3, z4.data.toList, lp, ln, lc⟩, zs⟩, ⟨by simpa using e0, by simpa using e1, by simpa using e2, by simpa using e3, by simpa using e4, by simpa using e5, ⟨bounds_i64 w0, bounds_i64 w1, bounds_i64 w2, bounds_i64 w3⟩, ⟨_, by simpa using hxy.1⟩⟩, hzs _ rfl rfl rfl⟩
    have : Inhabited (Ro × List Int) := ⟨(ro0, [])⟩
    obtain ⟨q', hq'⟩ := Go.Deep.choose_lt each
    obtain ⟨q, hqq⟩ : ∃ q : Nat → Ro, q = fun i => (q' i).1 := ⟨_, rfl⟩
    have hq : ∀ i, i < m → OpAt W x i D (q i) := fun i hi => by rw [hqq]; exact (hq' i hi).1
    have hlen : ((List.range len).map q).length = len := by simp
    have htl : ∀ k, (((List.range len).map q).getD k ro0).s.length ≤ 140737488351232 := by
      intro k
      by_cases hk : k < len
      · rw [getD_atO q ro0 len k hk]
        obtain ⟨dl, e⟩ := (hq k (by omega)).d
        have := List.all_eq_true.1 hsz _ (DataW.weights_mem_each ht hd (q k).s.length (by
          show _ ∈ DataW.weights Tryd.prog 22 (.slice _ _)
          simp only [DataW.weights, Tryd.underlying22]
          refine List.mem_cons_of_mem _ (List.mem_append.2 (.inl (weigh_allO (d := D k) ?_ (List.mem_map.2 ⟨k, List.mem_range.2 hk, rfl⟩))))
          rw [e]
          simp only [DataW.weights, Tryd.underlying33]
          simp [DataW.weightsEach, DataW.weights]))
        exact of_decide_eq_true this
      · rw [List.getD_eq_getElem?_getD, List.getElem?_eq_none (by simp; omega)]
        simp [ro0]
    refine ⟨(List.range len).map q, fun k => if k < len then (q' k).2 else [], fun k => ?_, (fun h => nomatch h), hlen.symm, ⟨rfl, fun h0 => ?_⟩, ?_, htl, fun k => ?_⟩
    · show Lz _ (if k < len then (q' k).2 else []) W
      by_cases hk : k < len
      · rw [getD_atO q ro0 len k hk, if_pos hk, hqq]
        exact (hq' k (by omega)).2
      · rw [if_neg hk, List.getD_eq_getElem?_getD, List.getElem?_eq_none (by simp; omega)]
        exact ⟨rfl, (fun h => nomatch h), (fun z hz => nomatch hz), fun _ => rfl⟩
    · rw [hlen] at h0 ⊢
      obtain ⟨b, off, spot⟩ := x
      have hspot : spot = none := by simpa [Addr.add] using World.cell?_spot (hq 0 (by omega)).c0
      subst hspot
      refine ⟨b, off, rfl, fun k hk => ?_⟩
      rw [getD_atO q ro0 len k hk]
      have := hq k (by omega)
      have e0 := this.c0
      have e1 := this.c1
      have e2 := this.c2
      have e3 := this.c3
      have e4 := this.c4
      have e5 := this.c5
      rw [WideShapes.add_plain] at e0 e1 e2 e3 e4 e5
      exact ⟨e0, e1, e2, e3, e4, e5⟩
    · rw [hlen]
      have hr : reachBytes = 140737488351232 := rfl
      simp only [List.length_map, List.length_range] at h1
      omega
    · by_cases hk : k < len
      · rw [getD_atO q ro0 len k hk]
        exact (hq k (by omega)).b
      · rw [List.getD_eq_getElem?_getD, List.getElem?_eq_none (by simp; omega)]
        simpa using ro0_fit
end Go.Proofs.YthddilflldkmfaaDoor
