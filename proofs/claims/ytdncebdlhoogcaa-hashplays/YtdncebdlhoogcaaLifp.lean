import Derived.Test.YtdncebdlhoogcaaLift
import Derived.Test.YtdncebdlhoogcaaPlya
import Derived.Deep.Slices
namespace Go.Proofs.Ytdncebdlhoogcaa
open Go.ChangeShapes Go.WideShapes Go.ChangeAt Go.RowKit
theorem bytes43 : Try.prog.bytesOf 43 = 32 := by kernel_rfl
theorem cells43 : Try.prog.cellsOf 43 = 3 := by kernel_rfl
theorem cells3 : Try.prog.cellsOf 3 = 1 := by kernel_rfl
theorem weigh_all {H : Type} {P : Program} {e : TypeId} {d : DataW H} {x : Nat} (hx : x ∈ DataW.weights P e d) : ∀ {l : List (DataW H)}, d ∈ l → x ∈ DataW.weightsAll P e l
  | y :: l, h => by
    rcases List.mem_cons.1 h with rfl | h
    · exact List.mem_append.2 (.inl hx)
    · exact List.mem_append.2 (.inr (weigh_all hx h))
/-- What stands in a step's three cells. -/
structure StpAt {H : Type} (W : World) (a : Addr) (i : Nat) (D : Nat → DataW H) (q : Stp) : Prop where
  c0 : W.cell? (a.add (i * 3)) = some (.int .i64 q.k)
  c1 : W.cell? (a.add (i * 3 + 1)) = some (.int .i64 q.o)
  c2 : W.cell? (a.add (i * 3 + 2)) = some (.string ⟨q.s.toArray⟩)
  b : -9223372036854775808 ≤ q.o ∧ q.o ≤ 9223372036854775807
  d : D i = .agg [.lit (.int .i64 q.k), .lit (.int .i64 q.o), .lit (.string q.s)]
theorem getD_at {α : Type} (f : Nat → α) (d : α) (n k : Nat) (h : k < n) : ((List.range n).map f).getD k d = f k := by simp [h]
/-- A script among the arguments: its steps, and how long their texts can be. -/
theorem open_script {H : Type} {enc : TypeId × Value → H} {W : World} {a : Option Addr} {len cap : Nat} {d : DataW H} {ps : List MemPlace} {ts : List TypeId} {ds : List (DataW H)} {j : Nat}
    (h : DataW.Trod enc Try.prog W 0 (fun _ => true) true 37 (.slice a len cap) d ps) (ht : ts[j]? = some 37) (hd : ds[j]? = some d) (hsz : (DataW.weightsEach Try.prog ts ds).all (· ≤ reachBytes) = true) :
    ∃ qs : List Stp, len = qs.length ∧ Scr W a qs.length qs ∧ qs.length ≤ 140737488351232 ∧ (∀ k, (qs.getD k st0).s.length ≤ 140737488351232) ∧ ∀ k, -9223372036854775808 ≤ (qs.getD k st0).o ∧ (qs.getD k st0).o ≤ 9223372036854775807 := by
  obtain ⟨fuel, hf⟩ := h
  rcases Go.Deep.open_slice Try.underlying37 hf with ⟨hcs, _⟩ | ⟨x, l, c, m, n, D, Pl, hcs, _, hl, hm, hmm, hx, hel⟩
  · simp [Value.cells] at hcs
    obtain ⟨rfl, rfl, rfl⟩ := hcs
    exact ⟨[], rfl, ⟨rfl, fun q => by simp at q⟩, by simp, fun k => by simp [st0], fun k => by simp [st0]⟩
  · simp [Value.cells] at hcs
    obtain ⟨rfl, rfl, rfl⟩ := hcs
    simp only [if_true] at hmm
    subst hmm
    have hd' : d = .slice ((List.range len).map D) ((List.range (m - len)).map fun j => D (len + j)) := congrArg Prod.fst hx
    subst hd'
    have h1 := sized_slice hsz ht hd Try.underlying37
    rw [bytes43] at h1
    have each : ∀ i, i < m → ∃ q : Stp, StpAt W x i D q := by
      intro i hi
      obtain ⟨cs', h1, h2⟩ := hel i hi
      rw [cells43] at h1
      obtain ⟨_, hlen, hcell⟩ := World.cells?_some h1
      obtain ⟨xs, k, hk, hxy, _, hxl, hf⟩ := DataW.trod_struct Try.underlying43 h2
      match xs, hxl, cs', hlen with
      | [y0, y1, y2], _, [v0, v1, v2], _ =>
        have g0 := hf 0 _ rfl
        have g1 := hf 1 _ rfl
        have g2 := hf 2 _ rfl
        simp [cells3, cells9] at g0 g1 g2
        have e0 := hcell 0 (by omega)
        have e1 := hcell 1 (by omega)
        have e2 := hcell 2 (by omega)
        rw [Go.Deep.add_add] at e0 e1 e2
        obtain ⟨z0, ez0, rfl, _⟩ := DataW.trod_int Try.underlying3 g0
        obtain ⟨z1, ez1, rfl, hwf⟩ := DataW.trod_int Try.underlying3 g1
        obtain ⟨z2, ez2, rfl, _⟩ := DataW.trod_string Try.underlying9 g2
        simp only [List.cons.injEq, and_true] at ez0 ez1 ez2
        subst ez0 ez1 ez2
        simp only [Prod.mk.injEq] at hxy
        exact ⟨⟨z0, z1, z2.data.toList⟩, by simpa using e0, by simpa using e1, by simpa using e2, bounds_i64 hwf, by simpa using hxy.1⟩
    have : Inhabited Stp := ⟨st0⟩
    obtain ⟨q, hq⟩ := Go.Deep.choose_lt each
    have hlen : ((List.range len).map q).length = len := by simp
    refine ⟨(List.range len).map q, hlen.symm, ⟨rfl, fun h0 => ?_⟩, ?_, fun k => ?_, fun k => ?_⟩
    · rw [hlen] at h0 ⊢
      obtain ⟨b, off, spot⟩ := x
      have hspot : spot = none := by simpa [Addr.add] using World.cell?_spot (hq 0 (by omega)).c0
      subst hspot
      refine ⟨b, off, rfl, fun k hk => ?_⟩
      rw [getD_at q st0 len k hk]
      have := hq k (by omega)
      have e0 := this.c0
      have e1 := this.c1
      have e2 := this.c2
      rw [add_plain] at e0 e1 e2
      exact ⟨e0, e1, e2⟩
    · rw [hlen]
      have : reachBytes = 140737488351232 := rfl
      simp only [List.length_map, List.length_range] at h1
      omega
    · by_cases hk : k < len
      · rw [getD_at q st0 len k hk]
        have e := (hq k (by omega)).d
        have := List.all_eq_true.1 hsz _ (DataW.weights_mem_each ht hd (q k).s.length (by
          show _ ∈ DataW.weights Try.prog 37 (.slice _ _)
          simp only [DataW.weights, Try.underlying37]
          refine List.mem_cons_of_mem _ (List.mem_append.2 (.inl (weigh_all (d := D k) ?_ (List.mem_map.2 ⟨k, List.mem_range.2 hk, rfl⟩))))
          rw [e]
          simp only [DataW.weights, Try.underlying43]
          simp [DataW.weightsEach, DataW.weights]))
        exact of_decide_eq_true this
      · rw [List.getD_eq_getElem?_getD, List.getElem?_eq_none (by simp; omega)]
        simp [st0]
    · by_cases hk : k < len
      · rw [getD_at q st0 len k hk]
        exact (hq k (by omega)).b
      · rw [List.getD_eq_getElem?_getD, List.getElem?_eq_none (by simp; omega)]
        simp [st0]
end Go.Proofs.Ytdncebdlhoogcaa
