import Derived.Test.YtknlafgaagimjaaDoorRow
namespace Go.Proofs.YtknlafgaagimjaaDoor
open Go.RowKit Go.Lib
/-- What an append of one field leaves as it was: every other block, and of the slice's own block what stands below its length. -/
structure Grown (v : Value) (n : Nat) (w w' : World) : Prop where
  os : w'.os = w.os
  tape : w'.tape = w.tape
  output : w'.output = w.output
  size : w.heap.size ≤ w'.heap.size
  block : ∀ k, k < w.heap.size → v.ownBlock ≠ some k → w'.heap[k]? = w.heap[k]?
  cell : ∀ g j, v.ownBlock = some g → j < n → w'.cell? ⟨g, j, none⟩ = w.cell? ⟨g, j, none⟩
  kind : ∀ g cur, v.ownBlock = some g → w.heap[g]? = some (.cells cur 9 (0, 0)) → ∃ cur', w'.heap[g]? = some (.cells cur' 9 (0, 0))
theorem grow_run (ty : TypeId) (w : World) (v : Value) (L : List Bs) (f : Bs) (h : Row w v L) (q : Nat) (c : Nat) (hq : w.heap[q]? = some (.cells #[S f] 9 (0, 0))) (hL : L.length ≤ 1000000000) :
    ∃ v' w', (Builtin.append_ #[24, 24] ty #[v, .slice (some ⟨q, 0, none⟩) 1 c]).run Tryd.prog w = .ok v' w' ∧ Row w' v' (L ++ [f]) ∧ Grown v L.length w w' ∧ ((∃ g, v.ownBlock = some g ∧ v'.ownBlock = some g) ∨ v'.ownBlock = some w.heap.size) := by
  obtain ⟨i0, hi, hz0, hz1, hz2⟩ := info_parts info9
  have hnews : ∀ j u, [S f][j]? = some u → w.cell? ((⟨q, 0, none⟩ : Addr).add j) = some u := by
    intro j u hj
    have hadd : ∀ i, (⟨q, 0, none⟩ : Addr).add i = ⟨q, i, none⟩ := fun i => by unfold Addr.add; split <;> simp_all
    rw [hadd, cell_of_row _ _ _ _ 9 (0, 0) hq]
    match j, hj with
    | 0, hj => simpa using hj
    | (j + 1), hj => simp at hj
  have hone : ∀ u ∈ [S f], u.oneCell' = true := by
    intro u hu
    simp at hu
    rcases hu with rfl; rfl
  obtain ⟨v', w', hr, ho, hg, hv⟩ := run_append_own (P := Tryd.prog) w 0 24 ty 9 i0 _ 1 16 Tryd.underlying24 hi hz0 hz1 hz2 rfl (by decide) v L.length ((L.map fun x => S x)) h ⟨q, 0, none⟩ 1 c [S f] rfl hnews hone (by unfold maxLen; omega) (by omega) (Nat.zero_le _)
  refine ⟨v', w', hr, ?_, ?_⟩
  · unfold Row
    rw [List.length_append, List.map_append]
    exact ho
  have hal : ∀ (o : Obj) (k : Nat), k < w.heap.size → (w.drew.alloc o).heap[k]? = w.heap[k]? := fun o k hk => Below.heap_alloc w.drew o k hk
  have hgrow : ∀ o, Grown v L.length w (w.drew.alloc o) := fun o => by
    refine ⟨rfl, rfl, rfl, by simp, fun k hk _ => hal o k hk, fun g j hg _ => ?_, fun g cur hg e => ⟨cur, (hal o g (h.lt g hg)).trans e⟩⟩
    exact World.cell?_of_block (hal o g (h.lt g hg))
  rcases h.form with ⟨rfl, rfl⟩ | ⟨g, cap, cur, rfl, e2, e3, e4, e5, e6⟩
  · have hr2 := run_append_nil (P := Tryd.prog) w 24 ty 9 i0 _ Tryd.underlying24 hi hz0 ⟨q, 0, none⟩ 1 c [S f] (by rw [hz1]; rfl) hnews (by omega) (by omega) (by rw [hz2]; omega)
    rw [hr2] at hr
    cases hr
    exact ⟨hgrow _, .inr rfl⟩
  · by_cases hroom : L.length + 1 ≤ cap
    · have hfit : L.length * i0.size + [S f].length ≤ cur.size := by
        rw [hz1, e5]
        show L.length * 1 + 1 ≤ cap * 1
        omega
      have hr2 := run_append_room (P := Tryd.prog) w 24 ty 9 i0 Tryd.underlying24 hi g L.length cap cur e2 ⟨q, 0, none⟩ 1 c [S f] (by rw [hz1]; rfl) hnews hone hroom hfit
      rw [hr2] at hr
      cases hr
      refine ⟨⟨rfl, rfl, rfl, by simp, fun k _ hk => setRow_other w g k _ (fun e => hk (by simp [Value.ownBlock, e])), fun g' j hg' hj => ?_, fun g' cur' hg' e => by
        obtain rfl : g = g' := by simpa [Value.ownBlock] using hg'
        exact ⟨_, setRow_heap w g cur _ 9 _ e2⟩⟩, .inl ⟨g, rfl, rfl⟩⟩
      obtain rfl : g = g' := by simpa [Value.ownBlock] using hg'
      rw [cell_of_row _ _ _ _ 9 (0, 0) (setRow_heap w g cur _ 9 _ e2), cell_of_row _ _ _ _ 9 (0, 0) e2, hz1]
      have hlt : j < cur.size := by omega
      have e : (cur.toList.take (L.length * 1) ++ [S f] ++ cur.toList.drop (L.length * 1 + [S f].length))[j]? = cur.toList[j]? := by
        rw [List.append_assoc, List.getElem?_append_left (by have := congrArg List.length e6; rw [List.length_map] at this; omega), List.getElem?_take, if_pos (by omega)]
      simpa using e
    · have holds : ∀ j u, ((L.map fun x => S x))[j]? = some u → w.cell? ((⟨g, 0, none⟩ : Addr).add j) = some u := World.ownsRow.cells h (g := g) rfl
      have hr2 := run_append_grow (P := Tryd.prog) w 24 ty 9 i0 _ Tryd.underlying24 hi hz0 ⟨g, 0, none⟩ L.length cap ((L.map fun x => S x)) (by rw [hz1]; simp) holds ⟨q, 0, none⟩ 1 c [S f] (by rw [hz1]; rfl) hnews (by omega) (by omega) (growslice_fits (by omega) (by rw [hz2]; omega))
      rw [hr2] at hr
      cases hr
      exact ⟨hgrow _, .inr rfl⟩
/-- x = append(x, f), the new field in a block that was just laid. -/
theorem growF {ops : Array Oper} {rest : List Oper} {o : Oper} {a : Act} {Q : Exit → Act → World → Prop} (hgd : o.guard = none) (s x : Operand)
    (ho : o.op = .call { callee := .builtin .append, args := #[s, x], argTypes := #[24, 24] }) (v : Value) (L : List Bs) (hs : a.eval s = v) (w0 : World) (f : Bs) (hb : Row w0 v L)
    (hx : a.eval x = .slice (some ⟨w0.heap.size, 0, none⟩) 1 1) (hL : L.length ≤ 1000000000)
    (h : ∀ v' w', Row w' v' (L ++ [f]) → Grown v L.length (w0.alloc (.cells #[S f] 9)) w' → ((∃ g, v.ownBlock = some g ∧ v'.ownBlock = some g) ∨ v'.ownBlock = some (w0.heap.size + 1)) → wpList Tryd.prog ops Q rest (a.put o.dst v') w') : wpList Tryd.prog ops Q (o :: rest) a (w0.alloc (.cells #[S f] 9)) := by
  refine wpList_plain hgd fun K hK => ?_
  have hb' : Row (w0.alloc (.cells #[S f] 9)) v L := hb.keep (fun g hg => Below.heap_alloc w0 _ g (hb.lt g hg))
  have hq : (w0.alloc (.cells #[S f] 9)).heap[w0.heap.size]? = some (.cells #[S f] 9 (0, 0)) := by
    exact heap_alloc_new _ _
  obtain ⟨v', w', hr, h2, h3, h4⟩ := grow_run o.type _ v L f hb' w0.heap.size 1 hq hL
  have hsz : (w0.alloc (.cells #[S f] 9)).heap.size = w0.heap.size + 1 := by simp
  rw [hsz] at h4
  unfold Oper.wp execOp
  simp only [ho, resolve, invoke, builtin, Sem.run_bind, Sem.run_pure, Result.andThen_ok, List.map_toArray, List.map_cons, List.map_nil, hs, hx, hr]
  exact hK _ _ (h v' w' h2 h3 h4)
end Go.Proofs.YtknlafgaagimjaaDoor
