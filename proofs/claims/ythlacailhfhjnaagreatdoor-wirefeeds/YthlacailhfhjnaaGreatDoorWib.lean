import Derived.Test.YthlacailhfhjnaaGreatDoorWia
import Derived.Test.YthlacailhfhjnaaGreatDoorZwdo
import Derived.Test.YthlacailhfhjnaaGreatDoorZwfj
namespace Go.Proofs.YthlacailhfhjnaaGreatDoor
open Go.RowKit Go.Lib
/-- A slice of fields that has its block for itself. -/
def RwF (w : World) (v : Value) (L : List Fl) : Prop := w.ownsRow 0 35 2 v L.length (cellsF L)
theorem RwF.form {w : World} {v : Value} {L : List Fl} (h : RwF w v L) : (v = .slice none 0 0 ∧ L = []) ∨ ∃ g cap cur, v = .slice (some ⟨g, 0, none⟩) L.length cap ∧ w.heap[g]? = some (.cells cur 35 (0, 0)) ∧ L.length ≤ cap ∧ cap ≤ maxLen ∧ cur.size = cap * 2 ∧ cur.toList.take (L.length * 2) = cellsF L := by
  rcases h.2 with ⟨e, q⟩ | ⟨g, cap, cur, e1, _, e2, e3, e4, e5, e6⟩
  · exact .inl ⟨e, List.eq_nil_of_length_eq_zero q⟩
  · exact .inr ⟨g, cap, cur, e1, e2, e3, e4, e5, e6⟩
theorem RwF.keep {w w' : World} {v : Value} {L : List Fl} (h : RwF w v L) (hb : ∀ g, v.ownBlock = some g → w'.heap[g]? = w.heap[g]?) : RwF w' v L := by
  refine ⟨h.1, ?_⟩
  rcases h.2 with q | ⟨g, cap, cur, e1, e2, e3, e4⟩
  · exact .inl q
  · exact .inr ⟨g, cap, cur, e1, e2, (hb g (by rw [e1]; rfl)).trans e3, e4⟩
theorem RwF.lt {w : World} {v : Value} {L : List Fl} (h : RwF w v L) : ∀ g, v.ownBlock = some g → g < w.heap.size := fun g hg => (World.ownsRow.lt h g hg).2
theorem RwF.below {w w' : World} {v : Value} {L : List Fl} (h : RwF w v L) (k : Below w.heap.size w w') : RwF w' v L := h.keep (fun g hg => k.block g (h.lt g hg))
theorem RwF.fls {w : World} {v : Value} {L : List Fl} (h : RwF w v L) : ∃ p cap, v = .slice p L.length cap ∧ Fls w p L.length L := by
  have hc := fun {g : Nat} (hg : v.ownBlock = some g) => World.ownsRow.cells h hg
  rcases h.form with ⟨e, q⟩ | ⟨g, cap, cur, e1, e2⟩
  · subst q
    exact ⟨none, 0, by rw [e]; rfl, rfl, fun h => by simp at h⟩
  · refine ⟨_, cap, e1, rfl, fun _ => ⟨g, 0, rfl, fun j hj => ?_⟩⟩
    subst e1
    obtain ⟨h1, h2⟩ := cellsF_at L j hj
    have a1 := hc (g := g) rfl _ _ h1
    have a2 := hc (g := g) rfl _ _ h2
    have hadd : ∀ i, (⟨g, 0, none⟩ : Addr).add i = ⟨g, i, none⟩ := fun i => by unfold Addr.add; split <;> simp_all
    rw [hadd] at a1 a2
    rw [Nat.zero_add]
    exact ⟨a1, a2⟩
/-- A field of it is written over. -/
theorem RwF.set {w : World} {v : Value} {L : List Fl} (h : RwF w v L) (g k : Nat) (hg : v.ownBlock = some g) (hk : k < L.length) (f : Fl) : RwF ((w.setCell ⟨g, k * 2, none⟩ (S f.1)).setCell ⟨g, k * 2 + 1, none⟩ (S f.2)) v (L.set k f) := by
  rcases h.form with ⟨e, _⟩ | ⟨g', cap, cur, e1, e2, e3, e4, e5, e6⟩
  · rw [e] at hg; cases hg
  · have eg : g' = g := by rw [e1] at hg; simpa [Value.ownBlock] using hg
    subst eg
    refine ⟨by rw [cellsF_len], .inr ⟨g', cap, (cur.setIfInBounds (k * 2) (S f.1)).setIfInBounds (k * 2 + 1) (S f.2), by rw [List.length_set]; exact e1, Nat.zero_le _, ?_, by rw [List.length_set]; exact e3, e4, by simp [e5], ?_⟩⟩
    · rw [heap_setCell_same _ _ _ _ 35 _ (heap_setCell_same w g' (k * 2) cur 35 (S f.1) e2)]
    · rw [List.length_set, Array.toList_setIfInBounds, Array.toList_setIfInBounds, List.take_set, List.take_set, e6, cellsF_set2 L k f hk]
/-- It grows by one field: what stood in its block below its length stands there still. -/
theorem setCells_other {w : World} {g k : Nat} {a b : Value} {i : Nat} (h : i ≠ g) : ((w.setCell ⟨g, k, none⟩ a).setCell ⟨g, k + 1, none⟩ b).heap[i]? = w.heap[i]? := by
  rw [Below.heap_setCell _ _ _ _ h, Below.heap_setCell _ _ _ _ h]
/-- What an append of one field leaves as it was: every other block, and of the slice's own block what stands below its length. -/
structure GrF (v : Value) (n : Nat) (w w' : World) : Prop where
  os : w'.os = w.os
  tape : w'.tape = w.tape
  output : w'.output = w.output
  size : w.heap.size ≤ w'.heap.size
  block : ∀ k, k < w.heap.size → v.ownBlock ≠ some k → w'.heap[k]? = w.heap[k]?
  cell : ∀ g j, v.ownBlock = some g → j < n * 2 → w'.cell? ⟨g, j, none⟩ = w.cell? ⟨g, j, none⟩
  kind : ∀ g cur, v.ownBlock = some g → w.heap[g]? = some (.cells cur 35 (0, 0)) → ∃ cur', w'.heap[g]? = some (.cells cur' 35 (0, 0))
theorem grF_run (ty : TypeId) (w : World) (v : Value) (L : List Fl) (f : Fl) (h : RwF w v L) (q : Nat) (c : Nat) (hq : w.heap[q]? = some (.cells #[S f.1, S f.2] 35 (0, 0))) (hL : L.length ≤ 1000000000) :
    ∃ v' w', (Builtin.append_ #[22, 22] ty #[v, .slice (some ⟨q, 0, none⟩) 1 c]).run Tryz.prog w = .ok v' w' ∧ RwF w' v' (L ++ [f]) ∧ GrF v L.length w w' ∧ ((∃ g, v.ownBlock = some g ∧ v'.ownBlock = some g) ∨ v'.ownBlock = some w.heap.size) := by
  obtain ⟨i0, hi, hz0, hz1, hz2⟩ := info_parts info35
  have hnews : ∀ j u, [S f.1, S f.2][j]? = some u → w.cell? ((⟨q, 0, none⟩ : Addr).add j) = some u := by
    intro j u hj
    have hadd : ∀ i, (⟨q, 0, none⟩ : Addr).add i = ⟨q, i, none⟩ := fun i => by unfold Addr.add; split <;> simp_all
    rw [hadd, cell_of_heap hq]
    match j, hj with
    | 0, hj => simpa using hj
    | 1, hj => simpa using hj
    | (j + 2), hj => simp at hj
  have hone : ∀ u ∈ [S f.1, S f.2], u.oneCell' = true := by
    intro u hu
    simp at hu
    rcases hu with rfl | rfl <;> rfl
  obtain ⟨v', w', hr, ho, hg, hv⟩ := run_append_own (P := Tryz.prog) w 0 22 ty 35 i0 _ 2 32 Tryz.underlying22 hi hz0 hz1 hz2 rfl (by decide) v L.length (cellsF L) h ⟨q, 0, none⟩ 1 c [S f.1, S f.2] rfl hnews hone (by unfold maxLen; omega) (by omega) (Nat.zero_le _)
  refine ⟨v', w', hr, ?_, ?_⟩
  · unfold RwF
    rw [List.length_append, cellsF_append]
    exact ho
  have hal : ∀ (o : Obj) (k : Nat), k < w.heap.size → (w.drew.alloc o).heap[k]? = w.heap[k]? := fun o k hk => Below.heap_alloc w.drew o k hk
  have hgrow : ∀ o, GrF v L.length w (w.drew.alloc o) := fun o => by
    refine ⟨rfl, rfl, rfl, by simp, fun k hk _ => hal o k hk, fun g j hg _ => ?_, fun g cur hg e => ⟨cur, (hal o g (h.lt g hg)).trans e⟩⟩
    exact World.cell?_of_block (hal o g (h.lt g hg))
  rcases h.form with ⟨rfl, rfl⟩ | ⟨g, cap, cur, rfl, e2, e3, e4, e5, e6⟩
  · have hr2 := run_append_nil (P := Tryz.prog) w 22 ty 35 i0 _ Tryz.underlying22 hi hz0 ⟨q, 0, none⟩ 1 c [S f.1, S f.2] (by rw [hz1]; rfl) hnews (by omega) (by omega) (by rw [hz2]; omega)
    rw [hr2] at hr
    cases hr
    exact ⟨hgrow _, .inr rfl⟩
  · by_cases hroom : L.length + 1 ≤ cap
    · have hfit : L.length * i0.size + [S f.1, S f.2].length ≤ cur.size := by
        rw [hz1, e5]
        show L.length * 2 + 2 ≤ cap * 2
        omega
      have hr2 := run_append_room (P := Tryz.prog) w 22 ty 35 i0 Tryz.underlying22 hi g L.length cap cur e2 ⟨q, 0, none⟩ 1 c [S f.1, S f.2] (by rw [hz1]; rfl) hnews hone hroom hfit
      rw [hr2] at hr
      cases hr
      refine ⟨⟨rfl, rfl, rfl, by simp, fun k _ hk => setRow_other w g k _ (fun e => hk (by simp [Value.ownBlock, e])), fun g' j hg' hj => ?_, fun g' cur' hg' e => by
        obtain rfl : g = g' := by simpa [Value.ownBlock] using hg'
        exact ⟨_, setRow_heap w g cur _ 35 _ e2⟩⟩, .inl ⟨g, rfl, rfl⟩⟩
      obtain rfl : g = g' := by simpa [Value.ownBlock] using hg'
      rw [cell_of_heap (setRow_heap w g cur _ 35 _ e2), cell_of_heap e2, hz1]
      have hlt : j < cur.size := by omega
      have e : (cur.toList.take (L.length * 2) ++ [S f.1, S f.2] ++ cur.toList.drop (L.length * 2 + [S f.1, S f.2].length))[j]? = cur.toList[j]? := by
        rw [List.append_assoc, List.getElem?_append_left (by have := congrArg List.length e6; rw [cellsF_len] at this; omega), List.getElem?_take, if_pos hj]
      simpa using e
    · have holds : ∀ j u, (cellsF L)[j]? = some u → w.cell? ((⟨g, 0, none⟩ : Addr).add j) = some u := World.ownsRow.cells h (g := g) rfl
      have hr2 := run_append_grow (P := Tryz.prog) w 22 ty 35 i0 _ Tryz.underlying22 hi hz0 ⟨g, 0, none⟩ L.length cap (cellsF L) (by rw [hz1]; exact cellsF_len L) holds ⟨q, 0, none⟩ 1 c [S f.1, S f.2] (by rw [hz1]; rfl) hnews (by omega) (by omega) (growslice_fits (by omega) (by rw [hz2]; omega))
      rw [hr2] at hr
      cases hr
      exact ⟨hgrow _, .inr rfl⟩
/-- x = append(x, f), the new field in a block that was just laid. -/
theorem wp_grF {ops : Array Oper} {rest : List Oper} {o : Oper} {a : Act} {Q : Exit → Act → World → Prop} (hgd : o.guard = none) (s x : Operand)
    (ho : o.op = .call { callee := .builtin .append, args := #[s, x], argTypes := #[22, 22] }) (v : Value) (L : List Fl) (hs : a.eval s = v) (w0 : World) (f : Fl) (hb : RwF w0 v L)
    (hx : a.eval x = .slice (some ⟨w0.heap.size, 0, none⟩) 1 1) (hL : L.length ≤ 1000000000)
    (h : ∀ v' w', RwF w' v' (L ++ [f]) → GrF v L.length (w0.alloc (.cells #[S f.1, S f.2] 35)) w' → ((∃ g, v.ownBlock = some g ∧ v'.ownBlock = some g) ∨ v'.ownBlock = some (w0.heap.size + 1)) → wpList Tryz.prog ops Q rest (a.put o.dst v') w') : wpList Tryz.prog ops Q (o :: rest) a (w0.alloc (.cells #[S f.1, S f.2] 35)) := by
  refine wpList_plain hgd fun K hK => ?_
  have hb' : RwF (w0.alloc (.cells #[S f.1, S f.2] 35)) v L := hb.keep (fun g hg => Below.heap_alloc w0 _ g (hb.lt g hg))
  have hq : (w0.alloc (.cells #[S f.1, S f.2] 35)).heap[w0.heap.size]? = some (.cells #[S f.1, S f.2] 35 (0, 0)) := by
    show (w0.heap.push _)[w0.heap.size]? = _
    simp
  obtain ⟨v', w', hr, h2, h3, h4⟩ := grF_run o.type _ v L f hb' w0.heap.size 1 hq hL
  have hsz : (w0.alloc (.cells #[S f.1, S f.2] 35)).heap.size = w0.heap.size + 1 := by simp
  rw [hsz] at h4
  unfold Oper.wp execOp
  simp only [ho, resolve, invoke, builtin, Sem.run_bind, Sem.run_pure, Result.andThen_ok, List.map_toArray, List.map_cons, List.map_nil, hs, hx, hr]
  exact hK _ _ (h v' w' h2 h3 h4)
theorem info22 : (Tryz.prog.info? 22).map (fun i => (i.zero, i.size, i.bytes)) = some (some (.slice none 0 0), 1, 24) := by kernel_rfl
theorem info3 : (Tryz.prog.info? 3).map (fun i => (i.zero, i.size, i.bytes)) = some (some (.int .i64 0), 1, 8) := by kernel_rfl
/-- A row of one's own of values of one cell each: slices (type 22) or numbers (type 3). -/
def Sq (b : Nat) (e : TypeId) (w : World) (v : Value) (xs : List Value) : Prop := w.ownsRow b e 1 v xs.length xs
theorem Sq.nil (b : Nat) (e : TypeId) (w : World) : Sq b e w (.slice none 0 0) [] := World.ownsRow_nil _ _ _ _
theorem Sq.keep {b : Nat} {e : TypeId} {w w' : World} {v : Value} {xs : List Value} (h : Sq b e w v xs) (hb : ∀ g, v.ownBlock = some g → w'.heap[g]? = w.heap[g]?) : Sq b e w' v xs := by
  refine ⟨h.1, ?_⟩
  rcases h.2 with q | ⟨g, cap, cur, e1, e2, e3, e4⟩
  · exact .inl q
  · exact .inr ⟨g, cap, cur, e1, e2, (hb g (by rw [e1]; rfl)).trans e3, e4⟩
theorem Sq.lt {b : Nat} {e : TypeId} {w : World} {v : Value} {xs : List Value} (h : Sq b e w v xs) : ∀ g, v.ownBlock = some g → g < w.heap.size := fun g hg => (World.ownsRow.lt h g hg).2
theorem Sq.high {b : Nat} {e : TypeId} {w : World} {v : Value} {xs : List Value} (h : Sq b e w v xs) : ∀ g, v.ownBlock = some g → b ≤ g := fun g hg => (World.ownsRow.lt h g hg).1
theorem Sq.below {b : Nat} {e : TypeId} {w w' : World} {v : Value} {xs : List Value} (h : Sq b e w v xs) (k : Below w.heap.size w w') : Sq b e w' v xs := h.keep (fun g hg => k.block g (h.lt g hg))
/-- What its block holds. -/
theorem Sq.kind {b : Nat} {e : TypeId} {w : World} {v : Value} {xs : List Value} (h : Sq b e w v xs) : ∀ g, v.ownBlock = some g → ∃ cur, w.heap[g]? = some (.cells cur e (0, 0)) := by
  intro g hg
  rcases h.2 with ⟨q, _⟩ | ⟨g', cap, cur, e1, e2, e3, e4⟩
  · rw [q] at hg; cases hg
  · have : g' = g := by rw [e1] at hg; simpa [Value.ownBlock] using hg
    subst this
    exact ⟨cur, e3⟩
theorem RwF.kind {w : World} {v : Value} {L : List Fl} (h : RwF w v L) : ∀ g, v.ownBlock = some g → ∃ cur, w.heap[g]? = some (.cells cur 35 (0, 0)) := by
  intro g hg
  rcases h.form with ⟨q, _⟩ | ⟨g', cap, cur, e1, e2, _⟩
  · rw [q] at hg; cases hg
  · have : g' = g := by rw [e1] at hg; simpa [Value.ownBlock] using hg
    subst this
    exact ⟨cur, e2⟩
theorem Sq.at {b : Nat} {e : TypeId} {w : World} {v : Value} {xs : List Value} (h : Sq b e w v xs) (k : Nat) (hk : k < xs.length) : ∃ g cap, v = .slice (some ⟨g, 0, none⟩) xs.length cap ∧ w.cell? ⟨g, k, none⟩ = some (xs.getD k undef) := by
  rcases h.2 with ⟨_, q⟩ | ⟨g, cap, cur, e1, e2, e3, e4⟩
  · omega
  · refine ⟨g, cap, e1, ?_⟩
    have := World.ownsRow.cells h (g := g) (by rw [e1]; rfl) k (xs.getD k undef) (by simp [hk])
    have hadd : ∀ i, (⟨g, 0, none⟩ : Addr).add i = ⟨g, i, none⟩ := fun i => by unfold Addr.add; split <;> simp_all
    rw [hadd] at this
    exact this
theorem Sq.len {b : Nat} {e : TypeId} {w : World} {v : Value} {xs : List Value} (h : Sq b e w v xs) : ∃ p cap, v = .slice p xs.length cap := by
  rcases h.2 with ⟨q, q2⟩ | ⟨g, cap, cur, e1, _⟩
  · exact ⟨none, 0, by rw [q, q2]⟩
  · exact ⟨_, cap, e1⟩
/-- A view of a list of marks: where, how long, whose. -/
structure Vw where
  p : Option Addr
  n : Nat
  c : Nat
  i : Nat
def Vw.val (x : Vw) : Value := .slice x.p x.n x.c
def Vw.good (w : World) (x : Vw) : Prop := Fls w x.p x.n (List.replicate x.n (Go.Proofs.YthlacailhfhjnaaGreatDoor.mk x.i))
theorem Vw.keep {w w' : World} {x : Vw} (h : x.good w) (hc : ∀ g j, x.p = some ⟨g, 0, none⟩ → j < x.n * 2 → w'.cell? ⟨g, j, none⟩ = w.cell? ⟨g, j, none⟩) (ho : ∀ g o, x.p = some ⟨g, o, none⟩ → o = 0) : x.good w' := by
  refine ⟨h.1, fun h0 => ?_⟩
  obtain ⟨p, o, e, hcells⟩ := h.2 h0
  have := ho p o e
  subst this
  refine ⟨p, 0, e, fun j hj => ⟨?_, ?_⟩⟩
  · rw [hc p (0 + j * 2) e (by omega)]
    exact (hcells j hj).1
  · rw [hc p (0 + j * 2 + 1) e (by omega)]
    exact (hcells j hj).2
end Go.Proofs.YthlacailhfhjnaaGreatDoor
