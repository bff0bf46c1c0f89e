import Derived.Test.YtdncebdlhoogcaaWria
import Derived.Test.YtdncebdlhoogcaaInv
namespace Go.Proofs.Ytdncebdlhoogcaa
open Go.RowKit
open Sha
def fr5 (b : Nat) (c1 c4 c5 c6 c7 c8 c9 c10 c11 c12 c13 c14 c15 c16 c17 c18 c19 c20 c21 c22 c23 c24 c25 c26 c27 c28 c29 c30 c31 c32 c33 c34 c35 v36 v37 v38 v39 v40 v41 v42 v43 v44 v45 v46 v47 : Value) : Act := ⟨#[Value.pointer (some ⟨b, 0, none⟩), c1, undef, undef, c4, c5, c6, c7, c8, c9, c10, c11, c12, c13, c14, c15, c16, c17, c18, c19, c20, c21, c22, c23, c24, c25, c26, c27, c28, c29, c30, c31, c32, c33, c34, c35, v36, v37, v38, v39, v40, v41, v42, v43, v44, v45, v46, v47], []⟩
/-- In the midst of the region that mixes. -/
structure M5 (W : World) (b : Nat) (h : Ha) (L : Nat → Bool) (v36 v37 v38 v39 v40 v41 v42 v43 v44 v45 v46 v47 : Value) (w : World) : Prop where
  o0 : L 0 = true → v36 = Value.pointer (some ⟨b, 0, none⟩)
  o1 : L 1 = true → v37 = Value.pointer (some ⟨b, 0, none⟩)
  o2 : L 2 = true → v38 = Value.pointer (some ⟨b, 0, none⟩)
  o3 : L 3 = true → v39 = Value.pointer (some ⟨b, 0, none⟩)
  o4 : L 4 = true → v40 = Value.agg (cU h.s.l)
  o5 : L 5 = true → v41 = Value.pointer (some ⟨b, 0, none⟩)
  o6 : L 6 = true → v42 = Value.pointer (some ⟨b, 0, none⟩)
  o7 : L 7 = true → v43 = Value.pointer (some ⟨b, 8, none⟩)
  o8 : L 8 = true → v44 = Value.agg (cB h.t)
  o9 : L 9 = true → v45 = Value.agg (cU (mx h.s h.t).l)
  o10 : L 10 = true → v46 = Value.pointer (some ⟨b, 0, none⟩)
  o11 : L 11 = true → v47 = Value.pointer (some ⟨b, 0, none⟩)
  row : Row w b (hc (if L 12 = true then ⟨mx h.s h.t, h.t, h.n⟩ else h)) 70
  on : Only b W w
  k9 : L 9 = true → L 4 = true ∧ L 8 = true
  k12 : L 12 = true → L 9 = true
def MX5 (W : World) (b : Nat) (h : Ha) (c1 c4 c5 c6 c7 c8 c9 c10 c11 c12 c13 c14 c15 c16 c17 c18 c19 c20 c21 c22 c23 c24 c25 c26 c27 c28 c29 c30 c31 c32 c33 c34 c35 : Value) (L : Nat → Bool) (a : Act) (w : World) : Prop :=
  ∃ v36 v37 v38 v39 v40 v41 v42 v43 v44 v45 v46 v47, M5 W b h L v36 v37 v38 v39 v40 v41 v42 v43 v44 v45 v46 v47 w ∧ a = fr5 b c1 c4 c5 c6 c7 c8 c9 c10 c11 c12 c13 c14 c15 c16 c17 c18 c19 c20 c21 c22 c23 c24 c25 c26 c27 c28 c29 c30 c31 c32 c33 c34 c35 v36 v37 v38 v39 v40 v41 v42 v43 v44 v45 v46 v47
theorem M5.l0 {W w : World} {b : Nat} {h : Ha} {L : Nat → Bool} {v36 v37 v38 v39 v40 v41 v42 v43 v44 v45 v46 v47 : Value} (m : M5 W b h L v36 v37 v38 v39 v40 v41 v42 v43 v44 v45 v46 v47 w) : M5 W b h (upd L 0) (Value.pointer (some ⟨b, 0, none⟩)) v37 v38 v39 v40 v41 v42 v43 v44 v45 v46 v47 w :=
  ⟨fun _ => rfl, m.o1, m.o2, m.o3, m.o4, m.o5, m.o6, m.o7, m.o8, m.o9, m.o10, m.o11, m.row, m.on, m.k9, m.k12⟩
theorem M5.l1 {W w : World} {b : Nat} {h : Ha} {L : Nat → Bool} {v36 v37 v38 v39 v40 v41 v42 v43 v44 v45 v46 v47 : Value} (m : M5 W b h L v36 v37 v38 v39 v40 v41 v42 v43 v44 v45 v46 v47 w) : M5 W b h (upd L 1) v36 (Value.pointer (some ⟨b, 0, none⟩)) v38 v39 v40 v41 v42 v43 v44 v45 v46 v47 w :=
  ⟨m.o0, fun _ => rfl, m.o2, m.o3, m.o4, m.o5, m.o6, m.o7, m.o8, m.o9, m.o10, m.o11, m.row, m.on, m.k9, m.k12⟩
theorem M5.l2 {W w : World} {b : Nat} {h : Ha} {L : Nat → Bool} {v36 v37 v38 v39 v40 v41 v42 v43 v44 v45 v46 v47 : Value} (m : M5 W b h L v36 v37 v38 v39 v40 v41 v42 v43 v44 v45 v46 v47 w) : M5 W b h (upd L 2) v36 v37 (Value.pointer (some ⟨b, 0, none⟩)) v39 v40 v41 v42 v43 v44 v45 v46 v47 w :=
  ⟨m.o0, m.o1, fun _ => rfl, m.o3, m.o4, m.o5, m.o6, m.o7, m.o8, m.o9, m.o10, m.o11, m.row, m.on, m.k9, m.k12⟩
theorem M5.l3 {W w : World} {b : Nat} {h : Ha} {L : Nat → Bool} {v36 v37 v38 v39 v40 v41 v42 v43 v44 v45 v46 v47 : Value} (m : M5 W b h L v36 v37 v38 v39 v40 v41 v42 v43 v44 v45 v46 v47 w) : M5 W b h (upd L 3) v36 v37 v38 (Value.pointer (some ⟨b, 0, none⟩)) v40 v41 v42 v43 v44 v45 v46 v47 w :=
  ⟨m.o0, m.o1, m.o2, fun _ => rfl, m.o4, m.o5, m.o6, m.o7, m.o8, m.o9, m.o10, m.o11, m.row, m.on, m.k9, m.k12⟩
theorem M5.l4 {W w : World} {b : Nat} {h : Ha} {L : Nat → Bool} {v36 v37 v38 v39 v40 v41 v42 v43 v44 v45 v46 v47 : Value} (m : M5 W b h L v36 v37 v38 v39 v40 v41 v42 v43 v44 v45 v46 v47 w) : M5 W b h (upd L 4) v36 v37 v38 v39 (Value.agg (cU h.s.l)) v41 v42 v43 v44 v45 v46 v47 w :=
  ⟨m.o0, m.o1, m.o2, m.o3, fun _ => rfl, m.o5, m.o6, m.o7, m.o8, m.o9, m.o10, m.o11, m.row, m.on, fun q => ⟨rfl, (m.k9 q).2⟩, m.k12⟩
theorem M5.l5 {W w : World} {b : Nat} {h : Ha} {L : Nat → Bool} {v36 v37 v38 v39 v40 v41 v42 v43 v44 v45 v46 v47 : Value} (m : M5 W b h L v36 v37 v38 v39 v40 v41 v42 v43 v44 v45 v46 v47 w) : M5 W b h (upd L 5) v36 v37 v38 v39 v40 (Value.pointer (some ⟨b, 0, none⟩)) v42 v43 v44 v45 v46 v47 w :=
  ⟨m.o0, m.o1, m.o2, m.o3, m.o4, fun _ => rfl, m.o6, m.o7, m.o8, m.o9, m.o10, m.o11, m.row, m.on, m.k9, m.k12⟩
theorem M5.l6 {W w : World} {b : Nat} {h : Ha} {L : Nat → Bool} {v36 v37 v38 v39 v40 v41 v42 v43 v44 v45 v46 v47 : Value} (m : M5 W b h L v36 v37 v38 v39 v40 v41 v42 v43 v44 v45 v46 v47 w) : M5 W b h (upd L 6) v36 v37 v38 v39 v40 v41 (Value.pointer (some ⟨b, 0, none⟩)) v43 v44 v45 v46 v47 w :=
  ⟨m.o0, m.o1, m.o2, m.o3, m.o4, m.o5, fun _ => rfl, m.o7, m.o8, m.o9, m.o10, m.o11, m.row, m.on, m.k9, m.k12⟩
theorem M5.l7 {W w : World} {b : Nat} {h : Ha} {L : Nat → Bool} {v36 v37 v38 v39 v40 v41 v42 v43 v44 v45 v46 v47 : Value} (m : M5 W b h L v36 v37 v38 v39 v40 v41 v42 v43 v44 v45 v46 v47 w) : M5 W b h (upd L 7) v36 v37 v38 v39 v40 v41 v42 (Value.pointer (some ⟨b, 8, none⟩)) v44 v45 v46 v47 w :=
  ⟨m.o0, m.o1, m.o2, m.o3, m.o4, m.o5, m.o6, fun _ => rfl, m.o8, m.o9, m.o10, m.o11, m.row, m.on, m.k9, m.k12⟩
theorem M5.l8 {W w : World} {b : Nat} {h : Ha} {L : Nat → Bool} {v36 v37 v38 v39 v40 v41 v42 v43 v44 v45 v46 v47 : Value} (m : M5 W b h L v36 v37 v38 v39 v40 v41 v42 v43 v44 v45 v46 v47 w) : M5 W b h (upd L 8) v36 v37 v38 v39 v40 v41 v42 v43 (Value.agg (cB h.t)) v45 v46 v47 w :=
  ⟨m.o0, m.o1, m.o2, m.o3, m.o4, m.o5, m.o6, m.o7, fun _ => rfl, m.o9, m.o10, m.o11, m.row, m.on, fun q => ⟨(m.k9 q).1, rfl⟩, m.k12⟩
theorem M5.l9 {W w : World} {b : Nat} {h : Ha} {L : Nat → Bool} {v36 v37 v38 v39 v40 v41 v42 v43 v44 v45 v46 v47 : Value} (m : M5 W b h L v36 v37 v38 v39 v40 v41 v42 v43 v44 v45 v46 v47 w) (hk : L 4 = true ∧ L 8 = true) : M5 W b h (upd L 9) v36 v37 v38 v39 v40 v41 v42 v43 v44 (Value.agg (cU (mx h.s h.t).l)) v46 v47 w :=
  ⟨m.o0, m.o1, m.o2, m.o3, m.o4, m.o5, m.o6, m.o7, m.o8, fun _ => rfl, m.o10, m.o11, m.row, m.on, fun _ => hk, fun _ => rfl⟩
theorem M5.l10 {W w : World} {b : Nat} {h : Ha} {L : Nat → Bool} {v36 v37 v38 v39 v40 v41 v42 v43 v44 v45 v46 v47 : Value} (m : M5 W b h L v36 v37 v38 v39 v40 v41 v42 v43 v44 v45 v46 v47 w) : M5 W b h (upd L 10) v36 v37 v38 v39 v40 v41 v42 v43 v44 v45 (Value.pointer (some ⟨b, 0, none⟩)) v47 w :=
  ⟨m.o0, m.o1, m.o2, m.o3, m.o4, m.o5, m.o6, m.o7, m.o8, m.o9, fun _ => rfl, m.o11, m.row, m.on, m.k9, m.k12⟩
theorem M5.l11 {W w : World} {b : Nat} {h : Ha} {L : Nat → Bool} {v36 v37 v38 v39 v40 v41 v42 v43 v44 v45 v46 v47 : Value} (m : M5 W b h L v36 v37 v38 v39 v40 v41 v42 v43 v44 v45 v46 v47 w) : M5 W b h (upd L 11) v36 v37 v38 v39 v40 v41 v42 v43 v44 v45 v46 (Value.pointer (some ⟨b, 0, none⟩)) w :=
  ⟨m.o0, m.o1, m.o2, m.o3, m.o4, m.o5, m.o6, m.o7, m.o8, m.o9, m.o10, fun _ => rfl, m.row, m.on, m.k9, m.k12⟩
theorem M5.below {W w : World} {b : Nat} {h : Ha} {L : Nat → Bool} {v36 v37 v38 v39 v40 v41 v42 v43 v44 v45 v46 v47 : Value} (m : M5 W b h L v36 v37 v38 v39 v40 v41 v42 v43 v44 v45 v46 v47 w) {w1 : World} (hb : Below w.heap.size w w1) : M5 W b h L v36 v37 v38 v39 v40 v41 v42 v43 v44 v45 v46 v47 w1 :=
  ⟨m.o0, m.o1, m.o2, m.o3, m.o4, m.o5, m.o6, m.o7, m.o8, m.o9, m.o10, m.o11, m.row.below hb m.row.lt, m.on.trans (Only.of_below hb), m.k9, m.k12⟩
theorem hc_sets (h : Ha) (s : St) : (hc h).toList.take 0 ++ s.l.map U ++ (hc h).toList.drop (0 + (s.l.map U).length) = (hc ⟨s, h.t, h.n⟩).toList := by
  rw [hc_toList, hc_toList]
  rfl
theorem M5.l12 {W w : World} {b : Nat} {h : Ha} {L : Nat → Bool} {v36 v37 v38 v39 v40 v41 v42 v43 v44 v45 v46 v47 : Value} (m : M5 W b h L v36 v37 v38 v39 v40 v41 v42 v43 v44 v45 v46 v47 w) (hl : L 12 = false) (h9 : L 9 = true) : M5 W b h (upd L 12) v36 v37 v38 v39 v40 v41 v42 v43 v44 v45 v46 v47 (w.setRow b (hc ⟨mx h.s h.t, h.t, h.n⟩)) := by
  have hr := m.row
  rw [hl] at hr
  refine ⟨m.o0, m.o1, m.o2, m.o3, m.o4, m.o5, m.o6, m.o7, m.o8, m.o9, m.o10, m.o11, ?_, m.on.trans (Only.setRow _ _), m.k9, fun _ => h9⟩
  exact hr.setRow _
theorem M5.no4 {W w : World} {b : Nat} {h : Ha} {L : Nat → Bool} {v36 v37 v38 v39 v40 v41 v42 v43 v44 v45 v46 v47 : Value} (m : M5 W b h L v36 v37 v38 v39 v40 v41 v42 v43 v44 v45 v46 v47 w) (hl : L 4 = false) : L 12 = false := by
  cases q : L 12 with
  | false => rfl
  | true => rw [(m.k9 (m.k12 q)).1] at hl; cases hl
theorem M5.no8 {W w : World} {b : Nat} {h : Ha} {L : Nat → Bool} {v36 v37 v38 v39 v40 v41 v42 v43 v44 v45 v46 v47 : Value} (m : M5 W b h L v36 v37 v38 v39 v40 v41 v42 v43 v44 v45 v46 v47 w) (hl : L 8 = false) : L 12 = false := by
  cases q : L 12 with
  | false => rfl
  | true => rw [(m.k9 (m.k12 q)).2] at hl; cases hl
theorem M5.no9 {W w : World} {b : Nat} {h : Ha} {L : Nat → Bool} {v36 v37 v38 v39 v40 v41 v42 v43 v44 v45 v46 v47 : Value} (m : M5 W b h L v36 v37 v38 v39 v40 v41 v42 v43 v44 v45 v46 v47 w) (hl : L 9 = false) : L 12 = false := by
  cases q : L 12 with
  | false => rfl
  | true => rw [m.k12 q] at hl; cases hl
theorem M5.row0 {W w : World} {b : Nat} {h : Ha} {L : Nat → Bool} {v36 v37 v38 v39 v40 v41 v42 v43 v44 v45 v46 v47 : Value} (m : M5 W b h L v36 v37 v38 v39 v40 v41 v42 v43 v44 v45 v46 v47 w) (hl : L 12 = false) : Row w b (hc h) 70 := by
  have := m.row
  rwa [hl] at this
theorem wp_store_at {P : Program} {o : Oper} {a : Act} {w : World} {K : Act → World → Prop} {Q : Exit → Act → World → Prop} (ty : TypeId) (x y : Operand) (ho : o.op = .store ty x y)
    (g j : Nat) (cells : Array Value) (hx : a.eval x = .pointer (some ⟨g, j, none⟩)) (hy : a.eval y = .agg cells)
    (t : TypeId) (cur : Array Value) (hg : Row w g cur t) (hi : (P.info? ty).map (·.size) = some cells.size)
    (hfit : j + cells.size ≤ cur.size) (h1 : cells.all (·.oneCell') = true)
    (h : K (a.put o.dst undef) (w.setRow g (cur.toList.take j ++ cells.toList ++ cur.toList.drop (j + cells.toList.length)).toArray)) : o.wp P a w K Q := by
  have hst := run_storeCells_at P g j t cells.toList 0 cur w hg (by simpa using hfit) (fun v hv => (Array.all_eq_true_iff_forall_mem.1 h1) v (by simpa using hv))
  have hsv : (storeVar ty ⟨g, j, none⟩ (.agg cells)).run P w = .ok () (w.setRow g (cur.toList.take j ++ cells.toList ++ cur.toList.drop (j + cells.toList.length)).toArray) := by
    cases hq : P.info? ty with
    | none => simp [hq] at hi
    | some i =>
      have hs : cells.size = i.size := by simp [hq] at hi; omega
      simp only [Nat.add_zero] at hst
      simp [storeVar, sizeOf, typeInfo, hq, Value.cells, hs, hst]
  unfold Oper.wp execOp
  simp only [ho, hx, hy, Instr.storeAt, Instr.sureAddr, Sem.run_bind, Sem.run_pure, Result.andThen_ok, hsv]
  exact h
end Go.Proofs.Ytdncebdlhoogcaa
