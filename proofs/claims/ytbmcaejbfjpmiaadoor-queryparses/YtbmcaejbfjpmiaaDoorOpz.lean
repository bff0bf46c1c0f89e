import Derived.Test.YtbmcaejbfjpmiaaDoorVws
import Derived.Test.YtbmcaejbfjpmiaaDoorDetl
namespace Go.Proofs.YtbmcaejbfjpmiaaDoor
open Go.RowKit Go.Lib
theorem put_none (a : Act) (v : Value) : a.put none v = a := rfl
theorem run_ia30 (ρ : Operand → Value) (o : Oper) (x y : Operand) (ho : o.op = .indexAddr 30 x y) (g q n cap k : Nat) (hk : k < n) (hx : ρ x = .slice (some ⟨g, q, none⟩) n cap) (hy : ρ y = .int .i64 (k : Int)) (w : World) : (execOp ρ o).run Tryd.prog w = .ok (.value (.pointer (some ⟨g, q + k, none⟩))) w := by
  unfold execOp
  simp only [ho, hx, hy]
  have h1 : (k : Int) < (n : Int) := by omega
  have u := Tryd.underlying30
  have z := Tryd.sizeOf31
  simp [go_sem, u, z, h1]
theorem run_ia60 (ρ : Operand → Value) (o : Oper) (x y : Operand) (ho : o.op = .indexAddr 60 x y) (g q n cap k : Nat) (hk : k < n) (hx : ρ x = .slice (some ⟨g, q, none⟩) n cap) (hy : ρ y = .int .i64 (k : Int)) (w : World) : (execOp ρ o).run Tryd.prog w = .ok (.value (.pointer (some ⟨g, q + k, none⟩))) w := by
  unfold execOp
  simp only [ho, hx, hy]
  have h1 : (k : Int) < (n : Int) := by omega
  have u := Tryd.underlying60
  have z := Tryd.sizeOf3
  simp [go_sem, u, z, h1]
theorem run_ld31 (ρ : Operand → Value) (o : Oper) (x : Operand) (ho : o.op = .load 31 x) (p : Addr) (v : Value) (ha : ρ x = .pointer (some p)) (w : World) (hc : w.cell? p = some v) : (execOp ρ o).run Tryd.prog w = .ok (.value v) w := by
  unfold execOp
  simp only [ho, ha]
  simp [Instr.loadAt, go_sem, hc, Tryd.isAgg31]
theorem run_ld3 (ρ : Operand → Value) (o : Oper) (x : Operand) (ho : o.op = .load 3 x) (p : Addr) (v : Value) (ha : ρ x = .pointer (some p)) (w : World) (hc : w.cell? p = some v) : (execOp ρ o).run Tryd.prog w = .ok (.value v) w := by
  unfold execOp
  simp only [ho, ha]
  simp [Instr.loadAt, go_sem, hc, Tryd.isAgg3]
theorem loadVar44' (p : Addr) (x y : Value) (W : World) (h0 : W.cell? (p.add 0) = some x) (h1 : W.cell? (p.add 1) = some y) : (loadVar 44 p).run Tryd.prog W = .ok (.agg #[x, y]) W := by
  have hl : (loadCells p 2).run Tryd.prog W = .ok #[x, y] W := by
    have := run_loadCells_list (P := Tryd.prog) W p [x, y] (fun j v hv => by
      match j, hv with
      | 0, hv => simp at hv; subst hv; exact h0
      | 1, hv => simp at hv; subst hv; exact h1
      | (j + 2), hv => simp at hv)
    simpa using this
  simp [loadVar, Tryd.isAgg44, Tryd.sizeOf44, hl, Result.andThen]
theorem run_ld44 (ρ : Operand → Value) (o : Oper) (x : Operand) (ho : o.op = .load 44 x) (g q : Nat) (a b : Value) (ha : ρ x = .pointer (some ⟨g, q, none⟩)) (w : World) (h0 : w.cell? ⟨g, q, none⟩ = some a) (h1 : w.cell? ⟨g, q + 1, none⟩ = some b) : (execOp ρ o).run Tryd.prog w = .ok (.value (.agg #[a, b])) w := by
  unfold execOp
  simp only [ho, ha]
  simp [Instr.loadAt, go_sem, h0, h1, Tryd.isAgg44]
theorem run_st44 (ρ : Operand → Value) (o : Oper) (x y : Operand) (ho : o.op = .store 44 x y) (g q : Nat) (a b : List UInt8) (ha : ρ x = .pointer (some ⟨g, q, none⟩)) (hy : ρ y = .agg #[S a, S b]) (w : World) (cur : Array Value) (hg : w.heap[g]? = some (.cells cur 44 (0, 0))) (hq : q + 1 < cur.size) : (execOp ρ o).run Tryd.prog w = .ok .skip ((w.setCell ⟨g, q, none⟩ (S a)).setCell ⟨g, q + 1, none⟩ (S b)) := by
  have s1 : (store ⟨g, q, none⟩ (S a)).run Tryd.prog w = .ok () (w.setCell ⟨g, q, none⟩ (S a)) := by
    rw [run_store _ _ _ _ _ rfl, cell_of_heap hg, Array.getElem?_eq_getElem (by omega)]
    simp [World.frozen?, hg]
  have hg' := heap_setCell_same w g q cur 44 (S a) hg
  have s2 : (store ⟨g, q + 1, none⟩ (S b)).run Tryd.prog (w.setCell ⟨g, q, none⟩ (S a)) = .ok () ((w.setCell ⟨g, q, none⟩ (S a)).setCell ⟨g, q + 1, none⟩ (S b)) := by
    rw [run_store _ _ _ _ _ rfl, cell_of_heap hg', Array.getElem?_eq_getElem (by simpa using hq)]
    simp [World.frozen?, hg']
  unfold execOp
  simp only [ho, ha, hy]
  simp [go_sem, s1, s2, Result.andThen]
theorem doesL_skp {ops : Array Oper} {Q : Exit → Act → World → Prop} {Wd : (Nat → Bool) → World → Prop} {val : Nat → Value} {i : Nat} {L : Nat → Bool} {o : Oper} {a : Act} {w w' : World} (ho : ops[i]? = some o) (hw : Region.wanted o (yielded ops a.tmps) = true) (hv : val i = undef) (hW : Wd (upd L i) w')
    (hr : (execOp a.eval o).run Tryd.prog w = .ok .skip w') : DoesL ops Q Wd val i L a w := by
  unfold DoesL wpOp
  simp only [ho]
  rw [if_pos hw]
  left
  unfold Oper.wp
  rw [hr, Oper.upon_skip]
  refine ⟨?_, hW⟩
  simp [dstOf, ho, hv]
theorem run_ne44 (ρ : Operand → Value) (o : Oper) (x y : Operand) (ho : o.op = .binOp .neq 44 x y 44) (a b c d : List UInt8) (hx : ρ x = .agg #[S a, S b]) (hy : ρ y = .agg #[S c, S d]) (w : World) : (execOp ρ o).run Tryd.prog w = .ok (.value (.bool (!decide (a = c ∧ b = d)))) w := by
  unfold execOp
  simp only [ho, hx, hy]
  simp [go_sem]
  by_cases h1 : a = c <;> by_cases h2 : b = d <;> simp [h1, h2]
end Go.Proofs.YtbmcaejbfjpmiaaDoor
