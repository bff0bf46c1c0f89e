import Derived.Test.YtknlafgaagimjaaDoorVws
import Derived.Test.YtknlafgaagimjaaDoorDetl
namespace Go.Proofs.YtknlafgaagimjaaDoor
open Go.RowKit Go.Lib
theorem put_none (a : Act) (v : Value) : a.put none v = a := rfl
theorem run_ia25 (ρ : Operand → Value) (o : Oper) (x y : Operand) (ho : o.op = .indexAddr 25 x y) (g q n cap k : Nat) (hk : k < n) (hx : ρ x = .slice (some ⟨g, q, none⟩) n cap) (hy : ρ y = .int .i64 (k : Int)) (w : World) : (execOp ρ o).run Tryd.prog w = .ok (.value (.pointer (some ⟨g, q + k, none⟩))) w := by
  unfold execOp
  simp only [ho, hx, hy]
  have h1 : (k : Int) < (n : Int) := by omega
  have u := Tryd.underlying25
  have z := Tryd.sizeOf24
  simp [go_sem, u, z, h1]
theorem run_ia52 (ρ : Operand → Value) (o : Oper) (x y : Operand) (ho : o.op = .indexAddr 52 x y) (g q n cap k : Nat) (hk : k < n) (hx : ρ x = .slice (some ⟨g, q, none⟩) n cap) (hy : ρ y = .int .i64 (k : Int)) (w : World) : (execOp ρ o).run Tryd.prog w = .ok (.value (.pointer (some ⟨g, q + k, none⟩))) w := by
  unfold execOp
  simp only [ho, hx, hy]
  have h1 : (k : Int) < (n : Int) := by omega
  have u := Tryd.underlying52
  have z := Tryd.sizeOf3
  simp [go_sem, u, z, h1]
theorem run_ld24 (ρ : Operand → Value) (o : Oper) (x : Operand) (ho : o.op = .load 24 x) (p : Addr) (v : Value) (ha : ρ x = .pointer (some p)) (w : World) (hc : w.cell? p = some v) : (execOp ρ o).run Tryd.prog w = .ok (.value v) w := by
  unfold execOp
  simp only [ho, ha]
  simp [Instr.loadAt, go_sem, hc, Tryd.isAgg24]
theorem run_ld3 (ρ : Operand → Value) (o : Oper) (x : Operand) (ho : o.op = .load 3 x) (p : Addr) (v : Value) (ha : ρ x = .pointer (some p)) (w : World) (hc : w.cell? p = some v) : (execOp ρ o).run Tryd.prog w = .ok (.value v) w := by
  unfold execOp
  simp only [ho, ha]
  simp [Instr.loadAt, go_sem, hc, Tryd.isAgg3]
theorem run_ia24 (ρ : Operand → Value) (o : Oper) (x y : Operand) (ho : o.op = .indexAddr 24 x y) (g q n cap k : Nat) (hk : k < n) (hx : ρ x = .slice (some ⟨g, q, none⟩) n cap) (hy : ρ y = .int .i64 (k : Int)) (w : World) : (execOp ρ o).run Tryd.prog w = .ok (.value (.pointer (some ⟨g, q + k, none⟩))) w := by
  unfold execOp
  simp only [ho, hx, hy]
  have h1 : (k : Int) < (n : Int) := by omega
  have u := Tryd.underlying24
  have z := Tryd.sizeOf9
  simp [go_sem, u, z, h1]
theorem run_ld9 (ρ : Operand → Value) (o : Oper) (x : Operand) (ho : o.op = .load 9 x) (p : Addr) (v : Value) (ha : ρ x = .pointer (some p)) (w : World) (hc : w.cell? p = some v) : (execOp ρ o).run Tryd.prog w = .ok (.value v) w := by
  unfold execOp
  simp only [ho, ha]
  simp [Instr.loadAt, go_sem, hc, Tryd.isAgg9]
theorem run_st9 (ρ : Operand → Value) (o : Oper) (x y : Operand) (ho : o.op = .store 9 x y) (g q : Nat) (a : List UInt8) (ha : ρ x = .pointer (some ⟨g, q, none⟩)) (hy : ρ y = S a) (w : World) (cur : Array Value) (hg : w.heap[g]? = some (.cells cur 9 (0, 0))) (hq : q < cur.size) : (execOp ρ o).run Tryd.prog w = .ok .skip (w.setCell ⟨g, q, none⟩ (S a)) := by
  have s1 : (store ⟨g, q, none⟩ (S a)).run Tryd.prog w = .ok () (w.setCell ⟨g, q, none⟩ (S a)) := by
    rw [run_store _ _ _ _ _ rfl, cell_of_row _ _ _ _ 9 (0, 0) hg, Array.getElem?_eq_getElem (by omega)]
    simp [World.frozen?, hg]
  unfold execOp
  simp only [ho, ha, hy]
  simp [go_sem, s1, Result.andThen]
theorem run_ne9 (ρ : Operand → Value) (o : Oper) (x y : Operand) (ho : o.op = .binOp .neq 9 x y 9) (a b : List UInt8) (hx : ρ x = S a) (hy : ρ y = S b) (w : World) : (execOp ρ o).run Tryd.prog w = .ok (.value (.bool (!decide (a = b)))) w := by
  unfold execOp
  simp only [ho, hx, hy]
  simp [go_sem]
  by_cases h : a = b <;> simp [h]
theorem doesL_skp {ops : Array Oper} {Q : Exit → Act → World → Prop} {Wd : (Nat → Bool) → World → Prop} {val : Nat → Value} {i : Nat} {L : Nat → Bool} {o : Oper} {a : Act} {w w' : World} (ho : ops[i]? = some o) (hw : Region.wanted o (yielded ops a.tmps) = true) (hv : val i = undef) (hW : Wd (upd L i) w')
    (hr : (execOp a.eval o).run Tryd.prog w = .ok .skip w') : DoesL ops Q Wd val i L a w := by
  unfold DoesL wpOp
  simp only [ho]
  rw [if_pos hw]
  left
  unfold Oper.wp
  rw [hr, Oper.upon_skip]
  refine ⟨?_, hW⟩
  simp [dstOf, ho, hv]
end Go.Proofs.YtknlafgaagimjaaDoor
