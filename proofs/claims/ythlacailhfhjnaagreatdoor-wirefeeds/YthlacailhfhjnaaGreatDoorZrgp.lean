import Derived.Test.YthlacailhfhjnaaGreatDoorRgs
import Derived.Test.YthlacailhfhjnaaGreatDoorZdetl
import Derived.Test.YthlacailhfhjnaaGreatDoorZwbd
namespace Go.Proofs.YthlacailhfhjnaaGreatDoor
open Go.RowKit Go.Lib
theorem run_ia22 (ρ : Operand → Value) (o : Oper) (x y : Operand) (ho : o.op = .indexAddr 22 x y) (g q n cap k : Nat) (hk : k < n) (hx : ρ x = .slice (some ⟨g, q, none⟩) n cap) (hy : ρ y = .int .i64 (k : Int)) (w : World) : (execOp ρ o).run Tryz.prog w = .ok (.value (.pointer (some ⟨g, q + k * 2, none⟩))) w := by
  unfold execOp
  simp only [ho, hx, hy]
  have h1 : (k : Int) < (n : Int) := by omega
  have u := Tryz.underlying22
  have z := Tryz.sizeOf35
  simp [go_sem, u, z, h1]
theorem run_st35 (ρ : Operand → Value) (o : Oper) (x y : Operand) (ho : o.op = .store 35 x y) (g j : Nat) (a b : Value) (ha : ρ x = .pointer (some ⟨g, j, none⟩)) (hy : ρ y = .agg #[a, b]) (w : World) (cs : Array Value) (h : w.heap[g]? = some (.cells cs 35 (0, 0)) ∧ j + 1 < cs.size) (h1 : a.oneCell' = true ∧ b.oneCell' = true) : (execOp ρ o).run Tryz.prog w = .ok .skip ((w.setCell ⟨g, j, none⟩ a).setCell ⟨g, j + 1, none⟩ b) := by
  obtain ⟨h, hj⟩ := h
  have q0 := heap_setCell_same w g j _ 35 a h
  have s0 : (store ⟨g, j, none⟩ a).run Tryz.prog w = .ok () (w.setCell ⟨g, j, none⟩ a) := by
    rw [run_store _ _ _ _ _ h1.1, cell_of_row w g j _ 35 (0, 0) h, Array.getElem?_eq_getElem (by omega)]
    simp [frozen_of_row w g j _ 35 h]
  have s1 : (store ⟨g, j + 1, none⟩ b).run Tryz.prog (w.setCell ⟨g, j, none⟩ a) = .ok () ((w.setCell ⟨g, j, none⟩ a).setCell ⟨g, j + 1, none⟩ b) := by
    rw [run_store _ _ _ _ _ h1.2, cell_of_row _ g (j + 1) _ 35 (0, 0) q0, Array.getElem?_eq_getElem (by simp; omega)]
    simp [frozen_of_row _ g (j + 1) _ 35 q0]
  unfold execOp
  simp only [ho, ha, hy]
  simp [go_sem, s0, s1, Result.andThen]
end Go.Proofs.YthlacailhfhjnaaGreatDoor
/- What an operation of a drawn region comes to, told by what its sentence in the model's words comes to. -/
namespace Go.Proofs.YthlacailhfhjnaaGreatDoor
open Go.RowKit
variable {ρ : Operand → Value} {o : Oper} {w w' : World} {r : Value}
theorem g_load {t : TypeId} {a : Operand} {va : Value} (ho : o.op = .load t a) (ha : ρ a = va) (hr : (Instr.loadAt t va).run Tryz.prog w = .ok r w') : (execOp ρ o).run Tryz.prog w = .ok (.value r) w' := by
  unfold execOp
  simp only [ho, ha, Sem.run_bind, hr, Result.andThen_ok, Sem.run_pure]
theorem g_store {t : TypeId} {a x : Operand} {va vx : Value} (ho : o.op = .store t a x) (ha : ρ a = va) (hx : ρ x = vx) (hr : (Instr.storeAt t va vx).run Tryz.prog w = .ok () w') : (execOp ρ o).run Tryz.prog w = .ok .skip w' := by
  unfold execOp
  simp only [ho, ha, hx, Sem.run_bind, hr, Result.andThen_ok, Sem.run_pure]
theorem g_bin {p : BinOp} {t u : TypeId} {x y : Operand} {vx vy : Value} (ho : o.op = .binOp p t x y u) (hx : ρ x = vx) (hy : ρ y = vy) (hr : (do eqGuard p t x y vx vy; binOp p t vx vy : Sem Value).run Tryz.prog w = .ok r w') : (execOp ρ o).run Tryz.prog w = .ok (.value r) w' := by
  unfold execOp
  simp only [ho, hx, hy]
  rw [Sem.run_bind, hr, Result.andThen_ok, Sem.run_pure]
theorem g_field {t : TypeId} {j : Nat} {x : Operand} {vx : Value} (ho : o.op = .fieldAddr t x j) (hx : ρ x = vx) (hr : (Instr.fieldAt t vx j).run Tryz.prog w = .ok r w') : (execOp ρ o).run Tryz.prog w = .ok (.value r) w' := by
  unfold execOp
  simp only [ho, hx, Sem.run_bind, hr, Result.andThen_ok, Sem.run_pure]
theorem g_ixa {t : TypeId} {x y : Operand} {vx vy : Value} (ho : o.op = .indexAddr t x y) (hx : ρ x = vx) (hy : ρ y = vy) (hr : (Instr.indexAt t vx vy).run Tryz.prog w = .ok r w') : (execOp ρ o).run Tryz.prog w = .ok (.value r) w' := by
  unfold execOp
  simp only [ho, hx, hy, Sem.run_bind, hr, Result.andThen_ok, Sem.run_pure]
theorem g_fld {t : TypeId} {j : Nat} {x : Operand} {vx : Value} (ho : o.op = .field t x j) (hx : ρ x = vx) (hr : (Instr.field t vx j).run Tryz.prog w = .ok r w') : (execOp ρ o).run Tryz.prog w = .ok (.value r) w' := by
  unfold execOp
  simp only [ho, hx, Sem.run_bind, hr, Result.andThen_ok, Sem.run_pure]
theorem g_ext {j : Nat} {x : Operand} {vx : Value} (ho : o.op = .extract x j) (hx : ρ x = vx) (hr : (Instr.extract vx j).run Tryz.prog w = .ok r w') : (execOp ρ o).run Tryz.prog w = .ok (.value r) w' := by
  unfold execOp
  simp only [ho, hx, Sem.run_bind, hr, Result.andThen_ok, Sem.run_pure]
theorem g_build {t : TypeId} {ps : Array (Nat × Operand)} {vs : Array (Nat × Value)} (ho : o.op = .build t ps) (hp : (ps.map fun (i, x) => (i, ρ x)) = vs) (hr : (Instr.build t vs).run Tryz.prog w = .ok r w') : (execOp ρ o).run Tryz.prog w = .ok (.value r) w' := by
  unfold execOp
  simp only [ho, hp, Sem.run_bind, hr, Result.andThen_ok, Sem.run_pure]
end Go.Proofs.YthlacailhfhjnaaGreatDoor
