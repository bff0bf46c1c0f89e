import Derived.Test.YthddilflldkmfaaDoorDetl
/- Single operations of CodecReads and size, and a slot that a region reads and writes in the end. -/
namespace Go.Proofs.YthddilflldkmfaaDoor
open Go.RowKit Go.Lib
theorem put_none (a : Act) (v : Value) : a.put none v = a := rfl
theorem put_list (l : List Value) (d : List Deferred) (i : Nat) (v : Value) : (⟨l.toArray, d⟩ : Act).put (some i) v = ⟨(l.set i v).toArray, d⟩ := by
  simp [Act.put]
theorem run_ia45 (ρ : Operand → Value) (o : Oper) (x y : Operand) (ho : o.op = .indexAddr 45 x y) (g q n cap k : Nat) (hk : k < n) (hx : ρ x = .slice (some ⟨g, q, none⟩) n cap) (hy : ρ y = .int .i64 (k : Int)) (w : World) : (execOp ρ o).run Tryd.prog w = .ok (.value (.pointer (some ⟨g, q + k, none⟩))) w := by
  unfold execOp
  simp only [ho, hx, hy]
  have h1 : (k : Int) < (n : Int) := by omega
  have u := Tryd.underlying45
  have z := Tryd.sizeOf43
  simp [go_sem, u, z, h1]
theorem run_ia48 (ρ : Operand → Value) (o : Oper) (x y : Operand) (ho : o.op = .indexAddr 48 x y) (g q n cap k : Nat) (hk : k < n) (hx : ρ x = .slice (some ⟨g, q, none⟩) n cap) (hy : ρ y = .int .i64 (k : Int)) (w : World) : (execOp ρ o).run Tryd.prog w = .ok (.value (.pointer (some ⟨g, q + k, none⟩))) w := by
  unfold execOp
  simp only [ho, hx, hy]
  have h1 : (k : Int) < (n : Int) := by omega
  have u := Tryd.underlying48
  have z := Tryd.sizeOf46
  simp [go_sem, u, z, h1]
theorem run_ia22 (ρ : Operand → Value) (o : Oper) (x y : Operand) (ho : o.op = .indexAddr 22 x y) (g q n cap k : Nat) (hk : k < n) (hx : ρ x = .slice (some ⟨g, q, none⟩) n cap) (hy : ρ y = .int .i64 (k : Int)) (w : World) : (execOp ρ o).run Tryd.prog w = .ok (.value (.pointer (some ⟨g, q + k * 6, none⟩))) w := by
  unfold execOp
  simp only [ho, hx, hy]
  have h1 : (k : Int) < (n : Int) := by omega
  have u := Tryd.underlying22
  have z := Tryd.sizeOf33
  simp [go_sem, u, z, h1]
theorem run_f33 (ρ : Operand → Value) (o : Oper) (x : Operand) (j : Nat) (hj : j < 6) (ho : o.op = .fieldAddr 33 x j) (g q : Nat) (hx : ρ x = .pointer (some ⟨g, q, none⟩)) (w : World) : (execOp ρ o).run Tryd.prog w = .ok (.value (.pointer (some ⟨g, q + j, none⟩))) w := by
  unfold execOp
  simp only [ho, hx]
  rcases (by omega : j = 0 ∨ j = 1 ∨ j = 2 ∨ j = 3 ∨ j = 4 ∨ j = 5) with rfl | rfl | rfl | rfl | rfl | rfl <;> kernel_rfl
theorem run_ld43 (ρ : Operand → Value) (o : Oper) (x : Operand) (ho : o.op = .load 43 x) (p : Addr) (v : Value) (ha : ρ x = .pointer (some p)) (w : World) (hc : w.cell? p = some v) : (execOp ρ o).run Tryd.prog w = .ok (.value v) w := by
  unfold execOp
  simp only [ho, ha]
  simp [Instr.loadAt, go_sem, hc, Tryd.isAgg43]
theorem run_ld46 (ρ : Operand → Value) (o : Oper) (x : Operand) (ho : o.op = .load 46 x) (p : Addr) (v : Value) (ha : ρ x = .pointer (some p)) (w : World) (hc : w.cell? p = some v) : (execOp ρ o).run Tryd.prog w = .ok (.value v) w := by
  unfold execOp
  simp only [ho, ha]
  simp [Instr.loadAt, go_sem, hc, Tryd.isAgg46]
theorem run_ld31 (ρ : Operand → Value) (o : Oper) (x : Operand) (ho : o.op = .load 31 x) (p : Addr) (v : Value) (ha : ρ x = .pointer (some p)) (w : World) (hc : w.cell? p = some v) : (execOp ρ o).run Tryd.prog w = .ok (.value v) w := by
  unfold execOp
  simp only [ho, ha]
  simp [Instr.loadAt, go_sem, hc, Tryd.isAgg31]
theorem run_ld3 (ρ : Operand → Value) (o : Oper) (x : Operand) (ho : o.op = .load 3 x) (p : Addr) (v : Value) (ha : ρ x = .pointer (some p)) (w : World) (hc : w.cell? p = some v) : (execOp ρ o).run Tryd.prog w = .ok (.value v) w := by
  unfold execOp
  simp only [ho, ha]
  simp [Instr.loadAt, go_sem, hc, Tryd.isAgg3]
theorem run_lenS (ρ : Operand → Value) (o : Oper) (x : Operand) (ho : o.op = .call { callee := .builtin .len, args := #[x], argTypes := #[31] }) (p : Option Addr) (n c : Nat) (hx : ρ x = .slice p n c) (w : World) : (execOp ρ o).run Tryd.prog w = .ok (.value (.int .i64 (n : Int))) w := by
  unfold execOp
  simp only [ho, resolve, invoke, builtin]
  simp [hx, go_sem]
theorem run_mul (ρ : Operand → Value) (o : Oper) (x y : Operand) (ho : o.op = .binOp .mul 3 x y 3) (a b : Int) (hx : ρ x = .int .i64 a) (hy : ρ y = .int .i64 b) (h0 : -9223372036854775808 ≤ a * b) (h1 : a * b ≤ 9223372036854775807) (w : World) : (execOp ρ o).run Tryd.prog w = .ok (.value (.int .i64 (a * b))) w := by
  unfold execOp
  simp only [ho, hx, hy]
  simp [go_sem]
  exact IntWalk.i64_in _ ⟨h0, h1⟩
theorem run_same (ρ : Operand → Value) (o : Oper) (t u : TypeId) (x y : Operand) (ho : o.op = .binOp .eql t x y u) (a : Int) (ha : ρ x = .int .i64 a) (hb : ρ y = .int .i64 a) (w : World) : (execOp ρ o).run Tryd.prog w = .ok (.value (.bool true)) w := by
  rw [run_inteq ρ o t u x y ho a a ha hb w]; simp
theorem run_strsame (ρ : Operand → Value) (o : Oper) (t u : TypeId) (x y : Operand) (ho : o.op = .binOp .eql t x y u) (a : List UInt8) (ha : ρ x = .string ⟨a.toArray⟩) (hb : ρ y = .string ⟨a.toArray⟩) (w : World) : (execOp ρ o).run Tryd.prog w = .ok (.value (.bool true)) w := by
  rw [run_streq ρ o t u x y ho a a ha hb w]; simp
theorem frm_late {ops : Array Oper} (a0 : Act) (val : Nat → Value) (L : Nat → Bool) (s m : Nat) (hm : L m = false) : ∀ n, (∀ j, j ≠ m → dstOf ops j ≠ some s) → (frm ops a0 val L n).tmps[s]? = a0.tmps[s]? := by
  intro n
  induction n with
  | zero => intro _; rfl
  | succ n ih =>
    intro h
    simp only [frm]
    split
    · rename_i hn
      rw [put_get_ne _ _ _ _ (h n (fun e => by rw [e, hm] at hn; cases hn))]
      exact ih h
    · exact ih h
def lateB (T : List (Op × Option Tmp × Option (Nat × Bool))) (s m : Nat) : Bool := (List.range T.length).all fun j => j == m || !((T[j]?).bind (·.2.1) == some s)
theorem late_of {T : List (Op × Option Tmp × Option (Nat × Bool))} {ops : Array Oper} (htab : ops.toList.map (fun o => (o.op, o.dst, o.guard)) = T) {s m : Nat} (h : lateB T s m = true) (j : Nat) (hj : j ≠ m) : dstOf ops j ≠ some s := by
  rw [tab_dst htab]
  by_cases hl : j < T.length
  · have := List.all_eq_true.1 h j (List.mem_range.2 hl)
    simp only [Bool.or_eq_true, beq_iff_eq, Bool.not_eq_true', beq_eq_false_iff_ne] at this
    exact this.resolve_left hj
  · rw [List.getElem?_eq_none (by omega)]
    simp
end Go.Proofs.YthddilflldkmfaaDoor
