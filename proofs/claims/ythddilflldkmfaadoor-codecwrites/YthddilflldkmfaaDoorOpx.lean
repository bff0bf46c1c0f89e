import Derived.Test.YthddilflldkmfaaDoorOpc
/- Single operations of the document's Writer, of many and of CodecWrites. -/
namespace Go.Proofs.YthddilflldkmfaaDoor
open Go.RowKit Go.Lib
theorem doesL_skp {ops : Array Oper} {Q : Exit → Act → World → Prop} {Wd : (Nat → Bool) → World → Prop} {val : Nat → Value} {i : Nat} {L : Nat → Bool} {o : Oper} {a : Act} {w w' : World} (ho : ops[i]? = some o) (hw : Region.wanted o (yielded ops a.tmps) = true) (hv : val i = undef) (hW : Wd (upd L i) w')
    (hr : (execOp a.eval o).run Tryd.prog w = .ok .skip w') : DoesL ops Q Wd val i L a w := by
  unfold DoesL wpOp
  simp only [ho]
  rw [if_pos hw]
  left
  unfold Oper.wp
  rw [hr, Oper.upon_skip]
  refine ⟨?_, hW⟩
  simp [dstOf, ho, hv]
theorem run_f74 (ρ : Operand → Value) (o : Oper) (x : Operand) (j : Nat) (hj : j < 2) (ho : o.op = .fieldAddr 74 x j) (g q : Nat) (hx : ρ x = .pointer (some ⟨g, q, none⟩)) (w : World) : (execOp ρ o).run Tryd.prog w = .ok (.value (.pointer (some ⟨g, q + j, none⟩))) w := by
  unfold execOp
  simp only [ho, hx]
  rcases (by omega : j = 0 ∨ j = 1) with rfl | rfl <;> kernel_rfl
theorem run_cat (ρ : Operand → Value) (o : Oper) (x y : Operand) (ho : o.op = .binOp .add 9 x y 9) (a b : List UInt8) (hl : a.length + b.length ≤ 1000000000000) (hx : ρ x = .string ⟨a.toArray⟩) (hy : ρ y = .string ⟨b.toArray⟩) (w : World) : (execOp ρ o).run Tryd.prog w = .ok (.value (.string ⟨(a ++ b).toArray⟩)) w := by
  unfold execOp
  simp only [ho, hx, hy]
  simp [go_sem, eqGuard]
  rw [if_neg (by omega)]
  have e : (ByteArray.mk a.toArray ++ ByteArray.mk b.toArray) = ⟨(a ++ b).toArray⟩ := by
    apply ByteArray.ext
    simp
  rw [e]
theorem run_st9 (ρ : Operand → Value) (o : Oper) (x y : Operand) (ho : o.op = .store 9 x y) (p : Addr) (v : ByteArray) (hx : ρ x = .pointer (some p)) (hy : ρ y = .string v) (w : World) (old : Value) (hc : w.cell? p = some old) (hf : w.frozen? p = false) : (execOp ρ o).run Tryd.prog w = .ok .skip (w.setCell p (.string v)) := by
  unfold execOp
  simp only [ho, hx, hy]
  simp [go_sem, hc, hf]
theorem run_ia27 (ρ : Operand → Value) (o : Oper) (x y : Operand) (ho : o.op = .indexAddr 27 x y) (g q n cap k : Nat) (hk : k < n) (hx : ρ x = .slice (some ⟨g, q, none⟩) n cap) (hy : ρ y = .int .i64 (k : Int)) (w : World) : (execOp ρ o).run Tryd.prog w = .ok (.value (.pointer (some ⟨g, q + k, none⟩))) w := by
  unfold execOp
  simp only [ho, hx, hy]
  have h1 : (k : Int) < (n : Int) := by omega
  have u := Tryd.underlying27
  have z := Tryd.sizeOf25
  simp [go_sem, u, z, h1]
theorem run_ia30 (ρ : Operand → Value) (o : Oper) (x y : Operand) (ho : o.op = .indexAddr 30 x y) (g q n cap k : Nat) (hk : k < n) (hx : ρ x = .slice (some ⟨g, q, none⟩) n cap) (hy : ρ y = .int .i64 (k : Int)) (w : World) : (execOp ρ o).run Tryd.prog w = .ok (.value (.pointer (some ⟨g, q + k, none⟩))) w := by
  unfold execOp
  simp only [ho, hx, hy]
  have h1 : (k : Int) < (n : Int) := by omega
  have u := Tryd.underlying30
  have z := Tryd.sizeOf28
  simp [go_sem, u, z, h1]
theorem run_ia31 (ρ : Operand → Value) (o : Oper) (x y : Operand) (ho : o.op = .indexAddr 31 x y) (g q n cap k : Nat) (hk : k < n) (hx : ρ x = .slice (some ⟨g, q, none⟩) n cap) (hy : ρ y = .int .i64 (k : Int)) (w : World) : (execOp ρ o).run Tryd.prog w = .ok (.value (.pointer (some ⟨g, q + k, none⟩))) w := by
  unfold execOp
  simp only [ho, hx, hy]
  have h1 : (k : Int) < (n : Int) := by omega
  have u := Tryd.underlying31
  have z := Tryd.sizeOf3
  simp [go_sem, u, z, h1]
theorem run_ld25 (ρ : Operand → Value) (o : Oper) (x : Operand) (ho : o.op = .load 25 x) (p : Addr) (v : Value) (ha : ρ x = .pointer (some p)) (w : World) (hc : w.cell? p = some v) : (execOp ρ o).run Tryd.prog w = .ok (.value v) w := by
  unfold execOp
  simp only [ho, ha]
  simp [Instr.loadAt, go_sem, hc, Tryd.isAgg25]
theorem run_ld28 (ρ : Operand → Value) (o : Oper) (x : Operand) (ho : o.op = .load 28 x) (p : Addr) (v : Value) (ha : ρ x = .pointer (some p)) (w : World) (hc : w.cell? p = some v) : (execOp ρ o).run Tryd.prog w = .ok (.value v) w := by
  unfold execOp
  simp only [ho, ha]
  simp [Instr.loadAt, go_sem, hc, Tryd.isAgg28]
theorem size33 (w : World) : (sizeOf 33).run Tryd.prog w = .ok 6 w := by kernel_rfl
theorem run_l33 (ρ : Operand → Value) (o : Oper) (x : Operand) (ho : o.op = .load 33 x) (g : Nat) (hx : ρ x = .pointer (some ⟨g, 0, none⟩)) (u0 u1 u2 u3 u4 u5 : Value) (w : World) (c0 : w.cell? ⟨g, 0, none⟩ = some u0) (c1 : w.cell? ⟨g, 1, none⟩ = some u1) (c2 : w.cell? ⟨g, 2, none⟩ = some u2) (c3 : w.cell? ⟨g, 3, none⟩ = some u3) (c4 : w.cell? ⟨g, 4, none⟩ = some u4) (c5 : w.cell? ⟨g, 5, none⟩ = some u5) : (execOp ρ o).run Tryd.prog w = .ok (.value (.agg #[u0, u1, u2, u3, u4, u5])) w := by
  unfold execOp
  simp only [ho, hx]
  have hl : (loadCells ⟨g, 0, none⟩ 6).run Tryd.prog w = .ok #[u0, u1, u2, u3, u4, u5] w := by
    have := run_loadCells_list (P := Tryd.prog) w ⟨g, 0, none⟩ [u0, u1, u2, u3, u4, u5] (fun j v hv => by
      match j, hv with
      | 0, hv => simp at hv; subst hv; simpa [Addr.add] using c0
      | 1, hv => simp at hv; subst hv; simpa [Addr.add] using c1
      | 2, hv => simp at hv; subst hv; simpa [Addr.add] using c2
      | 3, hv => simp at hv; subst hv; simpa [Addr.add] using c3
      | 4, hv => simp at hv; subst hv; simpa [Addr.add] using c4
      | 5, hv => simp at hv; subst hv; simpa [Addr.add] using c5
      | (j + 6), hv => simp at hv)
    simpa using this
  simp [Instr.loadAt, Instr.sureAddr, loadVar, Tryd.isAgg33, hl, Result.andThen]
end Go.Proofs.YthddilflldkmfaaDoor
/- Single operations of many. -/
namespace Go.Proofs.YthddilflldkmfaaDoor
open Go.RowKit Go.Lib
theorem run_ia82 (ρ : Operand → Value) (o : Oper) (x y : Operand) (ho : o.op = .indexAddr 82 x y) (g q n cap k : Nat) (hk : k < n) (hx : ρ x = .slice (some ⟨g, q, none⟩) n cap) (hy : ρ y = .int .i64 (k : Int)) (w : World) : (execOp ρ o).run Tryd.prog w = .ok (.value (.pointer (some ⟨g, q + k, none⟩))) w := by
  unfold execOp
  simp only [ho, hx, hy]
  have h1 : (k : Int) < (n : Int) := by omega
  have u := Tryd.underlying82
  have z := Tryd.sizeOf21
  simp [go_sem, u, z, h1]
theorem run_ld21 (ρ : Operand → Value) (o : Oper) (x : Operand) (ho : o.op = .load 21 x) (p : Addr) (v : Value) (ha : ρ x = .pointer (some p)) (w : World) (hc : w.cell? p = some v) : (execOp ρ o).run Tryd.prog w = .ok (.value v) w := by
  unfold execOp
  simp only [ho, ha]
  simp [Instr.loadAt, go_sem, hc, Tryd.isAgg21]
theorem run_ia84 (ρ : Operand → Value) (o : Oper) (x y : Operand) (ho : o.op = .indexAddr 84 x y) (g q n cap k : Nat) (hk : k < n) (hx : ρ x = .slice (some ⟨g, q, none⟩) n cap) (hy : ρ y = .int .i64 (k : Int)) (w : World) : (execOp ρ o).run Tryd.prog w = .ok (.value (.pointer (some ⟨g, q + k, none⟩))) w := by
  unfold execOp
  simp only [ho, hx, hy]
  have h1 : (k : Int) < (n : Int) := by omega
  have u := Tryd.underlying84
  have z := Tryd.sizeOf2
  simp [go_sem, u, z, h1]
theorem run_ld2 (ρ : Operand → Value) (o : Oper) (x : Operand) (ho : o.op = .load 2 x) (p : Addr) (v : Value) (ha : ρ x = .pointer (some p)) (w : World) (hc : w.cell? p = some v) : (execOp ρ o).run Tryd.prog w = .ok (.value v) w := by
  unfold execOp
  simp only [ho, ha]
  simp [Instr.loadAt, go_sem, hc, Tryd.isAgg2]
theorem run_ia68 (ρ : Operand → Value) (o : Oper) (x y : Operand) (ho : o.op = .indexAddr 68 x y) (g q n cap k : Nat) (hk : k < n) (hx : ρ x = .slice (some ⟨g, q, none⟩) n cap) (hy : ρ y = .int .i64 (k : Int)) (w : World) : (execOp ρ o).run Tryd.prog w = .ok (.value (.pointer (some ⟨g, q + k, none⟩))) w := by
  unfold execOp
  simp only [ho, hx, hy]
  have h1 : (k : Int) < (n : Int) := by omega
  have u := Tryd.underlying68
  have z := Tryd.sizeOf5
  simp [go_sem, u, z, h1]
theorem run_ld5 (ρ : Operand → Value) (o : Oper) (x : Operand) (ho : o.op = .load 5 x) (p : Addr) (v : Value) (ha : ρ x = .pointer (some p)) (w : World) (hc : w.cell? p = some v) : (execOp ρ o).run Tryd.prog w = .ok (.value v) w := by
  unfold execOp
  simp only [ho, ha]
  simp [Instr.loadAt, go_sem, hc, Tryd.isAgg5]
theorem run_ia87 (ρ : Operand → Value) (o : Oper) (x y : Operand) (ho : o.op = .indexAddr 87 x y) (g q n cap k : Nat) (hk : k < n) (hx : ρ x = .slice (some ⟨g, q, none⟩) n cap) (hy : ρ y = .int .i64 (k : Int)) (w : World) : (execOp ρ o).run Tryd.prog w = .ok (.value (.pointer (some ⟨g, q + k, none⟩))) w := by
  unfold execOp
  simp only [ho, hx, hy]
  have h1 : (k : Int) < (n : Int) := by omega
  have u := Tryd.underlying87
  have z := Tryd.sizeOf88
  simp [go_sem, u, z, h1]
theorem run_ld88 (ρ : Operand → Value) (o : Oper) (x : Operand) (ho : o.op = .load 88 x) (p : Addr) (v : Value) (ha : ρ x = .pointer (some p)) (w : World) (hc : w.cell? p = some v) : (execOp ρ o).run Tryd.prog w = .ok (.value v) w := by
  unfold execOp
  simp only [ho, ha]
  simp [Instr.loadAt, go_sem, hc, Tryd.isAgg88]
theorem run_ia90 (ρ : Operand → Value) (o : Oper) (x y : Operand) (ho : o.op = .indexAddr 90 x y) (g q n cap k : Nat) (hk : k < n) (hx : ρ x = .slice (some ⟨g, q, none⟩) n cap) (hy : ρ y = .int .i64 (k : Int)) (w : World) : (execOp ρ o).run Tryd.prog w = .ok (.value (.pointer (some ⟨g, q + k, none⟩))) w := by
  unfold execOp
  simp only [ho, hx, hy]
  have h1 : (k : Int) < (n : Int) := by omega
  have u := Tryd.underlying90
  have z := Tryd.sizeOf91
  simp [go_sem, u, z, h1]
theorem run_ld91 (ρ : Operand → Value) (o : Oper) (x : Operand) (ho : o.op = .load 91 x) (p : Addr) (v : Value) (ha : ρ x = .pointer (some p)) (w : World) (hc : w.cell? p = some v) : (execOp ρ o).run Tryd.prog w = .ok (.value v) w := by
  unfold execOp
  simp only [ho, ha]
  simp [Instr.loadAt, go_sem, hc, Tryd.isAgg91]
theorem run_cv3_21 (ρ : Operand → Value) (o : Oper) (x : Operand) (ho : o.op = .convert 3 21 x) (a : Int) (ha : ρ x = .int .i64 a) (w : World) : (execOp ρ o).run Tryd.prog w = .ok (.value (.int .i32 (IntKind.i32.wrap a))) w := by
  unfold execOp
  simp only [ho, ha]
  kernel_rfl
theorem run_cv21_3 (ρ : Operand → Value) (o : Oper) (x : Operand) (ho : o.op = .convert 21 3 x) (a : Int) (ha : ρ x = .int .i32 a) (w : World) : (execOp ρ o).run Tryd.prog w = .ok (.value (.int .i64 (IntKind.i64.wrap a))) w := by
  unfold execOp
  simp only [ho, ha]
  kernel_rfl
theorem run_cv3_5 (ρ : Operand → Value) (o : Oper) (x : Operand) (ho : o.op = .convert 3 5 x) (a : Int) (ha : ρ x = .int .i64 a) (w : World) : (execOp ρ o).run Tryd.prog w = .ok (.value (.int .u8 (IntKind.u8.wrap a))) w := by
  unfold execOp
  simp only [ho, ha]
  kernel_rfl
theorem run_cv5_3 (ρ : Operand → Value) (o : Oper) (x : Operand) (ho : o.op = .convert 5 3 x) (a : Int) (ha : ρ x = .int .u8 a) (w : World) : (execOp ρ o).run Tryd.prog w = .ok (.value (.int .i64 (IntKind.i64.wrap a))) w := by
  unfold execOp
  simp only [ho, ha]
  kernel_rfl
theorem run_cv3_88 (ρ : Operand → Value) (o : Oper) (x : Operand) (ho : o.op = .convert 3 88 x) (a : Int) (ha : ρ x = .int .i64 a) (w : World) : (execOp ρ o).run Tryd.prog w = .ok (.value (.int .u16 (IntKind.u16.wrap a))) w := by
  unfold execOp
  simp only [ho, ha]
  kernel_rfl
theorem run_cv88_3 (ρ : Operand → Value) (o : Oper) (x : Operand) (ho : o.op = .convert 88 3 x) (a : Int) (ha : ρ x = .int .u16 a) (w : World) : (execOp ρ o).run Tryd.prog w = .ok (.value (.int .i64 (IntKind.i64.wrap a))) w := by
  unfold execOp
  simp only [ho, ha]
  kernel_rfl
theorem run_cv3_91 (ρ : Operand → Value) (o : Oper) (x : Operand) (ho : o.op = .convert 3 91 x) (a : Int) (ha : ρ x = .int .i64 a) (w : World) : (execOp ρ o).run Tryd.prog w = .ok (.value (.int .u32 (IntKind.u32.wrap a))) w := by
  unfold execOp
  simp only [ho, ha]
  kernel_rfl
theorem run_cv91_3 (ρ : Operand → Value) (o : Oper) (x : Operand) (ho : o.op = .convert 91 3 x) (a : Int) (ha : ρ x = .int .u32 a) (w : World) : (execOp ρ o).run Tryd.prog w = .ok (.value (.int .i64 (IntKind.i64.wrap a))) w := by
  unfold execOp
  simp only [ho, ha]
  kernel_rfl
theorem run_sameK (ρ : Operand → Value) (o : Oper) (t u : TypeId) (x y : Operand) (ho : o.op = .binOp .eql t x y u) (K : IntKind) (a : Int) (ha : ρ x = .int K a) (hb : ρ y = .int K a) (w : World) : (execOp ρ o).run Tryd.prog w = .ok (.value (.bool true)) w := by
  unfold execOp
  simp only [ho, ha, hb]
  simp [eqGuard, go_sem]
theorem run_cutS (ρ : Operand → Value) (o : Oper) (x y : Operand) (ho : o.op = .slice 31 x none (some y) none) (g n cap k : Nat) (p : Nat) (hk : k ≤ cap) (hx : ρ x = .slice (some ⟨g, p, none⟩) n cap) (hy : ρ y = .int .i64 (k : Int)) (w : World) : (execOp ρ o).run Tryd.prog w = .ok (.value (.slice (some ⟨g, p, none⟩) k cap)) w := by
  unfold execOp
  simp only [ho, hx, Option.map_some, Option.map_none, hy]
  have h1 : (k : Int) ≤ (cap : Int) := by omega
  have u := Tryd.underlying31
  have z := Tryd.sizeOf3
  simp [Instr.sliceAt, go_sem, u, z, h1]
end Go.Proofs.YthddilflldkmfaaDoor
