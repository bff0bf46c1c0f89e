import Derived.Test.YtjopnhhdemfniaaGreatDoorZinv
import Derived.Test.YtjopnhhdemfniaaGreatDoorZdsa
import Derived.Conc.MuLone
import Derived.Laws.Tables
namespace Go.Proofs.YtjopnhhdemfniaaGreatDoor
open Go.RowKit
theorem tab_at {ops : Array Oper} {l : List (Op × Option Tmp × Option (Nat × Bool))} (h : ops.toList.map (fun o => (o.op, o.dst, o.guard)) = l) {i : Nat} {o : Oper} (ho : ops[i]? = some o) {x : Op × Option Tmp × Option (Nat × Bool)} (hx : l[i]? = some x) : o.op = x.1 ∧ o.dst = x.2.1 ∧ o.guard = x.2.2 := by
  rw [← h, List.getElem?_map] at hx
  have : ops.toList[i]? = some o := by simpa using ho
  rw [this] at hx
  have := Option.some.inj hx
  rw [← this]
  exact ⟨rfl, rfl, rfl⟩
theorem tab_dst {ops : Array Oper} {l : List (Op × Option Tmp × Option (Nat × Bool))} (h : ops.toList.map (fun o => (o.op, o.dst, o.guard)) = l) (i : Nat) : dstOf ops i = (l[i]?).bind (·.2.1) := by
  rw [← h, List.getElem?_map]
  unfold dstOf
  have : ops.toList[i]? = ops[i]? := by simp
  rw [this]
  cases ops[i]? <;> rfl
theorem run_pick (ρ : Operand → Value) (o : Oper) (c x y : Operand) (ho : o.op = .pick c x y) (b : Bool) (hc : ρ c = .bool b) (P : Program) (w : World) : (execOp ρ o).run P w = .ok (.value (if b then ρ x else ρ y)) w := by
  unfold execOp
  simp only [ho, hc]
  cases b <;> rfl
theorem run_move (ρ : Operand → Value) (o : Oper) (x : Operand) (ho : o.op = .move x) (P : Program) (w : World) : (execOp ρ o).run P w = .ok (.value (ρ x)) w := by
  unfold execOp
  simp only [ho]
  rfl
theorem run_ld (ρ : Operand → Value) (o : Oper) (x : Operand) (ho : o.op = .load 9 x) (p : Addr) (v : ByteArray) (ha : ρ x = .pointer (some p)) (w : World) (hc : w.cell? p = some (.string v)) : (execOp ρ o).run Tryz.prog w = .ok (.value (.string v)) w := by
  unfold execOp
  simp only [ho, ha]
  simp [Instr.loadAt, go_sem, hc, Tryz.isAgg9]
variable {ops : Array Oper} {Q : Exit → Act → World → Prop}
def DoesL (ops : Array Oper) (Q : Exit → Act → World → Prop) (Wd : (Nat → Bool) → World → Prop) (val : Nat → Value) (i : Nat) (L : Nat → Bool) (a : Act) (w : World) : Prop :=
  wpOp Tryz.prog ops Q i (fun a' w' => a' = a.put (dstOf ops i) (val i) ∧ Wd (upd L i) w') a w
theorem region_detL {id : Nat} {a0 : Act} {w : World} (val : Nat → Value) (Wd : (Nat → Bool) → World → Prop)
    (hac : ∀ i o, ops[i]? = some o → ∀ e ∈ o.after, Region.binds .any e = true → e.on < i)
    (hdis : ∀ i j, j ≠ i → dstOf ops j ≠ dstOf ops i ∨ dstOf ops j = none)
    (h0 : Wd (fun _ => false) w.drew)
    (hstep : ∀ i o, ops[i]? = some o → ∀ L a w, L i = false → (∀ e ∈ o.after, Region.binds .any e = true → L e.on = true) → a = frm ops a0 val L ops.size → Wd L w → DoesL ops Q Wd val i L a w)
    (hend : ∀ L w, (∀ i, i < ops.size → L i = true) → Wd L w → Q .normal (frm ops a0 val (fun _ => true) ops.size) w) : (Code.region id ops true).wp Tryz.prog Q a0 w := by
  refine region_inv (by kernel_rfl) (fun L a w => a = frm ops a0 val L ops.size ∧ Wd L w) hac ?_ ?_ ?_
  · refine ⟨?_, h0⟩
    have : ∀ n, frm ops a0 val (fun _ => false) n = a0 := by
      intro n
      induction n with
      | zero => rfl
      | succ n ih => simpa [frm] using ih
    exact (this _).symm
  · intro L a w i o ho hL hdep ⟨ha, hw⟩
    refine wpOp_mono ?_ (hstep i o ho L a w hL hdep ha hw)
    rintro a' w' ⟨rfl, hw'⟩
    refine ⟨?_, hw'⟩
    rw [frm_upd a0 val L i hL (fun j hj => hdis i j hj), if_pos (Array.getElem?_eq_some_iff.1 ho).1, ha]
  · intro L a w hall ⟨ha, hw⟩
    have : ∀ n, n ≤ ops.size → frm ops a0 val L n = frm ops a0 val (fun _ => true) n := by
      intro n
      induction n with
      | zero => intro _; rfl
      | succ n ih => intro h; simp only [frm]; rw [hall n (by omega), ih (by omega)]; simp
    rw [ha, this _ (Nat.le_refl _)]
    exact hend L w hall hw
variable {Wd : (Nat → Bool) → World → Prop} {val : Nat → Value} {i : Nat} {L : Nat → Bool} {o : Oper} {a : Act} {w : World}
theorem doesL_run (ho : ops[i]? = some o) (hw : Region.wanted o (yielded ops a.tmps) = true) (hW : Wd (upd L i) w)
    (hr : (execOp a.eval o).run Tryz.prog w = .ok (.value (val i)) w) : DoesL ops Q Wd val i L a w := by
  unfold DoesL wpOp
  simp only [ho]
  rw [if_pos hw]
  left
  unfold Oper.wp
  rw [hr, Oper.upon_value]
  refine ⟨?_, hW⟩
  simp [dstOf, ho]
theorem doesL_call (ho : ops[i]? = some o) (hw : Region.wanted o (yielded ops a.tmps) = true) (f : FuncId) (args : Array Value)
    (hr : (execOp a.eval o).run Tryz.prog w = .ok (.enter f args) w) (hc : Calls Tryz.prog f args w fun e w' => e = .returned (val i) ∧ Wd (upd L i) w') : DoesL ops Q Wd val i L a w := by
  unfold DoesL wpOp
  simp only [ho]
  rw [if_pos hw]
  left
  unfold Oper.wp
  rw [hr, Oper.upon_enter]
  refine hc.mono ?_
  rintro e w' ⟨rfl, hW⟩
  refine ⟨?_, hW⟩
  simp [dstOf, ho]
theorem run_assign (ρ : Operand → Value) (o : Oper) (x : Operand) (ho : o.op = .assign x) (w : World) : (execOp ρ o).run Tryz.prog w = .ok (.value (ρ x)) w := by
  unfold execOp
  simp only [ho]
  rfl
theorem run_calls {f : FuncId} {fn : Func} {c : Code} (hf : Tryz.prog.funcs[f]? = some fn) (hname : (fn.name == "runtime.NumGoroutine") = false) (hb : fn.body = some c) (ρ : Operand → Value) (o : Oper) (xs : Array Operand) (ty : Array TypeId) (ho : o.op = .call { callee := .value (.func f), args := xs, argTypes := ty }) (hfn : ρ (.func f) = .func (.func f) #[] #[]) (w : World) : (execOp ρ o).run Tryz.prog w = .ok (.enter f (xs.map ρ)) w := by
  unfold execOp
  simp only [ho, resolve, hfn]
  have := Go.MuLone.run_callFunc_enter (P := Tryz.prog) hf hname hb (xs.map ρ) w
  simp [Deferred.ofValue, invoke, this]
theorem run_nil (ρ : Operand → Value) (o : Oper) (x : Operand) (ho : o.op = .nilCheck x) (p : Addr) (hx : ρ x = .pointer (some p)) (w : World) : (execOp ρ o).run Tryz.prog w = .ok (.value (.pointer (some p))) w := by
  unfold execOp
  simp only [ho, hx]
  rfl
theorem run_not (ρ : Operand → Value) (o : Oper) (t : TypeId) (x : Operand) (ho : o.op = .unOp .not t x) (b : Bool) (hx : ρ x = .bool b) (w : World) : (execOp ρ o).run Tryz.prog w = .ok (.value (.bool (!b))) w := by
  unfold execOp
  simp only [ho, hx]
  cases b <;> rfl
def deplB (l : List (Nat × Nat)) (ops : Array Oper) : Bool := l.all fun x => match ops[x.1]? with | some o => o.after.toList.any (fun e => Region.binds .any e && e.on == x.2) | none => false
theorem depl_of {l : List (Nat × Nat)} {ops : Array Oper} (h : deplB l ops = true) (i j : Nat) (hm : (i, j) ∈ l) {o : Oper} (ho : ops[i]? = some o) {L : Nat → Bool} (hd : ∀ e ∈ o.after, Region.binds .any e = true → L e.on = true) : L j = true := by
  have h1 := List.all_eq_true.1 h (i, j) hm
  simp only [ho] at h1
  obtain ⟨e, he, q⟩ := List.any_eq_true.1 h1
  rw [Bool.and_eq_true] at q
  have := hd e (by simpa using he) q.1
  rw [beq_iff_eq.1 q.2] at this
  exact this
def disL (T : List (Op × Option Tmp × Option (Nat × Bool))) : Bool := (List.range T.length).all fun i => (List.range T.length).all fun j => i == j || ((T[j]?).bind (·.2.1)).isNone || !((T[j]?).bind (·.2.1) == (T[i]?).bind (·.2.1))
theorem disL_of {T : List (Op × Option Tmp × Option (Nat × Bool))} {ops : Array Oper} (htab : ops.toList.map (fun o => (o.op, o.dst, o.guard)) = T) (h : disL T = true) : ∀ i j, j ≠ i → dstOf ops j ≠ dstOf ops i ∨ dstOf ops j = none := by
  intro i j hne
  rw [tab_dst htab, tab_dst htab]
  by_cases hj : j < T.length
  · by_cases hi : i < T.length
    · have h1 := List.all_eq_true.1 (List.all_eq_true.1 h i (List.mem_range.2 hi)) j (List.mem_range.2 hj)
      simp only [Bool.or_eq_true, beq_iff_eq, Option.isNone_iff_eq_none, Bool.not_eq_true', beq_eq_false_iff_ne, ne_eq] at h1
      rcases h1 with (h1 | h1) | h1
      · exact absurd h1.symm hne
      · exact .inr h1
      · exact .inl h1
    · rw [List.getElem?_eq_none (Nat.le_of_not_lt hi)]
      cases q : (T[j]?).bind (·.2.1) with
      | none => exact .inr rfl
      | some x => exact .inl (by simp)
  · right
    rw [List.getElem?_eq_none (Nat.le_of_not_lt hj)]
    rfl
theorem holdL {T : List (Op × Option Tmp × Option (Nat × Bool))} {ops : Array Oper} (htab : ops.toList.map (fun o => (o.op, o.dst, o.guard)) = T) (s : Nat) (h : T.all (fun x => !(x.2.1 == some s)) = true) : (List.range ops.size).all (fun j => !(dstOf ops j == some s)) = true := by
  rw [List.all_eq_true]
  intro j hj
  rw [tab_dst htab]
  cases q : T[j]? with
  | none => rfl
  | some x =>
    have := List.all_eq_true.1 h x (List.mem_of_getElem? q)
    exact this
theorem frm_late {ops : Array Oper} (a0 : Act) (val : Nat → Value) (L : Nat → Bool) (s m : Nat) (hm : L m = false) : ∀ n, (∀ j, j ≠ m → dstOf ops j ≠ some s) → (frm ops a0 val L n).tmps[s]? = a0.tmps[s]? := by
  intro n
  induction n with
  | zero => intro _; rfl
  | succ n ih =>
    intro h
    simp only [frm]
    split
    · rename_i hn
      rw [put_get_ne _ _ _ _ (h n (fun e => by rw [e, hm] at hn; cases hn))]
      exact ih h
    · exact ih h
def lateB (T : List (Op × Option Tmp × Option (Nat × Bool))) (s m : Nat) : Bool := (List.range T.length).all fun j => j == m || !((T[j]?).bind (·.2.1) == some s)
theorem late_of {T : List (Op × Option Tmp × Option (Nat × Bool))} {ops : Array Oper} (htab : ops.toList.map (fun o => (o.op, o.dst, o.guard)) = T) {s m : Nat} (h : lateB T s m = true) (j : Nat) (hj : j ≠ m) : dstOf ops j ≠ some s := by
  rw [tab_dst htab]
  by_cases hl : j < T.length
  · have := List.all_eq_true.1 h j (List.mem_range.2 hl)
    simp only [Bool.or_eq_true, beq_iff_eq, Bool.not_eq_true', beq_eq_false_iff_ne] at this
    exact this.resolve_left hj
  · rw [List.getElem?_eq_none (by omega)]
    simp
theorem run_ld3 (ρ : Operand → Value) (o : Oper) (x : Operand) (ho : o.op = .load 3 x) (p : Addr) (v : Value) (ha : ρ x = .pointer (some p)) (w : World) (hc : w.cell? p = some v) : (execOp ρ o).run Tryz.prog w = .ok (.value v) w := by
  unfold execOp
  simp only [ho, ha]
  simp [Instr.loadAt, go_sem, hc, Tryz.isAgg3]
theorem put_none (a : Act) (v : Value) : a.put none v = a := rfl
theorem doesL_runw {ops : Array Oper} {Q : Exit → Act → World → Prop} {Wd : (Nat → Bool) → World → Prop} {val : Nat → Value} {i : Nat} {L : Nat → Bool} {o : Oper} {a : Act} {w w' : World} (ho : ops[i]? = some o) (hw : Region.wanted o (yielded ops a.tmps) = true) (hW : Wd (upd L i) w')
    (hr : (execOp a.eval o).run Tryz.prog w = .ok (.value (val i)) w') : DoesL ops Q Wd val i L a w := by
  unfold DoesL wpOp
  simp only [ho]
  rw [if_pos hw]
  left
  unfold Oper.wp
  rw [hr, Oper.upon_value]
  refine ⟨?_, hW⟩
  simp [dstOf, ho]
theorem doesL_skp {ops : Array Oper} {Q : Exit → Act → World → Prop} {Wd : (Nat → Bool) → World → Prop} {val : Nat → Value} {i : Nat} {L : Nat → Bool} {o : Oper} {a : Act} {w w' : World} (ho : ops[i]? = some o) (hw : Region.wanted o (yielded ops a.tmps) = true) (hv : val i = undef) (hW : Wd (upd L i) w')
    (hr : (execOp a.eval o).run Tryz.prog w = .ok .skip w') : DoesL ops Q Wd val i L a w := by
  unfold DoesL wpOp
  simp only [ho]
  rw [if_pos hw]
  left
  unfold Oper.wp
  rw [hr, Oper.upon_skip]
  refine ⟨?_, hW⟩
  simp [dstOf, ho, hv]
theorem run_app (ρ : Operand → Value) (o : Oper) (s x : Operand) (T : TypeId) (ho : o.op = .call { callee := .builtin .append, args := #[s, x], argTypes := #[T, T] }) (v u r : Value) (hs : ρ s = v) (hx : ρ x = u) (w w' : World) (hr : (Builtin.append_ #[T, T] o.type #[v, u]).run Tryz.prog w = .ok r w') : (execOp ρ o).run Tryz.prog w = .ok (.value r) w' := by
  unfold execOp
  simp only [ho, resolve, invoke, builtin, Sem.run_bind, Sem.run_pure, Result.andThen_ok, List.map_toArray, List.map_cons, List.map_nil, hs, hx, hr]
end Go.Proofs.YtjopnhhdemfniaaGreatDoor
/- A region that draws its order, some of whose values come up only as it goes: what is chosen so far is carried. -/
namespace Go.Proofs.YtjopnhhdemfniaaGreatDoor
open Go.RowKit
variable {C : Type} {ops : Array Oper} {Q : Exit → Act → World → Prop}
def DoesX (ops : Array Oper) (Q : Exit → Act → World → Prop) (Wd : C → (Nat → Bool) → World → Prop) (val : C → Nat → Value) (i : Nat) (L : Nat → Bool) (c : C) (a : Act) (w : World) : Prop :=
  wpOp Tryz.prog ops Q i (fun a' w' => ∃ c', (∀ j, L j = true → val c' j = val c j) ∧ a' = a.put (dstOf ops i) (val c' i) ∧ Wd c' (upd L i) w') a w
theorem doesX_of {Wd : C → (Nat → Bool) → World → Prop} {val : C → Nat → Value} {i : Nat} {L : Nat → Bool} {c : C} {a : Act} {w : World} (h : DoesL ops Q (Wd c) (val c) i L a w) : DoesX ops Q Wd val i L c a w := by
  unfold DoesX
  refine wpOp_mono ?_ h
  rintro a' w' ⟨rfl, hw⟩
  exact ⟨c, fun _ _ => rfl, rfl, hw⟩
theorem doesX_call {Wd : C → (Nat → Bool) → World → Prop} {val : C → Nat → Value} {i : Nat} {L : Nat → Bool} {c : C} {o : Oper} {a : Act} {w : World} (ho : ops[i]? = some o) (hw : Region.wanted o (yielded ops a.tmps) = true) (f : FuncId) (args : Array Value)
    (hr : (execOp a.eval o).run Tryz.prog w = .ok (.enter f args) w) (hc : Calls Tryz.prog f args w fun e w' => ∃ c', (∀ j, L j = true → val c' j = val c j) ∧ e = .returned (val c' i) ∧ Wd c' (upd L i) w') : DoesX ops Q Wd val i L c a w := by
  unfold DoesX wpOp
  simp only [ho]
  rw [if_pos hw]
  left
  unfold Oper.wp
  rw [hr, Oper.upon_enter]
  refine hc.mono ?_
  rintro e w' ⟨c', h1, rfl, hW⟩
  refine ⟨c', h1, ?_, hW⟩
  simp [dstOf, ho]
theorem frm_congr {a0 : Act} {v v' : Nat → Value} {L : Nat → Bool} (h : ∀ j, L j = true → v' j = v j) : ∀ n, frm ops a0 v' L n = frm ops a0 v L n := by
  intro n
  induction n with
  | zero => rfl
  | succ n ih =>
    simp only [frm]
    split
    · rename_i hn
      rw [ih, h n hn]
    · exact ih
theorem region_detX {id : Nat} {a0 : Act} {w : World} (val : C → Nat → Value) (Wd : C → (Nat → Bool) → World → Prop)
    (hac : ∀ i o, ops[i]? = some o → ∀ e ∈ o.after, Region.binds .any e = true → e.on < i)
    (hdis : ∀ i j, j ≠ i → dstOf ops j ≠ dstOf ops i ∨ dstOf ops j = none)
    (h0 : ∃ c, Wd c (fun _ => false) w.drew)
    (hstep : ∀ i o, ops[i]? = some o → ∀ c L a w, L i = false → (∀ e ∈ o.after, Region.binds .any e = true → L e.on = true) → a = frm ops a0 (val c) L ops.size → Wd c L w → DoesX ops Q Wd val i L c a w)
    (hend : ∀ c L w, (∀ i, i < ops.size → L i = true) → Wd c L w → Q .normal (frm ops a0 (val c) (fun _ => true) ops.size) w) : (Code.region id ops true).wp Tryz.prog Q a0 w := by
  refine region_inv (by kernel_rfl) (fun L a w => ∃ c, a = frm ops a0 (val c) L ops.size ∧ Wd c L w) hac ?_ ?_ ?_
  · obtain ⟨c, h0⟩ := h0
    refine ⟨c, ?_, h0⟩
    have : ∀ n, frm ops a0 (val c) (fun _ => false) n = a0 := by
      intro n
      induction n with
      | zero => rfl
      | succ n ih => simpa [frm] using ih
    exact (this _).symm
  · intro L a w i o ho hL hdep ⟨c, ha, hw⟩
    refine wpOp_mono ?_ (hstep i o ho c L a w hL hdep ha hw)
    rintro a' w' ⟨c', h1, rfl, hw'⟩
    refine ⟨c', ?_, hw'⟩
    rw [frm_upd a0 (val c') L i hL (fun j hj => hdis i j hj), if_pos (Array.getElem?_eq_some_iff.1 ho).1, ha, frm_congr h1]
  · intro L a w hall ⟨c, ha, hw⟩
    have : ∀ n, n ≤ ops.size → frm ops a0 (val c) L n = frm ops a0 (val c) (fun _ => true) n := by
      intro n
      induction n with
      | zero => intro _; rfl
      | succ n ih => intro h; simp only [frm]; rw [hall n (by omega), ih (by omega)]; simp
    rw [ha, this _ (Nat.le_refl _)]
    exact hend c L w hall hw
end Go.Proofs.YtjopnhhdemfniaaGreatDoor
/- What an operation of a drawn region comes to, told by what its sentence in the model's words comes to. -/
namespace Go.Proofs.YtjopnhhdemfniaaGreatDoor
open Go.RowKit
theorem doesX_runw {C : Type} {ops : Array Oper} {Q : Exit → Act → World → Prop} {Wd : C → (Nat → Bool) → World → Prop} {val : C → Nat → Value} {i : Nat} {L : Nat → Bool} {c : C} {o : Oper} {a : Act} {w w' : World} (ho : ops[i]? = some o) (hw : Region.wanted o (yielded ops a.tmps) = true) (c' : C) (hv : ∀ j, L j = true → val c' j = val c j) (hW : Wd c' (upd L i) w')
    (hr : (execOp a.eval o).run Tryz.prog w = .ok (.value (val c' i)) w') : DoesX ops Q Wd val i L c a w := by
  have h := doesL_runw (Q := Q) (val := val c') (Wd := Wd c') ho hw hW hr
  unfold DoesL at h
  unfold DoesX
  refine wpOp_mono ?_ h
  rintro a' w2 ⟨rfl, h2⟩
  exact ⟨c', hv, rfl, h2⟩
variable {ρ : Operand → Value} {o : Oper} {w w' : World} {r : Value}
theorem g_load {t : TypeId} {a : Operand} {va : Value} (ho : o.op = .load t a) (ha : ρ a = va) (hr : (Instr.loadAt t va).run Tryz.prog w = .ok r w') : (execOp ρ o).run Tryz.prog w = .ok (.value r) w' := by
  unfold execOp
  simp only [ho, ha, Sem.run_bind, hr, Result.andThen_ok, Sem.run_pure]
theorem g_store {t : TypeId} {a x : Operand} {va vx : Value} (ho : o.op = .store t a x) (ha : ρ a = va) (hx : ρ x = vx) (hr : (Instr.storeAt t va vx).run Tryz.prog w = .ok () w') : (execOp ρ o).run Tryz.prog w = .ok .skip w' := by
  unfold execOp
  simp only [ho, ha, hx, Sem.run_bind, hr, Result.andThen_ok, Sem.run_pure]
theorem g_alloc {t : TypeId} (ho : o.op = .alloc t) (hr : (Instr.alloc t true (.tuple #[])).run Tryz.prog w = .ok r w') : (execOp ρ o).run Tryz.prog w = .ok (.value r) w' := by
  unfold execOp
  simp only [ho, Sem.run_bind, hr, Result.andThen_ok, Sem.run_pure]
theorem g_bin {p : BinOp} {t u : TypeId} {x y : Operand} {vx vy : Value} (ho : o.op = .binOp p t x y u) (hx : ρ x = vx) (hy : ρ y = vy) (hr : (do eqGuard p t x y vx vy; binOp p t vx vy : Sem Value).run Tryz.prog w = .ok r w') : (execOp ρ o).run Tryz.prog w = .ok (.value r) w' := by
  unfold execOp
  simp only [ho, hx, hy]
  rw [Sem.run_bind, hr, Result.andThen_ok, Sem.run_pure]
theorem g_conv {s t : TypeId} {x : Operand} {vx : Value} (ho : o.op = .convert s t x) (hx : ρ x = vx) (hr : (convert s t vx).run Tryz.prog w = .ok r w') : (execOp ρ o).run Tryz.prog w = .ok (.value r) w' := by
  unfold execOp
  simp only [ho, hx, Sem.run_bind, hr, Result.andThen_ok, Sem.run_pure]
theorem g_field {t : TypeId} {j : Nat} {x : Operand} {vx : Value} (ho : o.op = .fieldAddr t x j) (hx : ρ x = vx) (hr : (Instr.fieldAt t vx j).run Tryz.prog w = .ok r w') : (execOp ρ o).run Tryz.prog w = .ok (.value r) w' := by
  unfold execOp
  simp only [ho, hx, Sem.run_bind, hr, Result.andThen_ok, Sem.run_pure]
theorem g_ixa {t : TypeId} {x y : Operand} {vx vy : Value} (ho : o.op = .indexAddr t x y) (hx : ρ x = vx) (hy : ρ y = vy) (hr : (Instr.indexAt t vx vy).run Tryz.prog w = .ok r w') : (execOp ρ o).run Tryz.prog w = .ok (.value r) w' := by
  unfold execOp
  simp only [ho, hx, hy, Sem.run_bind, hr, Result.andThen_ok, Sem.run_pure]
theorem g_ext {j : Nat} {x : Operand} {vx : Value} (ho : o.op = .extract x j) (hx : ρ x = vx) (hr : (Instr.extract vx j).run Tryz.prog w = .ok r w') : (execOp ρ o).run Tryz.prog w = .ok (.value r) w' := by
  unfold execOp
  simp only [ho, hx, Sem.run_bind, hr, Result.andThen_ok, Sem.run_pure]
theorem g_sl {t : TypeId} {x : Operand} {lo hi mx : Option Operand} {vx : Value} {vl vh vm : Option Value} (ho : o.op = .slice t x lo hi mx) (hx : ρ x = vx) (hl : lo.map ρ = vl) (hh : hi.map ρ = vh) (hm : mx.map ρ = vm) (hr : (Instr.sliceAt t vx vl vh vm).run Tryz.prog w = .ok r w') : (execOp ρ o).run Tryz.prog w = .ok (.value r) w' := by
  unfold execOp
  simp only [ho, hx, hl, hh, hm, Sem.run_bind, hr, Result.andThen_ok, Sem.run_pure]
theorem g_build {t : TypeId} {ps : Array (Nat × Operand)} {vs : Array (Nat × Value)} (ho : o.op = .build t ps) (hp : (ps.map fun (i, x) => (i, ρ x)) = vs) (hr : (Instr.build t vs).run Tryz.prog w = .ok r w') : (execOp ρ o).run Tryz.prog w = .ok (.value r) w' := by
  unfold execOp
  simp only [ho, hp, Sem.run_bind, hr, Result.andThen_ok, Sem.run_pure]
theorem g_bs {t : TypeId} {n : Nat} {ps : Array (Nat × Operand)} {vs : Array (Nat × Value)} (ho : o.op = .buildSlice t n ps) (hp : (ps.map fun (i, x) => (i, ρ x)) = vs) (hr : (Instr.buildSlice t n vs).run Tryz.prog w = .ok r w') : (execOp ρ o).run Tryz.prog w = .ok (.value r) w' := by
  unfold execOp
  simp only [ho, hp, Sem.run_bind, hr, Result.andThen_ok, Sem.run_pure]
theorem g_app {s x : Operand} {T : TypeId} {v u : Value} (ho : o.op = .call { callee := .builtin .append, args := #[s, x], argTypes := #[T, T] }) (hs : ρ s = v) (hx : ρ x = u) (hr : (Builtin.append_ #[T, T] o.type #[v, u]).run Tryz.prog w = .ok r w') : (execOp ρ o).run Tryz.prog w = .ok (.value r) w' :=
  run_app ρ o s x T ho v u r hs hx w w' hr
end Go.Proofs.YtjopnhhdemfniaaGreatDoor
/- What the sentences of operations come to: loads, stores, allocs, texts. -/
namespace Go.Proofs.YtjopnhhdemfniaaGreatDoor
open Go.RowKit
variable {w : World}
theorem s_ld {T : TypeId} (hA : ∀ w, (isAgg T).run Tryz.prog w = .ok false w) {p : Addr} {v : Value} (h : w.cell? p = some v) : (Instr.loadAt T (.pointer (some p))).run Tryz.prog w = .ok v w := by
  simp [Instr.loadAt, go_sem, h, hA]
theorem s_lda {T : TypeId} {n : Nat} (hA : ∀ w, (isAgg T).run Tryz.prog w = .ok true w) (hs : ∀ w, (sizeOf T).run Tryz.prog w = .ok n w) {g o : Nat} (cs : List Value) (hn : cs.length = n) (h : ∀ j v, cs[j]? = some v → w.cell? ⟨g, o + j, none⟩ = some v) : (Instr.loadAt T (.pointer (some ⟨g, o, none⟩))).run Tryz.prog w = .ok (.agg cs.toArray) w := by
  have hl := run_loadCells_list (P := Tryz.prog) w ⟨g, o, none⟩ cs (fun j v hv => by
    have q := h j v hv
    by_cases hj : j = 0
    · subst hj; simpa [Addr.add] using q
    · simpa [Addr.add, hj] using q)
  rw [hn] at hl
  simp [Instr.loadAt, Instr.sureAddr, loadVar, hA, hs, hl, Result.andThen]
/-- The same, of a row that stands in memory. -/
theorem s_ldr {T : TypeId} {n : Nat} (hA : ∀ w, (isAgg T).run Tryz.prog w = .ok true w) (hs : ∀ w, (sizeOf T).run Tryz.prog w = .ok n w) {g o : Nat} {cur : Array Value} {t : TypeId} {f : Nat × Nat} (hg : w.heap[g]? = some (.cells cur t f)) (cs : List Value) (hn : cs.length = n) (h : (cur.toList.drop o).take n = cs) : (Instr.loadAt T (.pointer (some ⟨g, o, none⟩))).run Tryz.prog w = .ok (.agg cs.toArray) w := by
  refine s_lda hA hs cs hn ?_
  intro j v hj
  have hc := cell_of_row w g (o + j) cur t f hg
  rw [hc]
  have hlt : j < n := by rw [← hn]; exact (List.getElem?_eq_some_iff.1 hj).1
  rw [← h, List.getElem?_take, if_pos hlt, List.getElem?_drop] at hj
  simpa using hj
theorem s_sta {T : TypeId} {n : Nat} (hs : ∀ w, (sizeOf T).run Tryz.prog w = .ok n w) {g o : Nat} {cur : Array Value} {t : TypeId} (hg : w.heap[g]? = some (.cells cur t (0, 0))) (v : Value) (hn : v.cells.size = n) (hle : o + n ≤ cur.size) (h1 : ∀ x ∈ v.cells.toList, x.oneCell' = true) : (Instr.storeAt T (.pointer (some ⟨g, o, none⟩)) v).run Tryz.prog w = .ok () (w.setRow g (cur.toList.take o ++ v.cells.toList ++ cur.toList.drop (o + n)).toArray) := by
  have hst := run_storeCells_at Tryz.prog g o t v.cells.toList 0 cur w hg (by simp [hn]; omega) h1
  simp only [Nat.add_zero, Array.length_toList, hn] at hst
  simp [Instr.storeAt, Instr.sureAddr, storeVar, hs, hn, hst, Result.andThen]
theorem s_al {T : TypeId} {z : Value} (hz : ∀ w, (zeroValue T).run Tryz.prog w = .ok z w) : (Instr.alloc T true (.tuple #[])).run Tryz.prog w = .ok (ptr w.heap.size) (w.alloc (.cells z.cells T)) := by
  simp [go_sem, Instr.alloc, hz]
end Go.Proofs.YtjopnhhdemfniaaGreatDoor
namespace Go.Proofs.YtjopnhhdemfniaaGreatDoor
open Go.RowKit
theorem run_len22 (ρ : Operand → Value) (o : Oper) (x : Operand) (ho : o.op = .call { callee := .builtin .len, args := #[x], argTypes := #[22] }) (a : Option Addr) (n c : Nat) (hx : ρ x = .slice a n c) (w : World) : (execOp ρ o).run Tryz.prog w = .ok (.value (.int .i64 (n : Int))) w := by
  unfold execOp
  simp only [ho, resolve, invoke, builtin]
  simp [hx, go_sem]
structure Cav where
  a : Nat
  v : Value
end Go.Proofs.YtjopnhhdemfniaaGreatDoor
namespace Go.Proofs.YtjopnhhdemfniaaGreatDoor
open Go.RowKit
theorem g_min {ρ : Operand → Value} {o : Oper} {w w' : World} {r : Value} {s x : Operand} {T : TypeId} {v u : Value} (ho : o.op = .call { callee := .builtin .min, args := #[s, x], argTypes := #[T, T] }) (hs : ρ s = v) (hx : ρ x = u) (hr : (Builtin.min_ #[T, T] o.type #[v, u]).run Tryz.prog w = .ok r w') : (execOp ρ o).run Tryz.prog w = .ok (.value r) w' := by
  unfold execOp
  simp only [ho, resolve, invoke, builtin, Sem.run_bind, Sem.run_pure, Result.andThen_ok, List.map_toArray, List.map_cons, List.map_nil, hs, hx, hr]
end Go.Proofs.YtjopnhhdemfniaaGreatDoor
namespace Go.Proofs.YtjopnhhdemfniaaGreatDoor
open Go.RowKit
def vrlf6 (_X n cap : Nat) (aa : Option Addr) (m cc k1 : Int) (x : Bs) (_c : Unit) (i : Nat) : Value := match i with
  | 0 => (I cc)
  | 1 => (I k1)
  | 2 => (I (1 + k1))
  | 3 => (I m)
  | 4 => (.slice aa n cap)
  | 5 => (S x)
  | 6 => (.agg #[I (1 + k1), I m, I 0, .slice none 0 0, S x])
  | 7 => undef
  | _ => undef
def rlf6T : List (Op × Option Tmp × Option (Nat × Bool)) := [
  (.move (.tmp 1), some 23, none),
  (.call { callee := .value (.func 18), args := #[(.tmp 23), (.const (.int .i64 3))], argTypes := #[3, 3] }, some 24, none),
  (.binOp .add 3 (.const (.int .i64 1)) (.tmp 24) 3, some 25, none),
  (.move (.tmp 0), some 26, none),
  (.move (.tmp 5), some 27, none),
  (.convert 117 9 (.tmp 27), some 28, none),
  (.build 24 #[(0, (.tmp 25)), (1, (.tmp 26)), (4, (.tmp 28))], some 29, none),
  (.store 24 (.tmp 4) (.tmp 29), none, none)]
def rlf6D : List (Nat × Nat) := [(1, 0), (2, 1), (5, 4), (6, 2), (6, 3), (6, 5), (7, 6)]
set_option maxHeartbeats 4000000 in
theorem rlf6 {ops : Array Oper} {id : Nat} {Q : Exit → Act → World → Prop} (X n cap : Nat) (aa : Option Addr) (m cc k1 : Int) (x : Bs) (htab : ops.toList.map (fun o => (o.op, o.dst, o.guard)) = rlf6T) (hdep : deplB rlf6D ops = true) (hac : acB ops = true)
    (a0 : Act) (w : World) (hsz : 30 ≤ a0.tmps.size) (o0 : a0.tmps[0]? = some (I m)) (o1 : a0.tmps[1]? = some (I cc)) (o4 : a0.tmps[4]? = some (.pointer (some ⟨X, 0, none⟩))) (o5 : a0.tmps[5]? = some (.slice aa n cap))
    (Wd : Unit → (Nat → Bool) → World → Prop) (h0 : ∃ c, Wd c (fun _ => false) w.drew) (hpure : ∀ i, i ∉ ([1, 7] : List Nat) → ∀ c L W, Wd c L W → Wd c (upd L i) W)
    (r1 : ∀ c L W, Wd c L W → L 1 = false → L 0 = true → Calls Tryz.prog 18 #[(I cc), (.int .i64 3)] W fun eg w' => ∃ c', (∀ j, L j = true → vrlf6 X n cap aa m cc k1 x c' j = vrlf6 X n cap aa m cc k1 x c j) ∧ eg = .returned (vrlf6 X n cap aa m cc k1 x c' 1) ∧ Wd c' (upd L 1) w')
    (r2 : ∀ W, (do eqGuard .add 3 (.const (.int .i64 1)) (.tmp 24) (.int .i64 1) (I k1); binOp .add 3 (.int .i64 1) (I k1)).run Tryz.prog W = .ok (I (1 + k1)) W)
    (r5 : ∀ c L W, Wd c L W → L 5 = false → L 4 = true → (convert 117 9 (.slice aa n cap)).run Tryz.prog W = .ok (S x) W)
    (r6 : ∀ W, (Instr.build 24 #[(0, (I (1 + k1))), (1, (I m)), (4, (S x))]).run Tryz.prog W = .ok (.agg #[I (1 + k1), I m, I 0, .slice none 0 0, S x]) W)
    (r7 : ∀ c L W, Wd c L W → L 7 = false → L 6 = true → ∃ W', (Instr.storeAt 24 (.pointer (some ⟨X, 0, none⟩)) (.agg #[I (1 + k1), I m, I 0, .slice none 0 0, S x])).run Tryz.prog W = .ok () W' ∧ Wd c (upd L 7) W')
    (hend : ∀ c L W, (∀ i, i < 8 → L i = true) → Wd c L W → Q .normal (((((((a0.put (some 23) (I cc)).put (some 24) (I k1)).put (some 25) (I (1 + k1))).put (some 26) (I m)).put (some 27) (.slice aa n cap)).put (some 28) (S x)).put (some 29) (.agg #[I (1 + k1), I m, I 0, .slice none 0 0, S x])) W) : (Code.region id ops true).wp Tryz.prog Q a0 w := by
  let val : Unit → Nat → Value := vrlf6 X n cap aa m cc k1 x
  have hosz : ops.size = 8 := by
    have := congrArg List.length htab
    simpa [rlf6T] using this
  have hds : ∀ i s, (rlf6T[i]?).bind (·.2.1) = some s → dstOf ops i = some s := fun i s hi => by rw [tab_dst htab, hi]
  have hdisB : disL rlf6T = true := by rfl
  have hdis := disL_of htab hdisB
  have hold : ∀ s, rlf6T.all (fun x => !(x.2.1 == some s)) = true → (List.range ops.size).all (fun j => !(dstOf ops j == some s)) = true := fun s h => holdL htab s h
  refine region_detX val Wd (hac_of hac) hdis h0 ?_ ?_
  rotate_left
  · intro c L W hall hW
    have := hend c L W (by rw [← hosz]; exact hall) hW
    have e : frm ops a0 (val c) (fun _ => true) ops.size = (((((((a0.put (some 23) (I cc)).put (some 24) (I k1)).put (some 25) (I (1 + k1))).put (some 26) (I m)).put (some 27) (.slice aa n cap)).put (some 28) (S x)).put (some 29) (.agg #[I (1 + k1), I m, I 0, .slice none 0 0, S x])) := by
      rw [hosz]
      simp only [frm, if_true]
      rw [tab_dst htab 0, tab_dst htab 1, tab_dst htab 2, tab_dst htab 3, tab_dst htab 4, tab_dst htab 5, tab_dst htab 6, (show dstOf ops 7 = none from (tab_dst htab 7).trans rfl), put_none]
      rfl
    rw [e]
    exact this
  intro i o ho c L a w' hL hd ha hW
  have hi : i < 8 := by rw [← hosz]; exact (Array.getElem?_eq_some_iff.1 ho).1
  match i, ho, hL, hi with
  | 0, ho, hL, _ =>
    obtain ⟨hop, hdst, hgd⟩ := tab_at htab ho (show rlf6T[0]? = _ from rfl)
    simp only at hop hgd
    have h0 := frm_old (val := val c) ha 1 _ (hold 1 rfl) o1
    exact doesX_of (doesL_run ho (wanted_none hgd) (hpure 0 (by decide) c L w' hW) (by rw [run_move _ _ _ hop]; exact congrArg (fun v => Result.ok (Next.value v) w') (eval_of h0)))
  | 1, ho, hL, _ =>
    obtain ⟨hop, hdst, hgd⟩ := tab_at htab ho (show rlf6T[1]? = _ from rfl)
    simp only at hop hgd
    have h0 := frm_at (val := val c) hdis ha 0 23 (hds 0 23 rfl) (by omega) (depl_of hdep 1 0 (by decide) ho hd)
    refine doesX_call ho (wanted_none hgd) 18 #[(I cc), (.int .i64 3)] ?_ (r1 c L w' hW hL (depl_of hdep 1 0 (by decide) ho hd))
    rw [run_calls Tryz.func18 (by kernel_rfl) rfl _ _ _ _ hop rfl]
    simp only [List.map_toArray, List.map_cons, List.map_nil, eval_of h0]
    all_goals rfl
  | 2, ho, hL, _ =>
    obtain ⟨hop, hdst, hgd⟩ := tab_at htab ho (show rlf6T[2]? = _ from rfl)
    simp only at hop hgd
    have h1 := frm_at (val := val c) hdis ha 1 24 (hds 1 24 rfl) (by omega) (depl_of hdep 2 1 (by decide) ho hd)
    exact doesX_of (doesL_run ho (wanted_none hgd) (hpure 2 (by decide) c L w' hW) (g_bin hop rfl (eval_of h1) (r2 w')))
  | 3, ho, hL, _ =>
    obtain ⟨hop, hdst, hgd⟩ := tab_at htab ho (show rlf6T[3]? = _ from rfl)
    simp only at hop hgd
    have h0 := frm_old (val := val c) ha 0 _ (hold 0 rfl) o0
    exact doesX_of (doesL_run ho (wanted_none hgd) (hpure 3 (by decide) c L w' hW) (by rw [run_move _ _ _ hop]; exact congrArg (fun v => Result.ok (Next.value v) w') (eval_of h0)))
  | 4, ho, hL, _ =>
    obtain ⟨hop, hdst, hgd⟩ := tab_at htab ho (show rlf6T[4]? = _ from rfl)
    simp only at hop hgd
    have h0 := frm_old (val := val c) ha 5 _ (hold 5 rfl) o5
    exact doesX_of (doesL_run ho (wanted_none hgd) (hpure 4 (by decide) c L w' hW) (by rw [run_move _ _ _ hop]; exact congrArg (fun v => Result.ok (Next.value v) w') (eval_of h0)))
  | 5, ho, hL, _ =>
    obtain ⟨hop, hdst, hgd⟩ := tab_at htab ho (show rlf6T[5]? = _ from rfl)
    simp only at hop hgd
    have h0 := frm_at (val := val c) hdis ha 4 27 (hds 4 27 rfl) (by omega) (depl_of hdep 5 4 (by decide) ho hd)
    exact doesX_of (doesL_run ho (wanted_none hgd) (hpure 5 (by decide) c L w' hW) (g_conv hop (eval_of h0) (r5 c L w' hW hL (depl_of hdep 5 4 (by decide) ho hd))))
  | 6, ho, hL, _ =>
    obtain ⟨hop, hdst, hgd⟩ := tab_at htab ho (show rlf6T[6]? = _ from rfl)
    simp only at hop hgd
    have h0 := frm_at (val := val c) hdis ha 2 25 (hds 2 25 rfl) (by omega) (depl_of hdep 6 2 (by decide) ho hd)
    have h1 := frm_at (val := val c) hdis ha 3 26 (hds 3 26 rfl) (by omega) (depl_of hdep 6 3 (by decide) ho hd)
    have h2 := frm_at (val := val c) hdis ha 5 28 (hds 5 28 rfl) (by omega) (depl_of hdep 6 5 (by decide) ho hd)
    exact doesX_of (doesL_run ho (wanted_none hgd) (hpure 6 (by decide) c L w' hW) (g_build hop (by simp only [List.map_toArray, List.map_cons, List.map_nil, eval_of h0, eval_of h1, eval_of h2]; first | done | rfl) (r6 w')))
  | 7, ho, hL, _ =>
    obtain ⟨hop, hdst, hgd⟩ := tab_at htab ho (show rlf6T[7]? = _ from rfl)
    simp only at hop hgd
    have h0 := frm_old (val := val c) ha 4 _ (hold 4 rfl) o4
    have h1 := frm_at (val := val c) hdis ha 6 29 (hds 6 29 rfl) (by omega) (depl_of hdep 7 6 (by decide) ho hd)
    obtain ⟨W', q1, q2⟩ := r7 c L w' hW hL (depl_of hdep 7 6 (by decide) ho hd)
    exact doesX_of (doesL_skp ho (wanted_none hgd) rfl q2 (g_store hop (eval_of h0) (eval_of h1) q1))
  | (i + 8), ho, hL, hi => exact absurd hi (by omega)
end Go.Proofs.YtjopnhhdemfniaaGreatDoor
namespace Go.Proofs.YtjopnhhdemfniaaGreatDoor
open Go.RowKit
theorem run_f153_1 (ρ : Operand → Value) (o : Oper) (x : Operand) (ho : o.op = .fieldAddr 153 x 1) (g q : Nat) (hx : ρ x = .pointer (some ⟨g, q, none⟩)) (w : World) : (execOp ρ o).run Tryz.prog w = .ok (.value (.pointer (some ⟨g, q + 1, none⟩))) w := by
  unfold execOp
  simp only [ho, hx]
  kernel_rfl
theorem run_f164_0 (ρ : Operand → Value) (o : Oper) (x : Operand) (ho : o.op = .fieldAddr 164 x 0) (g q : Nat) (hx : ρ x = .pointer (some ⟨g, q, none⟩)) (w : World) : (execOp ρ o).run Tryz.prog w = .ok (.value (.pointer (some ⟨g, q + 0, none⟩))) w := by
  unfold execOp
  simp only [ho, hx]
  kernel_rfl
theorem run_f164_1 (ρ : Operand → Value) (o : Oper) (x : Operand) (ho : o.op = .fieldAddr 164 x 1) (g q : Nat) (hx : ρ x = .pointer (some ⟨g, q, none⟩)) (w : World) : (execOp ρ o).run Tryz.prog w = .ok (.value (.pointer (some ⟨g, q + 1, none⟩))) w := by
  unfold execOp
  simp only [ho, hx]
  kernel_rfl
theorem run_ld64 (ρ : Operand → Value) (o : Oper) (x : Operand) (ho : o.op = .load 64 x) (p : Addr) (v : Value) (ha : ρ x = .pointer (some p)) (w : World) (hc : w.cell? p = some v) : (execOp ρ o).run Tryz.prog w = .ok (.value v) w := by
  unfold execOp
  simp only [ho, ha]
  simp [Instr.loadAt, go_sem, hc, Tryz.isAgg64]
theorem run_ia64 (ρ : Operand → Value) (o : Oper) (x y : Operand) (ho : o.op = .indexAddr 64 x y) (g q n cap k : Nat) (hk : k < n) (hx : ρ x = .slice (some ⟨g, q, none⟩) n cap) (hy : ρ y = .int .i64 (k : Int)) (w : World) : (execOp ρ o).run Tryz.prog w = .ok (.value (.pointer (some ⟨g, q + k, none⟩))) w := by
  unfold execOp
  simp only [ho, hx, hy]
  have h1 : (k : Int) < (n : Int) := by omega
  have u := Tryz.underlying64
  have z := Tryz.sizeOf9
  simp [go_sem, u, z, h1]
theorem run_ia22 (ρ : Operand → Value) (o : Oper) (x y : Operand) (ho : o.op = .indexAddr 22 x y) (g q n cap k : Nat) (hk : k < n) (hx : ρ x = .slice (some ⟨g, q, none⟩) n cap) (hy : ρ y = .int .i64 (k : Int)) (w : World) : (execOp ρ o).run Tryz.prog w = .ok (.value (.pointer (some ⟨g, q + k, none⟩))) w := by
  unfold execOp
  simp only [ho, hx, hy]
  have h1 : (k : Int) < (n : Int) := by omega
  have u := Tryz.underlying22
  have z := Tryz.sizeOf3
  simp [go_sem, u, z, h1]
theorem run_st9 (ρ : Operand → Value) (o : Oper) (x y : Operand) (ho : o.op = .store 9 x y) (p : Addr) (v : ByteArray) (ha : ρ x = .pointer (some p)) (hy : ρ y = .string v) (w : World) (hc : ∃ u, w.cell? p = some u) (hf : w.frozen? p = false) : (execOp ρ o).run Tryz.prog w = .ok .skip (w.setCell p (.string v)) := by
  obtain ⟨u, hc⟩ := hc
  have h1 : (Value.string v).oneCell' = true := rfl
  have s0 : (store p (.string v)).run Tryz.prog w = .ok () (w.setCell p (.string v)) := by
    rw [run_store _ _ _ _ _ h1, hc]
    simp [hf]
  unfold execOp
  simp only [ho, ha, hy]
  simp [go_sem, s0, Result.andThen]
def rcrT : List (Op × Option Tmp × Option (Nat × Bool)) := [
  (.move (.tmp 0), some 29, none),
  (.nilCheck (.tmp 29), some 30, none),
  (.fieldAddr 153 (.tmp 30) 1, some 31, none),
  (.load 64 (.tmp 31), some 32, none),
  (.fieldAddr 164 (.tmp 8) 0, some 33, none),
  (.load 3 (.tmp 33), some 34, none),
  (.move (.tmp 0), some 35, none),
  (.nilCheck (.tmp 35), some 36, none),
  (.fieldAddr 153 (.tmp 36) 1, some 37, none),
  (.load 64 (.tmp 37), some 38, none),
  (.fieldAddr 164 (.tmp 8) 0, some 39, none),
  (.load 3 (.tmp 39), some 40, none),
  (.indexAddr 64 (.tmp 38) (.tmp 40), some 41, none),
  (.load 9 (.tmp 41), some 42, none),
  (.fieldAddr 164 (.tmp 8) 1, some 43, none),
  (.load 9 (.tmp 43), some 44, none),
  (.move (.tmp 5), some 45, none),
  (.move (.tmp 7), some 46, none),
  (.indexAddr 22 (.tmp 45) (.tmp 46), some 47, none),
  (.load 3 (.tmp 47), some 48, none),
  (.call { callee := .value (.func 107), args := #[(.tmp 42), (.tmp 44), (.tmp 48)], argTypes := #[9, 9, 3] }, some 49, none),
  (.indexAddr 64 (.tmp 32) (.tmp 34), some 50, none),
  (.store 9 (.tmp 50) (.tmp 49), none, none)]
def rcrD : List (Nat × Nat) := [(1, 0), (2, 1), (3, 2), (5, 4), (7, 6), (8, 7), (9, 8), (11, 10), (12, 9), (12, 11), (13, 12), (15, 14), (18, 16), (18, 17), (19, 18), (20, 13), (20, 15), (20, 19), (21, 3), (21, 5), (22, 3), (22, 5), (22, 9), (22, 11), (22, 13), (22, 15), (22, 19), (22, 20), (22, 21)]
set_option maxHeartbeats 2000000 in
theorem rcr {ops : Array Oper} {id : Nat} {Q : Exit → Act → World → Prop} (D g n2 cap2 T g1 m k x1 s9 : Nat) (la x2 tv : Bs) (htab : ops.toList.map (fun o => (o.op, o.dst, o.guard)) = rcrT) (hdep : deplB rcrD ops = true) (hac : acB ops = true)
    (a0 : Act) (w : World) (hsz : 51 ≤ a0.tmps.size) (o0 : a0.tmps[0]? = some (.pointer (some ⟨D, 0, none⟩))) (o5 : a0.tmps[5]? = some (.slice (some ⟨g1, 0, none⟩) m m)) (o7 : a0.tmps[7]? = some (.int .i64 (k : Int))) (o8 : a0.tmps[8]? = some (.pointer (some ⟨T, 0, none⟩)))
    (Wd : (Nat → Bool) → World → Prop) (h0 : Wd (fun _ => false) w.drew) (hpure : ∀ i, i ∉ ([20, 22] : List Nat) → ∀ L W, Wd L W → Wd (upd L i) W)
    (i12 : x1 < n2) (i18 : k < m) (i21 : x1 < n2)
    (l3 : ∀ L W, Wd L W → L 3 = false → W.cell? ⟨D, 0 + 1, none⟩ = some (.slice (some ⟨g, 0, none⟩) n2 cap2))
    (l5 : ∀ L W, Wd L W → L 5 = false → W.cell? ⟨T, 0 + 0, none⟩ = some (.int .i64 (x1 : Int)))
    (l9 : ∀ L W, Wd L W → L 9 = false → W.cell? ⟨D, 0 + 1, none⟩ = some (.slice (some ⟨g, 0, none⟩) n2 cap2))
    (l11 : ∀ L W, Wd L W → L 11 = false → W.cell? ⟨T, 0 + 0, none⟩ = some (.int .i64 (x1 : Int)))
    (l13 : ∀ L W, Wd L W → L 13 = false → W.cell? ⟨g, 0 + x1, none⟩ = some (S la))
    (l15 : ∀ L W, Wd L W → L 15 = false → W.cell? ⟨T, 0 + 1, none⟩ = some (S x2))
    (l19 : ∀ L W, Wd L W → L 19 = false → W.cell? ⟨g1, 0 + k, none⟩ = some (.int .i64 (s9 : Int)))
    (c20 : ∀ L W, Wd L W → L 20 = false → Calls Tryz.prog 107 #[S la, S x2, .int .i64 (s9 : Int)] W fun e w' => e = .returned (S tv) ∧ Wd (upd L 20) w')
    (n22 : ∀ L W, Wd L W → L 22 = false → L 20 = true → L 21 = true → L 3 = true → L 5 = true → L 9 = true → L 11 = true → L 13 = true → L 15 = true → L 19 = true → Wd (upd L 22) (W.setCell ⟨g, 0 + x1, none⟩ (S tv)) ∧ (∃ u, W.cell? ⟨g, 0 + x1, none⟩ = some u) ∧ W.frozen? ⟨g, 0 + x1, none⟩ = false)
    (hend : ∀ L W, (∀ i, i < 23 → L i = true) → Wd L W → Q .normal ((((((((((((((((((((((a0.put (some 29) (.pointer (some ⟨D, 0, none⟩))).put (some 30) (.pointer (some ⟨D, 0, none⟩))).put (some 31) (.pointer (some ⟨D, 0 + 1, none⟩))).put (some 32) (.slice (some ⟨g, 0, none⟩) n2 cap2)).put (some 33) (.pointer (some ⟨T, 0 + 0, none⟩))).put (some 34) (.int .i64 (x1 : Int))).put (some 35) (.pointer (some ⟨D, 0, none⟩))).put (some 36) (.pointer (some ⟨D, 0, none⟩))).put (some 37) (.pointer (some ⟨D, 0 + 1, none⟩))).put (some 38) (.slice (some ⟨g, 0, none⟩) n2 cap2)).put (some 39) (.pointer (some ⟨T, 0 + 0, none⟩))).put (some 40) (.int .i64 (x1 : Int))).put (some 41) (.pointer (some ⟨g, 0 + x1, none⟩))).put (some 42) (S la)).put (some 43) (.pointer (some ⟨T, 0 + 1, none⟩))).put (some 44) (S x2)).put (some 45) (.slice (some ⟨g1, 0, none⟩) m m)).put (some 46) (.int .i64 (k : Int))).put (some 47) (.pointer (some ⟨g1, 0 + k, none⟩))).put (some 48) (.int .i64 (s9 : Int))).put (some 49) (S tv)).put (some 50) (.pointer (some ⟨g, 0 + x1, none⟩))) W) : (Code.region id ops true).wp Tryz.prog Q a0 w := by
  let val : Nat → Value := fun i => match i with
    | 0 => (.pointer (some ⟨D, 0, none⟩))
    | 1 => (.pointer (some ⟨D, 0, none⟩))
    | 2 => (.pointer (some ⟨D, 0 + 1, none⟩))
    | 3 => (.slice (some ⟨g, 0, none⟩) n2 cap2)
    | 4 => (.pointer (some ⟨T, 0 + 0, none⟩))
    | 5 => (.int .i64 (x1 : Int))
    | 6 => (.pointer (some ⟨D, 0, none⟩))
    | 7 => (.pointer (some ⟨D, 0, none⟩))
    | 8 => (.pointer (some ⟨D, 0 + 1, none⟩))
    | 9 => (.slice (some ⟨g, 0, none⟩) n2 cap2)
    | 10 => (.pointer (some ⟨T, 0 + 0, none⟩))
    | 11 => (.int .i64 (x1 : Int))
    | 12 => (.pointer (some ⟨g, 0 + x1, none⟩))
    | 13 => (S la)
    | 14 => (.pointer (some ⟨T, 0 + 1, none⟩))
    | 15 => (S x2)
    | 16 => (.slice (some ⟨g1, 0, none⟩) m m)
    | 17 => (.int .i64 (k : Int))
    | 18 => (.pointer (some ⟨g1, 0 + k, none⟩))
    | 19 => (.int .i64 (s9 : Int))
    | 20 => (S tv)
    | 21 => (.pointer (some ⟨g, 0 + x1, none⟩))
    | 22 => undef
    | _ => undef
  have hosz : ops.size = 23 := by
    have := congrArg List.length htab
    simpa [rcrT] using this
  have hds : ∀ i s, (rcrT[i]?).bind (·.2.1) = some s → dstOf ops i = some s := fun i s hi => by rw [tab_dst htab, hi]
  have hdisB : disL rcrT = true := by rfl
  have hdis := disL_of htab hdisB
  have hold : ∀ s, rcrT.all (fun x => !(x.2.1 == some s)) = true → (List.range ops.size).all (fun j => !(dstOf ops j == some s)) = true := fun s h => holdL htab s h
  refine region_detL val Wd (hac_of hac) hdis h0 ?_ ?_
  rotate_left
  · intro L W hall hW
    have := hend L W (by rw [← hosz]; exact hall) hW
    have e : frm ops a0 val (fun _ => true) ops.size = ((((((((((((((((((((((a0.put (some 29) (.pointer (some ⟨D, 0, none⟩))).put (some 30) (.pointer (some ⟨D, 0, none⟩))).put (some 31) (.pointer (some ⟨D, 0 + 1, none⟩))).put (some 32) (.slice (some ⟨g, 0, none⟩) n2 cap2)).put (some 33) (.pointer (some ⟨T, 0 + 0, none⟩))).put (some 34) (.int .i64 (x1 : Int))).put (some 35) (.pointer (some ⟨D, 0, none⟩))).put (some 36) (.pointer (some ⟨D, 0, none⟩))).put (some 37) (.pointer (some ⟨D, 0 + 1, none⟩))).put (some 38) (.slice (some ⟨g, 0, none⟩) n2 cap2)).put (some 39) (.pointer (some ⟨T, 0 + 0, none⟩))).put (some 40) (.int .i64 (x1 : Int))).put (some 41) (.pointer (some ⟨g, 0 + x1, none⟩))).put (some 42) (S la)).put (some 43) (.pointer (some ⟨T, 0 + 1, none⟩))).put (some 44) (S x2)).put (some 45) (.slice (some ⟨g1, 0, none⟩) m m)).put (some 46) (.int .i64 (k : Int))).put (some 47) (.pointer (some ⟨g1, 0 + k, none⟩))).put (some 48) (.int .i64 (s9 : Int))).put (some 49) (S tv)).put (some 50) (.pointer (some ⟨g, 0 + x1, none⟩))) := by
      rw [hosz]
      simp only [frm, if_true]
      rw [tab_dst htab 0, tab_dst htab 1, tab_dst htab 2, tab_dst htab 3, tab_dst htab 4, tab_dst htab 5, tab_dst htab 6, tab_dst htab 7, tab_dst htab 8, tab_dst htab 9, tab_dst htab 10, tab_dst htab 11, tab_dst htab 12, tab_dst htab 13, tab_dst htab 14, tab_dst htab 15, tab_dst htab 16, tab_dst htab 17, tab_dst htab 18, tab_dst htab 19, tab_dst htab 20, tab_dst htab 21, (show dstOf ops 22 = none from (tab_dst htab 22).trans rfl), put_none]
      rfl
    rw [e]
    exact this
  intro i o ho L a w' hL hd ha hW
  have hi : i < 23 := by rw [← hosz]; exact (Array.getElem?_eq_some_iff.1 ho).1
  match i, ho, hL, hi with
  | 0, ho, hL, _ =>
    obtain ⟨hop, hdst, hgd⟩ := tab_at htab ho (show rcrT[0]? = _ from rfl)
    simp only at hop hgd
    have h0 := frm_old ha 0 _ (hold 0 rfl) o0
    exact doesL_run ho (wanted_none hgd) (hpure 0 (by decide) L w' hW) (by rw [run_move _ _ _ hop]; exact congrArg (fun v => Result.ok (Next.value v) w') (eval_of h0))
  | 1, ho, hL, _ =>
    obtain ⟨hop, hdst, hgd⟩ := tab_at htab ho (show rcrT[1]? = _ from rfl)
    simp only at hop hgd
    have h0 := frm_at hdis ha 0 29 (hds 0 29 rfl) (by omega) (depl_of hdep 1 0 (by decide) ho hd)
    exact doesL_run ho (wanted_none hgd) (hpure 1 (by decide) L w' hW) (run_nil _ _ _ hop _ (eval_of h0) _)
  | 2, ho, hL, _ =>
    obtain ⟨hop, hdst, hgd⟩ := tab_at htab ho (show rcrT[2]? = _ from rfl)
    simp only at hop hgd
    have h0 := frm_at hdis ha 1 30 (hds 1 30 rfl) (by omega) (depl_of hdep 2 1 (by decide) ho hd)
    exact doesL_run ho (wanted_none hgd) (hpure 2 (by decide) L w' hW) (run_f153_1 _ _ _ hop _ _ (eval_of h0) _)
  | 3, ho, hL, _ =>
    obtain ⟨hop, hdst, hgd⟩ := tab_at htab ho (show rcrT[3]? = _ from rfl)
    simp only at hop hgd
    have h0 := frm_at hdis ha 2 31 (hds 2 31 rfl) (by omega) (depl_of hdep 3 2 (by decide) ho hd)
    exact doesL_run ho (wanted_none hgd) (hpure 3 (by decide) L w' hW) (run_ld64 _ _ _ hop _ _ (eval_of h0) _ (l3 L w' hW hL))
  | 4, ho, hL, _ =>
    obtain ⟨hop, hdst, hgd⟩ := tab_at htab ho (show rcrT[4]? = _ from rfl)
    simp only at hop hgd
    have h0 := frm_old ha 8 _ (hold 8 rfl) o8
    exact doesL_run ho (wanted_none hgd) (hpure 4 (by decide) L w' hW) (run_f164_0 _ _ _ hop _ _ (eval_of h0) _)
  | 5, ho, hL, _ =>
    obtain ⟨hop, hdst, hgd⟩ := tab_at htab ho (show rcrT[5]? = _ from rfl)
    simp only at hop hgd
    have h0 := frm_at hdis ha 4 33 (hds 4 33 rfl) (by omega) (depl_of hdep 5 4 (by decide) ho hd)
    exact doesL_run ho (wanted_none hgd) (hpure 5 (by decide) L w' hW) (run_ld3 _ _ _ hop _ _ (eval_of h0) _ (l5 L w' hW hL))
  | 6, ho, hL, _ =>
    obtain ⟨hop, hdst, hgd⟩ := tab_at htab ho (show rcrT[6]? = _ from rfl)
    simp only at hop hgd
    have h0 := frm_old ha 0 _ (hold 0 rfl) o0
    exact doesL_run ho (wanted_none hgd) (hpure 6 (by decide) L w' hW) (by rw [run_move _ _ _ hop]; exact congrArg (fun v => Result.ok (Next.value v) w') (eval_of h0))
  | 7, ho, hL, _ =>
    obtain ⟨hop, hdst, hgd⟩ := tab_at htab ho (show rcrT[7]? = _ from rfl)
    simp only at hop hgd
    have h0 := frm_at hdis ha 6 35 (hds 6 35 rfl) (by omega) (depl_of hdep 7 6 (by decide) ho hd)
    exact doesL_run ho (wanted_none hgd) (hpure 7 (by decide) L w' hW) (run_nil _ _ _ hop _ (eval_of h0) _)
  | 8, ho, hL, _ =>
    obtain ⟨hop, hdst, hgd⟩ := tab_at htab ho (show rcrT[8]? = _ from rfl)
    simp only at hop hgd
    have h0 := frm_at hdis ha 7 36 (hds 7 36 rfl) (by omega) (depl_of hdep 8 7 (by decide) ho hd)
    exact doesL_run ho (wanted_none hgd) (hpure 8 (by decide) L w' hW) (run_f153_1 _ _ _ hop _ _ (eval_of h0) _)
  | 9, ho, hL, _ =>
    obtain ⟨hop, hdst, hgd⟩ := tab_at htab ho (show rcrT[9]? = _ from rfl)
    simp only at hop hgd
    have h0 := frm_at hdis ha 8 37 (hds 8 37 rfl) (by omega) (depl_of hdep 9 8 (by decide) ho hd)
    exact doesL_run ho (wanted_none hgd) (hpure 9 (by decide) L w' hW) (run_ld64 _ _ _ hop _ _ (eval_of h0) _ (l9 L w' hW hL))
  | 10, ho, hL, _ =>
    obtain ⟨hop, hdst, hgd⟩ := tab_at htab ho (show rcrT[10]? = _ from rfl)
    simp only at hop hgd
    have h0 := frm_old ha 8 _ (hold 8 rfl) o8
    exact doesL_run ho (wanted_none hgd) (hpure 10 (by decide) L w' hW) (run_f164_0 _ _ _ hop _ _ (eval_of h0) _)
  | 11, ho, hL, _ =>
    obtain ⟨hop, hdst, hgd⟩ := tab_at htab ho (show rcrT[11]? = _ from rfl)
    simp only at hop hgd
    have h0 := frm_at hdis ha 10 39 (hds 10 39 rfl) (by omega) (depl_of hdep 11 10 (by decide) ho hd)
    exact doesL_run ho (wanted_none hgd) (hpure 11 (by decide) L w' hW) (run_ld3 _ _ _ hop _ _ (eval_of h0) _ (l11 L w' hW hL))
  | 12, ho, hL, _ =>
    obtain ⟨hop, hdst, hgd⟩ := tab_at htab ho (show rcrT[12]? = _ from rfl)
    simp only at hop hgd
    have h0 := frm_at hdis ha 9 38 (hds 9 38 rfl) (by omega) (depl_of hdep 12 9 (by decide) ho hd)
    have h1 := frm_at hdis ha 11 40 (hds 11 40 rfl) (by omega) (depl_of hdep 12 11 (by decide) ho hd)
    exact doesL_run ho (wanted_none hgd) (hpure 12 (by decide) L w' hW) (run_ia64 _ _ _ _ hop _ _ _ _ _ i12 (eval_of h0) (eval_of h1) _)
  | 13, ho, hL, _ =>
    obtain ⟨hop, hdst, hgd⟩ := tab_at htab ho (show rcrT[13]? = _ from rfl)
    simp only at hop hgd
    have h0 := frm_at hdis ha 12 41 (hds 12 41 rfl) (by omega) (depl_of hdep 13 12 (by decide) ho hd)
    exact doesL_run ho (wanted_none hgd) (hpure 13 (by decide) L w' hW) (run_ld _ _ _ hop _ _ (eval_of h0) _ (l13 L w' hW hL))
  | 14, ho, hL, _ =>
    obtain ⟨hop, hdst, hgd⟩ := tab_at htab ho (show rcrT[14]? = _ from rfl)
    simp only at hop hgd
    have h0 := frm_old ha 8 _ (hold 8 rfl) o8
    exact doesL_run ho (wanted_none hgd) (hpure 14 (by decide) L w' hW) (run_f164_1 _ _ _ hop _ _ (eval_of h0) _)
  | 15, ho, hL, _ =>
    obtain ⟨hop, hdst, hgd⟩ := tab_at htab ho (show rcrT[15]? = _ from rfl)
    simp only at hop hgd
    have h0 := frm_at hdis ha 14 43 (hds 14 43 rfl) (by omega) (depl_of hdep 15 14 (by decide) ho hd)
    exact doesL_run ho (wanted_none hgd) (hpure 15 (by decide) L w' hW) (run_ld _ _ _ hop _ _ (eval_of h0) _ (l15 L w' hW hL))
  | 16, ho, hL, _ =>
    obtain ⟨hop, hdst, hgd⟩ := tab_at htab ho (show rcrT[16]? = _ from rfl)
    simp only at hop hgd
    have h0 := frm_old ha 5 _ (hold 5 rfl) o5
    exact doesL_run ho (wanted_none hgd) (hpure 16 (by decide) L w' hW) (by rw [run_move _ _ _ hop]; exact congrArg (fun v => Result.ok (Next.value v) w') (eval_of h0))
  | 17, ho, hL, _ =>
    obtain ⟨hop, hdst, hgd⟩ := tab_at htab ho (show rcrT[17]? = _ from rfl)
    simp only at hop hgd
    have h0 := frm_old ha 7 _ (hold 7 rfl) o7
    exact doesL_run ho (wanted_none hgd) (hpure 17 (by decide) L w' hW) (by rw [run_move _ _ _ hop]; exact congrArg (fun v => Result.ok (Next.value v) w') (eval_of h0))
  | 18, ho, hL, _ =>
    obtain ⟨hop, hdst, hgd⟩ := tab_at htab ho (show rcrT[18]? = _ from rfl)
    simp only at hop hgd
    have h0 := frm_at hdis ha 16 45 (hds 16 45 rfl) (by omega) (depl_of hdep 18 16 (by decide) ho hd)
    have h1 := frm_at hdis ha 17 46 (hds 17 46 rfl) (by omega) (depl_of hdep 18 17 (by decide) ho hd)
    exact doesL_run ho (wanted_none hgd) (hpure 18 (by decide) L w' hW) (run_ia22 _ _ _ _ hop _ _ _ _ _ i18 (eval_of h0) (eval_of h1) _)
  | 19, ho, hL, _ =>
    obtain ⟨hop, hdst, hgd⟩ := tab_at htab ho (show rcrT[19]? = _ from rfl)
    simp only at hop hgd
    have h0 := frm_at hdis ha 18 47 (hds 18 47 rfl) (by omega) (depl_of hdep 19 18 (by decide) ho hd)
    exact doesL_run ho (wanted_none hgd) (hpure 19 (by decide) L w' hW) (run_ld3 _ _ _ hop _ _ (eval_of h0) _ (l19 L w' hW hL))
  | 20, ho, hL, _ =>
    obtain ⟨hop, hdst, hgd⟩ := tab_at htab ho (show rcrT[20]? = _ from rfl)
    simp only at hop hgd
    have h0 := frm_at hdis ha 13 42 (hds 13 42 rfl) (by omega) (depl_of hdep 20 13 (by decide) ho hd)
    have h1 := frm_at hdis ha 15 44 (hds 15 44 rfl) (by omega) (depl_of hdep 20 15 (by decide) ho hd)
    have h2 := frm_at hdis ha 19 48 (hds 19 48 rfl) (by omega) (depl_of hdep 20 19 (by decide) ho hd)
    refine doesL_call ho (wanted_none hgd) 107 #[S la, S x2, .int .i64 (s9 : Int)] ?_ (c20 L w' hW hL)
    rw [run_calls Tryz.func107 (by kernel_rfl) rfl _ _ _ _ hop rfl]
    simp only [List.map_toArray, List.map_cons, List.map_nil, eval_of h0, eval_of h1, eval_of h2]
    all_goals rfl
  | 21, ho, hL, _ =>
    obtain ⟨hop, hdst, hgd⟩ := tab_at htab ho (show rcrT[21]? = _ from rfl)
    simp only at hop hgd
    have h0 := frm_at hdis ha 3 32 (hds 3 32 rfl) (by omega) (depl_of hdep 21 3 (by decide) ho hd)
    have h1 := frm_at hdis ha 5 34 (hds 5 34 rfl) (by omega) (depl_of hdep 21 5 (by decide) ho hd)
    exact doesL_run ho (wanted_none hgd) (hpure 21 (by decide) L w' hW) (run_ia64 _ _ _ _ hop _ _ _ _ _ i21 (eval_of h0) (eval_of h1) _)
  | 22, ho, hL, _ =>
    obtain ⟨hop, hdst, hgd⟩ := tab_at htab ho (show rcrT[22]? = _ from rfl)
    simp only at hop hgd
    have h0 := frm_at hdis ha 21 50 (hds 21 50 rfl) (by omega) (depl_of hdep 22 21 (by decide) ho hd)
    have h1 := frm_at hdis ha 20 49 (hds 20 49 rfl) (by omega) (depl_of hdep 22 20 (by decide) ho hd)
    obtain ⟨s1, s2, s3⟩ := n22 L w' hW hL (depl_of hdep 22 20 (by decide) ho hd) (depl_of hdep 22 21 (by decide) ho hd) (depl_of hdep 22 3 (by decide) ho hd) (depl_of hdep 22 5 (by decide) ho hd) (depl_of hdep 22 9 (by decide) ho hd) (depl_of hdep 22 11 (by decide) ho hd) (depl_of hdep 22 13 (by decide) ho hd) (depl_of hdep 22 15 (by decide) ho hd) (depl_of hdep 22 19 (by decide) ho hd)
    exact doesL_skp ho (wanted_none hgd) rfl s1 (run_st9 _ _ _ _ hop _ _ (eval_of h0) (eval_of h1) _ s2 s3)
  | (i + 23), ho, hL, hi => exact absurd hi (by omega)
end Go.Proofs.YtjopnhhdemfniaaGreatDoor
namespace Go.Proofs.YtjopnhhdemfniaaGreatDoor
open Go.RowKit
structure Cg2 where
  a : Nat
  b : Nat
def vrtn1 (_X P : Nat) (g r b : Int) (x : Bs) (vu : Value) (c : Cg2) (i : Nat) : Value := match i with
  | 0 => (.pointer (some ⟨P, 0, none⟩))
  | 1 => (.pointer (some ⟨P, 0, none⟩))
  | 2 => (.pointer (some ⟨P, 0 + 1, none⟩))
  | 3 => (.agg #[I g, I r, I b, S x])
  | 4 => (.pointer (some ⟨P, 0, none⟩))
  | 5 => (.pointer (some ⟨P, 0, none⟩))
  | 6 => (.pointer (some ⟨P, 0 + 5, none⟩))
  | 7 => vu
  | 8 => (.pointer (some ⟨c.a, 0, none⟩))
  | 9 => (.pointer (some ⟨c.b, 0, none⟩))
  | 10 => undef
  | 11 => undef
  | _ => undef
def rtn1T : List (Op × Option Tmp × Option (Nat × Bool)) := [
  (.load 57 (.tmp 4), some 12, none),
  (.nilCheck (.tmp 12), some 13, none),
  (.fieldAddr 172 (.tmp 13) 1, some 14, none),
  (.load 123 (.tmp 14), some 15, none),
  (.load 57 (.tmp 4), some 16, none),
  (.nilCheck (.tmp 16), some 17, none),
  (.fieldAddr 172 (.tmp 17) 2, some 18, none),
  (.load 168 (.tmp 18), some 19, none),
  (.alloc 123, some 9, none),
  (.alloc 168, some 10, none),
  (.store 123 (.tmp 9) (.tmp 15), none, none),
  (.store 168 (.tmp 10) (.tmp 19), none, none)]
def rtn1D : List (Nat × Nat) := [(1, 0), (2, 1), (3, 2), (5, 4), (6, 5), (7, 6), (10, 3), (10, 8), (11, 7), (11, 9)]
set_option maxHeartbeats 4000000 in
theorem rtn1 {ops : Array Oper} {id : Nat} {Q : Exit → Act → World → Prop} (X P : Nat) (g r b : Int) (x : Bs) (vu : Value) (htab : ops.toList.map (fun o => (o.op, o.dst, o.guard)) = rtn1T) (hdep : deplB rtn1D ops = true) (hac : acB ops = true)
    (a0 : Act) (w : World) (hsz : 20 ≤ a0.tmps.size) (o4 : a0.tmps[4]? = some (.pointer (some ⟨X, 0, none⟩)))
    (Wd : Cg2 → (Nat → Bool) → World → Prop) (h0 : ∃ c, Wd c (fun _ => false) w.drew) (hpure : ∀ i, i ∉ ([8, 9, 10, 11] : List Nat) → ∀ c L W, Wd c L W → Wd c (upd L i) W)
    (r0 : ∀ c L W, Wd c L W → L 0 = false → (Instr.loadAt 57 (.pointer (some ⟨X, 0, none⟩))).run Tryz.prog W = .ok (.pointer (some ⟨P, 0, none⟩)) W)
    (r3 : ∀ c L W, Wd c L W → L 3 = false → L 2 = true → (Instr.loadAt 123 (.pointer (some ⟨P, 0 + 1, none⟩))).run Tryz.prog W = .ok (.agg #[I g, I r, I b, S x]) W)
    (r4 : ∀ c L W, Wd c L W → L 4 = false → (Instr.loadAt 57 (.pointer (some ⟨X, 0, none⟩))).run Tryz.prog W = .ok (.pointer (some ⟨P, 0, none⟩)) W)
    (r7 : ∀ c L W, Wd c L W → L 7 = false → L 6 = true → (Instr.loadAt 168 (.pointer (some ⟨P, 0 + 5, none⟩))).run Tryz.prog W = .ok vu W)
    (r8 : ∀ c L W, Wd c L W → L 8 = false → ∃ c' W', (∀ j, L j = true → vrtn1 X P g r b x vu c' j = vrtn1 X P g r b x vu c j) ∧ (Instr.alloc 123 true (.tuple #[])).run Tryz.prog W = .ok (vrtn1 X P g r b x vu c' 8) W' ∧ Wd c' (upd L 8) W')
    (r9 : ∀ c L W, Wd c L W → L 9 = false → ∃ c' W', (∀ j, L j = true → vrtn1 X P g r b x vu c' j = vrtn1 X P g r b x vu c j) ∧ (Instr.alloc 168 true (.tuple #[])).run Tryz.prog W = .ok (vrtn1 X P g r b x vu c' 9) W' ∧ Wd c' (upd L 9) W')
    (r10 : ∀ c L W, Wd c L W → L 10 = false → L 3 = true → L 8 = true → ∃ W', (Instr.storeAt 123 (.pointer (some ⟨c.a, 0, none⟩)) (.agg #[I g, I r, I b, S x])).run Tryz.prog W = .ok () W' ∧ Wd c (upd L 10) W')
    (r11 : ∀ c L W, Wd c L W → L 11 = false → L 7 = true → L 9 = true → ∃ W', (Instr.storeAt 168 (.pointer (some ⟨c.b, 0, none⟩)) vu).run Tryz.prog W = .ok () W' ∧ Wd c (upd L 11) W')
    (hend : ∀ c L W, (∀ i, i < 12 → L i = true) → Wd c L W → Q .normal ((((((((((a0.put (some 12) (.pointer (some ⟨P, 0, none⟩))).put (some 13) (.pointer (some ⟨P, 0, none⟩))).put (some 14) (.pointer (some ⟨P, 0 + 1, none⟩))).put (some 15) (.agg #[I g, I r, I b, S x])).put (some 16) (.pointer (some ⟨P, 0, none⟩))).put (some 17) (.pointer (some ⟨P, 0, none⟩))).put (some 18) (.pointer (some ⟨P, 0 + 5, none⟩))).put (some 19) vu).put (some 9) (.pointer (some ⟨c.a, 0, none⟩))).put (some 10) (.pointer (some ⟨c.b, 0, none⟩))) W) : (Code.region id ops true).wp Tryz.prog Q a0 w := by
  let val : Cg2 → Nat → Value := vrtn1 X P g r b x vu
  have hosz : ops.size = 12 := by
    have := congrArg List.length htab
    simpa [rtn1T] using this
  have hds : ∀ i s, (rtn1T[i]?).bind (·.2.1) = some s → dstOf ops i = some s := fun i s hi => by rw [tab_dst htab, hi]
  have hdisB : disL rtn1T = true := by rfl
  have hdis := disL_of htab hdisB
  have hold : ∀ s, rtn1T.all (fun x => !(x.2.1 == some s)) = true → (List.range ops.size).all (fun j => !(dstOf ops j == some s)) = true := fun s h => holdL htab s h
  refine region_detX val Wd (hac_of hac) hdis h0 ?_ ?_
  rotate_left
  · intro c L W hall hW
    have := hend c L W (by rw [← hosz]; exact hall) hW
    have e : frm ops a0 (val c) (fun _ => true) ops.size = ((((((((((a0.put (some 12) (.pointer (some ⟨P, 0, none⟩))).put (some 13) (.pointer (some ⟨P, 0, none⟩))).put (some 14) (.pointer (some ⟨P, 0 + 1, none⟩))).put (some 15) (.agg #[I g, I r, I b, S x])).put (some 16) (.pointer (some ⟨P, 0, none⟩))).put (some 17) (.pointer (some ⟨P, 0, none⟩))).put (some 18) (.pointer (some ⟨P, 0 + 5, none⟩))).put (some 19) vu).put (some 9) (.pointer (some ⟨c.a, 0, none⟩))).put (some 10) (.pointer (some ⟨c.b, 0, none⟩))) := by
      rw [hosz]
      simp only [frm, if_true]
      rw [tab_dst htab 0, tab_dst htab 1, tab_dst htab 2, tab_dst htab 3, tab_dst htab 4, tab_dst htab 5, tab_dst htab 6, tab_dst htab 7, tab_dst htab 8, tab_dst htab 9, (show dstOf ops 10 = none from (tab_dst htab 10).trans rfl), put_none, (show dstOf ops 11 = none from (tab_dst htab 11).trans rfl), put_none]
      rfl
    rw [e]
    exact this
  intro i o ho c L a w' hL hd ha hW
  have hi : i < 12 := by rw [← hosz]; exact (Array.getElem?_eq_some_iff.1 ho).1
  match i, ho, hL, hi with
  | 0, ho, hL, _ =>
    obtain ⟨hop, hdst, hgd⟩ := tab_at htab ho (show rtn1T[0]? = _ from rfl)
    simp only at hop hgd
    have h0 := frm_old (val := val c) ha 4 _ (hold 4 rfl) o4
    exact doesX_of (doesL_run ho (wanted_none hgd) (hpure 0 (by decide) c L w' hW) (g_load hop (eval_of h0) (r0 c L w' hW hL)))
  | 1, ho, hL, _ =>
    obtain ⟨hop, hdst, hgd⟩ := tab_at htab ho (show rtn1T[1]? = _ from rfl)
    simp only at hop hgd
    have h0 := frm_at (val := val c) hdis ha 0 12 (hds 0 12 rfl) (by omega) (depl_of hdep 1 0 (by decide) ho hd)
    exact doesX_of (doesL_run ho (wanted_none hgd) (hpure 1 (by decide) c L w' hW) (run_nil _ _ _ hop _ (eval_of h0) _))
  | 2, ho, hL, _ =>
    obtain ⟨hop, hdst, hgd⟩ := tab_at htab ho (show rtn1T[2]? = _ from rfl)
    simp only at hop hgd
    have h0 := frm_at (val := val c) hdis ha 1 13 (hds 1 13 rfl) (by omega) (depl_of hdep 2 1 (by decide) ho hd)
    exact doesX_of (doesL_run ho (wanted_none hgd) (hpure 2 (by decide) c L w' hW) (g_field hop (eval_of h0) (by kernel_rfl)))
  | 3, ho, hL, _ =>
    obtain ⟨hop, hdst, hgd⟩ := tab_at htab ho (show rtn1T[3]? = _ from rfl)
    simp only at hop hgd
    have h0 := frm_at (val := val c) hdis ha 2 14 (hds 2 14 rfl) (by omega) (depl_of hdep 3 2 (by decide) ho hd)
    exact doesX_of (doesL_run ho (wanted_none hgd) (hpure 3 (by decide) c L w' hW) (g_load hop (eval_of h0) (r3 c L w' hW hL (depl_of hdep 3 2 (by decide) ho hd))))
  | 4, ho, hL, _ =>
    obtain ⟨hop, hdst, hgd⟩ := tab_at htab ho (show rtn1T[4]? = _ from rfl)
    simp only at hop hgd
    have h0 := frm_old (val := val c) ha 4 _ (hold 4 rfl) o4
    exact doesX_of (doesL_run ho (wanted_none hgd) (hpure 4 (by decide) c L w' hW) (g_load hop (eval_of h0) (r4 c L w' hW hL)))
  | 5, ho, hL, _ =>
    obtain ⟨hop, hdst, hgd⟩ := tab_at htab ho (show rtn1T[5]? = _ from rfl)
    simp only at hop hgd
    have h0 := frm_at (val := val c) hdis ha 4 16 (hds 4 16 rfl) (by omega) (depl_of hdep 5 4 (by decide) ho hd)
    exact doesX_of (doesL_run ho (wanted_none hgd) (hpure 5 (by decide) c L w' hW) (run_nil _ _ _ hop _ (eval_of h0) _))
  | 6, ho, hL, _ =>
    obtain ⟨hop, hdst, hgd⟩ := tab_at htab ho (show rtn1T[6]? = _ from rfl)
    simp only at hop hgd
    have h0 := frm_at (val := val c) hdis ha 5 17 (hds 5 17 rfl) (by omega) (depl_of hdep 6 5 (by decide) ho hd)
    exact doesX_of (doesL_run ho (wanted_none hgd) (hpure 6 (by decide) c L w' hW) (g_field hop (eval_of h0) (by kernel_rfl)))
  | 7, ho, hL, _ =>
    obtain ⟨hop, hdst, hgd⟩ := tab_at htab ho (show rtn1T[7]? = _ from rfl)
    simp only at hop hgd
    have h0 := frm_at (val := val c) hdis ha 6 18 (hds 6 18 rfl) (by omega) (depl_of hdep 7 6 (by decide) ho hd)
    exact doesX_of (doesL_run ho (wanted_none hgd) (hpure 7 (by decide) c L w' hW) (g_load hop (eval_of h0) (r7 c L w' hW hL (depl_of hdep 7 6 (by decide) ho hd))))
  | 8, ho, hL, _ =>
    obtain ⟨hop, hdst, hgd⟩ := tab_at htab ho (show rtn1T[8]? = _ from rfl)
    simp only at hop hgd
    obtain ⟨c', W', q0, q1, q2⟩ := r8 c L w' hW hL
    exact doesX_runw ho (wanted_none hgd) c' q0 q2 (g_alloc hop q1)
  | 9, ho, hL, _ =>
    obtain ⟨hop, hdst, hgd⟩ := tab_at htab ho (show rtn1T[9]? = _ from rfl)
    simp only at hop hgd
    obtain ⟨c', W', q0, q1, q2⟩ := r9 c L w' hW hL
    exact doesX_runw ho (wanted_none hgd) c' q0 q2 (g_alloc hop q1)
  | 10, ho, hL, _ =>
    obtain ⟨hop, hdst, hgd⟩ := tab_at htab ho (show rtn1T[10]? = _ from rfl)
    simp only at hop hgd
    have h0 := frm_at (val := val c) hdis ha 8 9 (hds 8 9 rfl) (by omega) (depl_of hdep 10 8 (by decide) ho hd)
    have h1 := frm_at (val := val c) hdis ha 3 15 (hds 3 15 rfl) (by omega) (depl_of hdep 10 3 (by decide) ho hd)
    obtain ⟨W', q1, q2⟩ := r10 c L w' hW hL (depl_of hdep 10 3 (by decide) ho hd) (depl_of hdep 10 8 (by decide) ho hd)
    exact doesX_of (doesL_skp ho (wanted_none hgd) rfl q2 (g_store hop (eval_of h0) (eval_of h1) q1))
  | 11, ho, hL, _ =>
    obtain ⟨hop, hdst, hgd⟩ := tab_at htab ho (show rtn1T[11]? = _ from rfl)
    simp only at hop hgd
    have h0 := frm_at (val := val c) hdis ha 9 10 (hds 9 10 rfl) (by omega) (depl_of hdep 11 9 (by decide) ho hd)
    have h1 := frm_at (val := val c) hdis ha 7 19 (hds 7 19 rfl) (by omega) (depl_of hdep 11 7 (by decide) ho hd)
    obtain ⟨W', q1, q2⟩ := r11 c L w' hW hL (depl_of hdep 11 7 (by decide) ho hd) (depl_of hdep 11 9 (by decide) ho hd)
    exact doesX_of (doesL_skp ho (wanted_none hgd) rfl q2 (g_store hop (eval_of h0) (eval_of h1) q1))
  | (i + 12), ho, hL, hi => exact absurd hi (by omega)
def vrtn2 (_X _Y P : Nat) (g r b : Int) (x : Bs) (va : Value) (_c : Unit) (i : Nat) : Value := match i with
  | 0 => (.pointer (some ⟨P, 0, none⟩))
  | 1 => (.pointer (some ⟨P, 0, none⟩))
  | 2 => (.agg #[I g, I r, I b, S x])
  | 3 => va
  | 4 => (.pointer (some ⟨P, 0, none⟩))
  | 5 => (.pointer (some ⟨P, 0 + 1, none⟩))
  | 6 => undef
  | 7 => (.pointer (some ⟨P, 0, none⟩))
  | 8 => (.pointer (some ⟨P, 0 + 5, none⟩))
  | 9 => undef
  | _ => undef
def rtn2T : List (Op × Option Tmp × Option (Nat × Bool)) := [
  (.load 57 (.tmp 4), some 20, none),
  (.load 57 (.tmp 4), some 21, none),
  (.load 123 (.tmp 6), some 22, none),
  (.move (.tmp 3), some 23, none),
  (.nilCheck (.tmp 20), some 24, none),
  (.fieldAddr 172 (.tmp 24) 1, some 25, none),
  (.store 123 (.tmp 25) (.tmp 22), none, none),
  (.nilCheck (.tmp 21), some 26, none),
  (.fieldAddr 172 (.tmp 26) 2, some 27, none),
  (.store 168 (.tmp 27) (.tmp 23), none, none)]
def rtn2D : List (Nat × Nat) := [(4, 0), (5, 4), (6, 2), (6, 5), (7, 1), (8, 7), (9, 3), (9, 8)]
set_option maxHeartbeats 4000000 in
theorem rtn2 {ops : Array Oper} {id : Nat} {Q : Exit → Act → World → Prop} (X Y P : Nat) (g r b : Int) (x : Bs) (va : Value) (htab : ops.toList.map (fun o => (o.op, o.dst, o.guard)) = rtn2T) (hdep : deplB rtn2D ops = true) (hac : acB ops = true)
    (a0 : Act) (w : World) (hsz : 28 ≤ a0.tmps.size) (o3 : a0.tmps[3]? = some va) (o4 : a0.tmps[4]? = some (.pointer (some ⟨X, 0, none⟩))) (o6 : a0.tmps[6]? = some (.pointer (some ⟨Y, 0, none⟩)))
    (Wd : Unit → (Nat → Bool) → World → Prop) (h0 : ∃ c, Wd c (fun _ => false) w.drew) (hpure : ∀ i, i ∉ ([6, 9] : List Nat) → ∀ c L W, Wd c L W → Wd c (upd L i) W)
    (r0 : ∀ c L W, Wd c L W → L 0 = false → (Instr.loadAt 57 (.pointer (some ⟨X, 0, none⟩))).run Tryz.prog W = .ok (.pointer (some ⟨P, 0, none⟩)) W)
    (r1 : ∀ c L W, Wd c L W → L 1 = false → (Instr.loadAt 57 (.pointer (some ⟨X, 0, none⟩))).run Tryz.prog W = .ok (.pointer (some ⟨P, 0, none⟩)) W)
    (r2 : ∀ c L W, Wd c L W → L 2 = false → (Instr.loadAt 123 (.pointer (some ⟨Y, 0, none⟩))).run Tryz.prog W = .ok (.agg #[I g, I r, I b, S x]) W)
    (r6 : ∀ c L W, Wd c L W → L 6 = false → L 2 = true → L 5 = true → ∃ W', (Instr.storeAt 123 (.pointer (some ⟨P, 0 + 1, none⟩)) (.agg #[I g, I r, I b, S x])).run Tryz.prog W = .ok () W' ∧ Wd c (upd L 6) W')
    (r9 : ∀ c L W, Wd c L W → L 9 = false → L 3 = true → L 8 = true → ∃ W', (Instr.storeAt 168 (.pointer (some ⟨P, 0 + 5, none⟩)) va).run Tryz.prog W = .ok () W' ∧ Wd c (upd L 9) W')
    (hend : ∀ c L W, (∀ i, i < 10 → L i = true) → Wd c L W → Q .normal ((((((((a0.put (some 20) (.pointer (some ⟨P, 0, none⟩))).put (some 21) (.pointer (some ⟨P, 0, none⟩))).put (some 22) (.agg #[I g, I r, I b, S x])).put (some 23) va).put (some 24) (.pointer (some ⟨P, 0, none⟩))).put (some 25) (.pointer (some ⟨P, 0 + 1, none⟩))).put (some 26) (.pointer (some ⟨P, 0, none⟩))).put (some 27) (.pointer (some ⟨P, 0 + 5, none⟩))) W) : (Code.region id ops true).wp Tryz.prog Q a0 w := by
  let val : Unit → Nat → Value := vrtn2 X Y P g r b x va
  have hosz : ops.size = 10 := by
    have := congrArg List.length htab
    simpa [rtn2T] using this
  have hds : ∀ i s, (rtn2T[i]?).bind (·.2.1) = some s → dstOf ops i = some s := fun i s hi => by rw [tab_dst htab, hi]
  have hdisB : disL rtn2T = true := by rfl
  have hdis := disL_of htab hdisB
  have hold : ∀ s, rtn2T.all (fun x => !(x.2.1 == some s)) = true → (List.range ops.size).all (fun j => !(dstOf ops j == some s)) = true := fun s h => holdL htab s h
  refine region_detX val Wd (hac_of hac) hdis h0 ?_ ?_
  rotate_left
  · intro c L W hall hW
    have := hend c L W (by rw [← hosz]; exact hall) hW
    have e : frm ops a0 (val c) (fun _ => true) ops.size = ((((((((a0.put (some 20) (.pointer (some ⟨P, 0, none⟩))).put (some 21) (.pointer (some ⟨P, 0, none⟩))).put (some 22) (.agg #[I g, I r, I b, S x])).put (some 23) va).put (some 24) (.pointer (some ⟨P, 0, none⟩))).put (some 25) (.pointer (some ⟨P, 0 + 1, none⟩))).put (some 26) (.pointer (some ⟨P, 0, none⟩))).put (some 27) (.pointer (some ⟨P, 0 + 5, none⟩))) := by
      rw [hosz]
      simp only [frm, if_true]
      rw [tab_dst htab 0, tab_dst htab 1, tab_dst htab 2, tab_dst htab 3, tab_dst htab 4, tab_dst htab 5, (show dstOf ops 6 = none from (tab_dst htab 6).trans rfl), put_none, tab_dst htab 7, tab_dst htab 8, (show dstOf ops 9 = none from (tab_dst htab 9).trans rfl), put_none]
      rfl
    rw [e]
    exact this
  intro i o ho c L a w' hL hd ha hW
  have hi : i < 10 := by rw [← hosz]; exact (Array.getElem?_eq_some_iff.1 ho).1
  match i, ho, hL, hi with
  | 0, ho, hL, _ =>
    obtain ⟨hop, hdst, hgd⟩ := tab_at htab ho (show rtn2T[0]? = _ from rfl)
    simp only at hop hgd
    have h0 := frm_old (val := val c) ha 4 _ (hold 4 rfl) o4
    exact doesX_of (doesL_run ho (wanted_none hgd) (hpure 0 (by decide) c L w' hW) (g_load hop (eval_of h0) (r0 c L w' hW hL)))
  | 1, ho, hL, _ =>
    obtain ⟨hop, hdst, hgd⟩ := tab_at htab ho (show rtn2T[1]? = _ from rfl)
    simp only at hop hgd
    have h0 := frm_old (val := val c) ha 4 _ (hold 4 rfl) o4
    exact doesX_of (doesL_run ho (wanted_none hgd) (hpure 1 (by decide) c L w' hW) (g_load hop (eval_of h0) (r1 c L w' hW hL)))
  | 2, ho, hL, _ =>
    obtain ⟨hop, hdst, hgd⟩ := tab_at htab ho (show rtn2T[2]? = _ from rfl)
    simp only at hop hgd
    have h0 := frm_old (val := val c) ha 6 _ (hold 6 rfl) o6
    exact doesX_of (doesL_run ho (wanted_none hgd) (hpure 2 (by decide) c L w' hW) (g_load hop (eval_of h0) (r2 c L w' hW hL)))
  | 3, ho, hL, _ =>
    obtain ⟨hop, hdst, hgd⟩ := tab_at htab ho (show rtn2T[3]? = _ from rfl)
    simp only at hop hgd
    have h0 := frm_old (val := val c) ha 3 _ (hold 3 rfl) o3
    exact doesX_of (doesL_run ho (wanted_none hgd) (hpure 3 (by decide) c L w' hW) (by rw [run_move _ _ _ hop]; exact congrArg (fun v => Result.ok (Next.value v) w') (eval_of h0)))
  | 4, ho, hL, _ =>
    obtain ⟨hop, hdst, hgd⟩ := tab_at htab ho (show rtn2T[4]? = _ from rfl)
    simp only at hop hgd
    have h0 := frm_at (val := val c) hdis ha 0 20 (hds 0 20 rfl) (by omega) (depl_of hdep 4 0 (by decide) ho hd)
    exact doesX_of (doesL_run ho (wanted_none hgd) (hpure 4 (by decide) c L w' hW) (run_nil _ _ _ hop _ (eval_of h0) _))
  | 5, ho, hL, _ =>
    obtain ⟨hop, hdst, hgd⟩ := tab_at htab ho (show rtn2T[5]? = _ from rfl)
    simp only at hop hgd
    have h0 := frm_at (val := val c) hdis ha 4 24 (hds 4 24 rfl) (by omega) (depl_of hdep 5 4 (by decide) ho hd)
    exact doesX_of (doesL_run ho (wanted_none hgd) (hpure 5 (by decide) c L w' hW) (g_field hop (eval_of h0) (by kernel_rfl)))
  | 6, ho, hL, _ =>
    obtain ⟨hop, hdst, hgd⟩ := tab_at htab ho (show rtn2T[6]? = _ from rfl)
    simp only at hop hgd
    have h0 := frm_at (val := val c) hdis ha 5 25 (hds 5 25 rfl) (by omega) (depl_of hdep 6 5 (by decide) ho hd)
    have h1 := frm_at (val := val c) hdis ha 2 22 (hds 2 22 rfl) (by omega) (depl_of hdep 6 2 (by decide) ho hd)
    obtain ⟨W', q1, q2⟩ := r6 c L w' hW hL (depl_of hdep 6 2 (by decide) ho hd) (depl_of hdep 6 5 (by decide) ho hd)
    exact doesX_of (doesL_skp ho (wanted_none hgd) rfl q2 (g_store hop (eval_of h0) (eval_of h1) q1))
  | 7, ho, hL, _ =>
    obtain ⟨hop, hdst, hgd⟩ := tab_at htab ho (show rtn2T[7]? = _ from rfl)
    simp only at hop hgd
    have h0 := frm_at (val := val c) hdis ha 1 21 (hds 1 21 rfl) (by omega) (depl_of hdep 7 1 (by decide) ho hd)
    exact doesX_of (doesL_run ho (wanted_none hgd) (hpure 7 (by decide) c L w' hW) (run_nil _ _ _ hop _ (eval_of h0) _))
  | 8, ho, hL, _ =>
    obtain ⟨hop, hdst, hgd⟩ := tab_at htab ho (show rtn2T[8]? = _ from rfl)
    simp only at hop hgd
    have h0 := frm_at (val := val c) hdis ha 7 26 (hds 7 26 rfl) (by omega) (depl_of hdep 8 7 (by decide) ho hd)
    exact doesX_of (doesL_run ho (wanted_none hgd) (hpure 8 (by decide) c L w' hW) (g_field hop (eval_of h0) (by kernel_rfl)))
  | 9, ho, hL, _ =>
    obtain ⟨hop, hdst, hgd⟩ := tab_at htab ho (show rtn2T[9]? = _ from rfl)
    simp only at hop hgd
    have h0 := frm_at (val := val c) hdis ha 8 27 (hds 8 27 rfl) (by omega) (depl_of hdep 9 8 (by decide) ho hd)
    have h1 := frm_at (val := val c) hdis ha 3 23 (hds 3 23 rfl) (by omega) (depl_of hdep 9 3 (by decide) ho hd)
    obtain ⟨W', q1, q2⟩ := r9 c L w' hW hL (depl_of hdep 9 3 (by decide) ho hd) (depl_of hdep 9 8 (by decide) ho hd)
    exact doesX_of (doesL_skp ho (wanted_none hgd) rfl q2 (g_store hop (eval_of h0) (eval_of h1) q1))
  | (i + 10), ho, hL, hi => exact absurd hi (by omega)
def vrtn4 (_X Y P D : Nat) (vf : Value) (g e : Int) (_c : Unit) (i : Nat) : Value := match i with
  | 0 => (.pointer (some ⟨P, 0, none⟩))
  | 1 => (.pointer (some ⟨P, 0, none⟩))
  | 2 => (.pointer (some ⟨P, 0 + 0, none⟩))
  | 3 => (.pointer (some ⟨D, 0, none⟩))
  | 4 => vf
  | 5 => (.pointer (some ⟨Y, 0 + 0, none⟩))
  | 6 => (I g)
  | 7 => (I e)
  | 8 => (I e)
  | _ => undef
def rtn4T : List (Op × Option Tmp × Option (Nat × Bool)) := [
  (.load 57 (.tmp 4), some 29, none),
  (.nilCheck (.tmp 29), some 30, none),
  (.fieldAddr 172 (.tmp 30) 0, some 31, none),
  (.load 55 (.tmp 31), some 32, none),
  (.move (.tmp 1), some 33, none),
  (.fieldAddr 123 (.tmp 6) 0, some 34, none),
  (.load 3 (.tmp 34), some 35, none),
  (.call { callee := .value (.func 194), args := #[(.tmp 32), (.tmp 33), (.tmp 35)], argTypes := #[55, 27, 3] }, some 36, none),
  (.assign (.tmp 36), some 11, none)]
def rtn4D : List (Nat × Nat) := [(1, 0), (2, 1), (3, 2), (6, 5), (7, 3), (7, 4), (7, 6), (8, 7)]
set_option maxHeartbeats 4000000 in
theorem rtn4 {ops : Array Oper} {id : Nat} {Q : Exit → Act → World → Prop} (X Y P D : Nat) (vf : Value) (g e : Int) (htab : ops.toList.map (fun o => (o.op, o.dst, o.guard)) = rtn4T) (hdep : deplB rtn4D ops = true) (hac : acB ops = true)
    (a0 : Act) (w : World) (hsz : 37 ≤ a0.tmps.size) (o1 : a0.tmps[1]? = some vf) (o4 : a0.tmps[4]? = some (.pointer (some ⟨X, 0, none⟩))) (o6 : a0.tmps[6]? = some (.pointer (some ⟨Y, 0, none⟩)))
    (Wd : Unit → (Nat → Bool) → World → Prop) (h0 : ∃ c, Wd c (fun _ => false) w.drew) (hpure : ∀ i, i ∉ ([7] : List Nat) → ∀ c L W, Wd c L W → Wd c (upd L i) W)
    (r0 : ∀ c L W, Wd c L W → L 0 = false → (Instr.loadAt 57 (.pointer (some ⟨X, 0, none⟩))).run Tryz.prog W = .ok (.pointer (some ⟨P, 0, none⟩)) W)
    (r3 : ∀ c L W, Wd c L W → L 3 = false → L 2 = true → (Instr.loadAt 55 (.pointer (some ⟨P, 0 + 0, none⟩))).run Tryz.prog W = .ok (.pointer (some ⟨D, 0, none⟩)) W)
    (r6 : ∀ c L W, Wd c L W → L 6 = false → L 5 = true → (Instr.loadAt 3 (.pointer (some ⟨Y, 0 + 0, none⟩))).run Tryz.prog W = .ok (I g) W)
    (r7 : ∀ c L W, Wd c L W → L 7 = false → L 3 = true → L 4 = true → L 6 = true → Calls Tryz.prog 194 #[(.pointer (some ⟨D, 0, none⟩)), vf, (I g)] W fun eg w' => ∃ c', (∀ j, L j = true → vrtn4 X Y P D vf g e c' j = vrtn4 X Y P D vf g e c j) ∧ eg = .returned (vrtn4 X Y P D vf g e c' 7) ∧ Wd c' (upd L 7) w')
    (hend : ∀ c L W, (∀ i, i < 9 → L i = true) → Wd c L W → Q .normal (((((((((a0.put (some 29) (.pointer (some ⟨P, 0, none⟩))).put (some 30) (.pointer (some ⟨P, 0, none⟩))).put (some 31) (.pointer (some ⟨P, 0 + 0, none⟩))).put (some 32) (.pointer (some ⟨D, 0, none⟩))).put (some 33) vf).put (some 34) (.pointer (some ⟨Y, 0 + 0, none⟩))).put (some 35) (I g)).put (some 36) (I e)).put (some 11) (I e)) W) : (Code.region id ops true).wp Tryz.prog Q a0 w := by
  let val : Unit → Nat → Value := vrtn4 X Y P D vf g e
  have hosz : ops.size = 9 := by
    have := congrArg List.length htab
    simpa [rtn4T] using this
  have hds : ∀ i s, (rtn4T[i]?).bind (·.2.1) = some s → dstOf ops i = some s := fun i s hi => by rw [tab_dst htab, hi]
  have hdisB : disL rtn4T = true := by rfl
  have hdis := disL_of htab hdisB
  have hold : ∀ s, rtn4T.all (fun x => !(x.2.1 == some s)) = true → (List.range ops.size).all (fun j => !(dstOf ops j == some s)) = true := fun s h => holdL htab s h
  refine region_detX val Wd (hac_of hac) hdis h0 ?_ ?_
  rotate_left
  · intro c L W hall hW
    have := hend c L W (by rw [← hosz]; exact hall) hW
    have e : frm ops a0 (val c) (fun _ => true) ops.size = (((((((((a0.put (some 29) (.pointer (some ⟨P, 0, none⟩))).put (some 30) (.pointer (some ⟨P, 0, none⟩))).put (some 31) (.pointer (some ⟨P, 0 + 0, none⟩))).put (some 32) (.pointer (some ⟨D, 0, none⟩))).put (some 33) vf).put (some 34) (.pointer (some ⟨Y, 0 + 0, none⟩))).put (some 35) (I g)).put (some 36) (I e)).put (some 11) (I e)) := by
      rw [hosz]
      simp only [frm, if_true]
      rw [tab_dst htab 0, tab_dst htab 1, tab_dst htab 2, tab_dst htab 3, tab_dst htab 4, tab_dst htab 5, tab_dst htab 6, tab_dst htab 7, tab_dst htab 8]
      rfl
    rw [e]
    exact this
  intro i o ho c L a w' hL hd ha hW
  have hi : i < 9 := by rw [← hosz]; exact (Array.getElem?_eq_some_iff.1 ho).1
  match i, ho, hL, hi with
  | 0, ho, hL, _ =>
    obtain ⟨hop, hdst, hgd⟩ := tab_at htab ho (show rtn4T[0]? = _ from rfl)
    simp only at hop hgd
    have h0 := frm_old (val := val c) ha 4 _ (hold 4 rfl) o4
    exact doesX_of (doesL_run ho (wanted_none hgd) (hpure 0 (by decide) c L w' hW) (g_load hop (eval_of h0) (r0 c L w' hW hL)))
  | 1, ho, hL, _ =>
    obtain ⟨hop, hdst, hgd⟩ := tab_at htab ho (show rtn4T[1]? = _ from rfl)
    simp only at hop hgd
    have h0 := frm_at (val := val c) hdis ha 0 29 (hds 0 29 rfl) (by omega) (depl_of hdep 1 0 (by decide) ho hd)
    exact doesX_of (doesL_run ho (wanted_none hgd) (hpure 1 (by decide) c L w' hW) (run_nil _ _ _ hop _ (eval_of h0) _))
  | 2, ho, hL, _ =>
    obtain ⟨hop, hdst, hgd⟩ := tab_at htab ho (show rtn4T[2]? = _ from rfl)
    simp only at hop hgd
    have h0 := frm_at (val := val c) hdis ha 1 30 (hds 1 30 rfl) (by omega) (depl_of hdep 2 1 (by decide) ho hd)
    exact doesX_of (doesL_run ho (wanted_none hgd) (hpure 2 (by decide) c L w' hW) (g_field hop (eval_of h0) (by kernel_rfl)))
  | 3, ho, hL, _ =>
    obtain ⟨hop, hdst, hgd⟩ := tab_at htab ho (show rtn4T[3]? = _ from rfl)
    simp only at hop hgd
    have h0 := frm_at (val := val c) hdis ha 2 31 (hds 2 31 rfl) (by omega) (depl_of hdep 3 2 (by decide) ho hd)
    exact doesX_of (doesL_run ho (wanted_none hgd) (hpure 3 (by decide) c L w' hW) (g_load hop (eval_of h0) (r3 c L w' hW hL (depl_of hdep 3 2 (by decide) ho hd))))
  | 4, ho, hL, _ =>
    obtain ⟨hop, hdst, hgd⟩ := tab_at htab ho (show rtn4T[4]? = _ from rfl)
    simp only at hop hgd
    have h0 := frm_old (val := val c) ha 1 _ (hold 1 rfl) o1
    exact doesX_of (doesL_run ho (wanted_none hgd) (hpure 4 (by decide) c L w' hW) (by rw [run_move _ _ _ hop]; exact congrArg (fun v => Result.ok (Next.value v) w') (eval_of h0)))
  | 5, ho, hL, _ =>
    obtain ⟨hop, hdst, hgd⟩ := tab_at htab ho (show rtn4T[5]? = _ from rfl)
    simp only at hop hgd
    have h0 := frm_old (val := val c) ha 6 _ (hold 6 rfl) o6
    exact doesX_of (doesL_run ho (wanted_none hgd) (hpure 5 (by decide) c L w' hW) (g_field hop (eval_of h0) (by kernel_rfl)))
  | 6, ho, hL, _ =>
    obtain ⟨hop, hdst, hgd⟩ := tab_at htab ho (show rtn4T[6]? = _ from rfl)
    simp only at hop hgd
    have h0 := frm_at (val := val c) hdis ha 5 34 (hds 5 34 rfl) (by omega) (depl_of hdep 6 5 (by decide) ho hd)
    exact doesX_of (doesL_run ho (wanted_none hgd) (hpure 6 (by decide) c L w' hW) (g_load hop (eval_of h0) (r6 c L w' hW hL (depl_of hdep 6 5 (by decide) ho hd))))
  | 7, ho, hL, _ =>
    obtain ⟨hop, hdst, hgd⟩ := tab_at htab ho (show rtn4T[7]? = _ from rfl)
    simp only at hop hgd
    have h0 := frm_at (val := val c) hdis ha 3 32 (hds 3 32 rfl) (by omega) (depl_of hdep 7 3 (by decide) ho hd)
    have h1 := frm_at (val := val c) hdis ha 4 33 (hds 4 33 rfl) (by omega) (depl_of hdep 7 4 (by decide) ho hd)
    have h2 := frm_at (val := val c) hdis ha 6 35 (hds 6 35 rfl) (by omega) (depl_of hdep 7 6 (by decide) ho hd)
    refine doesX_call ho (wanted_none hgd) 194 #[(.pointer (some ⟨D, 0, none⟩)), vf, (I g)] ?_ (r7 c L w' hW hL (depl_of hdep 7 3 (by decide) ho hd) (depl_of hdep 7 4 (by decide) ho hd) (depl_of hdep 7 6 (by decide) ho hd))
    rw [run_calls Tryz.func194 (by kernel_rfl) rfl _ _ _ _ hop rfl]
    simp only [List.map_toArray, List.map_cons, List.map_nil, eval_of h0, eval_of h1, eval_of h2]
    all_goals rfl
  | 8, ho, hL, _ =>
    obtain ⟨hop, hdst, hgd⟩ := tab_at htab ho (show rtn4T[8]? = _ from rfl)
    simp only at hop hgd
    have h0 := frm_at (val := val c) hdis ha 7 36 (hds 7 36 rfl) (by omega) (depl_of hdep 8 7 (by decide) ho hd)
    exact doesX_of (doesL_run ho (wanted_none hgd) (hpure 8 (by decide) c L w' hW) (by rw [run_assign _ _ _ hop]; exact congrArg (fun v => Result.ok (Next.value v) w') (eval_of h0)))
  | (i + 9), ho, hL, hi => exact absurd hi (by omega)
def vrtn7 (_X _Y _Z P D : Nat) (g r b e : Int) (x : Bs) (_c : Unit) (i : Nat) : Value := match i with
  | 0 => (.pointer (some ⟨P, 0, none⟩))
  | 1 => (.pointer (some ⟨P, 0, none⟩))
  | 2 => (.pointer (some ⟨P, 0 + 0, none⟩))
  | 3 => (.pointer (some ⟨D, 0, none⟩))
  | 4 => (.agg #[I g, I r, I b, S x])
  | 5 => (I e)
  | 6 => undef
  | _ => undef
def rtn7T : List (Op × Option Tmp × Option (Nat × Bool)) := [
  (.load 57 (.tmp 4), some 40, none),
  (.nilCheck (.tmp 40), some 41, none),
  (.fieldAddr 172 (.tmp 41) 0, some 42, none),
  (.load 55 (.tmp 42), some 43, none),
  (.load 123 (.tmp 6), some 44, none),
  (.call { callee := .value (.func 104), args := #[(.tmp 43), (.tmp 44)], argTypes := #[55, 123] }, some 45, none),
  (.store 35 (.tmp 8) (.tmp 45), none, none)]
def rtn7D : List (Nat × Nat) := [(1, 0), (2, 1), (3, 2), (5, 3), (5, 4), (6, 5)]
set_option maxHeartbeats 4000000 in
theorem rtn7 {ops : Array Oper} {id : Nat} {Q : Exit → Act → World → Prop} (X Y Z P D : Nat) (g r b e : Int) (x : Bs) (htab : ops.toList.map (fun o => (o.op, o.dst, o.guard)) = rtn7T) (hdep : deplB rtn7D ops = true) (hac : acB ops = true)
    (a0 : Act) (w : World) (hsz : 46 ≤ a0.tmps.size) (o4 : a0.tmps[4]? = some (.pointer (some ⟨X, 0, none⟩))) (o6 : a0.tmps[6]? = some (.pointer (some ⟨Y, 0, none⟩))) (o8 : a0.tmps[8]? = some (.pointer (some ⟨Z, 0, none⟩)))
    (Wd : Unit → (Nat → Bool) → World → Prop) (h0 : ∃ c, Wd c (fun _ => false) w.drew) (hpure : ∀ i, i ∉ ([5, 6] : List Nat) → ∀ c L W, Wd c L W → Wd c (upd L i) W)
    (r0 : ∀ c L W, Wd c L W → L 0 = false → (Instr.loadAt 57 (.pointer (some ⟨X, 0, none⟩))).run Tryz.prog W = .ok (.pointer (some ⟨P, 0, none⟩)) W)
    (r3 : ∀ c L W, Wd c L W → L 3 = false → L 2 = true → (Instr.loadAt 55 (.pointer (some ⟨P, 0 + 0, none⟩))).run Tryz.prog W = .ok (.pointer (some ⟨D, 0, none⟩)) W)
    (r4 : ∀ c L W, Wd c L W → L 4 = false → (Instr.loadAt 123 (.pointer (some ⟨Y, 0, none⟩))).run Tryz.prog W = .ok (.agg #[I g, I r, I b, S x]) W)
    (r5 : ∀ c L W, Wd c L W → L 5 = false → L 3 = true → L 4 = true → Calls Tryz.prog 104 #[(.pointer (some ⟨D, 0, none⟩)), (.agg #[I g, I r, I b, S x])] W fun eg w' => ∃ c', (∀ j, L j = true → vrtn7 X Y Z P D g r b e x c' j = vrtn7 X Y Z P D g r b e x c j) ∧ eg = .returned (vrtn7 X Y Z P D g r b e x c' 5) ∧ Wd c' (upd L 5) w')
    (r6 : ∀ c L W, Wd c L W → L 6 = false → L 5 = true → ∃ W', (Instr.storeAt 35 (.pointer (some ⟨Z, 0, none⟩)) (I e)).run Tryz.prog W = .ok () W' ∧ Wd c (upd L 6) W')
    (hend : ∀ c L W, (∀ i, i < 7 → L i = true) → Wd c L W → Q .normal ((((((a0.put (some 40) (.pointer (some ⟨P, 0, none⟩))).put (some 41) (.pointer (some ⟨P, 0, none⟩))).put (some 42) (.pointer (some ⟨P, 0 + 0, none⟩))).put (some 43) (.pointer (some ⟨D, 0, none⟩))).put (some 44) (.agg #[I g, I r, I b, S x])).put (some 45) (I e)) W) : (Code.region id ops true).wp Tryz.prog Q a0 w := by
  let val : Unit → Nat → Value := vrtn7 X Y Z P D g r b e x
  have hosz : ops.size = 7 := by
    have := congrArg List.length htab
    simpa [rtn7T] using this
  have hds : ∀ i s, (rtn7T[i]?).bind (·.2.1) = some s → dstOf ops i = some s := fun i s hi => by rw [tab_dst htab, hi]
  have hdisB : disL rtn7T = true := by rfl
  have hdis := disL_of htab hdisB
  have hold : ∀ s, rtn7T.all (fun x => !(x.2.1 == some s)) = true → (List.range ops.size).all (fun j => !(dstOf ops j == some s)) = true := fun s h => holdL htab s h
  refine region_detX val Wd (hac_of hac) hdis h0 ?_ ?_
  rotate_left
  · intro c L W hall hW
    have := hend c L W (by rw [← hosz]; exact hall) hW
    have e : frm ops a0 (val c) (fun _ => true) ops.size = ((((((a0.put (some 40) (.pointer (some ⟨P, 0, none⟩))).put (some 41) (.pointer (some ⟨P, 0, none⟩))).put (some 42) (.pointer (some ⟨P, 0 + 0, none⟩))).put (some 43) (.pointer (some ⟨D, 0, none⟩))).put (some 44) (.agg #[I g, I r, I b, S x])).put (some 45) (I e)) := by
      rw [hosz]
      simp only [frm, if_true]
      rw [tab_dst htab 0, tab_dst htab 1, tab_dst htab 2, tab_dst htab 3, tab_dst htab 4, tab_dst htab 5, (show dstOf ops 6 = none from (tab_dst htab 6).trans rfl), put_none]
      rfl
    rw [e]
    exact this
  intro i o ho c L a w' hL hd ha hW
  have hi : i < 7 := by rw [← hosz]; exact (Array.getElem?_eq_some_iff.1 ho).1
  match i, ho, hL, hi with
  | 0, ho, hL, _ =>
    obtain ⟨hop, hdst, hgd⟩ := tab_at htab ho (show rtn7T[0]? = _ from rfl)
    simp only at hop hgd
    have h0 := frm_old (val := val c) ha 4 _ (hold 4 rfl) o4
    exact doesX_of (doesL_run ho (wanted_none hgd) (hpure 0 (by decide) c L w' hW) (g_load hop (eval_of h0) (r0 c L w' hW hL)))
  | 1, ho, hL, _ =>
    obtain ⟨hop, hdst, hgd⟩ := tab_at htab ho (show rtn7T[1]? = _ from rfl)
    simp only at hop hgd
    have h0 := frm_at (val := val c) hdis ha 0 40 (hds 0 40 rfl) (by omega) (depl_of hdep 1 0 (by decide) ho hd)
    exact doesX_of (doesL_run ho (wanted_none hgd) (hpure 1 (by decide) c L w' hW) (run_nil _ _ _ hop _ (eval_of h0) _))
  | 2, ho, hL, _ =>
    obtain ⟨hop, hdst, hgd⟩ := tab_at htab ho (show rtn7T[2]? = _ from rfl)
    simp only at hop hgd
    have h0 := frm_at (val := val c) hdis ha 1 41 (hds 1 41 rfl) (by omega) (depl_of hdep 2 1 (by decide) ho hd)
    exact doesX_of (doesL_run ho (wanted_none hgd) (hpure 2 (by decide) c L w' hW) (g_field hop (eval_of h0) (by kernel_rfl)))
  | 3, ho, hL, _ =>
    obtain ⟨hop, hdst, hgd⟩ := tab_at htab ho (show rtn7T[3]? = _ from rfl)
    simp only at hop hgd
    have h0 := frm_at (val := val c) hdis ha 2 42 (hds 2 42 rfl) (by omega) (depl_of hdep 3 2 (by decide) ho hd)
    exact doesX_of (doesL_run ho (wanted_none hgd) (hpure 3 (by decide) c L w' hW) (g_load hop (eval_of h0) (r3 c L w' hW hL (depl_of hdep 3 2 (by decide) ho hd))))
  | 4, ho, hL, _ =>
    obtain ⟨hop, hdst, hgd⟩ := tab_at htab ho (show rtn7T[4]? = _ from rfl)
    simp only at hop hgd
    have h0 := frm_old (val := val c) ha 6 _ (hold 6 rfl) o6
    exact doesX_of (doesL_run ho (wanted_none hgd) (hpure 4 (by decide) c L w' hW) (g_load hop (eval_of h0) (r4 c L w' hW hL)))
  | 5, ho, hL, _ =>
    obtain ⟨hop, hdst, hgd⟩ := tab_at htab ho (show rtn7T[5]? = _ from rfl)
    simp only at hop hgd
    have h0 := frm_at (val := val c) hdis ha 3 43 (hds 3 43 rfl) (by omega) (depl_of hdep 5 3 (by decide) ho hd)
    have h1 := frm_at (val := val c) hdis ha 4 44 (hds 4 44 rfl) (by omega) (depl_of hdep 5 4 (by decide) ho hd)
    refine doesX_call ho (wanted_none hgd) 104 #[(.pointer (some ⟨D, 0, none⟩)), (.agg #[I g, I r, I b, S x])] ?_ (r5 c L w' hW hL (depl_of hdep 5 3 (by decide) ho hd) (depl_of hdep 5 4 (by decide) ho hd))
    rw [run_calls Tryz.func104 (by kernel_rfl) rfl _ _ _ _ hop rfl]
    simp only [List.map_toArray, List.map_cons, List.map_nil, eval_of h0, eval_of h1]
    all_goals rfl
  | 6, ho, hL, _ =>
    obtain ⟨hop, hdst, hgd⟩ := tab_at htab ho (show rtn7T[6]? = _ from rfl)
    simp only at hop hgd
    have h0 := frm_old (val := val c) ha 8 _ (hold 8 rfl) o8
    have h1 := frm_at (val := val c) hdis ha 5 45 (hds 5 45 rfl) (by omega) (depl_of hdep 6 5 (by decide) ho hd)
    obtain ⟨W', q1, q2⟩ := r6 c L w' hW hL (depl_of hdep 6 5 (by decide) ho hd)
    exact doesX_of (doesL_skp ho (wanted_none hgd) rfl q2 (g_store hop (eval_of h0) (eval_of h1) q1))
  | (i + 7), ho, hL, hi => exact absurd hi (by omega)
def vrcm16 (P : Nat) (g root b : Int) (x : Bs) (c : Nat) (i : Nat) : Value := match i with
  | 0 => (.pointer (some ⟨P, 0, none⟩))
  | 1 => (.pointer (some ⟨P, 0, none⟩))
  | 2 => (.pointer (some ⟨P, 0 + 1, none⟩))
  | 3 => (.pointer (some ⟨P, 0 + 1 + 0, none⟩))
  | 4 => (I g)
  | 5 => (I (g + 1))
  | 6 => (I root)
  | 7 => (.pointer (some ⟨P, 0, none⟩))
  | 8 => (.pointer (some ⟨P, 0, none⟩))
  | 9 => (.pointer (some ⟨P, 0 + 1, none⟩))
  | 10 => (.pointer (some ⟨P, 0 + 1 + 2, none⟩))
  | 11 => (I b)
  | 12 => (S x)
  | 13 => (S x)
  | 14 => (.agg #[I (g + 1), I root, I b, S x])
  | 15 => (.pointer (some ⟨c, 0, none⟩))
  | 16 => undef
  | _ => undef
def rcm16T : List (Op × Option Tmp × Option (Nat × Bool)) := [
  (.move (.tmp 0), some 72, none),
  (.nilCheck (.tmp 72), some 73, none),
  (.fieldAddr 172 (.tmp 73) 1, some 74, none),
  (.fieldAddr 123 (.tmp 74) 0, some 75, none),
  (.load 3 (.tmp 75), some 76, none),
  (.binOp .add 3 (.tmp 76) (.const (.int .i64 1)) 3, some 77, none),
  (.move (.tmp 2), some 78, none),
  (.move (.tmp 0), some 79, none),
  (.nilCheck (.tmp 79), some 80, none),
  (.fieldAddr 172 (.tmp 80) 1, some 81, none),
  (.fieldAddr 123 (.tmp 81) 2, some 82, none),
  (.load 3 (.tmp 82), some 83, none),
  (.move (.tmp 3), some 84, none),
  (.call { callee := .value (.func 130), args := #[(.tmp 84)], argTypes := #[9] }, some 85, none),
  (.build 123 #[(0, (.tmp 77)), (1, (.tmp 78)), (2, (.tmp 83)), (3, (.tmp 85))], some 86, none),
  (.alloc 123, some 14, none),
  (.store 123 (.tmp 14) (.tmp 86), none, none)]
def rcm16D : List (Nat × Nat) := [(1, 0), (2, 1), (3, 2), (4, 3), (5, 4), (8, 7), (9, 8), (10, 9), (11, 10), (13, 12), (14, 5), (14, 6), (14, 11), (14, 13), (16, 14), (16, 15)]
set_option maxHeartbeats 4000000 in
theorem rcm16 {ops : Array Oper} {id : Nat} {Q : Exit → Act → World → Prop} (P : Nat) (g root b : Int) (x : Bs) (htab : ops.toList.map (fun o => (o.op, o.dst, o.guard)) = rcm16T) (hdep : deplB rcm16D ops = true) (hac : acB ops = true)
    (a0 : Act) (w : World) (hsz : 87 ≤ a0.tmps.size) (o0 : a0.tmps[0]? = some (.pointer (some ⟨P, 0, none⟩))) (o2 : a0.tmps[2]? = some (I root)) (o3 : a0.tmps[3]? = some (S x))
    (Wd : Nat → (Nat → Bool) → World → Prop) (h0 : ∃ c, Wd c (fun _ => false) w.drew) (hpure : ∀ i, i ∉ ([13, 15, 16] : List Nat) → ∀ c L W, Wd c L W → Wd c (upd L i) W)
    (r4 : ∀ c L W, Wd c L W → L 4 = false → L 3 = true → (Instr.loadAt 3 (.pointer (some ⟨P, 0 + 1 + 0, none⟩))).run Tryz.prog W = .ok (I g) W)
    (r5 : ∀ W, (do eqGuard .add 3 (.tmp 76) (.const (.int .i64 1)) (I g) (.int .i64 1); binOp .add 3 (I g) (.int .i64 1)).run Tryz.prog W = .ok (I (g + 1)) W)
    (r11 : ∀ c L W, Wd c L W → L 11 = false → L 10 = true → (Instr.loadAt 3 (.pointer (some ⟨P, 0 + 1 + 2, none⟩))).run Tryz.prog W = .ok (I b) W)
    (r13 : ∀ c L W, Wd c L W → L 13 = false → L 12 = true → Calls Tryz.prog 130 #[(S x)] W fun eg w' => ∃ c', (∀ j, L j = true → vrcm16 P g root b x c' j = vrcm16 P g root b x c j) ∧ eg = .returned (vrcm16 P g root b x c' 13) ∧ Wd c' (upd L 13) w')
    (r14 : ∀ W, (Instr.build 123 #[(0, (I (g + 1))), (1, (I root)), (2, (I b)), (3, (S x))]).run Tryz.prog W = .ok (.agg #[I (g + 1), I root, I b, S x]) W)
    (r15 : ∀ c L W, Wd c L W → L 15 = false → ∃ c' W', (∀ j, L j = true → vrcm16 P g root b x c' j = vrcm16 P g root b x c j) ∧ (Instr.alloc 123 true (.tuple #[])).run Tryz.prog W = .ok (vrcm16 P g root b x c' 15) W' ∧ Wd c' (upd L 15) W')
    (r16 : ∀ c L W, Wd c L W → L 16 = false → L 14 = true → L 15 = true → ∃ W', (Instr.storeAt 123 (.pointer (some ⟨c, 0, none⟩)) (.agg #[I (g + 1), I root, I b, S x])).run Tryz.prog W = .ok () W' ∧ Wd c (upd L 16) W')
    (hend : ∀ c L W, (∀ i, i < 17 → L i = true) → Wd c L W → Q .normal ((((((((((((((((a0.put (some 72) (.pointer (some ⟨P, 0, none⟩))).put (some 73) (.pointer (some ⟨P, 0, none⟩))).put (some 74) (.pointer (some ⟨P, 0 + 1, none⟩))).put (some 75) (.pointer (some ⟨P, 0 + 1 + 0, none⟩))).put (some 76) (I g)).put (some 77) (I (g + 1))).put (some 78) (I root)).put (some 79) (.pointer (some ⟨P, 0, none⟩))).put (some 80) (.pointer (some ⟨P, 0, none⟩))).put (some 81) (.pointer (some ⟨P, 0 + 1, none⟩))).put (some 82) (.pointer (some ⟨P, 0 + 1 + 2, none⟩))).put (some 83) (I b)).put (some 84) (S x)).put (some 85) (S x)).put (some 86) (.agg #[I (g + 1), I root, I b, S x])).put (some 14) (.pointer (some ⟨c, 0, none⟩))) W) : (Code.region id ops true).wp Tryz.prog Q a0 w := by
  let val : Nat → Nat → Value := vrcm16 P g root b x
  have hosz : ops.size = 17 := by
    have := congrArg List.length htab
    simpa [rcm16T] using this
  have hds : ∀ i s, (rcm16T[i]?).bind (·.2.1) = some s → dstOf ops i = some s := fun i s hi => by rw [tab_dst htab, hi]
  have hdisB : disL rcm16T = true := by rfl
  have hdis := disL_of htab hdisB
  have hold : ∀ s, rcm16T.all (fun x => !(x.2.1 == some s)) = true → (List.range ops.size).all (fun j => !(dstOf ops j == some s)) = true := fun s h => holdL htab s h
  refine region_detX val Wd (hac_of hac) hdis h0 ?_ ?_
  rotate_left
  · intro c L W hall hW
    have := hend c L W (by rw [← hosz]; exact hall) hW
    have e : frm ops a0 (val c) (fun _ => true) ops.size = ((((((((((((((((a0.put (some 72) (.pointer (some ⟨P, 0, none⟩))).put (some 73) (.pointer (some ⟨P, 0, none⟩))).put (some 74) (.pointer (some ⟨P, 0 + 1, none⟩))).put (some 75) (.pointer (some ⟨P, 0 + 1 + 0, none⟩))).put (some 76) (I g)).put (some 77) (I (g + 1))).put (some 78) (I root)).put (some 79) (.pointer (some ⟨P, 0, none⟩))).put (some 80) (.pointer (some ⟨P, 0, none⟩))).put (some 81) (.pointer (some ⟨P, 0 + 1, none⟩))).put (some 82) (.pointer (some ⟨P, 0 + 1 + 2, none⟩))).put (some 83) (I b)).put (some 84) (S x)).put (some 85) (S x)).put (some 86) (.agg #[I (g + 1), I root, I b, S x])).put (some 14) (.pointer (some ⟨c, 0, none⟩))) := by
      rw [hosz]
      simp only [frm, if_true]
      rw [tab_dst htab 0, tab_dst htab 1, tab_dst htab 2, tab_dst htab 3, tab_dst htab 4, tab_dst htab 5, tab_dst htab 6, tab_dst htab 7, tab_dst htab 8, tab_dst htab 9, tab_dst htab 10, tab_dst htab 11, tab_dst htab 12, tab_dst htab 13, tab_dst htab 14, tab_dst htab 15, (show dstOf ops 16 = none from (tab_dst htab 16).trans rfl), put_none]
      rfl
    rw [e]
    exact this
  intro i o ho c L a w' hL hd ha hW
  have hi : i < 17 := by rw [← hosz]; exact (Array.getElem?_eq_some_iff.1 ho).1
  match i, ho, hL, hi with
  | 0, ho, hL, _ =>
    obtain ⟨hop, hdst, hgd⟩ := tab_at htab ho (show rcm16T[0]? = _ from rfl)
    simp only at hop hgd
    have h0 := frm_old (val := val c) ha 0 _ (hold 0 rfl) o0
    exact doesX_of (doesL_run ho (wanted_none hgd) (hpure 0 (by decide) c L w' hW) (by rw [run_move _ _ _ hop]; exact congrArg (fun v => Result.ok (Next.value v) w') (eval_of h0)))
  | 1, ho, hL, _ =>
    obtain ⟨hop, hdst, hgd⟩ := tab_at htab ho (show rcm16T[1]? = _ from rfl)
    simp only at hop hgd
    have h0 := frm_at (val := val c) hdis ha 0 72 (hds 0 72 rfl) (by omega) (depl_of hdep 1 0 (by decide) ho hd)
    exact doesX_of (doesL_run ho (wanted_none hgd) (hpure 1 (by decide) c L w' hW) (run_nil _ _ _ hop _ (eval_of h0) _))
  | 2, ho, hL, _ =>
    obtain ⟨hop, hdst, hgd⟩ := tab_at htab ho (show rcm16T[2]? = _ from rfl)
    simp only at hop hgd
    have h0 := frm_at (val := val c) hdis ha 1 73 (hds 1 73 rfl) (by omega) (depl_of hdep 2 1 (by decide) ho hd)
    exact doesX_of (doesL_run ho (wanted_none hgd) (hpure 2 (by decide) c L w' hW) (g_field hop (eval_of h0) (by kernel_rfl)))
  | 3, ho, hL, _ =>
    obtain ⟨hop, hdst, hgd⟩ := tab_at htab ho (show rcm16T[3]? = _ from rfl)
    simp only at hop hgd
    have h0 := frm_at (val := val c) hdis ha 2 74 (hds 2 74 rfl) (by omega) (depl_of hdep 3 2 (by decide) ho hd)
    exact doesX_of (doesL_run ho (wanted_none hgd) (hpure 3 (by decide) c L w' hW) (g_field hop (eval_of h0) (by kernel_rfl)))
  | 4, ho, hL, _ =>
    obtain ⟨hop, hdst, hgd⟩ := tab_at htab ho (show rcm16T[4]? = _ from rfl)
    simp only at hop hgd
    have h0 := frm_at (val := val c) hdis ha 3 75 (hds 3 75 rfl) (by omega) (depl_of hdep 4 3 (by decide) ho hd)
    exact doesX_of (doesL_run ho (wanted_none hgd) (hpure 4 (by decide) c L w' hW) (g_load hop (eval_of h0) (r4 c L w' hW hL (depl_of hdep 4 3 (by decide) ho hd))))
  | 5, ho, hL, _ =>
    obtain ⟨hop, hdst, hgd⟩ := tab_at htab ho (show rcm16T[5]? = _ from rfl)
    simp only at hop hgd
    have h0 := frm_at (val := val c) hdis ha 4 76 (hds 4 76 rfl) (by omega) (depl_of hdep 5 4 (by decide) ho hd)
    exact doesX_of (doesL_run ho (wanted_none hgd) (hpure 5 (by decide) c L w' hW) (g_bin hop (eval_of h0) rfl (r5 w')))
  | 6, ho, hL, _ =>
    obtain ⟨hop, hdst, hgd⟩ := tab_at htab ho (show rcm16T[6]? = _ from rfl)
    simp only at hop hgd
    have h0 := frm_old (val := val c) ha 2 _ (hold 2 rfl) o2
    exact doesX_of (doesL_run ho (wanted_none hgd) (hpure 6 (by decide) c L w' hW) (by rw [run_move _ _ _ hop]; exact congrArg (fun v => Result.ok (Next.value v) w') (eval_of h0)))
  | 7, ho, hL, _ =>
    obtain ⟨hop, hdst, hgd⟩ := tab_at htab ho (show rcm16T[7]? = _ from rfl)
    simp only at hop hgd
    have h0 := frm_old (val := val c) ha 0 _ (hold 0 rfl) o0
    exact doesX_of (doesL_run ho (wanted_none hgd) (hpure 7 (by decide) c L w' hW) (by rw [run_move _ _ _ hop]; exact congrArg (fun v => Result.ok (Next.value v) w') (eval_of h0)))
  | 8, ho, hL, _ =>
    obtain ⟨hop, hdst, hgd⟩ := tab_at htab ho (show rcm16T[8]? = _ from rfl)
    simp only at hop hgd
    have h0 := frm_at (val := val c) hdis ha 7 79 (hds 7 79 rfl) (by omega) (depl_of hdep 8 7 (by decide) ho hd)
    exact doesX_of (doesL_run ho (wanted_none hgd) (hpure 8 (by decide) c L w' hW) (run_nil _ _ _ hop _ (eval_of h0) _))
  | 9, ho, hL, _ =>
    obtain ⟨hop, hdst, hgd⟩ := tab_at htab ho (show rcm16T[9]? = _ from rfl)
    simp only at hop hgd
    have h0 := frm_at (val := val c) hdis ha 8 80 (hds 8 80 rfl) (by omega) (depl_of hdep 9 8 (by decide) ho hd)
    exact doesX_of (doesL_run ho (wanted_none hgd) (hpure 9 (by decide) c L w' hW) (g_field hop (eval_of h0) (by kernel_rfl)))
  | 10, ho, hL, _ =>
    obtain ⟨hop, hdst, hgd⟩ := tab_at htab ho (show rcm16T[10]? = _ from rfl)
    simp only at hop hgd
    have h0 := frm_at (val := val c) hdis ha 9 81 (hds 9 81 rfl) (by omega) (depl_of hdep 10 9 (by decide) ho hd)
    exact doesX_of (doesL_run ho (wanted_none hgd) (hpure 10 (by decide) c L w' hW) (g_field hop (eval_of h0) (by kernel_rfl)))
  | 11, ho, hL, _ =>
    obtain ⟨hop, hdst, hgd⟩ := tab_at htab ho (show rcm16T[11]? = _ from rfl)
    simp only at hop hgd
    have h0 := frm_at (val := val c) hdis ha 10 82 (hds 10 82 rfl) (by omega) (depl_of hdep 11 10 (by decide) ho hd)
    exact doesX_of (doesL_run ho (wanted_none hgd) (hpure 11 (by decide) c L w' hW) (g_load hop (eval_of h0) (r11 c L w' hW hL (depl_of hdep 11 10 (by decide) ho hd))))
  | 12, ho, hL, _ =>
    obtain ⟨hop, hdst, hgd⟩ := tab_at htab ho (show rcm16T[12]? = _ from rfl)
    simp only at hop hgd
    have h0 := frm_old (val := val c) ha 3 _ (hold 3 rfl) o3
    exact doesX_of (doesL_run ho (wanted_none hgd) (hpure 12 (by decide) c L w' hW) (by rw [run_move _ _ _ hop]; exact congrArg (fun v => Result.ok (Next.value v) w') (eval_of h0)))
  | 13, ho, hL, _ =>
    obtain ⟨hop, hdst, hgd⟩ := tab_at htab ho (show rcm16T[13]? = _ from rfl)
    simp only at hop hgd
    have h0 := frm_at (val := val c) hdis ha 12 84 (hds 12 84 rfl) (by omega) (depl_of hdep 13 12 (by decide) ho hd)
    refine doesX_call ho (wanted_none hgd) 130 #[(S x)] ?_ (r13 c L w' hW hL (depl_of hdep 13 12 (by decide) ho hd))
    rw [run_calls Tryz.func130 (by kernel_rfl) rfl _ _ _ _ hop rfl]
    simp only [List.map_toArray, List.map_cons, List.map_nil, eval_of h0]
    all_goals rfl
  | 14, ho, hL, _ =>
    obtain ⟨hop, hdst, hgd⟩ := tab_at htab ho (show rcm16T[14]? = _ from rfl)
    simp only at hop hgd
    have h0 := frm_at (val := val c) hdis ha 5 77 (hds 5 77 rfl) (by omega) (depl_of hdep 14 5 (by decide) ho hd)
    have h1 := frm_at (val := val c) hdis ha 6 78 (hds 6 78 rfl) (by omega) (depl_of hdep 14 6 (by decide) ho hd)
    have h2 := frm_at (val := val c) hdis ha 11 83 (hds 11 83 rfl) (by omega) (depl_of hdep 14 11 (by decide) ho hd)
    have h3 := frm_at (val := val c) hdis ha 13 85 (hds 13 85 rfl) (by omega) (depl_of hdep 14 13 (by decide) ho hd)
    exact doesX_of (doesL_run ho (wanted_none hgd) (hpure 14 (by decide) c L w' hW) (g_build hop (by simp only [List.map_toArray, List.map_cons, List.map_nil, eval_of h0, eval_of h1, eval_of h2, eval_of h3]; first | done | rfl) (r14 w')))
  | 15, ho, hL, _ =>
    obtain ⟨hop, hdst, hgd⟩ := tab_at htab ho (show rcm16T[15]? = _ from rfl)
    simp only at hop hgd
    obtain ⟨c', W', q0, q1, q2⟩ := r15 c L w' hW hL
    exact doesX_runw ho (wanted_none hgd) c' q0 q2 (g_alloc hop q1)
  | 16, ho, hL, _ =>
    obtain ⟨hop, hdst, hgd⟩ := tab_at htab ho (show rcm16T[16]? = _ from rfl)
    simp only at hop hgd
    have h0 := frm_at (val := val c) hdis ha 15 14 (hds 15 14 rfl) (by omega) (depl_of hdep 16 15 (by decide) ho hd)
    have h1 := frm_at (val := val c) hdis ha 14 86 (hds 14 86 rfl) (by omega) (depl_of hdep 16 14 (by decide) ho hd)
    obtain ⟨W', q1, q2⟩ := r16 c L w' hW hL (depl_of hdep 16 14 (by decide) ho hd) (depl_of hdep 16 15 (by decide) ho hd)
    exact doesX_of (doesL_skp ho (wanted_none hgd) rfl q2 (g_store hop (eval_of h0) (eval_of h1) q1))
  | (i + 17), ho, hL, hi => exact absurd hi (by omega)
end Go.Proofs.YtjopnhhdemfniaaGreatDoor
/- Boxes that a drawn region makes and fills. -/
namespace Go.Proofs.YtjopnhhdemfniaaGreatDoor
open Go.RowKit
theorem upd_self (L : Nat → Bool) (i : Nat) : upd L i i = true := by simp [upd]
theorem upd_ne {L : Nat → Bool} {i j : Nat} (h : j ≠ i) : upd L i j = L j := by simp [upd, h]
theorem lt_of_blk {w : World} {g : Nat} {o : Obj} (h : w.heap[g]? = some o) : g < w.heap.size := (Array.getElem?_eq_some_iff.1 h).1
theorem setRow_row {w : World} {g : Nat} {cs vs : Array Value} {t : TypeId} {f : Nat × Nat} (h : w.heap[g]? = some (.cells cs t f)) : (w.setRow g vs).heap[g]? = some (.cells vs t f) := setRow_heap w g cs vs t f h
theorem setRow_Only (w : World) (g : Nat) (vs : Array Value) : Only (fun k => k = g) w (w.setRow g vs) := ⟨rfl, rfl, rfl, by simp, fun k _ hk => setRow_other w g k vs hk⟩
theorem belowR {B : Nat} {w0 w : World} {g : Nat} (h : Below B w0 w) (hg : B ≤ g) (vs : Array Value) : Below B w0 (w.setRow g vs) :=
  ⟨h.os, h.tape, h.output, by simpa using h.size, fun k hk => (setRow_other w g k vs (by omega)).trans (h.block k hk)⟩
/-- One box: made by the operation ia, filled by is. -/
structure Mk1 (W0 : World) (T : TypeId) (ia is : Nat) (z v : Array Value) (c : Nat) (L : Nat → Bool) (W : World) : Prop where
  bel : Below W0.heap.size W0 W
  box : L ia = true → W0.heap.size ≤ c ∧ W.heap[c]? = some (.cells (if L is = true then v else z) T (0, 0))
  nst : L is = true → L ia = true
variable {W0 W W' : World} {T : TypeId} {ia is : Nat} {z v : Array Value} {c : Nat} {L : Nat → Bool}
theorem Mk1.start (W0 : World) (T : TypeId) (ia is : Nat) (z v : Array Value) (c : Nat) : Mk1 W0 T ia is z v c (fun _ => false) W0.drew :=
  ⟨(Below.refl _ _).drew, (fun q => nomatch q), (fun q => nomatch q)⟩
theorem Mk1.pure (h : Mk1 W0 T ia is z v c L W) {i : Nat} (h1 : i ≠ ia) (h2 : i ≠ is) : Mk1 W0 T ia is z v c (upd L i) W := by
  refine ⟨h.bel, ?_, ?_⟩
  · rw [upd_ne (Ne.symm h1), upd_ne (Ne.symm h2)]; exact h.box
  · rw [upd_ne (Ne.symm h1), upd_ne (Ne.symm h2)]; exact h.nst
theorem Mk1.call (h : Mk1 W0 T ia is z v c L W) (b : Below W.heap.size W W') {i : Nat} (h1 : i ≠ ia) (h2 : i ≠ is) : Mk1 W0 T ia is z v c (upd L i) W' := by
  refine ⟨h.bel.trans (b.mono h.bel.size), ?_, ?_⟩
  · rw [upd_ne (Ne.symm h1), upd_ne (Ne.symm h2)]
    intro q
    obtain ⟨q1, q2⟩ := h.box q
    exact ⟨q1, (b.block _ (lt_of_blk q2)).trans q2⟩
  · rw [upd_ne (Ne.symm h1), upd_ne (Ne.symm h2)]; exact h.nst
theorem Mk1.alloc (h : Mk1 W0 T ia is z v c L W) (hL : L ia = false) (hne : ia ≠ is) : Mk1 W0 T ia is z v W.heap.size (upd L ia) (W.alloc (.cells z T)) := by
  have hs : L is = false := by
    cases q : L is
    · rfl
    · rw [h.nst q] at hL; cases hL
  refine ⟨h.bel.alloc h.bel.size _, ?_, ?_⟩
  · intro _
    rw [upd_ne (Ne.symm hne), hs]
    exact ⟨h.bel.size, heap_alloc_new W _⟩
  · rw [upd_ne (Ne.symm hne), hs]; exact fun q => nomatch q
theorem Mk1.fill (h : Mk1 W0 T ia is z v c L W) (hA : L ia = true) (hne : is ≠ ia) : Mk1 W0 T ia is z v c (upd L is) (W.setRow c v) := by
  obtain ⟨q1, q2⟩ := h.box hA
  refine ⟨belowR h.bel q1 v, ?_, ?_⟩
  · intro _
    rw [upd_self, if_pos rfl]
    exact ⟨q1, setRow_row q2⟩
  · intro _; rw [upd_ne (Ne.symm hne)]; exact hA
/-- The run that fills it. -/
theorem Mk1.runs (h : Mk1 W0 T ia is z v c L W) (hA : L ia = true) (hS : L is = false) {n : Nat} (hs : ∀ w, (sizeOf T).run Tryz.prog w = .ok n w) (x : Value) (hx : x.cells = v) (hn : v.size = n) (hz : z.size = n) (h1 : ∀ y ∈ v.toList, y.oneCell' = true) : (Instr.storeAt T (ptr c) x).run Tryz.prog W = .ok () (W.setRow c v) := by
  obtain ⟨q1, q2⟩ := h.box hA
  rw [hS] at q2
  have e := s_sta hs (o := 0) q2 x (by rw [hx, hn]) (by simp [hz]) (by rw [hx]; exact h1)
  rw [hx] at e
  rw [e]
  have e2 : (List.take 0 z.toList ++ v.toList ++ List.drop (0 + n) z.toList).toArray = v := by
    rw [Nat.zero_add, List.take_zero, List.nil_append, List.drop_of_length_le (by rw [Array.length_toList, hz]; exact Nat.le_refl _), List.append_nil]
  exact congrArg (fun r => Result.ok () (W.setRow c r)) e2
theorem Mk1.done (h : Mk1 W0 T ia is z v c L W) (hA : L ia = true) (hS : L is = true) : W0.heap.size ≤ c ∧ W.heap[c]? = some (.cells v T (0, 0)) := by
  obtain ⟨q1, q2⟩ := h.box hA
  rw [hS, if_pos rfl] at q2
  exact ⟨q1, q2⟩
end Go.Proofs.YtjopnhhdemfniaaGreatDoor
namespace Go.Proofs.YtjopnhhdemfniaaGreatDoor
open Go.RowKit
def vrtr13 (_X n cap g oo nn cc : Nat) (aa : Option Addr) (pp : Array Value) (r : Int) (c : Cav) (i : Nat) : Value := match i with
  | 0 => (.slice aa n cap)
  | 1 => (.agg pp)
  | 2 => (.slice (some ⟨c.a, 0, none⟩) 1 1)
  | 3 => c.v
  | 4 => (.slice (some ⟨g, oo, none⟩) (nn + 1) cc)
  | 5 => (.int .i64 ((nn : Int) + 1))
  | 6 => (.int .i64 (nn : Int))
  | 7 => (.pointer (some ⟨g, oo + nn, none⟩))
  | 8 => (I r)
  | 9 => c.v
  | 10 => (I r)
  | _ => undef
def rtr13T : List (Op × Option Tmp × Option (Nat × Bool)) := [
  (.move (.tmp 8), some 56, none),
  (.load 24 (.tmp 12), some 57, none),
  (.buildSlice 27 1 #[(0, (.tmp 57))], some 58, none),
  (.call { callee := .builtin .append, args := #[(.tmp 56), (.tmp 58)], argTypes := #[27, 27] }, some 59, none),
  (.move (.tmp 0), some 60, none),
  (.move (.tmp 10), some 61, none),
  (.binOp .sub 3 (.tmp 61) (.const (.int .i64 1)) 3, some 62, none),
  (.indexAddr 22 (.tmp 60) (.tmp 62), some 63, none),
  (.load 3 (.tmp 63), some 64, none),
  (.assign (.tmp 59), some 6, none),
  (.assign (.tmp 64), some 7, none)]
def rtr13D : List (Nat × Nat) := [(2, 1), (3, 0), (3, 2), (6, 5), (7, 4), (7, 6), (8, 7), (9, 3), (10, 8)]
set_option maxHeartbeats 4000000 in
theorem rtr13 {ops : Array Oper} {id : Nat} {Q : Exit → Act → World → Prop} (X n cap g oo nn cc : Nat) (aa : Option Addr) (pp : Array Value) (r : Int) (htab : ops.toList.map (fun o => (o.op, o.dst, o.guard)) = rtr13T) (hdep : deplB rtr13D ops = true) (hac : acB ops = true)
    (a0 : Act) (w : World) (hsz : 65 ≤ a0.tmps.size) (o0 : a0.tmps[0]? = some (.slice (some ⟨g, oo, none⟩) (nn + 1) cc)) (o8 : a0.tmps[8]? = some (.slice aa n cap)) (o10 : a0.tmps[10]? = some (.int .i64 ((nn : Int) + 1))) (o12 : a0.tmps[12]? = some (.pointer (some ⟨X, 0, none⟩)))
    (Wd : Cav → (Nat → Bool) → World → Prop) (h0 : ∃ c, Wd c (fun _ => false) w.drew) (hpure : ∀ i, i ∉ ([2, 3, 9] : List Nat) → ∀ c L W, Wd c L W → Wd c (upd L i) W)
    (r1 : ∀ c L W, Wd c L W → L 1 = false → (Instr.loadAt 24 (.pointer (some ⟨X, 0, none⟩))).run Tryz.prog W = .ok (.agg pp) W)
    (r2 : ∀ c L W, Wd c L W → L 2 = false → L 1 = true → ∃ c' W', (∀ j, L j = true → vrtr13 X n cap g oo nn cc aa pp r c' j = vrtr13 X n cap g oo nn cc aa pp r c j) ∧ (Instr.buildSlice 27 1 #[(0, (.agg pp))]).run Tryz.prog W = .ok (vrtr13 X n cap g oo nn cc aa pp r c' 2) W' ∧ Wd c' (upd L 2) W')
    (r3 : ∀ T, ∀ c L W, Wd c L W → L 3 = false → L 0 = true → L 2 = true → ∃ c' W', (∀ j, L j = true → vrtr13 X n cap g oo nn cc aa pp r c' j = vrtr13 X n cap g oo nn cc aa pp r c j) ∧ (Builtin.append_ #[27, 27] T #[(.slice aa n cap), (.slice (some ⟨c.a, 0, none⟩) 1 1)]).run Tryz.prog W = .ok (vrtr13 X n cap g oo nn cc aa pp r c' 3) W' ∧ Wd c' (upd L 3) W')
    (r6 : ∀ W, (do eqGuard .sub 3 (.tmp 61) (.const (.int .i64 1)) (.int .i64 ((nn : Int) + 1)) (.int .i64 1); binOp .sub 3 (.int .i64 ((nn : Int) + 1)) (.int .i64 1)).run Tryz.prog W = .ok (.int .i64 (nn : Int)) W)
    (r7 : ∀ W, (Instr.indexAt 22 (.slice (some ⟨g, oo, none⟩) (nn + 1) cc) (.int .i64 (nn : Int))).run Tryz.prog W = .ok (.pointer (some ⟨g, oo + nn, none⟩)) W)
    (r8 : ∀ c L W, Wd c L W → L 8 = false → L 7 = true → (Instr.loadAt 3 (.pointer (some ⟨g, oo + nn, none⟩))).run Tryz.prog W = .ok (I r) W)
    (r9 : ∀ c L W, Wd c L W → L 9 = false → L 3 = true → Wd c (upd L 9) W)
    (hend : ∀ c L W, (∀ i, i < 11 → L i = true) → Wd c L W → Q .normal (((((((((((a0.put (some 56) (.slice aa n cap)).put (some 57) (.agg pp)).put (some 58) (.slice (some ⟨c.a, 0, none⟩) 1 1)).put (some 59) c.v).put (some 60) (.slice (some ⟨g, oo, none⟩) (nn + 1) cc)).put (some 61) (.int .i64 ((nn : Int) + 1))).put (some 62) (.int .i64 (nn : Int))).put (some 63) (.pointer (some ⟨g, oo + nn, none⟩))).put (some 64) (I r)).put (some 6) c.v).put (some 7) (I r)) W) : (Code.region id ops true).wp Tryz.prog Q a0 w := by
  let val : Cav → Nat → Value := vrtr13 X n cap g oo nn cc aa pp r
  have hosz : ops.size = 11 := by
    have := congrArg List.length htab
    simpa [rtr13T] using this
  have hds : ∀ i s, (rtr13T[i]?).bind (·.2.1) = some s → dstOf ops i = some s := fun i s hi => by rw [tab_dst htab, hi]
  have hdisB : disL rtr13T = true := by rfl
  have hdis := disL_of htab hdisB
  have hold : ∀ s, rtr13T.all (fun x => !(x.2.1 == some s)) = true → (List.range ops.size).all (fun j => !(dstOf ops j == some s)) = true := fun s h => holdL htab s h
  refine region_detX val Wd (hac_of hac) hdis h0 ?_ ?_
  rotate_left
  · intro c L W hall hW
    have := hend c L W (by rw [← hosz]; exact hall) hW
    have e : frm ops a0 (val c) (fun _ => true) ops.size = (((((((((((a0.put (some 56) (.slice aa n cap)).put (some 57) (.agg pp)).put (some 58) (.slice (some ⟨c.a, 0, none⟩) 1 1)).put (some 59) c.v).put (some 60) (.slice (some ⟨g, oo, none⟩) (nn + 1) cc)).put (some 61) (.int .i64 ((nn : Int) + 1))).put (some 62) (.int .i64 (nn : Int))).put (some 63) (.pointer (some ⟨g, oo + nn, none⟩))).put (some 64) (I r)).put (some 6) c.v).put (some 7) (I r)) := by
      rw [hosz]
      simp only [frm, if_true]
      rw [tab_dst htab 0, tab_dst htab 1, tab_dst htab 2, tab_dst htab 3, tab_dst htab 4, tab_dst htab 5, tab_dst htab 6, tab_dst htab 7, tab_dst htab 8, tab_dst htab 9, tab_dst htab 10]
      rfl
    rw [e]
    exact this
  intro i o ho c L a w' hL hd ha hW
  have hi : i < 11 := by rw [← hosz]; exact (Array.getElem?_eq_some_iff.1 ho).1
  match i, ho, hL, hi with
  | 0, ho, hL, _ =>
    obtain ⟨hop, hdst, hgd⟩ := tab_at htab ho (show rtr13T[0]? = _ from rfl)
    simp only at hop hgd
    have h0 := frm_old (val := val c) ha 8 _ (hold 8 rfl) o8
    exact doesX_of (doesL_run ho (wanted_none hgd) (hpure 0 (by decide) c L w' hW) (by rw [run_move _ _ _ hop]; exact congrArg (fun v => Result.ok (Next.value v) w') (eval_of h0)))
  | 1, ho, hL, _ =>
    obtain ⟨hop, hdst, hgd⟩ := tab_at htab ho (show rtr13T[1]? = _ from rfl)
    simp only at hop hgd
    have h0 := frm_old (val := val c) ha 12 _ (hold 12 rfl) o12
    exact doesX_of (doesL_run ho (wanted_none hgd) (hpure 1 (by decide) c L w' hW) (g_load hop (eval_of h0) (r1 c L w' hW hL)))
  | 2, ho, hL, _ =>
    obtain ⟨hop, hdst, hgd⟩ := tab_at htab ho (show rtr13T[2]? = _ from rfl)
    simp only at hop hgd
    have h0 := frm_at (val := val c) hdis ha 1 57 (hds 1 57 rfl) (by omega) (depl_of hdep 2 1 (by decide) ho hd)
    obtain ⟨c', W', q0, q1, q2⟩ := r2 c L w' hW hL (depl_of hdep 2 1 (by decide) ho hd)
    exact doesX_runw ho (wanted_none hgd) c' q0 q2 (g_bs hop (by simp only [List.map_toArray, List.map_cons, List.map_nil, eval_of h0]; first | done | rfl) q1)
  | 3, ho, hL, _ =>
    obtain ⟨hop, hdst, hgd⟩ := tab_at htab ho (show rtr13T[3]? = _ from rfl)
    simp only at hop hgd
    have h0 := frm_at (val := val c) hdis ha 0 56 (hds 0 56 rfl) (by omega) (depl_of hdep 3 0 (by decide) ho hd)
    have h1 := frm_at (val := val c) hdis ha 2 58 (hds 2 58 rfl) (by omega) (depl_of hdep 3 2 (by decide) ho hd)
    obtain ⟨c', W', q0, q1, q2⟩ := r3 _ c L w' hW hL (depl_of hdep 3 0 (by decide) ho hd) (depl_of hdep 3 2 (by decide) ho hd)
    exact doesX_runw ho (wanted_none hgd) c' q0 q2 (g_app hop (eval_of h0) (eval_of h1) q1)
  | 4, ho, hL, _ =>
    obtain ⟨hop, hdst, hgd⟩ := tab_at htab ho (show rtr13T[4]? = _ from rfl)
    simp only at hop hgd
    have h0 := frm_old (val := val c) ha 0 _ (hold 0 rfl) o0
    exact doesX_of (doesL_run ho (wanted_none hgd) (hpure 4 (by decide) c L w' hW) (by rw [run_move _ _ _ hop]; exact congrArg (fun v => Result.ok (Next.value v) w') (eval_of h0)))
  | 5, ho, hL, _ =>
    obtain ⟨hop, hdst, hgd⟩ := tab_at htab ho (show rtr13T[5]? = _ from rfl)
    simp only at hop hgd
    have h0 := frm_old (val := val c) ha 10 _ (hold 10 rfl) o10
    exact doesX_of (doesL_run ho (wanted_none hgd) (hpure 5 (by decide) c L w' hW) (by rw [run_move _ _ _ hop]; exact congrArg (fun v => Result.ok (Next.value v) w') (eval_of h0)))
  | 6, ho, hL, _ =>
    obtain ⟨hop, hdst, hgd⟩ := tab_at htab ho (show rtr13T[6]? = _ from rfl)
    simp only at hop hgd
    have h0 := frm_at (val := val c) hdis ha 5 61 (hds 5 61 rfl) (by omega) (depl_of hdep 6 5 (by decide) ho hd)
    exact doesX_of (doesL_run ho (wanted_none hgd) (hpure 6 (by decide) c L w' hW) (g_bin hop (eval_of h0) rfl (r6 w')))
  | 7, ho, hL, _ =>
    obtain ⟨hop, hdst, hgd⟩ := tab_at htab ho (show rtr13T[7]? = _ from rfl)
    simp only at hop hgd
    have h0 := frm_at (val := val c) hdis ha 4 60 (hds 4 60 rfl) (by omega) (depl_of hdep 7 4 (by decide) ho hd)
    have h1 := frm_at (val := val c) hdis ha 6 62 (hds 6 62 rfl) (by omega) (depl_of hdep 7 6 (by decide) ho hd)
    exact doesX_of (doesL_run ho (wanted_none hgd) (hpure 7 (by decide) c L w' hW) (g_ixa hop (eval_of h0) (eval_of h1) (r7 w')))
  | 8, ho, hL, _ =>
    obtain ⟨hop, hdst, hgd⟩ := tab_at htab ho (show rtr13T[8]? = _ from rfl)
    simp only at hop hgd
    have h0 := frm_at (val := val c) hdis ha 7 63 (hds 7 63 rfl) (by omega) (depl_of hdep 8 7 (by decide) ho hd)
    exact doesX_of (doesL_run ho (wanted_none hgd) (hpure 8 (by decide) c L w' hW) (g_load hop (eval_of h0) (r8 c L w' hW hL (depl_of hdep 8 7 (by decide) ho hd))))
  | 9, ho, hL, _ =>
    obtain ⟨hop, hdst, hgd⟩ := tab_at htab ho (show rtr13T[9]? = _ from rfl)
    simp only at hop hgd
    have h0 := frm_at (val := val c) hdis ha 3 59 (hds 3 59 rfl) (by omega) (depl_of hdep 9 3 (by decide) ho hd)
    exact doesX_of (doesL_run ho (wanted_none hgd) (r9 c L w' hW hL (depl_of hdep 9 3 (by decide) ho hd)) (by rw [run_assign _ _ _ hop]; exact congrArg (fun v => Result.ok (Next.value v) w') (eval_of h0)))
  | 10, ho, hL, _ =>
    obtain ⟨hop, hdst, hgd⟩ := tab_at htab ho (show rtr13T[10]? = _ from rfl)
    simp only at hop hgd
    have h0 := frm_at (val := val c) hdis ha 8 64 (hds 8 64 rfl) (by omega) (depl_of hdep 10 8 (by decide) ho hd)
    exact doesX_of (doesL_run ho (wanted_none hgd) (hpure 10 (by decide) c L w' hW) (by rw [run_assign _ _ _ hop]; exact congrArg (fun v => Result.ok (Next.value v) w') (eval_of h0)))
  | (i + 11), ho, hL, hi => exact absurd hi (by omega)
end Go.Proofs.YtjopnhhdemfniaaGreatDoor
