import Derived.Test.YtjopnhhdemfniaaGreatDoorZinv
import Derived.Test.YtjopnhhdemfniaaGreatDoorZdsa
import Derived.Conc.MuLone
import Derived.Laws.Tables
namespace Go.Proofs.YtjopnhhdemfniaaGreatDoor
open Go.RowKit
theorem tab_at {ops : Array Oper} {l : List (Op × Option Tmp × Option (Nat × Bool))} (h : ops.toList.map (fun o => (o.op, o.dst, o.guard)) = l) {i : Nat} {o : Oper} (ho : ops[i]? = some o) {x : Op × Option Tmp × Option (Nat × Bool)} (hx : l[i]? = some x) : o.op = x.1 ∧ o.dst = x.2.1 ∧ o.guard = x.2.2 := by
  rw [← h, List.getElem?_map] at hx
  have : ops.toList[i]? = some o := by simpa using ho
  rw [this] at hx
  have := Option.some.inj hx
  rw [← this]
  exact ⟨rfl, rfl, rfl⟩
theorem tab_dst {ops : Array Oper} {l : List (Op × Option Tmp × Option (Nat × Bool))} (h : ops.toList.map (fun o => (o.op, o.dst, o.guard)) = l) (i : Nat) : dstOf ops i = (l[i]?).bind (·.2.1) := by
  rw [← h, List.getElem?_map]
  unfold dstOf
  have : ops.toList[i]? = ops[i]? := by simp
  rw [this]
  cases ops[i]? <;> rfl
theorem run_move (ρ : Operand → Value) (o : Oper) (x : Operand) (ho : o.op = .move x) (P : Program) (w : World) : (execOp ρ o).run P w = .ok (.value (ρ x)) w := by
  unfold execOp
  simp only [ho]
  rfl
variable {ops : Array Oper} {Q : Exit → Act → World → Prop}
def DoesL (ops : Array Oper) (Q : Exit → Act → World → Prop) (Wd : (Nat → Bool) → World → Prop) (val : Nat → Value) (i : Nat) (L : Nat → Bool) (a : Act) (w : World) : Prop :=
  wpOp Tryz.prog ops Q i (fun a' w' => a' = a.put (dstOf ops i) (val i) ∧ Wd (upd L i) w') a w
variable {Wd : (Nat → Bool) → World → Prop} {val : Nat → Value} {i : Nat} {L : Nat → Bool} {o : Oper} {a : Act} {w : World}
theorem doesL_run (ho : ops[i]? = some o) (hw : Region.wanted o (yielded ops a.tmps) = true) (hW : Wd (upd L i) w)
    (hr : (execOp a.eval o).run Tryz.prog w = .ok (.value (val i)) w) : DoesL ops Q Wd val i L a w := by
  unfold DoesL wpOp
  simp only [ho]
  rw [if_pos hw]
  left
  unfold Oper.wp
  rw [hr, Oper.upon_value]
  refine ⟨?_, hW⟩
  simp [dstOf, ho]
theorem run_assign (ρ : Operand → Value) (o : Oper) (x : Operand) (ho : o.op = .assign x) (w : World) : (execOp ρ o).run Tryz.prog w = .ok (.value (ρ x)) w := by
  unfold execOp
  simp only [ho]
  rfl
theorem run_calls {f : FuncId} {fn : Func} {c : Code} (hf : Tryz.prog.funcs[f]? = some fn) (hname : (fn.name == "runtime.NumGoroutine") = false) (hb : fn.body = some c) (ρ : Operand → Value) (o : Oper) (xs : Array Operand) (ty : Array TypeId) (ho : o.op = .call { callee := .value (.func f), args := xs, argTypes := ty }) (hfn : ρ (.func f) = .func (.func f) #[] #[]) (w : World) : (execOp ρ o).run Tryz.prog w = .ok (.enter f (xs.map ρ)) w := by
  unfold execOp
  simp only [ho, resolve, hfn]
  have := Go.MuLone.run_callFunc_enter (P := Tryz.prog) hf hname hb (xs.map ρ) w
  simp [Deferred.ofValue, invoke, this]
theorem run_nil (ρ : Operand → Value) (o : Oper) (x : Operand) (ho : o.op = .nilCheck x) (p : Addr) (hx : ρ x = .pointer (some p)) (w : World) : (execOp ρ o).run Tryz.prog w = .ok (.value (.pointer (some p))) w := by
  unfold execOp
  simp only [ho, hx]
  rfl
def deplB (l : List (Nat × Nat)) (ops : Array Oper) : Bool := l.all fun x => match ops[x.1]? with | some o => o.after.toList.any (fun e => Region.binds .any e && e.on == x.2) | none => false
theorem depl_of {l : List (Nat × Nat)} {ops : Array Oper} (h : deplB l ops = true) (i j : Nat) (hm : (i, j) ∈ l) {o : Oper} (ho : ops[i]? = some o) {L : Nat → Bool} (hd : ∀ e ∈ o.after, Region.binds .any e = true → L e.on = true) : L j = true := by
  have h1 := List.all_eq_true.1 h (i, j) hm
  simp only [ho] at h1
  obtain ⟨e, he, q⟩ := List.any_eq_true.1 h1
  rw [Bool.and_eq_true] at q
  have := hd e (by simpa using he) q.1
  rw [beq_iff_eq.1 q.2] at this
  exact this
def disL (T : List (Op × Option Tmp × Option (Nat × Bool))) : Bool := (List.range T.length).all fun i => (List.range T.length).all fun j => i == j || ((T[j]?).bind (·.2.1)).isNone || !((T[j]?).bind (·.2.1) == (T[i]?).bind (·.2.1))
theorem disL_of {T : List (Op × Option Tmp × Option (Nat × Bool))} {ops : Array Oper} (htab : ops.toList.map (fun o => (o.op, o.dst, o.guard)) = T) (h : disL T = true) : ∀ i j, j ≠ i → dstOf ops j ≠ dstOf ops i ∨ dstOf ops j = none := by
  intro i j hne
  rw [tab_dst htab, tab_dst htab]
  by_cases hj : j < T.length
  · by_cases hi : i < T.length
    · have h1 := List.all_eq_true.1 (List.all_eq_true.1 h i (List.mem_range.2 hi)) j (List.mem_range.2 hj)
      simp only [Bool.or_eq_true, beq_iff_eq, Option.isNone_iff_eq_none, Bool.not_eq_true', beq_eq_false_iff_ne, ne_eq] at h1
      rcases h1 with (h1 | h1) | h1
      · exact absurd h1.symm hne
      · exact .inr h1
      · exact .inl h1
    · rw [List.getElem?_eq_none (Nat.le_of_not_lt hi)]
      cases q : (T[j]?).bind (·.2.1) with
      | none => exact .inr rfl
      | some x => exact .inl (by simp)
  · right
    rw [List.getElem?_eq_none (Nat.le_of_not_lt hj)]
    rfl
theorem holdL {T : List (Op × Option Tmp × Option (Nat × Bool))} {ops : Array Oper} (htab : ops.toList.map (fun o => (o.op, o.dst, o.guard)) = T) (s : Nat) (h : T.all (fun x => !(x.2.1 == some s)) = true) : (List.range ops.size).all (fun j => !(dstOf ops j == some s)) = true := by
  rw [List.all_eq_true]
  intro j hj
  rw [tab_dst htab]
  cases q : T[j]? with
  | none => rfl
  | some x =>
    have := List.all_eq_true.1 h x (List.mem_of_getElem? q)
    exact this
theorem frm_late {ops : Array Oper} (a0 : Act) (val : Nat → Value) (L : Nat → Bool) (s m : Nat) (hm : L m = false) : ∀ n, (∀ j, j ≠ m → dstOf ops j ≠ some s) → (frm ops a0 val L n).tmps[s]? = a0.tmps[s]? := by
  intro n
  induction n with
  | zero => intro _; rfl
  | succ n ih =>
    intro h
    simp only [frm]
    split
    · rename_i hn
      rw [put_get_ne _ _ _ _ (h n (fun e => by rw [e, hm] at hn; cases hn))]
      exact ih h
    · exact ih h
def lateB (T : List (Op × Option Tmp × Option (Nat × Bool))) (s m : Nat) : Bool := (List.range T.length).all fun j => j == m || !((T[j]?).bind (·.2.1) == some s)
theorem late_of {T : List (Op × Option Tmp × Option (Nat × Bool))} {ops : Array Oper} (htab : ops.toList.map (fun o => (o.op, o.dst, o.guard)) = T) {s m : Nat} (h : lateB T s m = true) (j : Nat) (hj : j ≠ m) : dstOf ops j ≠ some s := by
  rw [tab_dst htab]
  by_cases hl : j < T.length
  · have := List.all_eq_true.1 h j (List.mem_range.2 hl)
    simp only [Bool.or_eq_true, beq_iff_eq, Bool.not_eq_true', beq_eq_false_iff_ne] at this
    exact this.resolve_left hj
  · rw [List.getElem?_eq_none (by omega)]
    simp
theorem put_none (a : Act) (v : Value) : a.put none v = a := rfl
theorem doesL_runw {ops : Array Oper} {Q : Exit → Act → World → Prop} {Wd : (Nat → Bool) → World → Prop} {val : Nat → Value} {i : Nat} {L : Nat → Bool} {o : Oper} {a : Act} {w w' : World} (ho : ops[i]? = some o) (hw : Region.wanted o (yielded ops a.tmps) = true) (hW : Wd (upd L i) w')
    (hr : (execOp a.eval o).run Tryz.prog w = .ok (.value (val i)) w') : DoesL ops Q Wd val i L a w := by
  unfold DoesL wpOp
  simp only [ho]
  rw [if_pos hw]
  left
  unfold Oper.wp
  rw [hr, Oper.upon_value]
  refine ⟨?_, hW⟩
  simp [dstOf, ho]
theorem doesL_skp {ops : Array Oper} {Q : Exit → Act → World → Prop} {Wd : (Nat → Bool) → World → Prop} {val : Nat → Value} {i : Nat} {L : Nat → Bool} {o : Oper} {a : Act} {w w' : World} (ho : ops[i]? = some o) (hw : Region.wanted o (yielded ops a.tmps) = true) (hv : val i = undef) (hW : Wd (upd L i) w')
    (hr : (execOp a.eval o).run Tryz.prog w = .ok .skip w') : DoesL ops Q Wd val i L a w := by
  unfold DoesL wpOp
  simp only [ho]
  rw [if_pos hw]
  left
  unfold Oper.wp
  rw [hr, Oper.upon_skip]
  refine ⟨?_, hW⟩
  simp [dstOf, ho, hv]
theorem run_app (ρ : Operand → Value) (o : Oper) (s x : Operand) (T : TypeId) (ho : o.op = .call { callee := .builtin .append, args := #[s, x], argTypes := #[T, T] }) (v u r : Value) (hs : ρ s = v) (hx : ρ x = u) (w w' : World) (hr : (Builtin.append_ #[T, T] o.type #[v, u]).run Tryz.prog w = .ok r w') : (execOp ρ o).run Tryz.prog w = .ok (.value r) w' := by
  unfold execOp
  simp only [ho, resolve, invoke, builtin, Sem.run_bind, Sem.run_pure, Result.andThen_ok, List.map_toArray, List.map_cons, List.map_nil, hs, hx, hr]
end Go.Proofs.YtjopnhhdemfniaaGreatDoor
/- A region that draws its order, some of whose values come up only as it goes: what is chosen so far is carried. -/
namespace Go.Proofs.YtjopnhhdemfniaaGreatDoor
open Go.RowKit
variable {C : Type} {ops : Array Oper} {Q : Exit → Act → World → Prop}
def DoesX (ops : Array Oper) (Q : Exit → Act → World → Prop) (Wd : C → (Nat → Bool) → World → Prop) (val : C → Nat → Value) (i : Nat) (L : Nat → Bool) (c : C) (a : Act) (w : World) : Prop :=
  wpOp Tryz.prog ops Q i (fun a' w' => ∃ c', (∀ j, L j = true → val c' j = val c j) ∧ a' = a.put (dstOf ops i) (val c' i) ∧ Wd c' (upd L i) w') a w
theorem doesX_of {Wd : C → (Nat → Bool) → World → Prop} {val : C → Nat → Value} {i : Nat} {L : Nat → Bool} {c : C} {a : Act} {w : World} (h : DoesL ops Q (Wd c) (val c) i L a w) : DoesX ops Q Wd val i L c a w := by
  unfold DoesX
  refine wpOp_mono ?_ h
  rintro a' w' ⟨rfl, hw⟩
  exact ⟨c, fun _ _ => rfl, rfl, hw⟩
theorem doesX_call {Wd : C → (Nat → Bool) → World → Prop} {val : C → Nat → Value} {i : Nat} {L : Nat → Bool} {c : C} {o : Oper} {a : Act} {w : World} (ho : ops[i]? = some o) (hw : Region.wanted o (yielded ops a.tmps) = true) (f : FuncId) (args : Array Value)
    (hr : (execOp a.eval o).run Tryz.prog w = .ok (.enter f args) w) (hc : Calls Tryz.prog f args w fun e w' => ∃ c', (∀ j, L j = true → val c' j = val c j) ∧ e = .returned (val c' i) ∧ Wd c' (upd L i) w') : DoesX ops Q Wd val i L c a w := by
  unfold DoesX wpOp
  simp only [ho]
  rw [if_pos hw]
  left
  unfold Oper.wp
  rw [hr, Oper.upon_enter]
  refine hc.mono ?_
  rintro e w' ⟨c', h1, rfl, hW⟩
  refine ⟨c', h1, ?_, hW⟩
  simp [dstOf, ho]
theorem frm_congr {a0 : Act} {v v' : Nat → Value} {L : Nat → Bool} (h : ∀ j, L j = true → v' j = v j) : ∀ n, frm ops a0 v' L n = frm ops a0 v L n := by
  intro n
  induction n with
  | zero => rfl
  | succ n ih =>
    simp only [frm]
    split
    · rename_i hn
      rw [ih, h n hn]
    · exact ih
theorem region_detX {id : Nat} {a0 : Act} {w : World} (val : C → Nat → Value) (Wd : C → (Nat → Bool) → World → Prop)
    (hac : ∀ i o, ops[i]? = some o → ∀ e ∈ o.after, Region.binds .any e = true → e.on < i)
    (hdis : ∀ i j, j ≠ i → dstOf ops j ≠ dstOf ops i ∨ dstOf ops j = none)
    (h0 : ∃ c, Wd c (fun _ => false) w.drew)
    (hstep : ∀ i o, ops[i]? = some o → ∀ c L a w, L i = false → (∀ e ∈ o.after, Region.binds .any e = true → L e.on = true) → a = frm ops a0 (val c) L ops.size → Wd c L w → DoesX ops Q Wd val i L c a w)
    (hend : ∀ c L w, (∀ i, i < ops.size → L i = true) → Wd c L w → Q .normal (frm ops a0 (val c) (fun _ => true) ops.size) w) : (Code.region id ops true).wp Tryz.prog Q a0 w := by
  refine region_inv (by kernel_rfl) (fun L a w => ∃ c, a = frm ops a0 (val c) L ops.size ∧ Wd c L w) hac ?_ ?_ ?_
  · obtain ⟨c, h0⟩ := h0
    refine ⟨c, ?_, h0⟩
    have : ∀ n, frm ops a0 (val c) (fun _ => false) n = a0 := by
      intro n
      induction n with
      | zero => rfl
      | succ n ih => simpa [frm] using ih
    exact (this _).symm
  · intro L a w i o ho hL hdep ⟨c, ha, hw⟩
    refine wpOp_mono ?_ (hstep i o ho c L a w hL hdep ha hw)
    rintro a' w' ⟨c', h1, rfl, hw'⟩
    refine ⟨c', ?_, hw'⟩
    rw [frm_upd a0 (val c') L i hL (fun j hj => hdis i j hj), if_pos (Array.getElem?_eq_some_iff.1 ho).1, ha, frm_congr h1]
  · intro L a w hall ⟨c, ha, hw⟩
    have : ∀ n, n ≤ ops.size → frm ops a0 (val c) L n = frm ops a0 (val c) (fun _ => true) n := by
      intro n
      induction n with
      | zero => intro _; rfl
      | succ n ih => intro h; simp only [frm]; rw [hall n (by omega), ih (by omega)]; simp
    rw [ha, this _ (Nat.le_refl _)]
    exact hend c L w hall hw
end Go.Proofs.YtjopnhhdemfniaaGreatDoor
/- What an operation of a drawn region comes to, told by what its sentence in the model's words comes to. -/
namespace Go.Proofs.YtjopnhhdemfniaaGreatDoor
open Go.RowKit
theorem doesX_runw {C : Type} {ops : Array Oper} {Q : Exit → Act → World → Prop} {Wd : C → (Nat → Bool) → World → Prop} {val : C → Nat → Value} {i : Nat} {L : Nat → Bool} {c : C} {o : Oper} {a : Act} {w w' : World} (ho : ops[i]? = some o) (hw : Region.wanted o (yielded ops a.tmps) = true) (c' : C) (hv : ∀ j, L j = true → val c' j = val c j) (hW : Wd c' (upd L i) w')
    (hr : (execOp a.eval o).run Tryz.prog w = .ok (.value (val c' i)) w') : DoesX ops Q Wd val i L c a w := by
  have h := doesL_runw (Q := Q) (val := val c') (Wd := Wd c') ho hw hW hr
  unfold DoesL at h
  unfold DoesX
  refine wpOp_mono ?_ h
  rintro a' w2 ⟨rfl, h2⟩
  exact ⟨c', hv, rfl, h2⟩
variable {ρ : Operand → Value} {o : Oper} {w w' : World} {r : Value}
theorem g_load {t : TypeId} {a : Operand} {va : Value} (ho : o.op = .load t a) (ha : ρ a = va) (hr : (Instr.loadAt t va).run Tryz.prog w = .ok r w') : (execOp ρ o).run Tryz.prog w = .ok (.value r) w' := by
  unfold execOp
  simp only [ho, ha, Sem.run_bind, hr, Result.andThen_ok, Sem.run_pure]
theorem g_store {t : TypeId} {a x : Operand} {va vx : Value} (ho : o.op = .store t a x) (ha : ρ a = va) (hx : ρ x = vx) (hr : (Instr.storeAt t va vx).run Tryz.prog w = .ok () w') : (execOp ρ o).run Tryz.prog w = .ok .skip w' := by
  unfold execOp
  simp only [ho, ha, hx, Sem.run_bind, hr, Result.andThen_ok, Sem.run_pure]
theorem g_alloc {t : TypeId} (ho : o.op = .alloc t) (hr : (Instr.alloc t true (.tuple #[])).run Tryz.prog w = .ok r w') : (execOp ρ o).run Tryz.prog w = .ok (.value r) w' := by
  unfold execOp
  simp only [ho, Sem.run_bind, hr, Result.andThen_ok, Sem.run_pure]
theorem g_bin {p : BinOp} {t u : TypeId} {x y : Operand} {vx vy : Value} (ho : o.op = .binOp p t x y u) (hx : ρ x = vx) (hy : ρ y = vy) (hr : (do eqGuard p t x y vx vy; binOp p t vx vy : Sem Value).run Tryz.prog w = .ok r w') : (execOp ρ o).run Tryz.prog w = .ok (.value r) w' := by
  unfold execOp
  simp only [ho, hx, hy]
  rw [Sem.run_bind, hr, Result.andThen_ok, Sem.run_pure]
theorem g_conv {s t : TypeId} {x : Operand} {vx : Value} (ho : o.op = .convert s t x) (hx : ρ x = vx) (hr : (convert s t vx).run Tryz.prog w = .ok r w') : (execOp ρ o).run Tryz.prog w = .ok (.value r) w' := by
  unfold execOp
  simp only [ho, hx, Sem.run_bind, hr, Result.andThen_ok, Sem.run_pure]
theorem g_field {t : TypeId} {j : Nat} {x : Operand} {vx : Value} (ho : o.op = .fieldAddr t x j) (hx : ρ x = vx) (hr : (Instr.fieldAt t vx j).run Tryz.prog w = .ok r w') : (execOp ρ o).run Tryz.prog w = .ok (.value r) w' := by
  unfold execOp
  simp only [ho, hx, Sem.run_bind, hr, Result.andThen_ok, Sem.run_pure]
theorem g_ixa {t : TypeId} {x y : Operand} {vx vy : Value} (ho : o.op = .indexAddr t x y) (hx : ρ x = vx) (hy : ρ y = vy) (hr : (Instr.indexAt t vx vy).run Tryz.prog w = .ok r w') : (execOp ρ o).run Tryz.prog w = .ok (.value r) w' := by
  unfold execOp
  simp only [ho, hx, hy, Sem.run_bind, hr, Result.andThen_ok, Sem.run_pure]
theorem g_sl {t : TypeId} {x : Operand} {lo hi mx : Option Operand} {vx : Value} {vl vh vm : Option Value} (ho : o.op = .slice t x lo hi mx) (hx : ρ x = vx) (hl : lo.map ρ = vl) (hh : hi.map ρ = vh) (hm : mx.map ρ = vm) (hr : (Instr.sliceAt t vx vl vh vm).run Tryz.prog w = .ok r w') : (execOp ρ o).run Tryz.prog w = .ok (.value r) w' := by
  unfold execOp
  simp only [ho, hx, hl, hh, hm, Sem.run_bind, hr, Result.andThen_ok, Sem.run_pure]
theorem g_build {t : TypeId} {ps : Array (Nat × Operand)} {vs : Array (Nat × Value)} (ho : o.op = .build t ps) (hp : (ps.map fun (i, x) => (i, ρ x)) = vs) (hr : (Instr.build t vs).run Tryz.prog w = .ok r w') : (execOp ρ o).run Tryz.prog w = .ok (.value r) w' := by
  unfold execOp
  simp only [ho, hp, Sem.run_bind, hr, Result.andThen_ok, Sem.run_pure]
theorem g_bs {t : TypeId} {n : Nat} {ps : Array (Nat × Operand)} {vs : Array (Nat × Value)} (ho : o.op = .buildSlice t n ps) (hp : (ps.map fun (i, x) => (i, ρ x)) = vs) (hr : (Instr.buildSlice t n vs).run Tryz.prog w = .ok r w') : (execOp ρ o).run Tryz.prog w = .ok (.value r) w' := by
  unfold execOp
  simp only [ho, hp, Sem.run_bind, hr, Result.andThen_ok, Sem.run_pure]
theorem g_app {s x : Operand} {T : TypeId} {v u : Value} (ho : o.op = .call { callee := .builtin .append, args := #[s, x], argTypes := #[T, T] }) (hs : ρ s = v) (hx : ρ x = u) (hr : (Builtin.append_ #[T, T] o.type #[v, u]).run Tryz.prog w = .ok r w') : (execOp ρ o).run Tryz.prog w = .ok (.value r) w' :=
  run_app ρ o s x T ho v u r hs hx w w' hr
end Go.Proofs.YtjopnhhdemfniaaGreatDoor
/- What the sentences of operations come to: loads, stores, allocs, texts. -/
namespace Go.Proofs.YtjopnhhdemfniaaGreatDoor
open Go.RowKit
variable {w : World}
theorem s_ld {T : TypeId} (hA : ∀ w, (isAgg T).run Tryz.prog w = .ok false w) {p : Addr} {v : Value} (h : w.cell? p = some v) : (Instr.loadAt T (.pointer (some p))).run Tryz.prog w = .ok v w := by
  simp [Instr.loadAt, go_sem, h, hA]
theorem s_lda {T : TypeId} {n : Nat} (hA : ∀ w, (isAgg T).run Tryz.prog w = .ok true w) (hs : ∀ w, (sizeOf T).run Tryz.prog w = .ok n w) {g o : Nat} (cs : List Value) (hn : cs.length = n) (h : ∀ j v, cs[j]? = some v → w.cell? ⟨g, o + j, none⟩ = some v) : (Instr.loadAt T (.pointer (some ⟨g, o, none⟩))).run Tryz.prog w = .ok (.agg cs.toArray) w := by
  have hl := run_loadCells_list (P := Tryz.prog) w ⟨g, o, none⟩ cs (fun j v hv => by
    have q := h j v hv
    by_cases hj : j = 0
    · subst hj; simpa [Addr.add] using q
    · simpa [Addr.add, hj] using q)
  rw [hn] at hl
  simp [Instr.loadAt, Instr.sureAddr, loadVar, hA, hs, hl, Result.andThen]
/-- The same, of a row that stands in memory. -/
theorem s_ldr {T : TypeId} {n : Nat} (hA : ∀ w, (isAgg T).run Tryz.prog w = .ok true w) (hs : ∀ w, (sizeOf T).run Tryz.prog w = .ok n w) {g o : Nat} {cur : Array Value} {t : TypeId} {f : Nat × Nat} (hg : w.heap[g]? = some (.cells cur t f)) (cs : List Value) (hn : cs.length = n) (h : (cur.toList.drop o).take n = cs) : (Instr.loadAt T (.pointer (some ⟨g, o, none⟩))).run Tryz.prog w = .ok (.agg cs.toArray) w := by
  refine s_lda hA hs cs hn ?_
  intro j v hj
  have hc := cell_of_row w g (o + j) cur t f hg
  rw [hc]
  have hlt : j < n := by rw [← hn]; exact (List.getElem?_eq_some_iff.1 hj).1
  rw [← h, List.getElem?_take, if_pos hlt, List.getElem?_drop] at hj
  simpa using hj
theorem s_sta {T : TypeId} {n : Nat} (hs : ∀ w, (sizeOf T).run Tryz.prog w = .ok n w) {g o : Nat} {cur : Array Value} {t : TypeId} (hg : w.heap[g]? = some (.cells cur t (0, 0))) (v : Value) (hn : v.cells.size = n) (hle : o + n ≤ cur.size) (h1 : ∀ x ∈ v.cells.toList, x.oneCell' = true) : (Instr.storeAt T (.pointer (some ⟨g, o, none⟩)) v).run Tryz.prog w = .ok () (w.setRow g (cur.toList.take o ++ v.cells.toList ++ cur.toList.drop (o + n)).toArray) := by
  have hst := run_storeCells_at Tryz.prog g o t v.cells.toList 0 cur w hg (by simp [hn]; omega) h1
  simp only [Nat.add_zero, Array.length_toList, hn] at hst
  simp [Instr.storeAt, Instr.sureAddr, storeVar, hs, hn, hst, Result.andThen]
theorem s_al {T : TypeId} {z : Value} (hz : ∀ w, (zeroValue T).run Tryz.prog w = .ok z w) : (Instr.alloc T true (.tuple #[])).run Tryz.prog w = .ok (ptr w.heap.size) (w.alloc (.cells z.cells T)) := by
  simp [go_sem, Instr.alloc, hz]
end Go.Proofs.YtjopnhhdemfniaaGreatDoor
namespace Go.Proofs.YtjopnhhdemfniaaGreatDoor
open Go.RowKit
structure Cav where
  a : Nat
  v : Value
end Go.Proofs.YtjopnhhdemfniaaGreatDoor
namespace Go.Proofs.YtjopnhhdemfniaaGreatDoor
open Go.RowKit
def vrlf6 (_X n cap : Nat) (aa : Option Addr) (m cc k1 : Int) (x : Bs) (_c : Unit) (i : Nat) : Value := match i with
  | 0 => (I cc)
  | 1 => (I k1)
  | 2 => (I (1 + k1))
  | 3 => (I m)
  | 4 => (.slice aa n cap)
  | 5 => (S x)
  | 6 => (.agg #[I (1 + k1), I m, I 0, .slice none 0 0, S x])
  | 7 => undef
  | _ => undef
def rlf6T : List (Op × Option Tmp × Option (Nat × Bool)) := [
  (.move (.tmp 1), some 23, none),
  (.call { callee := .value (.func 18), args := #[(.tmp 23), (.const (.int .i64 3))], argTypes := #[3, 3] }, some 24, none),
  (.binOp .add 3 (.const (.int .i64 1)) (.tmp 24) 3, some 25, none),
  (.move (.tmp 0), some 26, none),
  (.move (.tmp 5), some 27, none),
  (.convert 117 9 (.tmp 27), some 28, none),
  (.build 24 #[(0, (.tmp 25)), (1, (.tmp 26)), (4, (.tmp 28))], some 29, none),
  (.store 24 (.tmp 4) (.tmp 29), none, none)]
def rlf6D : List (Nat × Nat) := [(1, 0), (2, 1), (5, 4), (6, 2), (6, 3), (6, 5), (7, 6)]
set_option maxHeartbeats 4000000 in
theorem rlf6 {ops : Array Oper} {id : Nat} {Q : Exit → Act → World → Prop} (X n cap : Nat) (aa : Option Addr) (m cc k1 : Int) (x : Bs) (htab : ops.toList.map (fun o => (o.op, o.dst, o.guard)) = rlf6T) (hdep : deplB rlf6D ops = true) (hac : acB ops = true)
    (a0 : Act) (w : World) (hsz : 30 ≤ a0.tmps.size) (o0 : a0.tmps[0]? = some (I m)) (o1 : a0.tmps[1]? = some (I cc)) (o4 : a0.tmps[4]? = some (.pointer (some ⟨X, 0, none⟩))) (o5 : a0.tmps[5]? = some (.slice aa n cap))
    (Wd : Unit → (Nat → Bool) → World → Prop) (h0 : ∃ c, Wd c (fun _ => false) w.drew) (hpure : ∀ i, i ∉ ([1, 7] : List Nat) → ∀ c L W, Wd c L W → Wd c (upd L i) W)
    (r1 : ∀ c L W, Wd c L W → L 1 = false → L 0 = true → Calls Tryz.prog 18 #[(I cc), (.int .i64 3)] W fun eg w' => ∃ c', (∀ j, L j = true → vrlf6 X n cap aa m cc k1 x c' j = vrlf6 X n cap aa m cc k1 x c j) ∧ eg = .returned (vrlf6 X n cap aa m cc k1 x c' 1) ∧ Wd c' (upd L 1) w')
    (r2 : ∀ W, (do eqGuard .add 3 (.const (.int .i64 1)) (.tmp 24) (.int .i64 1) (I k1); binOp .add 3 (.int .i64 1) (I k1)).run Tryz.prog W = .ok (I (1 + k1)) W)
    (r5 : ∀ c L W, Wd c L W → L 5 = false → L 4 = true → (convert 117 9 (.slice aa n cap)).run Tryz.prog W = .ok (S x) W)
    (r6 : ∀ W, (Instr.build 24 #[(0, (I (1 + k1))), (1, (I m)), (4, (S x))]).run Tryz.prog W = .ok (.agg #[I (1 + k1), I m, I 0, .slice none 0 0, S x]) W)
    (r7 : ∀ c L W, Wd c L W → L 7 = false → L 6 = true → ∃ W', (Instr.storeAt 24 (.pointer (some ⟨X, 0, none⟩)) (.agg #[I (1 + k1), I m, I 0, .slice none 0 0, S x])).run Tryz.prog W = .ok () W' ∧ Wd c (upd L 7) W')
    (hend : ∀ c L W, (∀ i, i < 8 → L i = true) → Wd c L W → Q .normal (((((((a0.put (some 23) (I cc)).put (some 24) (I k1)).put (some 25) (I (1 + k1))).put (some 26) (I m)).put (some 27) (.slice aa n cap)).put (some 28) (S x)).put (some 29) (.agg #[I (1 + k1), I m, I 0, .slice none 0 0, S x])) W) : (Code.region id ops true).wp Tryz.prog Q a0 w := by
  let val : Unit → Nat → Value := vrlf6 X n cap aa m cc k1 x
  have hosz : ops.size = 8 := by
    have := congrArg List.length htab
    simpa [rlf6T] using this
  have hds : ∀ i s, (rlf6T[i]?).bind (·.2.1) = some s → dstOf ops i = some s := fun i s hi => by rw [tab_dst htab, hi]
  have hdisB : disL rlf6T = true := by rfl
  have hdis := disL_of htab hdisB
  have hold : ∀ s, rlf6T.all (fun x => !(x.2.1 == some s)) = true → (List.range ops.size).all (fun j => !(dstOf ops j == some s)) = true := fun s h => holdL htab s h
  refine region_detX val Wd (hac_of hac) hdis h0 ?_ ?_
  rotate_left
  · intro c L W hall hW
    have := hend c L W (by rw [← hosz]; exact hall) hW
    have e : frm ops a0 (val c) (fun _ => true) ops.size = (((((((a0.put (some 23) (I cc)).put (some 24) (I k1)).put (some 25) (I (1 + k1))).put (some 26) (I m)).put (some 27) (.slice aa n cap)).put (some 28) (S x)).put (some 29) (.agg #[I (1 + k1), I m, I 0, .slice none 0 0, S x])) := by
      rw [hosz]
      simp only [frm, if_true]
      rw [tab_dst htab 0, tab_dst htab 1, tab_dst htab 2, tab_dst htab 3, tab_dst htab 4, tab_dst htab 5, tab_dst htab 6, (show dstOf ops 7 = none from (tab_dst htab 7).trans rfl), put_none]
      rfl
    rw [e]
    exact this
  intro i o ho c L a w' hL hd ha hW
  have hi : i < 8 := by rw [← hosz]; exact (Array.getElem?_eq_some_iff.1 ho).1
  match i, ho, hL, hi with
  | 0, ho, hL, _ =>
    obtain ⟨hop, hdst, hgd⟩ := tab_at htab ho (show rlf6T[0]? = _ from rfl)
    simp only at hop hgd
    have h0 := frm_old (val := val c) ha 1 _ (hold 1 rfl) o1
    exact doesX_of (doesL_run ho (wanted_none hgd) (hpure 0 (by decide) c L w' hW) (by rw [run_move _ _ _ hop]; exact congrArg (fun v => Result.ok (Next.value v) w') (eval_of h0)))
  | 1, ho, hL, _ =>
    obtain ⟨hop, hdst, hgd⟩ := tab_at htab ho (show rlf6T[1]? = _ from rfl)
    simp only at hop hgd
    have h0 := frm_at (val := val c) hdis ha 0 23 (hds 0 23 rfl) (by omega) (depl_of hdep 1 0 (by decide) ho hd)
    refine doesX_call ho (wanted_none hgd) 18 #[(I cc), (.int .i64 3)] ?_ (r1 c L w' hW hL (depl_of hdep 1 0 (by decide) ho hd))
    rw [run_calls Tryz.func18 (by kernel_rfl) rfl _ _ _ _ hop rfl]
    simp only [List.map_toArray, List.map_cons, List.map_nil, eval_of h0]
    all_goals rfl
  | 2, ho, hL, _ =>
    obtain ⟨hop, hdst, hgd⟩ := tab_at htab ho (show rlf6T[2]? = _ from rfl)
    simp only at hop hgd
    have h1 := frm_at (val := val c) hdis ha 1 24 (hds 1 24 rfl) (by omega) (depl_of hdep 2 1 (by decide) ho hd)
    exact doesX_of (doesL_run ho (wanted_none hgd) (hpure 2 (by decide) c L w' hW) (g_bin hop rfl (eval_of h1) (r2 w')))
  | 3, ho, hL, _ =>
    obtain ⟨hop, hdst, hgd⟩ := tab_at htab ho (show rlf6T[3]? = _ from rfl)
    simp only at hop hgd
    have h0 := frm_old (val := val c) ha 0 _ (hold 0 rfl) o0
    exact doesX_of (doesL_run ho (wanted_none hgd) (hpure 3 (by decide) c L w' hW) (by rw [run_move _ _ _ hop]; exact congrArg (fun v => Result.ok (Next.value v) w') (eval_of h0)))
  | 4, ho, hL, _ =>
    obtain ⟨hop, hdst, hgd⟩ := tab_at htab ho (show rlf6T[4]? = _ from rfl)
    simp only at hop hgd
    have h0 := frm_old (val := val c) ha 5 _ (hold 5 rfl) o5
    exact doesX_of (doesL_run ho (wanted_none hgd) (hpure 4 (by decide) c L w' hW) (by rw [run_move _ _ _ hop]; exact congrArg (fun v => Result.ok (Next.value v) w') (eval_of h0)))
  | 5, ho, hL, _ =>
    obtain ⟨hop, hdst, hgd⟩ := tab_at htab ho (show rlf6T[5]? = _ from rfl)
    simp only at hop hgd
    have h0 := frm_at (val := val c) hdis ha 4 27 (hds 4 27 rfl) (by omega) (depl_of hdep 5 4 (by decide) ho hd)
    exact doesX_of (doesL_run ho (wanted_none hgd) (hpure 5 (by decide) c L w' hW) (g_conv hop (eval_of h0) (r5 c L w' hW hL (depl_of hdep 5 4 (by decide) ho hd))))
  | 6, ho, hL, _ =>
    obtain ⟨hop, hdst, hgd⟩ := tab_at htab ho (show rlf6T[6]? = _ from rfl)
    simp only at hop hgd
    have h0 := frm_at (val := val c) hdis ha 2 25 (hds 2 25 rfl) (by omega) (depl_of hdep 6 2 (by decide) ho hd)
    have h1 := frm_at (val := val c) hdis ha 3 26 (hds 3 26 rfl) (by omega) (depl_of hdep 6 3 (by decide) ho hd)
    have h2 := frm_at (val := val c) hdis ha 5 28 (hds 5 28 rfl) (by omega) (depl_of hdep 6 5 (by decide) ho hd)
    exact doesX_of (doesL_run ho (wanted_none hgd) (hpure 6 (by decide) c L w' hW) (g_build hop (by simp only [List.map_toArray, List.map_cons, List.map_nil, eval_of h0, eval_of h1, eval_of h2]; first | done | rfl) (r6 w')))
  | 7, ho, hL, _ =>
    obtain ⟨hop, hdst, hgd⟩ := tab_at htab ho (show rlf6T[7]? = _ from rfl)
    simp only at hop hgd
    have h0 := frm_old (val := val c) ha 4 _ (hold 4 rfl) o4
    have h1 := frm_at (val := val c) hdis ha 6 29 (hds 6 29 rfl) (by omega) (depl_of hdep 7 6 (by decide) ho hd)
    obtain ⟨W', q1, q2⟩ := r7 c L w' hW hL (depl_of hdep 7 6 (by decide) ho hd)
    exact doesX_of (doesL_skp ho (wanted_none hgd) rfl q2 (g_store hop (eval_of h0) (eval_of h1) q1))
  | (i + 8), ho, hL, hi => exact absurd hi (by omega)
end Go.Proofs.YtjopnhhdemfniaaGreatDoor
namespace Go.Proofs.YtjopnhhdemfniaaGreatDoor
open Go.RowKit
structure Cg2 where
  a : Nat
  b : Nat
def vrtn1 (_X P : Nat) (g r b : Int) (x : Bs) (vu : Value) (c : Cg2) (i : Nat) : Value := match i with
  | 0 => (.pointer (some ⟨P, 0, none⟩))
  | 1 => (.pointer (some ⟨P, 0, none⟩))
  | 2 => (.pointer (some ⟨P, 0 + 1, none⟩))
  | 3 => (.agg #[I g, I r, I b, S x])
  | 4 => (.pointer (some ⟨P, 0, none⟩))
  | 5 => (.pointer (some ⟨P, 0, none⟩))
  | 6 => (.pointer (some ⟨P, 0 + 5, none⟩))
  | 7 => vu
  | 8 => (.pointer (some ⟨c.a, 0, none⟩))
  | 9 => (.pointer (some ⟨c.b, 0, none⟩))
  | 10 => undef
  | 11 => undef
  | _ => undef
def rtn1T : List (Op × Option Tmp × Option (Nat × Bool)) := [
  (.load 57 (.tmp 4), some 12, none),
  (.nilCheck (.tmp 12), some 13, none),
  (.fieldAddr 172 (.tmp 13) 1, some 14, none),
  (.load 123 (.tmp 14), some 15, none),
  (.load 57 (.tmp 4), some 16, none),
  (.nilCheck (.tmp 16), some 17, none),
  (.fieldAddr 172 (.tmp 17) 2, some 18, none),
  (.load 168 (.tmp 18), some 19, none),
  (.alloc 123, some 9, none),
  (.alloc 168, some 10, none),
  (.store 123 (.tmp 9) (.tmp 15), none, none),
  (.store 168 (.tmp 10) (.tmp 19), none, none)]
def rtn1D : List (Nat × Nat) := [(1, 0), (2, 1), (3, 2), (5, 4), (6, 5), (7, 6), (10, 3), (10, 8), (11, 7), (11, 9)]
set_option maxHeartbeats 4000000 in
theorem rtn1 {ops : Array Oper} {id : Nat} {Q : Exit → Act → World → Prop} (X P : Nat) (g r b : Int) (x : Bs) (vu : Value) (htab : ops.toList.map (fun o => (o.op, o.dst, o.guard)) = rtn1T) (hdep : deplB rtn1D ops = true) (hac : acB ops = true)
    (a0 : Act) (w : World) (hsz : 20 ≤ a0.tmps.size) (o4 : a0.tmps[4]? = some (.pointer (some ⟨X, 0, none⟩)))
    (Wd : Cg2 → (Nat → Bool) → World → Prop) (h0 : ∃ c, Wd c (fun _ => false) w.drew) (hpure : ∀ i, i ∉ ([8, 9, 10, 11] : List Nat) → ∀ c L W, Wd c L W → Wd c (upd L i) W)
    (r0 : ∀ c L W, Wd c L W → L 0 = false → (Instr.loadAt 57 (.pointer (some ⟨X, 0, none⟩))).run Tryz.prog W = .ok (.pointer (some ⟨P, 0, none⟩)) W)
    (r3 : ∀ c L W, Wd c L W → L 3 = false → L 2 = true → (Instr.loadAt 123 (.pointer (some ⟨P, 0 + 1, none⟩))).run Tryz.prog W = .ok (.agg #[I g, I r, I b, S x]) W)
    (r4 : ∀ c L W, Wd c L W → L 4 = false → (Instr.loadAt 57 (.pointer (some ⟨X, 0, none⟩))).run Tryz.prog W = .ok (.pointer (some ⟨P, 0, none⟩)) W)
    (r7 : ∀ c L W, Wd c L W → L 7 = false → L 6 = true → (Instr.loadAt 168 (.pointer (some ⟨P, 0 + 5, none⟩))).run Tryz.prog W = .ok vu W)
    (r8 : ∀ c L W, Wd c L W → L 8 = false → ∃ c' W', (∀ j, L j = true → vrtn1 X P g r b x vu c' j = vrtn1 X P g r b x vu c j) ∧ (Instr.alloc 123 true (.tuple #[])).run Tryz.prog W = .ok (vrtn1 X P g r b x vu c' 8) W' ∧ Wd c' (upd L 8) W')
    (r9 : ∀ c L W, Wd c L W → L 9 = false → ∃ c' W', (∀ j, L j = true → vrtn1 X P g r b x vu c' j = vrtn1 X P g r b x vu c j) ∧ (Instr.alloc 168 true (.tuple #[])).run Tryz.prog W = .ok (vrtn1 X P g r b x vu c' 9) W' ∧ Wd c' (upd L 9) W')
    (r10 : ∀ c L W, Wd c L W → L 10 = false → L 3 = true → L 8 = true → ∃ W', (Instr.storeAt 123 (.pointer (some ⟨c.a, 0, none⟩)) (.agg #[I g, I r, I b, S x])).run Tryz.prog W = .ok () W' ∧ Wd c (upd L 10) W')
    (r11 : ∀ c L W, Wd c L W → L 11 = false → L 7 = true → L 9 = true → ∃ W', (Instr.storeAt 168 (.pointer (some ⟨c.b, 0, none⟩)) vu).run Tryz.prog W = .ok () W' ∧ Wd c (upd L 11) W')
    (hend : ∀ c L W, (∀ i, i < 12 → L i = true) → Wd c L W → Q .normal ((((((((((a0.put (some 12) (.pointer (some ⟨P, 0, none⟩))).put (some 13) (.pointer (some ⟨P, 0, none⟩))).put (some 14) (.pointer (some ⟨P, 0 + 1, none⟩))).put (some 15) (.agg #[I g, I r, I b, S x])).put (some 16) (.pointer (some ⟨P, 0, none⟩))).put (some 17) (.pointer (some ⟨P, 0, none⟩))).put (some 18) (.pointer (some ⟨P, 0 + 5, none⟩))).put (some 19) vu).put (some 9) (.pointer (some ⟨c.a, 0, none⟩))).put (some 10) (.pointer (some ⟨c.b, 0, none⟩))) W) : (Code.region id ops true).wp Tryz.prog Q a0 w := by
  let val : Cg2 → Nat → Value := vrtn1 X P g r b x vu
  have hosz : ops.size = 12 := by
    have := congrArg List.length htab
    simpa [rtn1T] using this
  have hds : ∀ i s, (rtn1T[i]?).bind (·.2.1) = some s → dstOf ops i = some s := fun i s hi => by rw [tab_dst htab, hi]
  have hdisB : disL rtn1T = true := by rfl
  have hdis := disL_of htab hdisB
  have hold : ∀ s, rtn1T.all (fun x => !(x.2.1 == some s)) = true → (List.range ops.size).all (fun j => !(dstOf ops j == some s)) = true := fun s h => holdL htab s h
  refine region_detX val Wd (hac_of hac) hdis h0 ?_ ?_
  rotate_left
  · intro c L W hall hW
    have := hend c L W (by rw [← hosz]; exact hall) hW
    have e : frm ops a0 (val c) (fun _ => true) ops.size = ((((((((((a0.put (some 12) (.pointer (some ⟨P, 0, none⟩))).put (some 13) (.pointer (some ⟨P, 0, none⟩))).put (some 14) (.pointer (some ⟨P, 0 + 1, none⟩))).put (some 15) (.agg #[I g, I r, I b, S x])).put (some 16) (.pointer (some ⟨P, 0, none⟩))).put (some 17) (.pointer (some ⟨P, 0, none⟩))).put (some 18) (.pointer (some ⟨P, 0 + 5, none⟩))).put (some 19) vu).put (some 9) (.pointer (some ⟨c.a, 0, none⟩))).put (some 10) (.pointer (some ⟨c.b, 0, none⟩))) := by
      rw [hosz]
      simp only [frm, if_true]
      rw [tab_dst htab 0, tab_dst htab 1, tab_dst htab 2, tab_dst htab 3, tab_dst htab 4, tab_dst htab 5, tab_dst htab 6, tab_dst htab 7, tab_dst htab 8, tab_dst htab 9, (show dstOf ops 10 = none from (tab_dst htab 10).trans rfl), put_none, (show dstOf ops 11 = none from (tab_dst htab 11).trans rfl), put_none]
      rfl
    rw [e]
    exact this
  intro i o ho c L a w' hL hd ha hW
  have hi : i < 12 := by rw [← hosz]; exact (Array.getElem?_eq_some_iff.1 ho).1
  match i, ho, hL, hi with
  | 0, ho, hL, _ =>
    obtain ⟨hop, hdst, hgd⟩ := tab_at htab ho (show rtn1T[0]? = _ from rfl)
    simp only at hop hgd
    have h0 := frm_old (val := val c) ha 4 _ (hold 4 rfl) o4
    exact doesX_of (doesL_run ho (wanted_none hgd) (hpure 0 (by decide) c L w' hW) (g_load hop (eval_of h0) (r0 c L w' hW hL)))
  | 1, ho, hL, _ =>
    obtain ⟨hop, hdst, hgd⟩ := tab_at htab ho (show rtn1T[1]? = _ from rfl)
    simp only at hop hgd
    have h0 := frm_at (val := val c) hdis ha 0 12 (hds 0 12 rfl) (by omega) (depl_of hdep 1 0 (by decide) ho hd)
    exact doesX_of (doesL_run ho (wanted_none hgd) (hpure 1 (by decide) c L w' hW) (run_nil _ _ _ hop _ (eval_of h0) _))
  | 2, ho, hL, _ =>
    obtain ⟨hop, hdst, hgd⟩ := tab_at htab ho (show rtn1T[2]? = _ from rfl)
    simp only at hop hgd
    have h0 := frm_at (val := val c) hdis ha 1 13 (hds 1 13 rfl) (by omega) (depl_of hdep 2 1 (by decide) ho hd)
    exact doesX_of (doesL_run ho (wanted_none hgd) (hpure 2 (by decide) c L w' hW) (g_field hop (eval_of h0) (by kernel_rfl)))
  | 3, ho, hL, _ =>
    obtain ⟨hop, hdst, hgd⟩ := tab_at htab ho (show rtn1T[3]? = _ from rfl)
    simp only at hop hgd
    have h0 := frm_at (val := val c) hdis ha 2 14 (hds 2 14 rfl) (by omega) (depl_of hdep 3 2 (by decide) ho hd)
    exact doesX_of (doesL_run ho (wanted_none hgd) (hpure 3 (by decide) c L w' hW) (g_load hop (eval_of h0) (r3 c L w' hW hL (depl_of hdep 3 2 (by decide) ho hd))))
  | 4, ho, hL, _ =>
    obtain ⟨hop, hdst, hgd⟩ := tab_at htab ho (show rtn1T[4]? = _ from rfl)
    simp only at hop hgd
    have h0 := frm_old (val := val c) ha 4 _ (hold 4 rfl) o4
    exact doesX_of (doesL_run ho (wanted_none hgd) (hpure 4 (by decide) c L w' hW) (g_load hop (eval_of h0) (r4 c L w' hW hL)))
  | 5, ho, hL, _ =>
    obtain ⟨hop, hdst, hgd⟩ := tab_at htab ho (show rtn1T[5]? = _ from rfl)
    simp only at hop hgd
    have h0 := frm_at (val := val c) hdis ha 4 16 (hds 4 16 rfl) (by omega) (depl_of hdep 5 4 (by decide) ho hd)
    exact doesX_of (doesL_run ho (wanted_none hgd) (hpure 5 (by decide) c L w' hW) (run_nil _ _ _ hop _ (eval_of h0) _))
  | 6, ho, hL, _ =>
    obtain ⟨hop, hdst, hgd⟩ := tab_at htab ho (show rtn1T[6]? = _ from rfl)
    simp only at hop hgd
    have h0 := frm_at (val := val c) hdis ha 5 17 (hds 5 17 rfl) (by omega) (depl_of hdep 6 5 (by decide) ho hd)
    exact doesX_of (doesL_run ho (wanted_none hgd) (hpure 6 (by decide) c L w' hW) (g_field hop (eval_of h0) (by kernel_rfl)))
  | 7, ho, hL, _ =>
    obtain ⟨hop, hdst, hgd⟩ := tab_at htab ho (show rtn1T[7]? = _ from rfl)
    simp only at hop hgd
    have h0 := frm_at (val := val c) hdis ha 6 18 (hds 6 18 rfl) (by omega) (depl_of hdep 7 6 (by decide) ho hd)
    exact doesX_of (doesL_run ho (wanted_none hgd) (hpure 7 (by decide) c L w' hW) (g_load hop (eval_of h0) (r7 c L w' hW hL (depl_of hdep 7 6 (by decide) ho hd))))
  | 8, ho, hL, _ =>
    obtain ⟨hop, hdst, hgd⟩ := tab_at htab ho (show rtn1T[8]? = _ from rfl)
    simp only at hop hgd
    obtain ⟨c', W', q0, q1, q2⟩ := r8 c L w' hW hL
    exact doesX_runw ho (wanted_none hgd) c' q0 q2 (g_alloc hop q1)
  | 9, ho, hL, _ =>
    obtain ⟨hop, hdst, hgd⟩ := tab_at htab ho (show rtn1T[9]? = _ from rfl)
    simp only at hop hgd
    obtain ⟨c', W', q0, q1, q2⟩ := r9 c L w' hW hL
    exact doesX_runw ho (wanted_none hgd) c' q0 q2 (g_alloc hop q1)
  | 10, ho, hL, _ =>
    obtain ⟨hop, hdst, hgd⟩ := tab_at htab ho (show rtn1T[10]? = _ from rfl)
    simp only at hop hgd
    have h0 := frm_at (val := val c) hdis ha 8 9 (hds 8 9 rfl) (by omega) (depl_of hdep 10 8 (by decide) ho hd)
    have h1 := frm_at (val := val c) hdis ha 3 15 (hds 3 15 rfl) (by omega) (depl_of hdep 10 3 (by decide) ho hd)
    obtain ⟨W', q1, q2⟩ := r10 c L w' hW hL (depl_of hdep 10 3 (by decide) ho hd) (depl_of hdep 10 8 (by decide) ho hd)
    exact doesX_of (doesL_skp ho (wanted_none hgd) rfl q2 (g_store hop (eval_of h0) (eval_of h1) q1))
  | 11, ho, hL, _ =>
    obtain ⟨hop, hdst, hgd⟩ := tab_at htab ho (show rtn1T[11]? = _ from rfl)
    simp only at hop hgd
    have h0 := frm_at (val := val c) hdis ha 9 10 (hds 9 10 rfl) (by omega) (depl_of hdep 11 9 (by decide) ho hd)
    have h1 := frm_at (val := val c) hdis ha 7 19 (hds 7 19 rfl) (by omega) (depl_of hdep 11 7 (by decide) ho hd)
    obtain ⟨W', q1, q2⟩ := r11 c L w' hW hL (depl_of hdep 11 7 (by decide) ho hd) (depl_of hdep 11 9 (by decide) ho hd)
    exact doesX_of (doesL_skp ho (wanted_none hgd) rfl q2 (g_store hop (eval_of h0) (eval_of h1) q1))
  | (i + 12), ho, hL, hi => exact absurd hi (by omega)
def vrtn2 (_X _Y P : Nat) (g r b : Int) (x : Bs) (va : Value) (_c : Unit) (i : Nat) : Value := match i with
  | 0 => (.pointer (some ⟨P, 0, none⟩))
  | 1 => (.pointer (some ⟨P, 0, none⟩))
  | 2 => (.agg #[I g, I r, I b, S x])
  | 3 => va
  | 4 => (.pointer (some ⟨P, 0, none⟩))
  | 5 => (.pointer (some ⟨P, 0 + 1, none⟩))
  | 6 => undef
  | 7 => (.pointer (some ⟨P, 0, none⟩))
  | 8 => (.pointer (some ⟨P, 0 + 5, none⟩))
  | 9 => undef
  | _ => undef
def rtn2T : List (Op × Option Tmp × Option (Nat × Bool)) := [
  (.load 57 (.tmp 4), some 20, none),
  (.load 57 (.tmp 4), some 21, none),
  (.load 123 (.tmp 6), some 22, none),
  (.move (.tmp 3), some 23, none),
  (.nilCheck (.tmp 20), some 24, none),
  (.fieldAddr 172 (.tmp 24) 1, some 25, none),
  (.store 123 (.tmp 25) (.tmp 22), none, none),
  (.nilCheck (.tmp 21), some 26, none),
  (.fieldAddr 172 (.tmp 26) 2, some 27, none),
  (.store 168 (.tmp 27) (.tmp 23), none, none)]
def rtn2D : List (Nat × Nat) := [(4, 0), (5, 4), (6, 2), (6, 5), (7, 1), (8, 7), (9, 3), (9, 8)]
set_option maxHeartbeats 4000000 in
theorem rtn2 {ops : Array Oper} {id : Nat} {Q : Exit → Act → World → Prop} (X Y P : Nat) (g r b : Int) (x : Bs) (va : Value) (htab : ops.toList.map (fun o => (o.op, o.dst, o.guard)) = rtn2T) (hdep : deplB rtn2D ops = true) (hac : acB ops = true)
    (a0 : Act) (w : World) (hsz : 28 ≤ a0.tmps.size) (o3 : a0.tmps[3]? = some va) (o4 : a0.tmps[4]? = some (.pointer (some ⟨X, 0, none⟩))) (o6 : a0.tmps[6]? = some (.pointer (some ⟨Y, 0, none⟩)))
    (Wd : Unit → (Nat → Bool) → World → Prop) (h0 : ∃ c, Wd c (fun _ => false) w.drew) (hpure : ∀ i, i ∉ ([6, 9] : List Nat) → ∀ c L W, Wd c L W → Wd c (upd L i) W)
    (r0 : ∀ c L W, Wd c L W → L 0 = false → (Instr.loadAt 57 (.pointer (some ⟨X, 0, none⟩))).run Tryz.prog W = .ok (.pointer (some ⟨P, 0, none⟩)) W)
    (r1 : ∀ c L W, Wd c L W → L 1 = false → (Instr.loadAt 57 (.pointer (some ⟨X, 0, none⟩))).run Tryz.prog W = .ok (.pointer (some ⟨P, 0, none⟩)) W)
    (r2 : ∀ c L W, Wd c L W → L 2 = false → (Instr.loadAt 123 (.pointer (some ⟨Y, 0, none⟩))).run Tryz.prog W = .ok (.agg #[I g, I r, I b, S x]) W)
    (r6 : ∀ c L W, Wd c L W → L 6 = false → L 2 = true → L 5 = true → ∃ W', (Instr.storeAt 123 (.pointer (some ⟨P, 0 + 1, none⟩)) (.agg #[I g, I r, I b, S x])).run Tryz.prog W = .ok () W' ∧ Wd c (upd L 6) W')
    (r9 : ∀ c L W, Wd c L W → L 9 = false → L 3 = true → L 8 = true → ∃ W', (Instr.storeAt 168 (.pointer (some ⟨P, 0 + 5, none⟩)) va).run Tryz.prog W = .ok () W' ∧ Wd c (upd L 9) W')
    (hend : ∀ c L W, (∀ i, i < 10 → L i = true) → Wd c L W → Q .normal ((((((((a0.put (some 20) (.pointer (some ⟨P, 0, none⟩))).put (some 21) (.pointer (some ⟨P, 0, none⟩))).put (some 22) (.agg #[I g, I r, I b, S x])).put (some 23) va).put (some 24) (.pointer (some ⟨P, 0, none⟩))).put (some 25) (.pointer (some ⟨P, 0 + 1, none⟩))).put (some 26) (.pointer (some ⟨P, 0, none⟩))).put (some 27) (.pointer (some ⟨P, 0 + 5, none⟩))) W) : (Code.region id ops true).wp Tryz.prog Q a0 w := by
  let val : Unit → Nat → Value := vrtn2 X Y P g r b x va
  have hosz : ops.size = 10 := by
    have := congrArg List.length htab
    simpa [rtn2T] using this
  have hds : ∀ i s, (rtn2T[i]?).bind (·.2.1) = some s → dstOf ops i = some s := fun i s hi => by rw [tab_dst htab, hi]
  have hdisB : disL rtn2T = true := by rfl
  have hdis := disL_of htab hdisB
  have hold : ∀ s, rtn2T.all (fun x => !(x.2.1 == some s)) = true → (List.range ops.size).all (fun j => !(dstOf ops j == some s)) = true := fun s h => holdL htab s h
  refine region_detX val Wd (hac_of hac) hdis h0 ?_ ?_
  rotate_left
  · intro c L W hall hW
    have := hend c L W (by rw [← hosz]; exact hall) hW
    have e : frm ops a0 (val c) (fun _ => true) ops.size = ((((((((a0.put (some 20) (.pointer (some ⟨P, 0, none⟩))).put (some 21) (.pointer (some ⟨P, 0, none⟩))).put (some 22) (.agg #[I g, I r, I b, S x])).put (some 23) va).put (some 24) (.pointer (some ⟨P, 0, none⟩))).put (some 25) (.pointer (some ⟨P, 0 + 1, none⟩))).put (some 26) (.pointer (some ⟨P, 0, none⟩))).put (some 27) (.pointer (some ⟨P, 0 + 5, none⟩))) := by
      rw [hosz]
      simp only [frm, if_true]
      rw [tab_dst htab 0, tab_dst htab 1, tab_dst htab 2, tab_dst htab 3, tab_dst htab 4, tab_dst htab 5, (show dstOf ops 6 = none from (tab_dst htab 6).trans rfl), put_none, tab_dst htab 7, tab_dst htab 8, (show dstOf ops 9 = none from (tab_dst htab 9).trans rfl), put_none]
      rfl
    rw [e]
    exact this
  intro i o ho c L a w' hL hd ha hW
  have hi : i < 10 := by rw [← hosz]; exact (Array.getElem?_eq_some_iff.1 ho).1
  match i, ho, hL, hi with
  | 0, ho, hL, _ =>
    obtain ⟨hop, hdst, hgd⟩ := tab_at htab ho (show rtn2T[0]? = _ from rfl)
    simp only at hop hgd
    have h0 := frm_old (val := val c) ha 4 _ (hold 4 rfl) o4
    exact doesX_of (doesL_run ho (wanted_none hgd) (hpure 0 (by decide) c L w' hW) (g_load hop (eval_of h0) (r0 c L w' hW hL)))
  | 1, ho, hL, _ =>
    obtain ⟨hop, hdst, hgd⟩ := tab_at htab ho (show rtn2T[1]? = _ from rfl)
    simp only at hop hgd
    have h0 := frm_old (val := val c) ha 4 _ (hold 4 rfl) o4
    exact doesX_of (doesL_run ho (wanted_none hgd) (hpure 1 (by decide) c L w' hW) (g_load hop (eval_of h0) (r1 c L w' hW hL)))
  | 2, ho, hL, _ =>
    obtain ⟨hop, hdst, hgd⟩ := tab_at htab ho (show rtn2T[2]? = _ from rfl)
    simp only at hop hgd
    have h0 := frm_old (val := val c) ha 6 _ (hold 6 rfl) o6
    exact doesX_of (doesL_run ho (wanted_none hgd) (hpure 2 (by decide) c L w' hW) (g_load hop (eval_of h0) (r2 c L w' hW hL)))
  | 3, ho, hL, _ =>
    obtain ⟨hop, hdst, hgd⟩ := tab_at htab ho (show rtn2T[3]? = _ from rfl)
    simp only at hop hgd
    have h0 := frm_old (val := val c) ha 3 _ (hold 3 rfl) o3
    exact doesX_of (doesL_run ho (wanted_none hgd) (hpure 3 (by decide) c L w' hW) (by rw [run_move _ _ _ hop]; exact congrArg (fun v => Result.ok (Next.value v) w') (eval_of h0)))
  | 4, ho, hL, _ =>
    obtain ⟨hop, hdst, hgd⟩ := tab_at htab ho (show rtn2T[4]? = _ from rfl)
    simp only at hop hgd
    have h0 := frm_at (val := val c) hdis ha 0 20 (hds 0 20 rfl) (by omega) (depl_of hdep 4 0 (by decide) ho hd)
    exact doesX_of (doesL_run ho (wanted_none hgd) (hpure 4 (by decide) c L w' hW) (run_nil _ _ _ hop _ (eval_of h0) _))
  | 5, ho, hL, _ =>
    obtain ⟨hop, hdst, hgd⟩ := tab_at htab ho (show rtn2T[5]? = _ from rfl)
    simp only at hop hgd
    have h0 := frm_at (val := val c) hdis ha 4 24 (hds 4 24 rfl) (by omega) (depl_of hdep 5 4 (by decide) ho hd)
    exact doesX_of (doesL_run ho (wanted_none hgd) (hpure 5 (by decide) c L w' hW) (g_field hop (eval_of h0) (by kernel_rfl)))
  | 6, ho, hL, _ =>
    obtain ⟨hop, hdst, hgd⟩ := tab_at htab ho (show rtn2T[6]? = _ from rfl)
    simp only at hop hgd
    have h0 := frm_at (val := val c) hdis ha 5 25 (hds 5 25 rfl) (by omega) (depl_of hdep 6 5 (by decide) ho hd)
    have h1 := frm_at (val := val c) hdis ha 2 22 (hds 2 22 rfl) (by omega) (depl_of hdep 6 2 (by decide) ho hd)
    obtain ⟨W', q1, q2⟩ := r6 c L w' hW hL (depl_of hdep 6 2 (by decide) ho hd) (depl_of hdep 6 5 (by decide) ho hd)
    exact doesX_of (doesL_skp ho (wanted_none hgd) rfl q2 (g_store hop (eval_of h0) (eval_of h1) q1))
  | 7, ho, hL, _ =>
    obtain ⟨hop, hdst, hgd⟩ := tab_at htab ho (show rtn2T[7]? = _ from rfl)
    simp only at hop hgd
    have h0 := frm_at (val := val c) hdis ha 1 21 (hds 1 21 rfl) (by omega) (depl_of hdep 7 1 (by decide) ho hd)
    exact doesX_of (doesL_run ho (wanted_none hgd) (hpure 7 (by decide) c L w' hW) (run_nil _ _ _ hop _ (eval_of h0) _))
  | 8, ho, hL, _ =>
    obtain ⟨hop, hdst, hgd⟩ := tab_at htab ho (show rtn2T[8]? = _ from rfl)
    simp only at hop hgd
    have h0 := frm_at (val := val c) hdis ha 7 26 (hds 7 26 rfl) (by omega) (depl_of hdep 8 7 (by decide) ho hd)
    exact doesX_of (doesL_run ho (wanted_none hgd) (hpure 8 (by decide) c L w' hW) (g_field hop (eval_of h0) (by kernel_rfl)))
  | 9, ho, hL, _ =>
    obtain ⟨hop, hdst, hgd⟩ := tab_at htab ho (show rtn2T[9]? = _ from rfl)
    simp only at hop hgd
    have h0 := frm_at (val := val c) hdis ha 8 27 (hds 8 27 rfl) (by omega) (depl_of hdep 9 8 (by decide) ho hd)
    have h1 := frm_at (val := val c) hdis ha 3 23 (hds 3 23 rfl) (by omega) (depl_of hdep 9 3 (by decide) ho hd)
    obtain ⟨W', q1, q2⟩ := r9 c L w' hW hL (depl_of hdep 9 3 (by decide) ho hd) (depl_of hdep 9 8 (by decide) ho hd)
    exact doesX_of (doesL_skp ho (wanted_none hgd) rfl q2 (g_store hop (eval_of h0) (eval_of h1) q1))
  | (i + 10), ho, hL, hi => exact absurd hi (by omega)
def vrtn4 (_X Y P D : Nat) (vf : Value) (g e : Int) (_c : Unit) (i : Nat) : Value := match i with
  | 0 => (.pointer (some ⟨P, 0, none⟩))
  | 1 => (.pointer (some ⟨P, 0, none⟩))
  | 2 => (.pointer (some ⟨P, 0 + 0, none⟩))
  | 3 => (.pointer (some ⟨D, 0, none⟩))
  | 4 => vf
  | 5 => (.pointer (some ⟨Y, 0 + 0, none⟩))
  | 6 => (I g)
  | 7 => (I e)
  | 8 => (I e)
  | _ => undef
def rtn4T : List (Op × Option Tmp × Option (Nat × Bool)) := [
  (.load 57 (.tmp 4), some 29, none),
  (.nilCheck (.tmp 29), some 30, none),
  (.fieldAddr 172 (.tmp 30) 0, some 31, none),
  (.load 55 (.tmp 31), some 32, none),
  (.move (.tmp 1), some 33, none),
  (.fieldAddr 123 (.tmp 6) 0, some 34, none),
  (.load 3 (.tmp 34), some 35, none),
  (.call { callee := .value (.func 194), args := #[(.tmp 32), (.tmp 33), (.tmp 35)], argTypes := #[55, 27, 3] }, some 36, none),
  (.assign (.tmp 36), some 11, none)]
def rtn4D : List (Nat × Nat) := [(1, 0), (2, 1), (3, 2), (6, 5), (7, 3), (7, 4), (7, 6), (8, 7)]
set_option maxHeartbeats 4000000 in
theorem rtn4 {ops : Array Oper} {id : Nat} {Q : Exit → Act → World → Prop} (X Y P D : Nat) (vf : Value) (g e : Int) (htab : ops.toList.map (fun o => (o.op, o.dst, o.guard)) = rtn4T) (hdep : deplB rtn4D ops = true) (hac : acB ops = true)
    (a0 : Act) (w : World) (hsz : 37 ≤ a0.tmps.size) (o1 : a0.tmps[1]? = some vf) (o4 : a0.tmps[4]? = some (.pointer (some ⟨X, 0, none⟩))) (o6 : a0.tmps[6]? = some (.pointer (some ⟨Y, 0, none⟩)))
    (Wd : Unit → (Nat → Bool) → World → Prop) (h0 : ∃ c, Wd c (fun _ => false) w.drew) (hpure : ∀ i, i ∉ ([7] : List Nat) → ∀ c L W, Wd c L W → Wd c (upd L i) W)
    (r0 : ∀ c L W, Wd c L W → L 0 = false → (Instr.loadAt 57 (.pointer (some ⟨X, 0, none⟩))).run Tryz.prog W = .ok (.pointer (some ⟨P, 0, none⟩)) W)
    (r3 : ∀ c L W, Wd c L W → L 3 = false → L 2 = true → (Instr.loadAt 55 (.pointer (some ⟨P, 0 + 0, none⟩))).run Tryz.prog W = .ok (.pointer (some ⟨D, 0, none⟩)) W)
    (r6 : ∀ c L W, Wd c L W → L 6 = false → L 5 = true → (Instr.loadAt 3 (.pointer (some ⟨Y, 0 + 0, none⟩))).run Tryz.prog W = .ok (I g) W)
    (r7 : ∀ c L W, Wd c L W → L 7 = false → L 3 = true → L 4 = true → L 6 = true → Calls Tryz.prog 194 #[(.pointer (some ⟨D, 0, none⟩)), vf, (I g)] W fun eg w' => ∃ c', (∀ j, L j = true → vrtn4 X Y P D vf g e c' j = vrtn4 X Y P D vf g e c j) ∧ eg = .returned (vrtn4 X Y P D vf g e c' 7) ∧ Wd c' (upd L 7) w')
    (hend : ∀ c L W, (∀ i, i < 9 → L i = true) → Wd c L W → Q .normal (((((((((a0.put (some 29) (.pointer (some ⟨P, 0, none⟩))).put (some 30) (.pointer (some ⟨P, 0, none⟩))).put (some 31) (.pointer (some ⟨P, 0 + 0, none⟩))).put (some 32) (.pointer (some ⟨D, 0, none⟩))).put (some 33) vf).put (some 34) (.pointer (some ⟨Y, 0 + 0, none⟩))).put (some 35) (I g)).put (some 36) (I e)).put (some 11) (I e)) W) : (Code.region id ops true).wp Tryz.prog Q a0 w := by
  let val : Unit → Nat → Value := vrtn4 X Y P D vf g e
  have hosz : ops.size = 9 := by
    have := congrArg List.length htab
    simpa [rtn4T] using this
  have hds : ∀ i s, (rtn4T[i]?).bind (·.2.1) = some s → dstOf ops i = some s := fun i s hi => by rw [tab_dst htab, hi]
  have hdisB : disL rtn4T = true := by rfl
  have hdis := disL_of htab hdisB
  have hold : ∀ s, rtn4T.all (fun x => !(x.2.1 == some s)) = true → (List.range ops.size).all (fun j => !(dstOf ops j == some s)) = true := fun s h => holdL htab s h
  refine region_detX val Wd (hac_of hac) hdis h0 ?_ ?_
  rotate_left
  · intro c L W hall hW
    have := hend c L W (by rw [← hosz]; exact hall) hW
    have e : frm ops a0 (val c) (fun _ => true) ops.size = (((((((((a0.put (some 29) (.pointer (some ⟨P, 0, none⟩))).put (some 30) (.pointer (some ⟨P, 0, none⟩))).put (some 31) (.pointer (some ⟨P, 0 + 0, none⟩))).put (some 32) (.pointer (some ⟨D, 0, none⟩))).put (some 33) vf).put (some 34) (.pointer (some ⟨Y, 0 + 0, none⟩))).put (some 35) (I g)).put (some 36) (I e)).put (some 11) (I e)) := by
      rw [hosz]
      simp only [frm, if_true]
      rw [tab_dst htab 0, tab_dst htab 1, tab_dst htab 2, tab_dst htab 3, tab_dst htab 4, tab_dst htab 5, tab_dst htab 6, tab_dst htab 7, tab_dst htab 8]
      rfl
    rw [e]
    exact this
  intro i o ho c L a w' hL hd ha hW
  have hi : i < 9 := by rw [← hosz]; exact (Array.getElem?_eq_some_iff.1 ho).1
  match i, ho, hL, hi with
  | 0, ho, hL, _ =>
    obtain ⟨hop, hdst, hgd⟩ := tab_at htab ho (show rtn4T[0]? = _ from rfl)
    simp only at hop hgd
    have h0 := frm_old (val := val c) ha 4 _ (hold 4 rfl) o4
    exact doesX_of (doesL_run ho (wanted_none hgd) (hpure 0 (by decide) c L w' hW) (g_load hop (eval_of h0) (r0 c L w' hW hL)))
  | 1, ho, hL, _ =>
    obtain ⟨hop, hdst, hgd⟩ := tab_at htab ho (show rtn4T[1]? = _ from rfl)
    simp only at hop hgd
    have h0 := frm_at (val := val c) hdis ha 0 29 (hds 0 29 rfl) (by omega) (depl_of hdep 1 0 (by decide) ho hd)
    exact doesX_of (doesL_run ho (wanted_none hgd) (hpure 1 (by decide) c L w' hW) (run_nil _ _ _ hop _ (eval_of h0) _))
  | 2, ho, hL, _ =>
    obtain ⟨hop, hdst, hgd⟩ := tab_at htab ho (show rtn4T[2]? = _ from rfl)
    simp only at hop hgd
    have h0 := frm_at (val := val c) hdis ha 1 30 (hds 1 30 rfl) (by omega) (depl_of hdep 2 1 (by decide) ho hd)
    exact doesX_of (doesL_run ho (wanted_none hgd) (hpure 2 (by decide) c L w' hW) (g_field hop (eval_of h0) (by kernel_rfl)))
  | 3, ho, hL, _ =>
    obtain ⟨hop, hdst, hgd⟩ := tab_at htab ho (show rtn4T[3]? = _ from rfl)
    simp only at hop hgd
    have h0 := frm_at (val := val c) hdis ha 2 31 (hds 2 31 rfl) (by omega) (depl_of hdep 3 2 (by decide) ho hd)
    exact doesX_of (doesL_run ho (wanted_none hgd) (hpure 3 (by decide) c L w' hW) (g_load hop (eval_of h0) (r3 c L w' hW hL (depl_of hdep 3 2 (by decide) ho hd))))
  | 4, ho, hL, _ =>
    obtain ⟨hop, hdst, hgd⟩ := tab_at htab ho (show rtn4T[4]? = _ from rfl)
    simp only at hop hgd
    have h0 := frm_old (val := val c) ha 1 _ (hold 1 rfl) o1
    exact doesX_of (doesL_run ho (wanted_none hgd) (hpure 4 (by decide) c L w' hW) (by rw [run_move _ _ _ hop]; exact congrArg (fun v => Result.ok (Next.value v) w') (eval_of h0)))
  | 5, ho, hL, _ =>
    obtain ⟨hop, hdst, hgd⟩ := tab_at htab ho (show rtn4T[5]? = _ from rfl)
    simp only at hop hgd
    have h0 := frm_old (val := val c) ha 6 _ (hold 6 rfl) o6
    exact doesX_of (doesL_run ho (wanted_none hgd) (hpure 5 (by decide) c L w' hW) (g_field hop (eval_of h0) (by kernel_rfl)))
  | 6, ho, hL, _ =>
    obtain ⟨hop, hdst, hgd⟩ := tab_at htab ho (show rtn4T[6]? = _ from rfl)
    simp only at hop hgd
    have h0 := frm_at (val := val c) hdis ha 5 34 (hds 5 34 rfl) (by omega) (depl_of hdep 6 5 (by decide) ho hd)
    exact doesX_of (doesL_run ho (wanted_none hgd) (hpure 6 (by decide) c L w' hW) (g_load hop (eval_of h0) (r6 c L w' hW hL (depl_of hdep 6 5 (by decide) ho hd))))
  | 7, ho, hL, _ =>
    obtain ⟨hop, hdst, hgd⟩ := tab_at htab ho (show rtn4T[7]? = _ from rfl)
    simp only at hop hgd
    have h0 := frm_at (val := val c) hdis ha 3 32 (hds 3 32 rfl) (by omega) (depl_of hdep 7 3 (by decide) ho hd)
    have h1 := frm_at (val := val c) hdis ha 4 33 (hds 4 33 rfl) (by omega) (depl_of hdep 7 4 (by decide) ho hd)
    have h2 := frm_at (val := val c) hdis ha 6 35 (hds 6 35 rfl) (by omega) (depl_of hdep 7 6 (by decide) ho hd)
    refine doesX_call ho (wanted_none hgd) 194 #[(.pointer (some ⟨D, 0, none⟩)), vf, (I g)] ?_ (r7 c L w' hW hL (depl_of hdep 7 3 (by decide) ho hd) (depl_of hdep 7 4 (by decide) ho hd) (depl_of hdep 7 6 (by decide) ho hd))
    rw [run_calls Tryz.func194 (by kernel_rfl) rfl _ _ _ _ hop rfl]
    simp only [List.map_toArray, List.map_cons, List.map_nil, eval_of h0, eval_of h1, eval_of h2]
    all_goals rfl
  | 8, ho, hL, _ =>
    obtain ⟨hop, hdst, hgd⟩ := tab_at htab ho (show rtn4T[8]? = _ from rfl)
    simp only at hop hgd
    have h0 := frm_at (val := val c) hdis ha 7 36 (hds 7 36 rfl) (by omega) (depl_of hdep 8 7 (by decide) ho hd)
    exact doesX_of (doesL_run ho (wanted_none hgd) (hpure 8 (by decide) c L w' hW) (by rw [run_assign _ _ _ hop]; exact congrArg (fun v => Result.ok (Next.value v) w') (eval_of h0)))
  | (i + 9), ho, hL, hi => exact absurd hi (by omega)
def vrtn7 (_X _Y _Z P D : Nat) (g r b e : Int) (x : Bs) (_c : Unit) (i : Nat) : Value := match i with
  | 0 => (.pointer (some ⟨P, 0, none⟩))
  | 1 => (.pointer (some ⟨P, 0, none⟩))
  | 2 => (.pointer (some ⟨P, 0 + 0, none⟩))
  | 3 => (.pointer (some ⟨D, 0, none⟩))
  | 4 => (.agg #[I g, I r, I b, S x])
  | 5 => (I e)
  | 6 => undef
  | _ => undef
def rtn7T : List (Op × Option Tmp × Option (Nat × Bool)) := [
  (.load 57 (.tmp 4), some 40, none),
  (.nilCheck (.tmp 40), some 41, none),
  (.fieldAddr 172 (.tmp 41) 0, some 42, none),
  (.load 55 (.tmp 42), some 43, none),
  (.load 123 (.tmp 6), some 44, none),
  (.call { callee := .value (.func 104), args := #[(.tmp 43), (.tmp 44)], argTypes := #[55, 123] }, some 45, none),
  (.store 35 (.tmp 8) (.tmp 45), none, none)]
def rtn7D : List (Nat × Nat) := [(1, 0), (2, 1), (3, 2), (5, 3), (5, 4), (6, 5)]
set_option maxHeartbeats 4000000 in
theorem rtn7 {ops : Array Oper} {id : Nat} {Q : Exit → Act → World → Prop} (X Y Z P D : Nat) (g r b e : Int) (x : Bs) (htab : ops.toList.map (fun o => (o.op, o.dst, o.guard)) = rtn7T) (hdep : deplB rtn7D ops = true) (hac : acB ops = true)
    (a0 : Act) (w : World) (hsz : 46 ≤ a0.tmps.size) (o4 : a0.tmps[4]? = some (.pointer (some ⟨X, 0, none⟩))) (o6 : a0.tmps[6]? = some (.pointer (some ⟨Y, 0, none⟩))) (o8 : a0.tmps[8]? = some (.pointer (some ⟨Z, 0, none⟩)))
    (Wd : Unit → (Nat → Bool) → World → Prop) (h0 : ∃ c, Wd c (fun _ => false) w.drew) (hpure : ∀ i, i ∉ ([5, 6] : List Nat) → ∀ c L W, Wd c L W → Wd c (upd L i) W)
    (r0 : ∀ c L W, Wd c L W → L 0 = false → (Instr.loadAt 57 (.pointer (some ⟨X, 0, none⟩))).run Tryz.prog W = .ok (.pointer (some ⟨P, 0, none⟩)) W)
    (r3 : ∀ c L W, Wd c L W → L 3 = false → L 2 = true → (Instr.loadAt 55 (.pointer (some ⟨P, 0 + 0, none⟩))).run Tryz.prog W = .ok (.pointer (some ⟨D, 0, none⟩)) W)
    (r4 : ∀ c L W, Wd c L W → L 4 = false → (Instr.loadAt 123 (.pointer (some ⟨Y, 0, none⟩))).run Tryz.prog W = .ok (.agg #[I g, I r, I b, S x]) W)
    (r5 : ∀ c L W, Wd c L W → L 5 = false → L 3 = true → L 4 = true → Calls Tryz.prog 104 #[(.pointer (some ⟨D, 0, none⟩)), (.agg #[I g, I r, I b, S x])] W fun eg w' => ∃ c', (∀ j, L j = true → vrtn7 X Y Z P D g r b e x c' j = vrtn7 X Y Z P D g r b e x c j) ∧ eg = .returned (vrtn7 X Y Z P D g r b e x c' 5) ∧ Wd c' (upd L 5) w')
    (r6 : ∀ c L W, Wd c L W → L 6 = false → L 5 = true → ∃ W', (Instr.storeAt 35 (.pointer (some ⟨Z, 0, none⟩)) (I e)).run Tryz.prog W = .ok () W' ∧ Wd c (upd L 6) W')
    (hend : ∀ c L W, (∀ i, i < 7 → L i = true) → Wd c L W → Q .normal ((((((a0.put (some 40) (.pointer (some ⟨P, 0, none⟩))).put (some 41) (.pointer (some ⟨P, 0, none⟩))).put (some 42) (.pointer (some ⟨P, 0 + 0, none⟩))).put (some 43) (.pointer (some ⟨D, 0, none⟩))).put (some 44) (.agg #[I g, I r, I b, S x])).put (some 45) (I e)) W) : (Code.region id ops true).wp Tryz.prog Q a0 w := by
  let val : Unit → Nat → Value := vrtn7 X Y Z P D g r b e x
  have hosz : ops.size = 7 := by
    have := congrArg List.length htab
    simpa [rtn7T] using this
  have hds : ∀ i s, (rtn7T[i]?).bind (·.2.1) = some s → dstOf ops i = some s := fun i s hi => by rw [tab_dst htab, hi]
  have hdisB : disL rtn7T = true := by rfl
  have hdis := disL_of htab hdisB
  have hold : ∀ s, rtn7T.all (fun x => !(x.2.1 == some s)) = true → (List.range ops.size).all (fun j => !(dstOf ops j == some s)) = true := fun s h => holdL htab s h
  refine region_detX val Wd (hac_of hac) hdis h0 ?_ ?_
  rotate_left
  · intro c L W hall hW
    have := hend c L W (by rw [← hosz]; exact hall) hW
    have e : frm ops a0 (val c) (fun _ => true) ops.size = ((((((a0.put (some 40) (.pointer (some ⟨P, 0, none⟩))).put (some 41) (.pointer (some ⟨P, 0, none⟩))).put (some 42) (.pointer (some ⟨P, 0 + 0, none⟩))).put (some 43) (.pointer (some ⟨D, 0, none⟩))).put (some 44) (.agg #[I g, I r, I b, S x])).put (some 45) (I e)) := by
      rw [hosz]
      simp only [frm, if_true]
      rw [tab_dst htab 0, tab_dst htab 1, tab_dst htab 2, tab_dst htab 3, tab_dst htab 4, tab_dst htab 5, (show dstOf ops 6 = none from (tab_dst htab 6).trans rfl), put_none]
      rfl
    rw [e]
    exact this
  intro i o ho c L a w' hL hd ha hW
  have hi : i < 7 := by rw [← hosz]; exact (Array.getElem?_eq_some_iff.1 ho).1
  match i, ho, hL, hi with
  | 0, ho, hL, _ =>
    obtain ⟨hop, hdst, hgd⟩ := tab_at htab ho (show rtn7T[0]? = _ from rfl)
    simp only at hop hgd
    have h0 := frm_old (val := val c) ha 4 _ (hold 4 rfl) o4
    exact doesX_of (doesL_run ho (wanted_none hgd) (hpure 0 (by decide) c L w' hW) (g_load hop (eval_of h0) (r0 c L w' hW hL)))
  | 1, ho, hL, _ =>
    obtain ⟨hop, hdst, hgd⟩ := tab_at htab ho (show rtn7T[1]? = _ from rfl)
    simp only at hop hgd
    have h0 := frm_at (val := val c) hdis ha 0 40 (hds 0 40 rfl) (by omega) (depl_of hdep 1 0 (by decide) ho hd)
    exact doesX_of (doesL_run ho (wanted_none hgd) (hpure 1 (by decide) c L w' hW) (run_nil _ _ _ hop _ (eval_of h0) _))
  | 2, ho, hL, _ =>
    obtain ⟨hop, hdst, hgd⟩ := tab_at htab ho (show rtn7T[2]? = _ from rfl)
    simp only at hop hgd
    have h0 := frm_at (val := val c) hdis ha 1 41 (hds 1 41 rfl) (by omega) (depl_of hdep 2 1 (by decide) ho hd)
    exact doesX_of (doesL_run ho (wanted_none hgd) (hpure 2 (by decide) c L w' hW) (g_field hop (eval_of h0) (by kernel_rfl)))
  | 3, ho, hL, _ =>
    obtain ⟨hop, hdst, hgd⟩ := tab_at htab ho (show rtn7T[3]? = _ from rfl)
    simp only at hop hgd
    have h0 := frm_at (val := val c) hdis ha 2 42 (hds 2 42 rfl) (by omega) (depl_of hdep 3 2 (by decide) ho hd)
    exact doesX_of (doesL_run ho (wanted_none hgd) (hpure 3 (by decide) c L w' hW) (g_load hop (eval_of h0) (r3 c L w' hW hL (depl_of hdep 3 2 (by decide) ho hd))))
  | 4, ho, hL, _ =>
    obtain ⟨hop, hdst, hgd⟩ := tab_at htab ho (show rtn7T[4]? = _ from rfl)
    simp only at hop hgd
    have h0 := frm_old (val := val c) ha 6 _ (hold 6 rfl) o6
    exact doesX_of (doesL_run ho (wanted_none hgd) (hpure 4 (by decide) c L w' hW) (g_load hop (eval_of h0) (r4 c L w' hW hL)))
  | 5, ho, hL, _ =>
    obtain ⟨hop, hdst, hgd⟩ := tab_at htab ho (show rtn7T[5]? = _ from rfl)
    simp only at hop hgd
    have h0 := frm_at (val := val c) hdis ha 3 43 (hds 3 43 rfl) (by omega) (depl_of hdep 5 3 (by decide) ho hd)
    have h1 := frm_at (val := val c) hdis ha 4 44 (hds 4 44 rfl) (by omega) (depl_of hdep 5 4 (by decide) ho hd)
    refine doesX_call ho (wanted_none hgd) 104 #[(.pointer (some ⟨D, 0, none⟩)), (.agg #[I g, I r, I b, S x])] ?_ (r5 c L w' hW hL (depl_of hdep 5 3 (by decide) ho hd) (depl_of hdep 5 4 (by decide) ho hd))
    rw [run_calls Tryz.func104 (by kernel_rfl) rfl _ _ _ _ hop rfl]
    simp only [List.map_toArray, List.map_cons, List.map_nil, eval_of h0, eval_of h1]
    all_goals rfl
  | 6, ho, hL, _ =>
    obtain ⟨hop, hdst, hgd⟩ := tab_at htab ho (show rtn7T[6]? = _ from rfl)
    simp only at hop hgd
    have h0 := frm_old (val := val c) ha 8 _ (hold 8 rfl) o8
    have h1 := frm_at (val := val c) hdis ha 5 45 (hds 5 45 rfl) (by omega) (depl_of hdep 6 5 (by decide) ho hd)
    obtain ⟨W', q1, q2⟩ := r6 c L w' hW hL (depl_of hdep 6 5 (by decide) ho hd)
    exact doesX_of (doesL_skp ho (wanted_none hgd) rfl q2 (g_store hop (eval_of h0) (eval_of h1) q1))
  | (i + 7), ho, hL, hi => exact absurd hi (by omega)
def vrcm16 (P : Nat) (g root b : Int) (x : Bs) (c : Nat) (i : Nat) : Value := match i with
  | 0 => (.pointer (some ⟨P, 0, none⟩))
  | 1 => (.pointer (some ⟨P, 0, none⟩))
  | 2 => (.pointer (some ⟨P, 0 + 1, none⟩))
  | 3 => (.pointer (some ⟨P, 0 + 1 + 0, none⟩))
  | 4 => (I g)
  | 5 => (I (g + 1))
  | 6 => (I root)
  | 7 => (.pointer (some ⟨P, 0, none⟩))
  | 8 => (.pointer (some ⟨P, 0, none⟩))
  | 9 => (.pointer (some ⟨P, 0 + 1, none⟩))
  | 10 => (.pointer (some ⟨P, 0 + 1 + 2, none⟩))
  | 11 => (I b)
  | 12 => (S x)
  | 13 => (S x)
  | 14 => (.agg #[I (g + 1), I root, I b, S x])
  | 15 => (.pointer (some ⟨c, 0, none⟩))
  | 16 => undef
  | _ => undef
def rcm16T : List (Op × Option Tmp × Option (Nat × Bool)) := [
  (.move (.tmp 0), some 72, none),
  (.nilCheck (.tmp 72), some 73, none),
  (.fieldAddr 172 (.tmp 73) 1, some 74, none),
  (.fieldAddr 123 (.tmp 74) 0, some 75, none),
  (.load 3 (.tmp 75), some 76, none),
  (.binOp .add 3 (.tmp 76) (.const (.int .i64 1)) 3, some 77, none),
  (.move (.tmp 2), some 78, none),
  (.move (.tmp 0), some 79, none),
  (.nilCheck (.tmp 79), some 80, none),
  (.fieldAddr 172 (.tmp 80) 1, some 81, none),
  (.fieldAddr 123 (.tmp 81) 2, some 82, none),
  (.load 3 (.tmp 82), some 83, none),
  (.move (.tmp 3), some 84, none),
  (.call { callee := .value (.func 130), args := #[(.tmp 84)], argTypes := #[9] }, some 85, none),
  (.build 123 #[(0, (.tmp 77)), (1, (.tmp 78)), (2, (.tmp 83)), (3, (.tmp 85))], some 86, none),
  (.alloc 123, some 14, none),
  (.store 123 (.tmp 14) (.tmp 86), none, none)]
def rcm16D : List (Nat × Nat) := [(1, 0), (2, 1), (3, 2), (4, 3), (5, 4), (8, 7), (9, 8), (10, 9), (11, 10), (13, 12), (14, 5), (14, 6), (14, 11), (14, 13), (16, 14), (16, 15)]
set_option maxHeartbeats 4000000 in
theorem rcm16 {ops : Array Oper} {id : Nat} {Q : Exit → Act → World → Prop} (P : Nat) (g root b : Int) (x : Bs) (htab : ops.toList.map (fun o => (o.op, o.dst, o.guard)) = rcm16T) (hdep : deplB rcm16D ops = true) (hac : acB ops = true)
    (a0 : Act) (w : World) (hsz : 87 ≤ a0.tmps.size) (o0 : a0.tmps[0]? = some (.pointer (some ⟨P, 0, none⟩))) (o2 : a0.tmps[2]? = some (I root)) (o3 : a0.tmps[3]? = some (S x))
    (Wd : Nat → (Nat → Bool) → World → Prop) (h0 : ∃ c, Wd c (fun _ => false) w.drew) (hpure : ∀ i, i ∉ ([13, 15, 16] : List Nat) → ∀ c L W, Wd c L W → Wd c (upd L i) W)
    (r4 : ∀ c L W, Wd c L W → L 4 = false → L 3 = true → (Instr.loadAt 3 (.pointer (some ⟨P, 0 + 1 + 0, none⟩))).run Tryz.prog W = .ok (I g) W)
    (r5 : ∀ W, (do eqGuard .add 3 (.tmp 76) (.const (.int .i64 1)) (I g) (.int .i64 1); binOp .add 3 (I g) (.int .i64 1)).run Tryz.prog W = .ok (I (g + 1)) W)
    (r11 : ∀ c L W, Wd c L W → L 11 = false → L 10 = true → (Instr.loadAt 3 (.pointer (some ⟨P, 0 + 1 + 2, none⟩))).run Tryz.prog W = .ok (I b) W)
    (r13 : ∀ c L W, Wd c L W → L 13 = false → L 12 = true → Calls Tryz.prog 130 #[(S x)] W fun eg w' => ∃ c', (∀ j, L j = true → vrcm16 P g root b x c' j = vrcm16 P g root b x c j) ∧ eg = .returned (vrcm16 P g root b x c' 13) ∧ Wd c' (upd L 13) w')
    (r14 : ∀ W, (Instr.build 123 #[(0, (I (g + 1))), (1, (I root)), (2, (I b)), (3, (S x))]).run Tryz.prog W = .ok (.agg #[I (g + 1), I root, I b, S x]) W)
    (r15 : ∀ c L W, Wd c L W → L 15 = false → ∃ c' W', (∀ j, L j = true → vrcm16 P g root b x c' j = vrcm16 P g root b x c j) ∧ (Instr.alloc 123 true (.tuple #[])).run Tryz.prog W = .ok (vrcm16 P g root b x c' 15) W' ∧ Wd c' (upd L 15) W')
    (r16 : ∀ c L W, Wd c L W → L 16 = false → L 14 = true → L 15 = true → ∃ W', (Instr.storeAt 123 (.pointer (some ⟨c, 0, none⟩)) (.agg #[I (g + 1), I root, I b, S x])).run Tryz.prog W = .ok () W' ∧ Wd c (upd L 16) W')
    (hend : ∀ c L W, (∀ i, i < 17 → L i = true) → Wd c L W → Q .normal ((((((((((((((((a0.put (some 72) (.pointer (some ⟨P, 0, none⟩))).put (some 73) (.pointer (some ⟨P, 0, none⟩))).put (some 74) (.pointer (some ⟨P, 0 + 1, none⟩))).put (some 75) (.pointer (some ⟨P, 0 + 1 + 0, none⟩))).put (some 76) (I g)).put (some 77) (I (g + 1))).put (some 78) (I root)).put (some 79) (.pointer (some ⟨P, 0, none⟩))).put (some 80) (.pointer (some ⟨P, 0, none⟩))).put (some 81) (.pointer (some ⟨P, 0 + 1, none⟩))).put (some 82) (.pointer (some ⟨P, 0 + 1 + 2, none⟩))).put (some 83) (I b)).put (some 84) (S x)).put (some 85) (S x)).put (some 86) (.agg #[I (g + 1), I root, I b, S x])).put (some 14) (.pointer (some ⟨c, 0, none⟩))) W) : (Code.region id ops true).wp Tryz.prog Q a0 w := by
  let val : Nat → Nat → Value := vrcm16 P g root b x
  have hosz : ops.size = 17 := by
    have := congrArg List.length htab
    simpa [rcm16T] using this
  have hds : ∀ i s, (rcm16T[i]?).bind (·.2.1) = some s → dstOf ops i = some s := fun i s hi => by rw [tab_dst htab, hi]
  have hdisB : disL rcm16T = true := by rfl
  have hdis := disL_of htab hdisB
  have hold : ∀ s, rcm16T.all (fun x => !(x.2.1 == some s)) = true → (List.range ops.size).all (fun j => !(dstOf ops j == some s)) = true := fun s h => holdL htab s h
  refine region_detX val Wd (hac_of hac) hdis h0 ?_ ?_
  rotate_left
  · intro c L W hall hW
    have := hend c L W (by rw [← hosz]; exact hall) hW
    have e : frm ops a0 (val c) (fun _ => true) ops.size = ((((((((((((((((a0.put (some 72) (.pointer (some ⟨P, 0, none⟩))).put (some 73) (.pointer (some ⟨P, 0, none⟩))).put (some 74) (.pointer (some ⟨P, 0 + 1, none⟩))).put (some 75) (.pointer (some ⟨P, 0 + 1 + 0, none⟩))).put (some 76) (I g)).put (some 77) (I (g + 1))).put (some 78) (I root)).put (some 79) (.pointer (some ⟨P, 0, none⟩))).put (some 80) (.pointer (some ⟨P, 0, none⟩))).put (some 81) (.pointer (some ⟨P, 0 + 1, none⟩))).put (some 82) (.pointer (some ⟨P, 0 + 1 + 2, none⟩))).put (some 83) (I b)).put (some 84) (S x)).put (some 85) (S x)).put (some 86) (.agg #[I (g + 1), I root, I b, S x])).put (some 14) (.pointer (some ⟨c, 0, none⟩))) := by
      rw [hosz]
      simp only [frm, if_true]
      rw [tab_dst htab 0, tab_dst htab 1, tab_dst htab 2, tab_dst htab 3, tab_dst htab 4, tab_dst htab 5, tab_dst htab 6, tab_dst htab 7, tab_dst htab 8, tab_dst htab 9, tab_dst htab 10, tab_dst htab 11, tab_dst htab 12, tab_dst htab 13, tab_dst htab 14, tab_dst htab 15, (show dstOf ops 16 = none from (tab_dst htab 16).trans rfl), put_none]
      rfl
    rw [e]
    exact this
  intro i o ho c L a w' hL hd ha hW
  have hi : i < 17 := by rw [← hosz]; exact (Array.getElem?_eq_some_iff.1 ho).1
  match i, ho, hL, hi with
  | 0, ho, hL, _ =>
    obtain ⟨hop, hdst, hgd⟩ := tab_at htab ho (show rcm16T[0]? = _ from rfl)
    simp only at hop hgd
    have h0 := frm_old (val := val c) ha 0 _ (hold 0 rfl) o0
    exact doesX_of (doesL_run ho (wanted_none hgd) (hpure 0 (by decide) c L w' hW) (by rw [run_move _ _ _ hop]; exact congrArg (fun v => Result.ok (Next.value v) w') (eval_of h0)))
  | 1, ho, hL, _ =>
    obtain ⟨hop, hdst, hgd⟩ := tab_at htab ho (show rcm16T[1]? = _ from rfl)
    simp only at hop hgd
    have h0 := frm_at (val := val c) hdis ha 0 72 (hds 0 72 rfl) (by omega) (depl_of hdep 1 0 (by decide) ho hd)
    exact doesX_of (doesL_run ho (wanted_none hgd) (hpure 1 (by decide) c L w' hW) (run_nil _ _ _ hop _ (eval_of h0) _))
  | 2, ho, hL, _ =>
    obtain ⟨hop, hdst, hgd⟩ := tab_at htab ho (show rcm16T[2]? = _ from rfl)
    simp only at hop hgd
    have h0 := frm_at (val := val c) hdis ha 1 73 (hds 1 73 rfl) (by omega) (depl_of hdep 2 1 (by decide) ho hd)
    exact doesX_of (doesL_run ho (wanted_none hgd) (hpure 2 (by decide) c L w' hW) (g_field hop (eval_of h0) (by kernel_rfl)))
  | 3, ho, hL, _ =>
    obtain ⟨hop, hdst, hgd⟩ := tab_at htab ho (show rcm16T[3]? = _ from rfl)
    simp only at hop hgd
    have h0 := frm_at (val := val c) hdis ha 2 74 (hds 2 74 rfl) (by omega) (depl_of hdep 3 2 (by decide) ho hd)
    exact doesX_of (doesL_run ho (wanted_none hgd) (hpure 3 (by decide) c L w' hW) (g_field hop (eval_of h0) (by kernel_rfl)))
  | 4, ho, hL, _ =>
    obtain ⟨hop, hdst, hgd⟩ := tab_at htab ho (show rcm16T[4]? = _ from rfl)
    simp only at hop hgd
    have h0 := frm_at (val := val c) hdis ha 3 75 (hds 3 75 rfl) (by omega) (depl_of hdep 4 3 (by decide) ho hd)
    exact doesX_of (doesL_run ho (wanted_none hgd) (hpure 4 (by decide) c L w' hW) (g_load hop (eval_of h0) (r4 c L w' hW hL (depl_of hdep 4 3 (by decide) ho hd))))
  | 5, ho, hL, _ =>
    obtain ⟨hop, hdst, hgd⟩ := tab_at htab ho (show rcm16T[5]? = _ from rfl)
    simp only at hop hgd
    have h0 := frm_at (val := val c) hdis ha 4 76 (hds 4 76 rfl) (by omega) (depl_of hdep 5 4 (by decide) ho hd)
    exact doesX_of (doesL_run ho (wanted_none hgd) (hpure 5 (by decide) c L w' hW) (g_bin hop (eval_of h0) rfl (r5 w')))
  | 6, ho, hL, _ =>
    obtain ⟨hop, hdst, hgd⟩ := tab_at htab ho (show rcm16T[6]? = _ from rfl)
    simp only at hop hgd
    have h0 := frm_old (val := val c) ha 2 _ (hold 2 rfl) o2
    exact doesX_of (doesL_run ho (wanted_none hgd) (hpure 6 (by decide) c L w' hW) (by rw [run_move _ _ _ hop]; exact congrArg (fun v => Result.ok (Next.value v) w') (eval_of h0)))
  | 7, ho, hL, _ =>
    obtain ⟨hop, hdst, hgd⟩ := tab_at htab ho (show rcm16T[7]? = _ from rfl)
    simp only at hop hgd
    have h0 := frm_old (val := val c) ha 0 _ (hold 0 rfl) o0
    exact doesX_of (doesL_run ho (wanted_none hgd) (hpure 7 (by decide) c L w' hW) (by rw [run_move _ _ _ hop]; exact congrArg (fun v => Result.ok (Next.value v) w') (eval_of h0)))
  | 8, ho, hL, _ =>
    obtain ⟨hop, hdst, hgd⟩ := tab_at htab ho (show rcm16T[8]? = _ from rfl)
    simp only at hop hgd
    have h0 := frm_at (val := val c) hdis ha 7 79 (hds 7 79 rfl) (by omega) (depl_of hdep 8 7 (by decide) ho hd)
    exact doesX_of (doesL_run ho (wanted_none hgd) (hpure 8 (by decide) c L w' hW) (run_nil _ _ _ hop _ (eval_of h0) _))
  | 9, ho, hL, _ =>
    obtain ⟨hop, hdst, hgd⟩ := tab_at htab ho (show rcm16T[9]? = _ from rfl)
    simp only at hop hgd
    have h0 := frm_at (val := val c) hdis ha 8 80 (hds 8 80 rfl) (by omega) (depl_of hdep 9 8 (by decide) ho hd)
    exact doesX_of (doesL_run ho (wanted_none hgd) (hpure 9 (by decide) c L w' hW) (g_field hop (eval_of h0) (by kernel_rfl)))
  | 10, ho, hL, _ =>
    obtain ⟨hop, hdst, hgd⟩ := tab_at htab ho (show rcm16T[10]? = _ from rfl)
    simp only at hop hgd
    have h0 := frm_at (val := val c) hdis ha 9 81 (hds 9 81 rfl) (by omega) (depl_of hdep 10 9 (by decide) ho hd)
    exact doesX_of (doesL_run ho (wanted_none hgd) (hpure 10 (by decide) c L w' hW) (g_field hop (eval_of h0) (by kernel_rfl)))
  | 11, ho, hL, _ =>
    obtain ⟨hop, hdst, hgd⟩ := tab_at htab ho (show rcm16T[11]? = _ from rfl)
    simp only at hop hgd
    have h0 := frm_at (val := val c) hdis ha 10 82 (hds 10 82 rfl) (by omega) (depl_of hdep 11 10 (by decide) ho hd)
    exact doesX_of (doesL_run ho (wanted_none hgd) (hpure 11 (by decide) c L w' hW) (g_load hop (eval_of h0) (r11 c L w' hW hL (depl_of hdep 11 10 (by decide) ho hd))))
  | 12, ho, hL, _ =>
    obtain ⟨hop, hdst, hgd⟩ := tab_at htab ho (show rcm16T[12]? = _ from rfl)
    simp only at hop hgd
    have h0 := frm_old (val := val c) ha 3 _ (hold 3 rfl) o3
    exact doesX_of (doesL_run ho (wanted_none hgd) (hpure 12 (by decide) c L w' hW) (by rw [run_move _ _ _ hop]; exact congrArg (fun v => Result.ok (Next.value v) w') (eval_of h0)))
  | 13, ho, hL, _ =>
    obtain ⟨hop, hdst, hgd⟩ := tab_at htab ho (show rcm16T[13]? = _ from rfl)
    simp only at hop hgd
    have h0 := frm_at (val := val c) hdis ha 12 84 (hds 12 84 rfl) (by omega) (depl_of hdep 13 12 (by decide) ho hd)
    refine doesX_call ho (wanted_none hgd) 130 #[(S x)] ?_ (r13 c L w' hW hL (depl_of hdep 13 12 (by decide) ho hd))
    rw [run_calls Tryz.func130 (by kernel_rfl) rfl _ _ _ _ hop rfl]
    simp only [List.map_toArray, List.map_cons, List.map_nil, eval_of h0]
    all_goals rfl
  | 14, ho, hL, _ =>
    obtain ⟨hop, hdst, hgd⟩ := tab_at htab ho (show rcm16T[14]? = _ from rfl)
    simp only at hop hgd
    have h0 := frm_at (val := val c) hdis ha 5 77 (hds 5 77 rfl) (by omega) (depl_of hdep 14 5 (by decide) ho hd)
    have h1 := frm_at (val := val c) hdis ha 6 78 (hds 6 78 rfl) (by omega) (depl_of hdep 14 6 (by decide) ho hd)
    have h2 := frm_at (val := val c) hdis ha 11 83 (hds 11 83 rfl) (by omega) (depl_of hdep 14 11 (by decide) ho hd)
    have h3 := frm_at (val := val c) hdis ha 13 85 (hds 13 85 rfl) (by omega) (depl_of hdep 14 13 (by decide) ho hd)
    exact doesX_of (doesL_run ho (wanted_none hgd) (hpure 14 (by decide) c L w' hW) (g_build hop (by simp only [List.map_toArray, List.map_cons, List.map_nil, eval_of h0, eval_of h1, eval_of h2, eval_of h3]; first | done | rfl) (r14 w')))
  | 15, ho, hL, _ =>
    obtain ⟨hop, hdst, hgd⟩ := tab_at htab ho (show rcm16T[15]? = _ from rfl)
    simp only at hop hgd
    obtain ⟨c', W', q0, q1, q2⟩ := r15 c L w' hW hL
    exact doesX_runw ho (wanted_none hgd) c' q0 q2 (g_alloc hop q1)
  | 16, ho, hL, _ =>
    obtain ⟨hop, hdst, hgd⟩ := tab_at htab ho (show rcm16T[16]? = _ from rfl)
    simp only at hop hgd
    have h0 := frm_at (val := val c) hdis ha 15 14 (hds 15 14 rfl) (by omega) (depl_of hdep 16 15 (by decide) ho hd)
    have h1 := frm_at (val := val c) hdis ha 14 86 (hds 14 86 rfl) (by omega) (depl_of hdep 16 14 (by decide) ho hd)
    obtain ⟨W', q1, q2⟩ := r16 c L w' hW hL (depl_of hdep 16 14 (by decide) ho hd) (depl_of hdep 16 15 (by decide) ho hd)
    exact doesX_of (doesL_skp ho (wanted_none hgd) rfl q2 (g_store hop (eval_of h0) (eval_of h1) q1))
  | (i + 17), ho, hL, hi => exact absurd hi (by omega)
end Go.Proofs.YtjopnhhdemfniaaGreatDoor
/- Boxes that a drawn region makes and fills. -/
namespace Go.Proofs.YtjopnhhdemfniaaGreatDoor
open Go.RowKit
theorem upd_self (L : Nat → Bool) (i : Nat) : upd L i i = true := by simp [upd]
theorem upd_ne {L : Nat → Bool} {i j : Nat} (h : j ≠ i) : upd L i j = L j := by simp [upd, h]
theorem lt_of_blk {w : World} {g : Nat} {o : Obj} (h : w.heap[g]? = some o) : g < w.heap.size := (Array.getElem?_eq_some_iff.1 h).1
theorem setRow_row {w : World} {g : Nat} {cs vs : Array Value} {t : TypeId} {f : Nat × Nat} (h : w.heap[g]? = some (.cells cs t f)) : (w.setRow g vs).heap[g]? = some (.cells vs t f) := setRow_heap w g cs vs t f h
theorem setRow_Only (w : World) (g : Nat) (vs : Array Value) : Only (fun k => k = g) w (w.setRow g vs) := ⟨rfl, rfl, rfl, by simp, fun k _ hk => setRow_other w g k vs hk⟩
theorem belowR {B : Nat} {w0 w : World} {g : Nat} (h : Below B w0 w) (hg : B ≤ g) (vs : Array Value) : Below B w0 (w.setRow g vs) :=
  ⟨h.os, h.tape, h.output, by simpa using h.size, fun k hk => (setRow_other w g k vs (by omega)).trans (h.block k hk)⟩
/-- One box: made by the operation ia, filled by is. -/
structure Mk1 (W0 : World) (T : TypeId) (ia is : Nat) (z v : Array Value) (c : Nat) (L : Nat → Bool) (W : World) : Prop where
  bel : Below W0.heap.size W0 W
  box : L ia = true → W0.heap.size ≤ c ∧ W.heap[c]? = some (.cells (if L is = true then v else z) T (0, 0))
  nst : L is = true → L ia = true
variable {W0 W W' : World} {T : TypeId} {ia is : Nat} {z v : Array Value} {c : Nat} {L : Nat → Bool}
theorem Mk1.start (W0 : World) (T : TypeId) (ia is : Nat) (z v : Array Value) (c : Nat) : Mk1 W0 T ia is z v c (fun _ => false) W0.drew :=
  ⟨(Below.refl _ _).drew, (fun q => nomatch q), (fun q => nomatch q)⟩
theorem Mk1.pure (h : Mk1 W0 T ia is z v c L W) {i : Nat} (h1 : i ≠ ia) (h2 : i ≠ is) : Mk1 W0 T ia is z v c (upd L i) W := by
  refine ⟨h.bel, ?_, ?_⟩
  · rw [upd_ne (Ne.symm h1), upd_ne (Ne.symm h2)]; exact h.box
  · rw [upd_ne (Ne.symm h1), upd_ne (Ne.symm h2)]; exact h.nst
theorem Mk1.call (h : Mk1 W0 T ia is z v c L W) (b : Below W.heap.size W W') {i : Nat} (h1 : i ≠ ia) (h2 : i ≠ is) : Mk1 W0 T ia is z v c (upd L i) W' := by
  refine ⟨h.bel.trans (b.mono h.bel.size), ?_, ?_⟩
  · rw [upd_ne (Ne.symm h1), upd_ne (Ne.symm h2)]
    intro q
    obtain ⟨q1, q2⟩ := h.box q
    exact ⟨q1, (b.block _ (lt_of_blk q2)).trans q2⟩
  · rw [upd_ne (Ne.symm h1), upd_ne (Ne.symm h2)]; exact h.nst
theorem Mk1.alloc (h : Mk1 W0 T ia is z v c L W) (hL : L ia = false) (hne : ia ≠ is) : Mk1 W0 T ia is z v W.heap.size (upd L ia) (W.alloc (.cells z T)) := by
  have hs : L is = false := by
    cases q : L is
    · rfl
    · rw [h.nst q] at hL; cases hL
  refine ⟨h.bel.alloc h.bel.size _, ?_, ?_⟩
  · intro _
    rw [upd_ne (Ne.symm hne), hs]
    exact ⟨h.bel.size, heap_alloc_new W _⟩
  · rw [upd_ne (Ne.symm hne), hs]; exact fun q => nomatch q
theorem Mk1.fill (h : Mk1 W0 T ia is z v c L W) (hA : L ia = true) (hne : is ≠ ia) : Mk1 W0 T ia is z v c (upd L is) (W.setRow c v) := by
  obtain ⟨q1, q2⟩ := h.box hA
  refine ⟨belowR h.bel q1 v, ?_, ?_⟩
  · intro _
    rw [upd_self, if_pos rfl]
    exact ⟨q1, setRow_row q2⟩
  · intro _; rw [upd_ne (Ne.symm hne)]; exact hA
/-- The run that fills it. -/
theorem Mk1.runs (h : Mk1 W0 T ia is z v c L W) (hA : L ia = true) (hS : L is = false) {n : Nat} (hs : ∀ w, (sizeOf T).run Tryz.prog w = .ok n w) (x : Value) (hx : x.cells = v) (hn : v.size = n) (hz : z.size = n) (h1 : ∀ y ∈ v.toList, y.oneCell' = true) : (Instr.storeAt T (ptr c) x).run Tryz.prog W = .ok () (W.setRow c v) := by
  obtain ⟨q1, q2⟩ := h.box hA
  rw [hS] at q2
  have e := s_sta hs (o := 0) q2 x (by rw [hx, hn]) (by simp [hz]) (by rw [hx]; exact h1)
  rw [hx] at e
  rw [e]
  have e2 : (List.take 0 z.toList ++ v.toList ++ List.drop (0 + n) z.toList).toArray = v := by
    rw [Nat.zero_add, List.take_zero, List.nil_append, List.drop_of_length_le (by rw [Array.length_toList, hz]; exact Nat.le_refl _), List.append_nil]
  exact congrArg (fun r => Result.ok () (W.setRow c r)) e2
theorem Mk1.done (h : Mk1 W0 T ia is z v c L W) (hA : L ia = true) (hS : L is = true) : W0.heap.size ≤ c ∧ W.heap[c]? = some (.cells v T (0, 0)) := by
  obtain ⟨q1, q2⟩ := h.box hA
  rw [hS, if_pos rfl] at q2
  exact ⟨q1, q2⟩
end Go.Proofs.YtjopnhhdemfniaaGreatDoor
namespace Go.Proofs.YtjopnhhdemfniaaGreatDoor
open Go.RowKit
def vrnx1 (X : Nat) (gen root cc : Int) (nt : Bs) (c : Nat) (i : Nat) : Value := match i with
  | 0 => (.pointer (some ⟨X, 0 + 0, none⟩))
  | 1 => (I gen)
  | 2 => (I (gen + 1))
  | 3 => (.pointer (some ⟨X, 0 + 1, none⟩))
  | 4 => (I root)
  | 5 => (I cc)
  | 6 => (S nt)
  | 7 => (.agg #[I (gen + 1), I root, S nt, .slice none 0 0])
  | 8 => (.pointer (some ⟨c, 0, none⟩))
  | 9 => undef
  | _ => undef
def rnx1T : List (Op × Option Tmp × Option (Nat × Bool)) := [
  (.fieldAddr 83 (.tmp 4) 0, some 18, none),
  (.load 3 (.tmp 18), some 19, none),
  (.binOp .add 3 (.tmp 19) (.const (.int .i64 1)) 3, some 20, none),
  (.fieldAddr 83 (.tmp 4) 1, some 21, none),
  (.load 3 (.tmp 21), some 22, none),
  (.move (.tmp 3), some 23, none),
  (.call { callee := .value (.func 22), args := #[(.tmp 23)], argTypes := #[3] }, some 24, none),
  (.build 83 #[(0, (.tmp 20)), (1, (.tmp 22)), (2, (.tmp 24))], some 25, none),
  (.alloc 83, some 11, none),
  (.store 83 (.tmp 11) (.tmp 25), none, none)]
def rnx1D : List (Nat × Nat) := [(1, 0), (2, 1), (4, 3), (6, 5), (7, 2), (7, 4), (7, 6), (9, 7), (9, 8)]
set_option maxHeartbeats 4000000 in
theorem rnx1 {ops : Array Oper} {id : Nat} {Q : Exit → Act → World → Prop} (X : Nat) (gen root cc : Int) (nt : Bs) (htab : ops.toList.map (fun o => (o.op, o.dst, o.guard)) = rnx1T) (hdep : deplB rnx1D ops = true) (hac : acB ops = true)
    (a0 : Act) (w : World) (hsz : 26 ≤ a0.tmps.size) (o3 : a0.tmps[3]? = some (I cc)) (o4 : a0.tmps[4]? = some (.pointer (some ⟨X, 0, none⟩)))
    (Wd : Nat → (Nat → Bool) → World → Prop) (h0 : ∃ c, Wd c (fun _ => false) w.drew) (hpure : ∀ i, i ∉ ([6, 8, 9] : List Nat) → ∀ c L W, Wd c L W → Wd c (upd L i) W)
    (r1 : ∀ c L W, Wd c L W → L 1 = false → L 0 = true → (Instr.loadAt 3 (.pointer (some ⟨X, 0 + 0, none⟩))).run Tryz.prog W = .ok (I gen) W)
    (r2 : ∀ W, (do eqGuard .add 3 (.tmp 19) (.const (.int .i64 1)) (I gen) (.int .i64 1); binOp .add 3 (I gen) (.int .i64 1)).run Tryz.prog W = .ok (I (gen + 1)) W)
    (r4 : ∀ c L W, Wd c L W → L 4 = false → L 3 = true → (Instr.loadAt 3 (.pointer (some ⟨X, 0 + 1, none⟩))).run Tryz.prog W = .ok (I root) W)
    (r6 : ∀ c L W, Wd c L W → L 6 = false → L 5 = true → Calls Tryz.prog 22 #[(I cc)] W fun eg w' => ∃ c', (∀ j, L j = true → vrnx1 X gen root cc nt c' j = vrnx1 X gen root cc nt c j) ∧ eg = .returned (vrnx1 X gen root cc nt c' 6) ∧ Wd c' (upd L 6) w')
    (r7 : ∀ W, (Instr.build 83 #[(0, (I (gen + 1))), (1, (I root)), (2, (S nt))]).run Tryz.prog W = .ok (.agg #[I (gen + 1), I root, S nt, .slice none 0 0]) W)
    (r8 : ∀ c L W, Wd c L W → L 8 = false → ∃ c' W', (∀ j, L j = true → vrnx1 X gen root cc nt c' j = vrnx1 X gen root cc nt c j) ∧ (Instr.alloc 83 true (.tuple #[])).run Tryz.prog W = .ok (vrnx1 X gen root cc nt c' 8) W' ∧ Wd c' (upd L 8) W')
    (r9 : ∀ c L W, Wd c L W → L 9 = false → L 7 = true → L 8 = true → ∃ W', (Instr.storeAt 83 (.pointer (some ⟨c, 0, none⟩)) (.agg #[I (gen + 1), I root, S nt, .slice none 0 0])).run Tryz.prog W = .ok () W' ∧ Wd c (upd L 9) W')
    (hend : ∀ c L W, (∀ i, i < 10 → L i = true) → Wd c L W → Q .normal (((((((((a0.put (some 18) (.pointer (some ⟨X, 0 + 0, none⟩))).put (some 19) (I gen)).put (some 20) (I (gen + 1))).put (some 21) (.pointer (some ⟨X, 0 + 1, none⟩))).put (some 22) (I root)).put (some 23) (I cc)).put (some 24) (S nt)).put (some 25) (.agg #[I (gen + 1), I root, S nt, .slice none 0 0])).put (some 11) (.pointer (some ⟨c, 0, none⟩))) W) : (Code.region id ops true).wp Tryz.prog Q a0 w := by
  let val : Nat → Nat → Value := vrnx1 X gen root cc nt
  have hosz : ops.size = 10 := by
    have := congrArg List.length htab
    simpa [rnx1T] using this
  have hds : ∀ i s, (rnx1T[i]?).bind (·.2.1) = some s → dstOf ops i = some s := fun i s hi => by rw [tab_dst htab, hi]
  have hdisB : disL rnx1T = true := by rfl
  have hdis := disL_of htab hdisB
  have hold : ∀ s, rnx1T.all (fun x => !(x.2.1 == some s)) = true → (List.range ops.size).all (fun j => !(dstOf ops j == some s)) = true := fun s h => holdL htab s h
  refine region_detX val Wd (hac_of hac) hdis h0 ?_ ?_
  rotate_left
  · intro c L W hall hW
    have := hend c L W (by rw [← hosz]; exact hall) hW
    have e : frm ops a0 (val c) (fun _ => true) ops.size = (((((((((a0.put (some 18) (.pointer (some ⟨X, 0 + 0, none⟩))).put (some 19) (I gen)).put (some 20) (I (gen + 1))).put (some 21) (.pointer (some ⟨X, 0 + 1, none⟩))).put (some 22) (I root)).put (some 23) (I cc)).put (some 24) (S nt)).put (some 25) (.agg #[I (gen + 1), I root, S nt, .slice none 0 0])).put (some 11) (.pointer (some ⟨c, 0, none⟩))) := by
      rw [hosz]
      simp only [frm, if_true]
      rw [tab_dst htab 0, tab_dst htab 1, tab_dst htab 2, tab_dst htab 3, tab_dst htab 4, tab_dst htab 5, tab_dst htab 6, tab_dst htab 7, tab_dst htab 8, (show dstOf ops 9 = none from (tab_dst htab 9).trans rfl), put_none]
      rfl
    rw [e]
    exact this
  intro i o ho c L a w' hL hd ha hW
  have hi : i < 10 := by rw [← hosz]; exact (Array.getElem?_eq_some_iff.1 ho).1
  match i, ho, hL, hi with
  | 0, ho, hL, _ =>
    obtain ⟨hop, hdst, hgd⟩ := tab_at htab ho (show rnx1T[0]? = _ from rfl)
    simp only at hop hgd
    have h0 := frm_old (val := val c) ha 4 _ (hold 4 rfl) o4
    exact doesX_of (doesL_run ho (wanted_none hgd) (hpure 0 (by decide) c L w' hW) (g_field hop (eval_of h0) (by kernel_rfl)))
  | 1, ho, hL, _ =>
    obtain ⟨hop, hdst, hgd⟩ := tab_at htab ho (show rnx1T[1]? = _ from rfl)
    simp only at hop hgd
    have h0 := frm_at (val := val c) hdis ha 0 18 (hds 0 18 rfl) (by omega) (depl_of hdep 1 0 (by decide) ho hd)
    exact doesX_of (doesL_run ho (wanted_none hgd) (hpure 1 (by decide) c L w' hW) (g_load hop (eval_of h0) (r1 c L w' hW hL (depl_of hdep 1 0 (by decide) ho hd))))
  | 2, ho, hL, _ =>
    obtain ⟨hop, hdst, hgd⟩ := tab_at htab ho (show rnx1T[2]? = _ from rfl)
    simp only at hop hgd
    have h0 := frm_at (val := val c) hdis ha 1 19 (hds 1 19 rfl) (by omega) (depl_of hdep 2 1 (by decide) ho hd)
    exact doesX_of (doesL_run ho (wanted_none hgd) (hpure 2 (by decide) c L w' hW) (g_bin hop (eval_of h0) rfl (r2 w')))
  | 3, ho, hL, _ =>
    obtain ⟨hop, hdst, hgd⟩ := tab_at htab ho (show rnx1T[3]? = _ from rfl)
    simp only at hop hgd
    have h0 := frm_old (val := val c) ha 4 _ (hold 4 rfl) o4
    exact doesX_of (doesL_run ho (wanted_none hgd) (hpure 3 (by decide) c L w' hW) (g_field hop (eval_of h0) (by kernel_rfl)))
  | 4, ho, hL, _ =>
    obtain ⟨hop, hdst, hgd⟩ := tab_at htab ho (show rnx1T[4]? = _ from rfl)
    simp only at hop hgd
    have h0 := frm_at (val := val c) hdis ha 3 21 (hds 3 21 rfl) (by omega) (depl_of hdep 4 3 (by decide) ho hd)
    exact doesX_of (doesL_run ho (wanted_none hgd) (hpure 4 (by decide) c L w' hW) (g_load hop (eval_of h0) (r4 c L w' hW hL (depl_of hdep 4 3 (by decide) ho hd))))
  | 5, ho, hL, _ =>
    obtain ⟨hop, hdst, hgd⟩ := tab_at htab ho (show rnx1T[5]? = _ from rfl)
    simp only at hop hgd
    have h0 := frm_old (val := val c) ha 3 _ (hold 3 rfl) o3
    exact doesX_of (doesL_run ho (wanted_none hgd) (hpure 5 (by decide) c L w' hW) (by rw [run_move _ _ _ hop]; exact congrArg (fun v => Result.ok (Next.value v) w') (eval_of h0)))
  | 6, ho, hL, _ =>
    obtain ⟨hop, hdst, hgd⟩ := tab_at htab ho (show rnx1T[6]? = _ from rfl)
    simp only at hop hgd
    have h0 := frm_at (val := val c) hdis ha 5 23 (hds 5 23 rfl) (by omega) (depl_of hdep 6 5 (by decide) ho hd)
    refine doesX_call ho (wanted_none hgd) 22 #[(I cc)] ?_ (r6 c L w' hW hL (depl_of hdep 6 5 (by decide) ho hd))
    rw [run_calls Tryz.func22 (by kernel_rfl) rfl _ _ _ _ hop rfl]
    simp only [List.map_toArray, List.map_cons, List.map_nil, eval_of h0]
    all_goals rfl
  | 7, ho, hL, _ =>
    obtain ⟨hop, hdst, hgd⟩ := tab_at htab ho (show rnx1T[7]? = _ from rfl)
    simp only at hop hgd
    have h0 := frm_at (val := val c) hdis ha 2 20 (hds 2 20 rfl) (by omega) (depl_of hdep 7 2 (by decide) ho hd)
    have h1 := frm_at (val := val c) hdis ha 4 22 (hds 4 22 rfl) (by omega) (depl_of hdep 7 4 (by decide) ho hd)
    have h2 := frm_at (val := val c) hdis ha 6 24 (hds 6 24 rfl) (by omega) (depl_of hdep 7 6 (by decide) ho hd)
    exact doesX_of (doesL_run ho (wanted_none hgd) (hpure 7 (by decide) c L w' hW) (g_build hop (by simp only [List.map_toArray, List.map_cons, List.map_nil, eval_of h0, eval_of h1, eval_of h2]; first | done | rfl) (r7 w')))
  | 8, ho, hL, _ =>
    obtain ⟨hop, hdst, hgd⟩ := tab_at htab ho (show rnx1T[8]? = _ from rfl)
    simp only at hop hgd
    obtain ⟨c', W', q0, q1, q2⟩ := r8 c L w' hW hL
    exact doesX_runw ho (wanted_none hgd) c' q0 q2 (g_alloc hop q1)
  | 9, ho, hL, _ =>
    obtain ⟨hop, hdst, hgd⟩ := tab_at htab ho (show rnx1T[9]? = _ from rfl)
    simp only at hop hgd
    have h0 := frm_at (val := val c) hdis ha 8 11 (hds 8 11 rfl) (by omega) (depl_of hdep 9 8 (by decide) ho hd)
    have h1 := frm_at (val := val c) hdis ha 7 25 (hds 7 25 rfl) (by omega) (depl_of hdep 9 7 (by decide) ho hd)
    obtain ⟨W', q1, q2⟩ := r9 c L w' hW hL (depl_of hdep 9 7 (by decide) ho hd) (depl_of hdep 9 8 (by decide) ho hd)
    exact doesX_of (doesL_skp ho (wanted_none hgd) rfl q2 (g_store hop (eval_of h0) (eval_of h1) q1))
  | (i + 10), ho, hL, hi => exact absurd hi (by omega)
def vrnx24 (g n cap jj kk a1 a2 : Nat) (z1 z2 : Int) (bb : Bool) (_c : Unit) (i : Nat) : Value := match i with
  | 0 => (.slice (some ⟨g, 0, none⟩) n cap)
  | 1 => (.int .i64 (jj : Int))
  | 2 => (.pointer (some ⟨g, a1, none⟩))
  | 3 => (.pointer (some ⟨g, a1 + 1, none⟩))
  | 4 => (I z1)
  | 5 => (.slice (some ⟨g, 0, none⟩) n cap)
  | 6 => (.int .i64 (kk : Int))
  | 7 => (.pointer (some ⟨g, a2, none⟩))
  | 8 => (.pointer (some ⟨g, a2 + 1, none⟩))
  | 9 => (I z2)
  | 10 => (.bool bb)
  | _ => undef
def rnx24T : List (Op × Option Tmp × Option (Nat × Bool)) := [
  (.move (.tmp 15), some 84, none),
  (.move (.tmp 17), some 85, none),
  (.indexAddr 27 (.tmp 84) (.tmp 85), some 86, none),
  (.fieldAddr 24 (.tmp 86) 1, some 87, none),
  (.load 3 (.tmp 87), some 88, none),
  (.move (.tmp 15), some 89, none),
  (.move (.tmp 16), some 90, none),
  (.indexAddr 27 (.tmp 89) (.tmp 90), some 91, none),
  (.fieldAddr 24 (.tmp 91) 1, some 92, none),
  (.load 3 (.tmp 92), some 93, none),
  (.binOp .lss 3 (.tmp 88) (.tmp 93) 3, some 94, none)]
def rnx24D : List (Nat × Nat) := [(2, 0), (2, 1), (3, 2), (4, 3), (7, 5), (7, 6), (8, 7), (9, 8), (10, 4), (10, 9)]
set_option maxHeartbeats 4000000 in
theorem rnx24 {ops : Array Oper} {id : Nat} {Q : Exit → Act → World → Prop} (g n cap jj kk a1 a2 : Nat) (z1 z2 : Int) (bb : Bool) (htab : ops.toList.map (fun o => (o.op, o.dst, o.guard)) = rnx24T) (hdep : deplB rnx24D ops = true) (hac : acB ops = true)
    (a0 : Act) (w : World) (hsz : 95 ≤ a0.tmps.size) (o15 : a0.tmps[15]? = some (.slice (some ⟨g, 0, none⟩) n cap)) (o16 : a0.tmps[16]? = some (.int .i64 (kk : Int))) (o17 : a0.tmps[17]? = some (.int .i64 (jj : Int)))
    (Wd : Unit → (Nat → Bool) → World → Prop) (h0 : ∃ c, Wd c (fun _ => false) w.drew) (hpure : ∀ i, i ∉ ([] : List Nat) → ∀ c L W, Wd c L W → Wd c (upd L i) W)
    (r2 : ∀ W, (Instr.indexAt 27 (.slice (some ⟨g, 0, none⟩) n cap) (.int .i64 (jj : Int))).run Tryz.prog W = .ok (.pointer (some ⟨g, a1, none⟩)) W)
    (r4 : ∀ c L W, Wd c L W → L 4 = false → L 3 = true → (Instr.loadAt 3 (.pointer (some ⟨g, a1 + 1, none⟩))).run Tryz.prog W = .ok (I z1) W)
    (r7 : ∀ W, (Instr.indexAt 27 (.slice (some ⟨g, 0, none⟩) n cap) (.int .i64 (kk : Int))).run Tryz.prog W = .ok (.pointer (some ⟨g, a2, none⟩)) W)
    (r9 : ∀ c L W, Wd c L W → L 9 = false → L 8 = true → (Instr.loadAt 3 (.pointer (some ⟨g, a2 + 1, none⟩))).run Tryz.prog W = .ok (I z2) W)
    (r10 : ∀ W, (do eqGuard .lss 3 (.tmp 88) (.tmp 93) (I z1) (I z2); binOp .lss 3 (I z1) (I z2)).run Tryz.prog W = .ok (.bool bb) W)
    (hend : ∀ c L W, (∀ i, i < 11 → L i = true) → Wd c L W → Q .normal (((((((((((a0.put (some 84) (.slice (some ⟨g, 0, none⟩) n cap)).put (some 85) (.int .i64 (jj : Int))).put (some 86) (.pointer (some ⟨g, a1, none⟩))).put (some 87) (.pointer (some ⟨g, a1 + 1, none⟩))).put (some 88) (I z1)).put (some 89) (.slice (some ⟨g, 0, none⟩) n cap)).put (some 90) (.int .i64 (kk : Int))).put (some 91) (.pointer (some ⟨g, a2, none⟩))).put (some 92) (.pointer (some ⟨g, a2 + 1, none⟩))).put (some 93) (I z2)).put (some 94) (.bool bb)) W) : (Code.region id ops true).wp Tryz.prog Q a0 w := by
  let val : Unit → Nat → Value := vrnx24 g n cap jj kk a1 a2 z1 z2 bb
  have hosz : ops.size = 11 := by
    have := congrArg List.length htab
    simpa [rnx24T] using this
  have hds : ∀ i s, (rnx24T[i]?).bind (·.2.1) = some s → dstOf ops i = some s := fun i s hi => by rw [tab_dst htab, hi]
  have hdisB : disL rnx24T = true := by rfl
  have hdis := disL_of htab hdisB
  have hold : ∀ s, rnx24T.all (fun x => !(x.2.1 == some s)) = true → (List.range ops.size).all (fun j => !(dstOf ops j == some s)) = true := fun s h => holdL htab s h
  refine region_detX val Wd (hac_of hac) hdis h0 ?_ ?_
  rotate_left
  · intro c L W hall hW
    have := hend c L W (by rw [← hosz]; exact hall) hW
    have e : frm ops a0 (val c) (fun _ => true) ops.size = (((((((((((a0.put (some 84) (.slice (some ⟨g, 0, none⟩) n cap)).put (some 85) (.int .i64 (jj : Int))).put (some 86) (.pointer (some ⟨g, a1, none⟩))).put (some 87) (.pointer (some ⟨g, a1 + 1, none⟩))).put (some 88) (I z1)).put (some 89) (.slice (some ⟨g, 0, none⟩) n cap)).put (some 90) (.int .i64 (kk : Int))).put (some 91) (.pointer (some ⟨g, a2, none⟩))).put (some 92) (.pointer (some ⟨g, a2 + 1, none⟩))).put (some 93) (I z2)).put (some 94) (.bool bb)) := by
      rw [hosz]
      simp only [frm, if_true]
      rw [tab_dst htab 0, tab_dst htab 1, tab_dst htab 2, tab_dst htab 3, tab_dst htab 4, tab_dst htab 5, tab_dst htab 6, tab_dst htab 7, tab_dst htab 8, tab_dst htab 9, tab_dst htab 10]
      rfl
    rw [e]
    exact this
  intro i o ho c L a w' hL hd ha hW
  have hi : i < 11 := by rw [← hosz]; exact (Array.getElem?_eq_some_iff.1 ho).1
  match i, ho, hL, hi with
  | 0, ho, hL, _ =>
    obtain ⟨hop, hdst, hgd⟩ := tab_at htab ho (show rnx24T[0]? = _ from rfl)
    simp only at hop hgd
    have h0 := frm_old (val := val c) ha 15 _ (hold 15 rfl) o15
    exact doesX_of (doesL_run ho (wanted_none hgd) (hpure 0 (by decide) c L w' hW) (by rw [run_move _ _ _ hop]; exact congrArg (fun v => Result.ok (Next.value v) w') (eval_of h0)))
  | 1, ho, hL, _ =>
    obtain ⟨hop, hdst, hgd⟩ := tab_at htab ho (show rnx24T[1]? = _ from rfl)
    simp only at hop hgd
    have h0 := frm_old (val := val c) ha 17 _ (hold 17 rfl) o17
    exact doesX_of (doesL_run ho (wanted_none hgd) (hpure 1 (by decide) c L w' hW) (by rw [run_move _ _ _ hop]; exact congrArg (fun v => Result.ok (Next.value v) w') (eval_of h0)))
  | 2, ho, hL, _ =>
    obtain ⟨hop, hdst, hgd⟩ := tab_at htab ho (show rnx24T[2]? = _ from rfl)
    simp only at hop hgd
    have h0 := frm_at (val := val c) hdis ha 0 84 (hds 0 84 rfl) (by omega) (depl_of hdep 2 0 (by decide) ho hd)
    have h1 := frm_at (val := val c) hdis ha 1 85 (hds 1 85 rfl) (by omega) (depl_of hdep 2 1 (by decide) ho hd)
    exact doesX_of (doesL_run ho (wanted_none hgd) (hpure 2 (by decide) c L w' hW) (g_ixa hop (eval_of h0) (eval_of h1) (r2 w')))
  | 3, ho, hL, _ =>
    obtain ⟨hop, hdst, hgd⟩ := tab_at htab ho (show rnx24T[3]? = _ from rfl)
    simp only at hop hgd
    have h0 := frm_at (val := val c) hdis ha 2 86 (hds 2 86 rfl) (by omega) (depl_of hdep 3 2 (by decide) ho hd)
    exact doesX_of (doesL_run ho (wanted_none hgd) (hpure 3 (by decide) c L w' hW) (g_field hop (eval_of h0) (by kernel_rfl)))
  | 4, ho, hL, _ =>
    obtain ⟨hop, hdst, hgd⟩ := tab_at htab ho (show rnx24T[4]? = _ from rfl)
    simp only at hop hgd
    have h0 := frm_at (val := val c) hdis ha 3 87 (hds 3 87 rfl) (by omega) (depl_of hdep 4 3 (by decide) ho hd)
    exact doesX_of (doesL_run ho (wanted_none hgd) (hpure 4 (by decide) c L w' hW) (g_load hop (eval_of h0) (r4 c L w' hW hL (depl_of hdep 4 3 (by decide) ho hd))))
  | 5, ho, hL, _ =>
    obtain ⟨hop, hdst, hgd⟩ := tab_at htab ho (show rnx24T[5]? = _ from rfl)
    simp only at hop hgd
    have h0 := frm_old (val := val c) ha 15 _ (hold 15 rfl) o15
    exact doesX_of (doesL_run ho (wanted_none hgd) (hpure 5 (by decide) c L w' hW) (by rw [run_move _ _ _ hop]; exact congrArg (fun v => Result.ok (Next.value v) w') (eval_of h0)))
  | 6, ho, hL, _ =>
    obtain ⟨hop, hdst, hgd⟩ := tab_at htab ho (show rnx24T[6]? = _ from rfl)
    simp only at hop hgd
    have h0 := frm_old (val := val c) ha 16 _ (hold 16 rfl) o16
    exact doesX_of (doesL_run ho (wanted_none hgd) (hpure 6 (by decide) c L w' hW) (by rw [run_move _ _ _ hop]; exact congrArg (fun v => Result.ok (Next.value v) w') (eval_of h0)))
  | 7, ho, hL, _ =>
    obtain ⟨hop, hdst, hgd⟩ := tab_at htab ho (show rnx24T[7]? = _ from rfl)
    simp only at hop hgd
    have h0 := frm_at (val := val c) hdis ha 5 89 (hds 5 89 rfl) (by omega) (depl_of hdep 7 5 (by decide) ho hd)
    have h1 := frm_at (val := val c) hdis ha 6 90 (hds 6 90 rfl) (by omega) (depl_of hdep 7 6 (by decide) ho hd)
    exact doesX_of (doesL_run ho (wanted_none hgd) (hpure 7 (by decide) c L w' hW) (g_ixa hop (eval_of h0) (eval_of h1) (r7 w')))
  | 8, ho, hL, _ =>
    obtain ⟨hop, hdst, hgd⟩ := tab_at htab ho (show rnx24T[8]? = _ from rfl)
    simp only at hop hgd
    have h0 := frm_at (val := val c) hdis ha 7 91 (hds 7 91 rfl) (by omega) (depl_of hdep 8 7 (by decide) ho hd)
    exact doesX_of (doesL_run ho (wanted_none hgd) (hpure 8 (by decide) c L w' hW) (g_field hop (eval_of h0) (by kernel_rfl)))
  | 9, ho, hL, _ =>
    obtain ⟨hop, hdst, hgd⟩ := tab_at htab ho (show rnx24T[9]? = _ from rfl)
    simp only at hop hgd
    have h0 := frm_at (val := val c) hdis ha 8 92 (hds 8 92 rfl) (by omega) (depl_of hdep 9 8 (by decide) ho hd)
    exact doesX_of (doesL_run ho (wanted_none hgd) (hpure 9 (by decide) c L w' hW) (g_load hop (eval_of h0) (r9 c L w' hW hL (depl_of hdep 9 8 (by decide) ho hd))))
  | 10, ho, hL, _ =>
    obtain ⟨hop, hdst, hgd⟩ := tab_at htab ho (show rnx24T[10]? = _ from rfl)
    simp only at hop hgd
    have h0 := frm_at (val := val c) hdis ha 4 88 (hds 4 88 rfl) (by omega) (depl_of hdep 10 4 (by decide) ho hd)
    have h1 := frm_at (val := val c) hdis ha 9 93 (hds 9 93 rfl) (by omega) (depl_of hdep 10 9 (by decide) ho hd)
    exact doesX_of (doesL_run ho (wanted_none hgd) (hpure 10 (by decide) c L w' hW) (g_bin hop (eval_of h0) (eval_of h1) (r10 w')))
  | (i + 11), ho, hL, hi => exact absurd hi (by omega)
def vrnx26 (X g n cap kk a1 m mc : Nat) (ma : Option Addr) (pp : Array Value) (c : Cav) (i : Nat) : Value := match i with
  | 0 => (.pointer (some ⟨X, 0 + 3, none⟩))
  | 1 => (.slice ma m mc)
  | 2 => (.slice (some ⟨g, 0, none⟩) n cap)
  | 3 => (.int .i64 (kk : Int))
  | 4 => (.pointer (some ⟨g, a1, none⟩))
  | 5 => (.agg pp)
  | 6 => (.slice (some ⟨c.a, 0, none⟩) 1 1)
  | 7 => c.v
  | 8 => (.pointer (some ⟨X, 0 + 3, none⟩))
  | 9 => undef
  | _ => undef
def rnx26T : List (Op × Option Tmp × Option (Nat × Bool)) := [
  (.fieldAddr 83 (.tmp 11) 3, some 96, none),
  (.load 27 (.tmp 96), some 97, none),
  (.move (.tmp 15), some 98, none),
  (.move (.tmp 16), some 99, none),
  (.indexAddr 27 (.tmp 98) (.tmp 99), some 100, none),
  (.load 24 (.tmp 100), some 101, none),
  (.buildSlice 27 1 #[(0, (.tmp 101))], some 102, none),
  (.call { callee := .builtin .append, args := #[(.tmp 97), (.tmp 102)], argTypes := #[27, 27] }, some 103, none),
  (.fieldAddr 83 (.tmp 11) 3, some 104, none),
  (.store 27 (.tmp 104) (.tmp 103), none, none)]
def rnx26D : List (Nat × Nat) := [(1, 0), (4, 2), (4, 3), (5, 4), (6, 5), (7, 1), (7, 6), (9, 7), (9, 8)]
set_option maxHeartbeats 4000000 in
theorem rnx26 {ops : Array Oper} {id : Nat} {Q : Exit → Act → World → Prop} (X g n cap kk a1 m mc : Nat) (ma : Option Addr) (pp : Array Value) (htab : ops.toList.map (fun o => (o.op, o.dst, o.guard)) = rnx26T) (hdep : deplB rnx26D ops = true) (hac : acB ops = true)
    (a0 : Act) (w : World) (hsz : 105 ≤ a0.tmps.size) (o11 : a0.tmps[11]? = some (.pointer (some ⟨X, 0, none⟩))) (o15 : a0.tmps[15]? = some (.slice (some ⟨g, 0, none⟩) n cap)) (o16 : a0.tmps[16]? = some (.int .i64 (kk : Int)))
    (Wd : Cav → (Nat → Bool) → World → Prop) (h0 : ∃ c, Wd c (fun _ => false) w.drew) (hpure : ∀ i, i ∉ ([6, 7, 9] : List Nat) → ∀ c L W, Wd c L W → Wd c (upd L i) W)
    (r1 : ∀ c L W, Wd c L W → L 1 = false → L 0 = true → (Instr.loadAt 27 (.pointer (some ⟨X, 0 + 3, none⟩))).run Tryz.prog W = .ok (.slice ma m mc) W)
    (r4 : ∀ W, (Instr.indexAt 27 (.slice (some ⟨g, 0, none⟩) n cap) (.int .i64 (kk : Int))).run Tryz.prog W = .ok (.pointer (some ⟨g, a1, none⟩)) W)
    (r5 : ∀ c L W, Wd c L W → L 5 = false → L 4 = true → (Instr.loadAt 24 (.pointer (some ⟨g, a1, none⟩))).run Tryz.prog W = .ok (.agg pp) W)
    (r6 : ∀ c L W, Wd c L W → L 6 = false → L 5 = true → ∃ c' W', (∀ j, L j = true → vrnx26 X g n cap kk a1 m mc ma pp c' j = vrnx26 X g n cap kk a1 m mc ma pp c j) ∧ (Instr.buildSlice 27 1 #[(0, (.agg pp))]).run Tryz.prog W = .ok (vrnx26 X g n cap kk a1 m mc ma pp c' 6) W' ∧ Wd c' (upd L 6) W')
    (r7 : ∀ T, ∀ c L W, Wd c L W → L 7 = false → L 1 = true → L 6 = true → ∃ c' W', (∀ j, L j = true → vrnx26 X g n cap kk a1 m mc ma pp c' j = vrnx26 X g n cap kk a1 m mc ma pp c j) ∧ (Builtin.append_ #[27, 27] T #[(.slice ma m mc), (.slice (some ⟨c.a, 0, none⟩) 1 1)]).run Tryz.prog W = .ok (vrnx26 X g n cap kk a1 m mc ma pp c' 7) W' ∧ Wd c' (upd L 7) W')
    (r9 : ∀ c L W, Wd c L W → L 9 = false → L 7 = true → L 8 = true → ∃ W', (Instr.storeAt 27 (.pointer (some ⟨X, 0 + 3, none⟩)) c.v).run Tryz.prog W = .ok () W' ∧ Wd c (upd L 9) W')
    (hend : ∀ c L W, (∀ i, i < 10 → L i = true) → Wd c L W → Q .normal (((((((((a0.put (some 96) (.pointer (some ⟨X, 0 + 3, none⟩))).put (some 97) (.slice ma m mc)).put (some 98) (.slice (some ⟨g, 0, none⟩) n cap)).put (some 99) (.int .i64 (kk : Int))).put (some 100) (.pointer (some ⟨g, a1, none⟩))).put (some 101) (.agg pp)).put (some 102) (.slice (some ⟨c.a, 0, none⟩) 1 1)).put (some 103) c.v).put (some 104) (.pointer (some ⟨X, 0 + 3, none⟩))) W) : (Code.region id ops true).wp Tryz.prog Q a0 w := by
  let val : Cav → Nat → Value := vrnx26 X g n cap kk a1 m mc ma pp
  have hosz : ops.size = 10 := by
    have := congrArg List.length htab
    simpa [rnx26T] using this
  have hds : ∀ i s, (rnx26T[i]?).bind (·.2.1) = some s → dstOf ops i = some s := fun i s hi => by rw [tab_dst htab, hi]
  have hdisB : disL rnx26T = true := by rfl
  have hdis := disL_of htab hdisB
  have hold : ∀ s, rnx26T.all (fun x => !(x.2.1 == some s)) = true → (List.range ops.size).all (fun j => !(dstOf ops j == some s)) = true := fun s h => holdL htab s h
  refine region_detX val Wd (hac_of hac) hdis h0 ?_ ?_
  rotate_left
  · intro c L W hall hW
    have := hend c L W (by rw [← hosz]; exact hall) hW
    have e : frm ops a0 (val c) (fun _ => true) ops.size = (((((((((a0.put (some 96) (.pointer (some ⟨X, 0 + 3, none⟩))).put (some 97) (.slice ma m mc)).put (some 98) (.slice (some ⟨g, 0, none⟩) n cap)).put (some 99) (.int .i64 (kk : Int))).put (some 100) (.pointer (some ⟨g, a1, none⟩))).put (some 101) (.agg pp)).put (some 102) (.slice (some ⟨c.a, 0, none⟩) 1 1)).put (some 103) c.v).put (some 104) (.pointer (some ⟨X, 0 + 3, none⟩))) := by
      rw [hosz]
      simp only [frm, if_true]
      rw [tab_dst htab 0, tab_dst htab 1, tab_dst htab 2, tab_dst htab 3, tab_dst htab 4, tab_dst htab 5, tab_dst htab 6, tab_dst htab 7, tab_dst htab 8, (show dstOf ops 9 = none from (tab_dst htab 9).trans rfl), put_none]
      rfl
    rw [e]
    exact this
  intro i o ho c L a w' hL hd ha hW
  have hi : i < 10 := by rw [← hosz]; exact (Array.getElem?_eq_some_iff.1 ho).1
  match i, ho, hL, hi with
  | 0, ho, hL, _ =>
    obtain ⟨hop, hdst, hgd⟩ := tab_at htab ho (show rnx26T[0]? = _ from rfl)
    simp only at hop hgd
    have h0 := frm_old (val := val c) ha 11 _ (hold 11 rfl) o11
    exact doesX_of (doesL_run ho (wanted_none hgd) (hpure 0 (by decide) c L w' hW) (g_field hop (eval_of h0) (by kernel_rfl)))
  | 1, ho, hL, _ =>
    obtain ⟨hop, hdst, hgd⟩ := tab_at htab ho (show rnx26T[1]? = _ from rfl)
    simp only at hop hgd
    have h0 := frm_at (val := val c) hdis ha 0 96 (hds 0 96 rfl) (by omega) (depl_of hdep 1 0 (by decide) ho hd)
    exact doesX_of (doesL_run ho (wanted_none hgd) (hpure 1 (by decide) c L w' hW) (g_load hop (eval_of h0) (r1 c L w' hW hL (depl_of hdep 1 0 (by decide) ho hd))))
  | 2, ho, hL, _ =>
    obtain ⟨hop, hdst, hgd⟩ := tab_at htab ho (show rnx26T[2]? = _ from rfl)
    simp only at hop hgd
    have h0 := frm_old (val := val c) ha 15 _ (hold 15 rfl) o15
    exact doesX_of (doesL_run ho (wanted_none hgd) (hpure 2 (by decide) c L w' hW) (by rw [run_move _ _ _ hop]; exact congrArg (fun v => Result.ok (Next.value v) w') (eval_of h0)))
  | 3, ho, hL, _ =>
    obtain ⟨hop, hdst, hgd⟩ := tab_at htab ho (show rnx26T[3]? = _ from rfl)
    simp only at hop hgd
    have h0 := frm_old (val := val c) ha 16 _ (hold 16 rfl) o16
    exact doesX_of (doesL_run ho (wanted_none hgd) (hpure 3 (by decide) c L w' hW) (by rw [run_move _ _ _ hop]; exact congrArg (fun v => Result.ok (Next.value v) w') (eval_of h0)))
  | 4, ho, hL, _ =>
    obtain ⟨hop, hdst, hgd⟩ := tab_at htab ho (show rnx26T[4]? = _ from rfl)
    simp only at hop hgd
    have h0 := frm_at (val := val c) hdis ha 2 98 (hds 2 98 rfl) (by omega) (depl_of hdep 4 2 (by decide) ho hd)
    have h1 := frm_at (val := val c) hdis ha 3 99 (hds 3 99 rfl) (by omega) (depl_of hdep 4 3 (by decide) ho hd)
    exact doesX_of (doesL_run ho (wanted_none hgd) (hpure 4 (by decide) c L w' hW) (g_ixa hop (eval_of h0) (eval_of h1) (r4 w')))
  | 5, ho, hL, _ =>
    obtain ⟨hop, hdst, hgd⟩ := tab_at htab ho (show rnx26T[5]? = _ from rfl)
    simp only at hop hgd
    have h0 := frm_at (val := val c) hdis ha 4 100 (hds 4 100 rfl) (by omega) (depl_of hdep 5 4 (by decide) ho hd)
    exact doesX_of (doesL_run ho (wanted_none hgd) (hpure 5 (by decide) c L w' hW) (g_load hop (eval_of h0) (r5 c L w' hW hL (depl_of hdep 5 4 (by decide) ho hd))))
  | 6, ho, hL, _ =>
    obtain ⟨hop, hdst, hgd⟩ := tab_at htab ho (show rnx26T[6]? = _ from rfl)
    simp only at hop hgd
    have h0 := frm_at (val := val c) hdis ha 5 101 (hds 5 101 rfl) (by omega) (depl_of hdep 6 5 (by decide) ho hd)
    obtain ⟨c', W', q0, q1, q2⟩ := r6 c L w' hW hL (depl_of hdep 6 5 (by decide) ho hd)
    exact doesX_runw ho (wanted_none hgd) c' q0 q2 (g_bs hop (by simp only [List.map_toArray, List.map_cons, List.map_nil, eval_of h0]; first | done | rfl) q1)
  | 7, ho, hL, _ =>
    obtain ⟨hop, hdst, hgd⟩ := tab_at htab ho (show rnx26T[7]? = _ from rfl)
    simp only at hop hgd
    have h0 := frm_at (val := val c) hdis ha 1 97 (hds 1 97 rfl) (by omega) (depl_of hdep 7 1 (by decide) ho hd)
    have h1 := frm_at (val := val c) hdis ha 6 102 (hds 6 102 rfl) (by omega) (depl_of hdep 7 6 (by decide) ho hd)
    obtain ⟨c', W', q0, q1, q2⟩ := r7 _ c L w' hW hL (depl_of hdep 7 1 (by decide) ho hd) (depl_of hdep 7 6 (by decide) ho hd)
    exact doesX_runw ho (wanted_none hgd) c' q0 q2 (g_app hop (eval_of h0) (eval_of h1) q1)
  | 8, ho, hL, _ =>
    obtain ⟨hop, hdst, hgd⟩ := tab_at htab ho (show rnx26T[8]? = _ from rfl)
    simp only at hop hgd
    have h0 := frm_old (val := val c) ha 11 _ (hold 11 rfl) o11
    exact doesX_of (doesL_run ho (wanted_none hgd) (hpure 8 (by decide) c L w' hW) (g_field hop (eval_of h0) (by kernel_rfl)))
  | 9, ho, hL, _ =>
    obtain ⟨hop, hdst, hgd⟩ := tab_at htab ho (show rnx26T[9]? = _ from rfl)
    simp only at hop hgd
    have h0 := frm_at (val := val c) hdis ha 8 104 (hds 8 104 rfl) (by omega) (depl_of hdep 9 8 (by decide) ho hd)
    have h1 := frm_at (val := val c) hdis ha 7 103 (hds 7 103 rfl) (by omega) (depl_of hdep 9 7 (by decide) ho hd)
    obtain ⟨W', q1, q2⟩ := r9 c L w' hW hL (depl_of hdep 9 7 (by decide) ho hd) (depl_of hdep 9 8 (by decide) ho hd)
    exact doesX_of (doesL_skp ho (wanted_none hgd) rfl q2 (g_store hop (eval_of h0) (eval_of h1) q1))
  | (i + 10), ho, hL, hi => exact absurd hi (by omega)
end Go.Proofs.YtjopnhhdemfniaaGreatDoor
