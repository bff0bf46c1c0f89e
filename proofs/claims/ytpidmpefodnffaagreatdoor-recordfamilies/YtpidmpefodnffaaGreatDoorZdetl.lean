import Derived.Test.YtpidmpefodnffaaGreatDoorZcob
import Derived.Test.YtpidmpefodnffaaGreatDoorDsa
import Derived.Conc.MuLone
import Derived.Laws.Tables
namespace Go.Proofs.YtpidmpefodnffaaGreatDoor
open Go.RowKit
theorem tab_at {ops : Array Oper} {l : List (Op × Option Tmp × Option (Nat × Bool))} (h : ops.toList.map (fun o => (o.op, o.dst, o.guard)) = l) {i : Nat} {o : Oper} (ho : ops[i]? = some o) {x : Op × Option Tmp × Option (Nat × Bool)} (hx : l[i]? = some x) : o.op = x.1 ∧ o.dst = x.2.1 ∧ o.guard = x.2.2 := by
  rw [← h, List.getElem?_map] at hx
  have : ops.toList[i]? = some o := by simpa using ho
  rw [this] at hx
  have := Option.some.inj hx
  rw [← this]
  exact ⟨rfl, rfl, rfl⟩
theorem tab_dst {ops : Array Oper} {l : List (Op × Option Tmp × Option (Nat × Bool))} (h : ops.toList.map (fun o => (o.op, o.dst, o.guard)) = l) (i : Nat) : dstOf ops i = (l[i]?).bind (·.2.1) := by
  rw [← h, List.getElem?_map]
  unfold dstOf
  have : ops.toList[i]? = ops[i]? := by simp
  rw [this]
  cases ops[i]? <;> rfl
theorem run_pick (ρ : Operand → Value) (o : Oper) (c x y : Operand) (ho : o.op = .pick c x y) (b : Bool) (hc : ρ c = .bool b) (P : Program) (w : World) : (execOp ρ o).run P w = .ok (.value (if b then ρ x else ρ y)) w := by
  unfold execOp
  simp only [ho, hc]
  cases b <;> rfl
theorem run_move (ρ : Operand → Value) (o : Oper) (x : Operand) (ho : o.op = .move x) (P : Program) (w : World) : (execOp ρ o).run P w = .ok (.value (ρ x)) w := by
  unfold execOp
  simp only [ho]
  rfl
variable {ops : Array Oper} {Q : Exit → Act → World → Prop}
def DoesL (ops : Array Oper) (Q : Exit → Act → World → Prop) (Wd : (Nat → Bool) → World → Prop) (val : Nat → Value) (i : Nat) (L : Nat → Bool) (a : Act) (w : World) : Prop :=
  wpOp Tryz.prog ops Q i (fun a' w' => a' = a.put (dstOf ops i) (val i) ∧ Wd (upd L i) w') a w
variable {Wd : (Nat → Bool) → World → Prop} {val : Nat → Value} {i : Nat} {L : Nat → Bool} {o : Oper} {a : Act} {w : World}
theorem doesL_run (ho : ops[i]? = some o) (hw : Region.wanted o (yielded ops a.tmps) = true) (hW : Wd (upd L i) w)
    (hr : (execOp a.eval o).run Tryz.prog w = .ok (.value (val i)) w) : DoesL ops Q Wd val i L a w := by
  unfold DoesL wpOp
  simp only [ho]
  rw [if_pos hw]
  left
  unfold Oper.wp
  rw [hr, Oper.upon_value]
  refine ⟨?_, hW⟩
  simp [dstOf, ho]
theorem run_assign (ρ : Operand → Value) (o : Oper) (x : Operand) (ho : o.op = .assign x) (w : World) : (execOp ρ o).run Tryz.prog w = .ok (.value (ρ x)) w := by
  unfold execOp
  simp only [ho]
  rfl
theorem run_calls {f : FuncId} {fn : Func} {c : Code} (hf : Tryz.prog.funcs[f]? = some fn) (hname : (fn.name == "runtime.NumGoroutine") = false) (hb : fn.body = some c) (ρ : Operand → Value) (o : Oper) (xs : Array Operand) (ty : Array TypeId) (ho : o.op = .call { callee := .value (.func f), args := xs, argTypes := ty }) (hfn : ρ (.func f) = .func (.func f) #[] #[]) (w : World) : (execOp ρ o).run Tryz.prog w = .ok (.enter f (xs.map ρ)) w := by
  unfold execOp
  simp only [ho, resolve, hfn]
  have := Go.MuLone.run_callFunc_enter (P := Tryz.prog) hf hname hb (xs.map ρ) w
  simp [Deferred.ofValue, invoke, this]
theorem run_nil (ρ : Operand → Value) (o : Oper) (x : Operand) (ho : o.op = .nilCheck x) (p : Addr) (hx : ρ x = .pointer (some p)) (w : World) : (execOp ρ o).run Tryz.prog w = .ok (.value (.pointer (some p))) w := by
  unfold execOp
  simp only [ho, hx]
  rfl
theorem run_len (ρ : Operand → Value) (o : Oper) (x : Operand) (ho : o.op = .call { callee := .builtin .len, args := #[x], argTypes := #[9] }) (s : List UInt8) (hx : ρ x = .string ⟨s.toArray⟩) (w : World) : (execOp ρ o).run Tryz.prog w = .ok (.value (.int .i64 (s.length : Int))) w := by
  unfold execOp
  simp only [ho, resolve, invoke, builtin]
  simp [hx, go_sem]
def deplB (l : List (Nat × Nat)) (ops : Array Oper) : Bool := l.all fun x => match ops[x.1]? with | some o => o.after.toList.any (fun e => Region.binds .any e && e.on == x.2) | none => false
theorem depl_of {l : List (Nat × Nat)} {ops : Array Oper} (h : deplB l ops = true) (i j : Nat) (hm : (i, j) ∈ l) {o : Oper} (ho : ops[i]? = some o) {L : Nat → Bool} (hd : ∀ e ∈ o.after, Region.binds .any e = true → L e.on = true) : L j = true := by
  have h1 := List.all_eq_true.1 h (i, j) hm
  simp only [ho] at h1
  obtain ⟨e, he, q⟩ := List.any_eq_true.1 h1
  rw [Bool.and_eq_true] at q
  have := hd e (by simpa using he) q.1
  rw [beq_iff_eq.1 q.2] at this
  exact this
def disL (T : List (Op × Option Tmp × Option (Nat × Bool))) : Bool := (List.range T.length).all fun i => (List.range T.length).all fun j => i == j || ((T[j]?).bind (·.2.1)).isNone || !((T[j]?).bind (·.2.1) == (T[i]?).bind (·.2.1))
theorem disL_of {T : List (Op × Option Tmp × Option (Nat × Bool))} {ops : Array Oper} (htab : ops.toList.map (fun o => (o.op, o.dst, o.guard)) = T) (h : disL T = true) : ∀ i j, j ≠ i → dstOf ops j ≠ dstOf ops i ∨ dstOf ops j = none := by
  intro i j hne
  rw [tab_dst htab, tab_dst htab]
  by_cases hj : j < T.length
  · by_cases hi : i < T.length
    · have h1 := List.all_eq_true.1 (List.all_eq_true.1 h i (List.mem_range.2 hi)) j (List.mem_range.2 hj)
      simp only [Bool.or_eq_true, beq_iff_eq, Option.isNone_iff_eq_none, Bool.not_eq_true', beq_eq_false_iff_ne, ne_eq] at h1
      rcases h1 with (h1 | h1) | h1
      · exact absurd h1.symm hne
      · exact .inr h1
      · exact .inl h1
    · rw [List.getElem?_eq_none (Nat.le_of_not_lt hi)]
      cases q : (T[j]?).bind (·.2.1) with
      | none => exact .inr rfl
      | some x => exact .inl (by simp)
  · right
    rw [List.getElem?_eq_none (Nat.le_of_not_lt hj)]
    rfl
theorem holdL {T : List (Op × Option Tmp × Option (Nat × Bool))} {ops : Array Oper} (htab : ops.toList.map (fun o => (o.op, o.dst, o.guard)) = T) (s : Nat) (h : T.all (fun x => !(x.2.1 == some s)) = true) : (List.range ops.size).all (fun j => !(dstOf ops j == some s)) = true := by
  rw [List.all_eq_true]
  intro j hj
  rw [tab_dst htab]
  cases q : T[j]? with
  | none => rfl
  | some x =>
    have := List.all_eq_true.1 h x (List.mem_of_getElem? q)
    exact this
theorem frm_late {ops : Array Oper} (a0 : Act) (val : Nat → Value) (L : Nat → Bool) (s m : Nat) (hm : L m = false) : ∀ n, (∀ j, j ≠ m → dstOf ops j ≠ some s) → (frm ops a0 val L n).tmps[s]? = a0.tmps[s]? := by
  intro n
  induction n with
  | zero => intro _; rfl
  | succ n ih =>
    intro h
    simp only [frm]
    split
    · rename_i hn
      rw [put_get_ne _ _ _ _ (h n (fun e => by rw [e, hm] at hn; cases hn))]
      exact ih h
    · exact ih h
def lateB (T : List (Op × Option Tmp × Option (Nat × Bool))) (s m : Nat) : Bool := (List.range T.length).all fun j => j == m || !((T[j]?).bind (·.2.1) == some s)
theorem late_of {T : List (Op × Option Tmp × Option (Nat × Bool))} {ops : Array Oper} (htab : ops.toList.map (fun o => (o.op, o.dst, o.guard)) = T) {s m : Nat} (h : lateB T s m = true) (j : Nat) (hj : j ≠ m) : dstOf ops j ≠ some s := by
  rw [tab_dst htab]
  by_cases hl : j < T.length
  · have := List.all_eq_true.1 h j (List.mem_range.2 hl)
    simp only [Bool.or_eq_true, beq_iff_eq, Bool.not_eq_true', beq_eq_false_iff_ne] at this
    exact this.resolve_left hj
  · rw [List.getElem?_eq_none (by omega)]
    simp
theorem put_none (a : Act) (v : Value) : a.put none v = a := rfl
theorem doesL_runw {ops : Array Oper} {Q : Exit → Act → World → Prop} {Wd : (Nat → Bool) → World → Prop} {val : Nat → Value} {i : Nat} {L : Nat → Bool} {o : Oper} {a : Act} {w w' : World} (ho : ops[i]? = some o) (hw : Region.wanted o (yielded ops a.tmps) = true) (hW : Wd (upd L i) w')
    (hr : (execOp a.eval o).run Tryz.prog w = .ok (.value (val i)) w') : DoesL ops Q Wd val i L a w := by
  unfold DoesL wpOp
  simp only [ho]
  rw [if_pos hw]
  left
  unfold Oper.wp
  rw [hr, Oper.upon_value]
  refine ⟨?_, hW⟩
  simp [dstOf, ho]
theorem doesL_skp {ops : Array Oper} {Q : Exit → Act → World → Prop} {Wd : (Nat → Bool) → World → Prop} {val : Nat → Value} {i : Nat} {L : Nat → Bool} {o : Oper} {a : Act} {w w' : World} (ho : ops[i]? = some o) (hw : Region.wanted o (yielded ops a.tmps) = true) (hv : val i = undef) (hW : Wd (upd L i) w')
    (hr : (execOp a.eval o).run Tryz.prog w = .ok .skip w') : DoesL ops Q Wd val i L a w := by
  unfold DoesL wpOp
  simp only [ho]
  rw [if_pos hw]
  left
  unfold Oper.wp
  rw [hr, Oper.upon_skip]
  refine ⟨?_, hW⟩
  simp [dstOf, ho, hv]
end Go.Proofs.YtpidmpefodnffaaGreatDoor
/- A region that draws its order, some of whose values come up only as it goes: what is chosen so far is carried. -/
namespace Go.Proofs.YtpidmpefodnffaaGreatDoor
open Go.RowKit
variable {C : Type} {ops : Array Oper} {Q : Exit → Act → World → Prop}
def DoesX (ops : Array Oper) (Q : Exit → Act → World → Prop) (Wd : C → (Nat → Bool) → World → Prop) (val : C → Nat → Value) (i : Nat) (L : Nat → Bool) (c : C) (a : Act) (w : World) : Prop :=
  wpOp Tryz.prog ops Q i (fun a' w' => ∃ c', (∀ j, L j = true → val c' j = val c j) ∧ a' = a.put (dstOf ops i) (val c' i) ∧ Wd c' (upd L i) w') a w
theorem doesX_of {Wd : C → (Nat → Bool) → World → Prop} {val : C → Nat → Value} {i : Nat} {L : Nat → Bool} {c : C} {a : Act} {w : World} (h : DoesL ops Q (Wd c) (val c) i L a w) : DoesX ops Q Wd val i L c a w := by
  unfold DoesX
  refine wpOp_mono ?_ h
  rintro a' w' ⟨rfl, hw⟩
  exact ⟨c, fun _ _ => rfl, rfl, hw⟩
theorem doesX_call {Wd : C → (Nat → Bool) → World → Prop} {val : C → Nat → Value} {i : Nat} {L : Nat → Bool} {c : C} {o : Oper} {a : Act} {w : World} (ho : ops[i]? = some o) (hw : Region.wanted o (yielded ops a.tmps) = true) (f : FuncId) (args : Array Value)
    (hr : (execOp a.eval o).run Tryz.prog w = .ok (.enter f args) w) (hc : Calls Tryz.prog f args w fun e w' => ∃ c', (∀ j, L j = true → val c' j = val c j) ∧ e = .returned (val c' i) ∧ Wd c' (upd L i) w') : DoesX ops Q Wd val i L c a w := by
  unfold DoesX wpOp
  simp only [ho]
  rw [if_pos hw]
  left
  unfold Oper.wp
  rw [hr, Oper.upon_enter]
  refine hc.mono ?_
  rintro e w' ⟨c', h1, rfl, hW⟩
  refine ⟨c', h1, ?_, hW⟩
  simp [dstOf, ho]
theorem frm_congr {a0 : Act} {v v' : Nat → Value} {L : Nat → Bool} (h : ∀ j, L j = true → v' j = v j) : ∀ n, frm ops a0 v' L n = frm ops a0 v L n := by
  intro n
  induction n with
  | zero => rfl
  | succ n ih =>
    simp only [frm]
    split
    · rename_i hn
      rw [ih, h n hn]
    · exact ih
theorem region_detX {id : Nat} {a0 : Act} {w : World} (val : C → Nat → Value) (Wd : C → (Nat → Bool) → World → Prop)
    (hac : ∀ i o, ops[i]? = some o → ∀ e ∈ o.after, Region.binds .any e = true → e.on < i)
    (hdis : ∀ i j, j ≠ i → dstOf ops j ≠ dstOf ops i ∨ dstOf ops j = none)
    (h0 : ∃ c, Wd c (fun _ => false) w.drew)
    (hstep : ∀ i o, ops[i]? = some o → ∀ c L a w, L i = false → (∀ e ∈ o.after, Region.binds .any e = true → L e.on = true) → a = frm ops a0 (val c) L ops.size → Wd c L w → DoesX ops Q Wd val i L c a w)
    (hend : ∀ c L w, (∀ i, i < ops.size → L i = true) → Wd c L w → Q .normal (frm ops a0 (val c) (fun _ => true) ops.size) w) : (Code.region id ops true).wp Tryz.prog Q a0 w := by
  refine region_inv (by kernel_rfl) (fun L a w => ∃ c, a = frm ops a0 (val c) L ops.size ∧ Wd c L w) hac ?_ ?_ ?_
  · obtain ⟨c, h0⟩ := h0
    refine ⟨c, ?_, h0⟩
    have : ∀ n, frm ops a0 (val c) (fun _ => false) n = a0 := by
      intro n
      induction n with
      | zero => rfl
      | succ n ih => simpa [frm] using ih
    exact (this _).symm
  · intro L a w i o ho hL hdep ⟨c, ha, hw⟩
    refine wpOp_mono ?_ (hstep i o ho c L a w hL hdep ha hw)
    rintro a' w' ⟨c', h1, rfl, hw'⟩
    refine ⟨c', ?_, hw'⟩
    rw [frm_upd a0 (val c') L i hL (fun j hj => hdis i j hj), if_pos (Array.getElem?_eq_some_iff.1 ho).1, ha, frm_congr h1]
  · intro L a w hall ⟨c, ha, hw⟩
    have : ∀ n, n ≤ ops.size → frm ops a0 (val c) L n = frm ops a0 (val c) (fun _ => true) n := by
      intro n
      induction n with
      | zero => intro _; rfl
      | succ n ih => intro h; simp only [frm]; rw [hall n (by omega), ih (by omega)]; simp
    rw [ha, this _ (Nat.le_refl _)]
    exact hend c L w hall hw
end Go.Proofs.YtpidmpefodnffaaGreatDoor
/- What an operation of a drawn region comes to, told by what its sentence in the model's words comes to. -/
namespace Go.Proofs.YtpidmpefodnffaaGreatDoor
open Go.RowKit
theorem doesX_runw {C : Type} {ops : Array Oper} {Q : Exit → Act → World → Prop} {Wd : C → (Nat → Bool) → World → Prop} {val : C → Nat → Value} {i : Nat} {L : Nat → Bool} {c : C} {o : Oper} {a : Act} {w w' : World} (ho : ops[i]? = some o) (hw : Region.wanted o (yielded ops a.tmps) = true) (c' : C) (hv : ∀ j, L j = true → val c' j = val c j) (hW : Wd c' (upd L i) w')
    (hr : (execOp a.eval o).run Tryz.prog w = .ok (.value (val c' i)) w') : DoesX ops Q Wd val i L c a w := by
  have h := doesL_runw (Q := Q) (val := val c') (Wd := Wd c') ho hw hW hr
  unfold DoesL at h
  unfold DoesX
  refine wpOp_mono ?_ h
  rintro a' w2 ⟨rfl, h2⟩
  exact ⟨c', hv, rfl, h2⟩
variable {ρ : Operand → Value} {o : Oper} {w w' : World} {r : Value}
theorem g_load {t : TypeId} {a : Operand} {va : Value} (ho : o.op = .load t a) (ha : ρ a = va) (hr : (Instr.loadAt t va).run Tryz.prog w = .ok r w') : (execOp ρ o).run Tryz.prog w = .ok (.value r) w' := by
  unfold execOp
  simp only [ho, ha, Sem.run_bind, hr, Result.andThen_ok, Sem.run_pure]
theorem g_store {t : TypeId} {a x : Operand} {va vx : Value} (ho : o.op = .store t a x) (ha : ρ a = va) (hx : ρ x = vx) (hr : (Instr.storeAt t va vx).run Tryz.prog w = .ok () w') : (execOp ρ o).run Tryz.prog w = .ok .skip w' := by
  unfold execOp
  simp only [ho, ha, hx, Sem.run_bind, hr, Result.andThen_ok, Sem.run_pure]
theorem g_box {t : TypeId} {a : Operand} {va : Value} (ho : o.op = .box t a) (ha : ρ a = va) (hr : (Instr.box t va).run Tryz.prog w = .ok r w') : (execOp ρ o).run Tryz.prog w = .ok (.value r) w' := by
  unfold execOp
  simp only [ho, ha, Sem.run_bind, hr, Result.andThen_ok, Sem.run_pure]
theorem g_bin {p : BinOp} {t u : TypeId} {x y : Operand} {vx vy : Value} (ho : o.op = .binOp p t x y u) (hx : ρ x = vx) (hy : ρ y = vy) (hr : (do eqGuard p t x y vx vy; binOp p t vx vy : Sem Value).run Tryz.prog w = .ok r w') : (execOp ρ o).run Tryz.prog w = .ok (.value r) w' := by
  unfold execOp
  simp only [ho, hx, hy]
  rw [Sem.run_bind, hr, Result.andThen_ok, Sem.run_pure]
theorem g_conv {s t : TypeId} {x : Operand} {vx : Value} (ho : o.op = .convert s t x) (hx : ρ x = vx) (hr : (convert s t vx).run Tryz.prog w = .ok r w') : (execOp ρ o).run Tryz.prog w = .ok (.value r) w' := by
  unfold execOp
  simp only [ho, hx, Sem.run_bind, hr, Result.andThen_ok, Sem.run_pure]
theorem g_field {t : TypeId} {j : Nat} {x : Operand} {vx : Value} (ho : o.op = .fieldAddr t x j) (hx : ρ x = vx) (hr : (Instr.fieldAt t vx j).run Tryz.prog w = .ok r w') : (execOp ρ o).run Tryz.prog w = .ok (.value r) w' := by
  unfold execOp
  simp only [ho, hx, Sem.run_bind, hr, Result.andThen_ok, Sem.run_pure]
theorem g_ixa {t : TypeId} {x y : Operand} {vx vy : Value} (ho : o.op = .indexAddr t x y) (hx : ρ x = vx) (hy : ρ y = vy) (hr : (Instr.indexAt t vx vy).run Tryz.prog w = .ok r w') : (execOp ρ o).run Tryz.prog w = .ok (.value r) w' := by
  unfold execOp
  simp only [ho, hx, hy, Sem.run_bind, hr, Result.andThen_ok, Sem.run_pure]
theorem g_ext {j : Nat} {x : Operand} {vx : Value} (ho : o.op = .extract x j) (hx : ρ x = vx) (hr : (Instr.extract vx j).run Tryz.prog w = .ok r w') : (execOp ρ o).run Tryz.prog w = .ok (.value r) w' := by
  unfold execOp
  simp only [ho, hx, Sem.run_bind, hr, Result.andThen_ok, Sem.run_pure]
theorem g_mki {t : TypeId} {x : Operand} {vx : Value} (ho : o.op = .makeInterface t x) (hx : ρ x = vx) (hr : (Instr.makeInterface t vx).run Tryz.prog w = .ok r w') : (execOp ρ o).run Tryz.prog w = .ok (.value r) w' := by
  unfold execOp
  simp only [ho, hx, Sem.run_bind, hr, Result.andThen_ok, Sem.run_pure]
theorem g_build {t : TypeId} {ps : Array (Nat × Operand)} {vs : Array (Nat × Value)} (ho : o.op = .build t ps) (hp : (ps.map fun (i, x) => (i, ρ x)) = vs) (hr : (Instr.build t vs).run Tryz.prog w = .ok r w') : (execOp ρ o).run Tryz.prog w = .ok (.value r) w' := by
  unfold execOp
  simp only [ho, hp, Sem.run_bind, hr, Result.andThen_ok, Sem.run_pure]
theorem g_bs {t : TypeId} {n : Nat} {ps : Array (Nat × Operand)} {vs : Array (Nat × Value)} (ho : o.op = .buildSlice t n ps) (hp : (ps.map fun (i, x) => (i, ρ x)) = vs) (hr : (Instr.buildSlice t n vs).run Tryz.prog w = .ok r w') : (execOp ρ o).run Tryz.prog w = .ok (.value r) w' := by
  unfold execOp
  simp only [ho, hp, Sem.run_bind, hr, Result.andThen_ok, Sem.run_pure]
end Go.Proofs.YtpidmpefodnffaaGreatDoor
/- What the sentences of operations come to: loads, stores, allocs, texts. -/
namespace Go.Proofs.YtpidmpefodnffaaGreatDoor
open Go.RowKit
theorem tab3 {ops : Array Oper} {l : List (Op × Option Tmp × Option (Nat × Bool))} (h : ops.toList.map (fun o => (o.op, o.dst, o.guard)) = l) {i : Nat} {o : Oper} (ho : ops[i]? = some o) {p : Op} {d : Option Tmp} {g : Option (Nat × Bool)} (hx : l[i]? = some (p, d, g)) : o.op = p ∧ o.guard = g := by
  obtain ⟨h1, _, h3⟩ := tab_at h ho hx
  exact ⟨h1, h3⟩
theorem dXr {C : Type} {ops : Array Oper} {Q : Exit → Act → World → Prop} {Wd : C → (Nat → Bool) → World → Prop} {val : C → Nat → Value} {i : Nat} {L : Nat → Bool} {c : C} {o : Oper} {a : Act} {w : World} (ho : ops[i]? = some o) (hg : o.guard = none) (hW : Wd c (upd L i) w) (hr : (execOp a.eval o).run Tryz.prog w = .ok (.value (val c i)) w) : DoesX ops Q Wd val i L c a w :=
  doesX_of (doesL_run ho (wanted_none hg) hW hr)
theorem g_mov {ρ : Operand → Value} {o : Oper} {x : Operand} {v : Value} {w : World} (ho : o.op = .move x) (hx : ρ x = v) : (execOp ρ o).run Tryz.prog w = .ok (.value v) w := by rw [run_move _ _ _ ho, hx]
theorem map4 {ρ : Operand → Value} {x0 x1 x2 x3 : Operand} {v0 v1 v2 v3 : Value} (h0 : ρ x0 = v0) (h1 : ρ x1 = v1) (h2 : ρ x2 = v2) (h3 : ρ x3 = v3) : ((#[(0, x0), (1, x1), (2, x2), (3, x3)] : Array (Nat × Operand)).map fun (i, x) => (i, ρ x)) = #[(0, v0), (1, v1), (2, v2), (3, v3)] := by
  simp [h0, h1, h2, h3]
theorem map5 {ρ : Operand → Value} {x0 x1 x2 x3 x4 : Operand} {v0 v1 v2 v3 v4 : Value} (h0 : ρ x0 = v0) (h1 : ρ x1 = v1) (h2 : ρ x2 = v2) (h3 : ρ x3 = v3) (h4 : ρ x4 = v4) : ((#[(0, x0), (1, x1), (2, x2), (3, x3), (4, x4)] : Array (Nat × Operand)).map fun (i, x) => (i, ρ x)) = #[(0, v0), (1, v1), (2, v2), (3, v3), (4, v4)] := by
  simp [h0, h1, h2, h3, h4]
variable {w : World}
theorem s_ld {T : TypeId} (hA : ∀ w, (isAgg T).run Tryz.prog w = .ok false w) {p : Addr} {v : Value} (h : w.cell? p = some v) : (Instr.loadAt T (.pointer (some p))).run Tryz.prog w = .ok v w := by
  simp [Instr.loadAt, go_sem, h, hA]
theorem s_lda {T : TypeId} {n : Nat} (hA : ∀ w, (isAgg T).run Tryz.prog w = .ok true w) (hs : ∀ w, (sizeOf T).run Tryz.prog w = .ok n w) {g o : Nat} (cs : List Value) (hn : cs.length = n) (h : ∀ j v, cs[j]? = some v → w.cell? ⟨g, o + j, none⟩ = some v) : (Instr.loadAt T (.pointer (some ⟨g, o, none⟩))).run Tryz.prog w = .ok (.agg cs.toArray) w := by
  have hl := run_loadCells_list (P := Tryz.prog) w ⟨g, o, none⟩ cs (fun j v hv => by
    have q := h j v hv
    by_cases hj : j = 0
    · subst hj; simpa [Addr.add] using q
    · simpa [Addr.add, hj] using q)
  rw [hn] at hl
  simp [Instr.loadAt, Instr.sureAddr, loadVar, hA, hs, hl, Result.andThen]
/-- The same, of a row that stands in memory. -/
theorem s_ldr {T : TypeId} {n : Nat} (hA : ∀ w, (isAgg T).run Tryz.prog w = .ok true w) (hs : ∀ w, (sizeOf T).run Tryz.prog w = .ok n w) {g o : Nat} {cur : Array Value} {t : TypeId} {f : Nat × Nat} (hg : w.heap[g]? = some (.cells cur t f)) (cs : List Value) (hn : cs.length = n) (h : (cur.toList.drop o).take n = cs) : (Instr.loadAt T (.pointer (some ⟨g, o, none⟩))).run Tryz.prog w = .ok (.agg cs.toArray) w := by
  refine s_lda hA hs cs hn ?_
  intro j v hj
  have hc := cell_of_row w g (o + j) cur t f hg
  rw [hc]
  have hlt : j < n := by rw [← hn]; exact (List.getElem?_eq_some_iff.1 hj).1
  rw [← h, List.getElem?_take, if_pos hlt, List.getElem?_drop] at hj
  simpa using hj
theorem s_sta {T : TypeId} {n : Nat} (hs : ∀ w, (sizeOf T).run Tryz.prog w = .ok n w) {g o : Nat} {cur : Array Value} {t : TypeId} (hg : w.heap[g]? = some (.cells cur t (0, 0))) (v : Value) (hn : v.cells.size = n) (hle : o + n ≤ cur.size) (h1 : ∀ x ∈ v.cells.toList, x.oneCell' = true) : (Instr.storeAt T (.pointer (some ⟨g, o, none⟩)) v).run Tryz.prog w = .ok () (w.setRow g (cur.toList.take o ++ v.cells.toList ++ cur.toList.drop (o + n)).toArray) := by
  have hst := run_storeCells_at Tryz.prog g o t v.cells.toList 0 cur w hg (by simp [hn]; omega) h1
  simp only [Nat.add_zero, Array.length_toList, hn] at hst
  simp [Instr.storeAt, Instr.sureAddr, storeVar, hs, hn, hst, Result.andThen]
theorem s_cat (x y : Operand) (a b : List UInt8) (hl : a.length + b.length ≤ 1000000000000) : (do eqGuard .add 9 x y (S a) (S b); binOp .add 9 (S a) (S b) : Sem Value).run Tryz.prog w = .ok (S (a ++ b)) w := by
  simp [go_sem, eqGuard]
  rw [if_neg (by omega)]
  have e : (ByteArray.mk a.toArray ++ ByteArray.mk b.toArray) = ⟨(a ++ b).toArray⟩ := by
    apply ByteArray.ext
    simp
  rw [e]
theorem s_bin {p : BinOp} {t : TypeId} {x y : Operand} {a b r : Value} (hg : (eqGuard p t x y a b).run Tryz.prog w = .ok () w) (h : (binOp p t a b).run Tryz.prog w = .ok r w) : (do eqGuard p t x y a b; binOp p t a b : Sem Value).run Tryz.prog w = .ok r w := by
  rw [Sem.run_bind, hg, Result.andThen_ok, h]
end Go.Proofs.YtpidmpefodnffaaGreatDoor
