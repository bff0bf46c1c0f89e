import Derived.Test.YtbeionikiiccpaaDoorDet
import Derived.Test.YtbeionikiiccpaaDoorDsa
import Derived.Conc.MuLone
namespace Go.Proofs.YtbeionikiiccpaaDoor
open Go.RowKit
theorem tab_at {ops : Array Oper} {l : List (Op × Option Tmp × Option (Nat × Bool))} (h : ops.toList.map (fun o => (o.op, o.dst, o.guard)) = l) {i : Nat} {o : Oper} (ho : ops[i]? = some o) {x : Op × Option Tmp × Option (Nat × Bool)} (hx : l[i]? = some x) : o.op = x.1 ∧ o.dst = x.2.1 ∧ o.guard = x.2.2 := by
  rw [← h, List.getElem?_map] at hx
  have : ops.toList[i]? = some o := by simpa using ho
  rw [this] at hx
  have := Option.some.inj hx
  rw [← this]
  exact ⟨rfl, rfl, rfl⟩
theorem tab_dst {ops : Array Oper} {l : List (Op × Option Tmp × Option (Nat × Bool))} (h : ops.toList.map (fun o => (o.op, o.dst, o.guard)) = l) (i : Nat) : dstOf ops i = (l[i]?).bind (·.2.1) := by
  rw [← h, List.getElem?_map]
  unfold dstOf
  have : ops.toList[i]? = ops[i]? := by simp
  rw [this]
  cases ops[i]? <;> rfl
theorem run_pick (ρ : Operand → Value) (o : Oper) (c x y : Operand) (ho : o.op = .pick c x y) (b : Bool) (hc : ρ c = .bool b) (P : Program) (w : World) : (execOp ρ o).run P w = .ok (.value (if b then ρ x else ρ y)) w := by
  unfold execOp
  simp only [ho, hc]
  cases b <;> rfl
theorem run_move (ρ : Operand → Value) (o : Oper) (x : Operand) (ho : o.op = .move x) (P : Program) (w : World) : (execOp ρ o).run P w = .ok (.value (ρ x)) w := by
  unfold execOp
  simp only [ho]
  rfl
theorem run_ld (ρ : Operand → Value) (o : Oper) (x : Operand) (ho : o.op = .load 9 x) (p : Addr) (v : ByteArray) (ha : ρ x = .pointer (some p)) (w : World) (hc : w.cell? p = some (.string v)) : (execOp ρ o).run Tryd.prog w = .ok (.value (.string v)) w := by
  unfold execOp
  simp only [ho, ha]
  simp [Instr.loadAt, go_sem, hc, Tryd.isAgg9]
theorem frm_defers {ops : Array Oper} (a0 : Act) (val : Nat → Value) (L : Nat → Bool) : ∀ n, (frm ops a0 val L n).defers = a0.defers := by
  intro n
  induction n with
  | zero => rfl
  | succ n ih =>
    simp only [frm]
    split
    · rw [← ih]
      cases dstOf ops n <;> rfl
    · exact ih
theorem norm_frame {Q : Exit → Act → World → Prop} {a : Act} {w : World} {l : List Value} (h : a.tmps.toList = l) (hd : a.defers = []) (hQ : Q .normal ⟨l.toArray, []⟩ w) : Q .normal a w := by
  obtain ⟨tm, de⟩ := a
  simp only at h hd
  subst hd
  have : tm = l.toArray := by rw [← h]
  rw [this]
  exact hQ
variable {ops : Array Oper} {Q : Exit → Act → World → Prop}
def DoesL (ops : Array Oper) (Q : Exit → Act → World → Prop) (Wd : (Nat → Bool) → World → Prop) (val : Nat → Value) (i : Nat) (L : Nat → Bool) (a : Act) (w : World) : Prop :=
  wpOp Tryd.prog ops Q i (fun a' w' => a' = a.put (dstOf ops i) (val i) ∧ Wd (upd L i) w') a w
theorem region_detL {id : Nat} {a0 : Act} {w : World} (val : Nat → Value) (Wd : (Nat → Bool) → World → Prop)
    (hac : ∀ i o, ops[i]? = some o → ∀ e ∈ o.after, Region.binds .any e = true → e.on < i)
    (hdis : ∀ i j, j ≠ i → dstOf ops j ≠ dstOf ops i ∨ dstOf ops j = none)
    (h0 : Wd (fun _ => false) w.drew)
    (hstep : ∀ i o, ops[i]? = some o → ∀ L a w, L i = false → (∀ e ∈ o.after, Region.binds .any e = true → L e.on = true) → a = frm ops a0 val L ops.size → Wd L w → DoesL ops Q Wd val i L a w)
    (hend : ∀ L w, (∀ i, i < ops.size → L i = true) → Wd L w → Q .normal (frm ops a0 val (fun _ => true) ops.size) w) : (Code.region id ops true).wp Tryd.prog Q a0 w := by
  refine region_inv (by kernel_rfl) (fun L a w => a = frm ops a0 val L ops.size ∧ Wd L w) hac ?_ ?_ ?_
  · refine ⟨?_, h0⟩
    have : ∀ n, frm ops a0 val (fun _ => false) n = a0 := by
      intro n
      induction n with
      | zero => rfl
      | succ n ih => simpa [frm] using ih
    exact (this _).symm
  · intro L a w i o ho hL hdep ⟨ha, hw⟩
    refine wpOp_mono ?_ (hstep i o ho L a w hL hdep ha hw)
    rintro a' w' ⟨rfl, hw'⟩
    refine ⟨?_, hw'⟩
    rw [frm_upd a0 val L i hL (fun j hj => hdis i j hj), if_pos (Array.getElem?_eq_some_iff.1 ho).1, ha]
  · intro L a w hall ⟨ha, hw⟩
    have : ∀ n, n ≤ ops.size → frm ops a0 val L n = frm ops a0 val (fun _ => true) n := by
      intro n
      induction n with
      | zero => intro _; rfl
      | succ n ih => intro h; simp only [frm]; rw [hall n (by omega), ih (by omega)]; simp
    rw [ha, this _ (Nat.le_refl _)]
    exact hend L w hall hw
variable {Wd : (Nat → Bool) → World → Prop} {val : Nat → Value} {i : Nat} {L : Nat → Bool} {o : Oper} {a : Act} {w : World}
theorem doesL_run (ho : ops[i]? = some o) (hw : Region.wanted o (yielded ops a.tmps) = true) (hW : Wd (upd L i) w)
    (hr : (execOp a.eval o).run Tryd.prog w = .ok (.value (val i)) w) : DoesL ops Q Wd val i L a w := by
  unfold DoesL wpOp
  simp only [ho]
  rw [if_pos hw]
  left
  unfold Oper.wp
  rw [hr, Oper.upon_value]
  refine ⟨?_, hW⟩
  simp [dstOf, ho]
theorem doesL_skip (ho : ops[i]? = some o) (hw : Region.wanted o (yielded ops a.tmps) = false) (hW : Wd (upd L i) w) (hv : val i = undef) : DoesL ops Q Wd val i L a w := by
  unfold DoesL wpOp
  simp only [ho]
  rw [if_neg (by rw [hw]; decide)]
  refine ⟨?_, hW⟩
  simp [dstOf, ho, hv]
theorem doesL_call (ho : ops[i]? = some o) (hw : Region.wanted o (yielded ops a.tmps) = true) (f : FuncId) (args : Array Value)
    (hr : (execOp a.eval o).run Tryd.prog w = .ok (.enter f args) w) (hc : Calls Tryd.prog f args w fun e w' => e = .returned (val i) ∧ Wd (upd L i) w') : DoesL ops Q Wd val i L a w := by
  unfold DoesL wpOp
  simp only [ho]
  rw [if_pos hw]
  left
  unfold Oper.wp
  rw [hr, Oper.upon_enter]
  refine hc.mono ?_
  rintro e w' ⟨rfl, hW⟩
  refine ⟨?_, hW⟩
  simp [dstOf, ho]
theorem run_assign (ρ : Operand → Value) (o : Oper) (x : Operand) (ho : o.op = .assign x) (w : World) : (execOp ρ o).run Tryd.prog w = .ok (.value (ρ x)) w := by
  unfold execOp
  simp only [ho]
  rfl
theorem run_calls {f : FuncId} {fn : Func} {c : Code} (hf : Tryd.prog.funcs[f]? = some fn) (hname : (fn.name == "runtime.NumGoroutine") = false) (hb : fn.body = some c) (ρ : Operand → Value) (o : Oper) (xs : Array Operand) (ty : Array TypeId) (ho : o.op = .call { callee := .value (.func f), args := xs, argTypes := ty }) (hfn : ρ (.func f) = .func (.func f) #[] #[]) (w : World) : (execOp ρ o).run Tryd.prog w = .ok (.enter f (xs.map ρ)) w := by
  unfold execOp
  simp only [ho, resolve, hfn]
  have := Go.MuLone.run_callFunc_enter (P := Tryd.prog) hf hname hb (xs.map ρ) w
  simp [Deferred.ofValue, invoke, this]
theorem run_nil (ρ : Operand → Value) (o : Oper) (x : Operand) (ho : o.op = .nilCheck x) (p : Addr) (hx : ρ x = .pointer (some p)) (w : World) : (execOp ρ o).run Tryd.prog w = .ok (.value (.pointer (some p))) w := by
  unfold execOp
  simp only [ho, hx]
  rfl
theorem run_not (ρ : Operand → Value) (o : Oper) (t : TypeId) (x : Operand) (ho : o.op = .unOp .not t x) (b : Bool) (hx : ρ x = .bool b) (w : World) : (execOp ρ o).run Tryd.prog w = .ok (.value (.bool (!b))) w := by
  unfold execOp
  simp only [ho, hx]
  cases b <;> rfl
theorem run_len (ρ : Operand → Value) (o : Oper) (x : Operand) (ho : o.op = .call { callee := .builtin .len, args := #[x], argTypes := #[9] }) (s : List UInt8) (hx : ρ x = .string ⟨s.toArray⟩) (w : World) : (execOp ρ o).run Tryd.prog w = .ok (.value (.int .i64 (s.length : Int))) w := by
  unfold execOp
  simp only [ho, resolve, invoke, builtin]
  simp [hx, go_sem]
theorem run_cut (ρ : Operand → Value) (o : Oper) (x y : Operand) (ho : o.op = .slice 9 x none (some y) none) (s : List UInt8) (k : Nat) (hk : k ≤ s.length) (_hs : s.length ≤ 9223372036854775807) (hx : ρ x = .string ⟨s.toArray⟩) (hy : ρ y = .int .i64 (k : Int)) (w : World) : (execOp ρ o).run Tryd.prog w = .ok (.value (.string ⟨(s.take k).toArray⟩)) w := by
  unfold execOp
  simp only [ho, hx, Option.map_some, Option.map_none, hy]
  have h1 : (k : Int) ≤ (s.length : Int) := by omega
  have e : (ByteArray.mk s.toArray).extract 0 k = ⟨(s.take k).toArray⟩ := by
    apply ByteArray.ext
    apply Array.ext'
    simp [ByteArray.data_extract]
  simp [Instr.sliceAt, go_sem, h1, e]
theorem run_streq (ρ : Operand → Value) (o : Oper) (t u : TypeId) (x y : Operand) (ho : o.op = .binOp .eql t x y u) (a b : List UInt8) (ha : ρ x = .string ⟨a.toArray⟩) (hb : ρ y = .string ⟨b.toArray⟩) (w : World) : (execOp ρ o).run Tryd.prog w = .ok (.value (.bool (decide (a = b)))) w := by
  unfold execOp
  simp only [ho, ha, hb]
  simp [eqGuard, go_sem]
  by_cases h : a = b
  · subst h; simp
  · simp [h]
def deplB (l : List (Nat × Nat)) (ops : Array Oper) : Bool := l.all fun x => match ops[x.1]? with | some o => o.after.toList.any (fun e => Region.binds .any e && e.on == x.2) | none => false
theorem depl_of {l : List (Nat × Nat)} {ops : Array Oper} (h : deplB l ops = true) (i j : Nat) (hm : (i, j) ∈ l) {o : Oper} (ho : ops[i]? = some o) {L : Nat → Bool} (hd : ∀ e ∈ o.after, Region.binds .any e = true → L e.on = true) : L j = true := by
  have h1 := List.all_eq_true.1 h (i, j) hm
  simp only [ho] at h1
  obtain ⟨e, he, q⟩ := List.any_eq_true.1 h1
  rw [Bool.and_eq_true] at q
  have := hd e (by simpa using he) q.1
  rw [beq_iff_eq.1 q.2] at this
  exact this
def disL (T : List (Op × Option Tmp × Option (Nat × Bool))) : Bool := (List.range T.length).all fun i => (List.range T.length).all fun j => i == j || ((T[j]?).bind (·.2.1)).isNone || !((T[j]?).bind (·.2.1) == (T[i]?).bind (·.2.1))
theorem disL_of {T : List (Op × Option Tmp × Option (Nat × Bool))} {ops : Array Oper} (htab : ops.toList.map (fun o => (o.op, o.dst, o.guard)) = T) (h : disL T = true) : ∀ i j, j ≠ i → dstOf ops j ≠ dstOf ops i ∨ dstOf ops j = none := by
  intro i j hne
  rw [tab_dst htab, tab_dst htab]
  by_cases hj : j < T.length
  · by_cases hi : i < T.length
    · have h1 := List.all_eq_true.1 (List.all_eq_true.1 h i (List.mem_range.2 hi)) j (List.mem_range.2 hj)
      simp only [Bool.or_eq_true, beq_iff_eq, Option.isNone_iff_eq_none, Bool.not_eq_true', beq_eq_false_iff_ne, ne_eq] at h1
      rcases h1 with (h1 | h1) | h1
      · exact absurd h1.symm hne
      · exact .inr h1
      · exact .inl h1
    · rw [List.getElem?_eq_none (Nat.le_of_not_lt hi)]
      cases q : (T[j]?).bind (·.2.1) with
      | none => exact .inr rfl
      | some x => exact .inl (by simp)
  · right
    rw [List.getElem?_eq_none (Nat.le_of_not_lt hj)]
    rfl
theorem holdL {T : List (Op × Option Tmp × Option (Nat × Bool))} {ops : Array Oper} (htab : ops.toList.map (fun o => (o.op, o.dst, o.guard)) = T) (s : Nat) (h : T.all (fun x => !(x.2.1 == some s)) = true) : (List.range ops.size).all (fun j => !(dstOf ops j == some s)) = true := by
  rw [List.all_eq_true]
  intro j hj
  rw [tab_dst htab]
  cases q : T[j]? with
  | none => rfl
  | some x =>
    have := List.all_eq_true.1 h x (List.mem_of_getElem? q)
    exact this
theorem run_cat (ρ : Operand → Value) (o : Oper) (x y : Operand) (ho : o.op = .binOp .add 9 x y 9) (a b : List UInt8) (hl : a.length + b.length ≤ 1000000000000) (hx : ρ x = S a) (hy : ρ y = S b) (w : World) : (execOp ρ o).run Tryd.prog w = .ok (.value (S (a ++ b))) w := by
  unfold execOp
  simp only [ho, hx, hy]
  simp [go_sem, eqGuard]
  rw [if_neg (by omega)]
  have e : (ByteArray.mk a.toArray ++ ByteArray.mk b.toArray) = ⟨(a ++ b).toArray⟩ := by
    apply ByteArray.ext
    simp
  rw [e]
theorem frm_late {ops : Array Oper} (a0 : Act) (val : Nat → Value) (L : Nat → Bool) (s m : Nat) (hm : L m = false) : ∀ n, (∀ j, j ≠ m → dstOf ops j ≠ some s) → (frm ops a0 val L n).tmps[s]? = a0.tmps[s]? := by
  intro n
  induction n with
  | zero => intro _; rfl
  | succ n ih =>
    intro h
    simp only [frm]
    split
    · rename_i hn
      rw [put_get_ne _ _ _ _ (h n (fun e => by rw [e, hm] at hn; cases hn))]
      exact ih h
    · exact ih h
def lateB (T : List (Op × Option Tmp × Option (Nat × Bool))) (s m : Nat) : Bool := (List.range T.length).all fun j => j == m || !((T[j]?).bind (·.2.1) == some s)
theorem late_of {T : List (Op × Option Tmp × Option (Nat × Bool))} {ops : Array Oper} (htab : ops.toList.map (fun o => (o.op, o.dst, o.guard)) = T) {s m : Nat} (h : lateB T s m = true) (j : Nat) (hj : j ≠ m) : dstOf ops j ≠ some s := by
  rw [tab_dst htab]
  by_cases hl : j < T.length
  · have := List.all_eq_true.1 h j (List.mem_range.2 hl)
    simp only [Bool.or_eq_true, beq_iff_eq, Bool.not_eq_true', beq_eq_false_iff_ne] at this
    exact this.resolve_left hj
  · rw [List.getElem?_eq_none (by omega)]
    simp
theorem run_ld3 (ρ : Operand → Value) (o : Oper) (x : Operand) (ho : o.op = .load 3 x) (p : Addr) (v : Value) (ha : ρ x = .pointer (some p)) (w : World) (hc : w.cell? p = some v) : (execOp ρ o).run Tryd.prog w = .ok (.value v) w := by
  unfold execOp
  simp only [ho, ha]
  simp [Instr.loadAt, go_sem, hc, Tryd.isAgg3]
theorem put_none (a : Act) (v : Value) : a.put none v = a := rfl
theorem doesL_runw {ops : Array Oper} {Q : Exit → Act → World → Prop} {Wd : (Nat → Bool) → World → Prop} {val : Nat → Value} {i : Nat} {L : Nat → Bool} {o : Oper} {a : Act} {w w' : World} (ho : ops[i]? = some o) (hw : Region.wanted o (yielded ops a.tmps) = true) (hW : Wd (upd L i) w')
    (hr : (execOp a.eval o).run Tryd.prog w = .ok (.value (val i)) w') : DoesL ops Q Wd val i L a w := by
  unfold DoesL wpOp
  simp only [ho]
  rw [if_pos hw]
  left
  unfold Oper.wp
  rw [hr, Oper.upon_value]
  refine ⟨?_, hW⟩
  simp [dstOf, ho]
theorem doesL_skp {ops : Array Oper} {Q : Exit → Act → World → Prop} {Wd : (Nat → Bool) → World → Prop} {val : Nat → Value} {i : Nat} {L : Nat → Bool} {o : Oper} {a : Act} {w w' : World} (ho : ops[i]? = some o) (hw : Region.wanted o (yielded ops a.tmps) = true) (hv : val i = undef) (hW : Wd (upd L i) w')
    (hr : (execOp a.eval o).run Tryd.prog w = .ok .skip w') : DoesL ops Q Wd val i L a w := by
  unfold DoesL wpOp
  simp only [ho]
  rw [if_pos hw]
  left
  unfold Oper.wp
  rw [hr, Oper.upon_skip]
  refine ⟨?_, hW⟩
  simp [dstOf, ho, hv]
theorem run_app (ρ : Operand → Value) (o : Oper) (s x : Operand) (T : TypeId) (ho : o.op = .call { callee := .builtin .append, args := #[s, x], argTypes := #[T, T] }) (v u r : Value) (hs : ρ s = v) (hx : ρ x = u) (w w' : World) (hr : (Builtin.append_ #[T, T] o.type #[v, u]).run Tryd.prog w = .ok r w') : (execOp ρ o).run Tryd.prog w = .ok (.value r) w' := by
  unfold execOp
  simp only [ho, resolve, invoke, builtin, Sem.run_bind, Sem.run_pure, Result.andThen_ok, List.map_toArray, List.map_cons, List.map_nil, hs, hx, hr]
end Go.Proofs.YtbeionikiiccpaaDoor
/- A region that draws its order, some of whose values come up only as it goes: what is chosen so far is carried. -/
namespace Go.Proofs.YtbeionikiiccpaaDoor
open Go.RowKit
variable {C : Type} {ops : Array Oper} {Q : Exit → Act → World → Prop}
def DoesX (ops : Array Oper) (Q : Exit → Act → World → Prop) (Wd : C → (Nat → Bool) → World → Prop) (val : C → Nat → Value) (i : Nat) (L : Nat → Bool) (c : C) (a : Act) (w : World) : Prop :=
  wpOp Tryd.prog ops Q i (fun a' w' => ∃ c', (∀ j, L j = true → val c' j = val c j) ∧ a' = a.put (dstOf ops i) (val c' i) ∧ Wd c' (upd L i) w') a w
theorem doesX_of {Wd : C → (Nat → Bool) → World → Prop} {val : C → Nat → Value} {i : Nat} {L : Nat → Bool} {c : C} {a : Act} {w : World} (h : DoesL ops Q (Wd c) (val c) i L a w) : DoesX ops Q Wd val i L c a w := by
  unfold DoesX
  refine wpOp_mono ?_ h
  rintro a' w' ⟨rfl, hw⟩
  exact ⟨c, fun _ _ => rfl, rfl, hw⟩
theorem doesX_call {Wd : C → (Nat → Bool) → World → Prop} {val : C → Nat → Value} {i : Nat} {L : Nat → Bool} {c : C} {o : Oper} {a : Act} {w : World} (ho : ops[i]? = some o) (hw : Region.wanted o (yielded ops a.tmps) = true) (f : FuncId) (args : Array Value)
    (hr : (execOp a.eval o).run Tryd.prog w = .ok (.enter f args) w) (hc : Calls Tryd.prog f args w fun e w' => ∃ c', (∀ j, L j = true → val c' j = val c j) ∧ e = .returned (val c' i) ∧ Wd c' (upd L i) w') : DoesX ops Q Wd val i L c a w := by
  unfold DoesX wpOp
  simp only [ho]
  rw [if_pos hw]
  left
  unfold Oper.wp
  rw [hr, Oper.upon_enter]
  refine hc.mono ?_
  rintro e w' ⟨c', h1, rfl, hW⟩
  refine ⟨c', h1, ?_, hW⟩
  simp [dstOf, ho]
theorem frm_congr {a0 : Act} {v v' : Nat → Value} {L : Nat → Bool} (h : ∀ j, L j = true → v' j = v j) : ∀ n, frm ops a0 v' L n = frm ops a0 v L n := by
  intro n
  induction n with
  | zero => rfl
  | succ n ih =>
    simp only [frm]
    split
    · rename_i hn
      rw [ih, h n hn]
    · exact ih
theorem region_detX {id : Nat} {a0 : Act} {w : World} (val : C → Nat → Value) (Wd : C → (Nat → Bool) → World → Prop)
    (hac : ∀ i o, ops[i]? = some o → ∀ e ∈ o.after, Region.binds .any e = true → e.on < i)
    (hdis : ∀ i j, j ≠ i → dstOf ops j ≠ dstOf ops i ∨ dstOf ops j = none)
    (h0 : ∃ c, Wd c (fun _ => false) w.drew)
    (hstep : ∀ i o, ops[i]? = some o → ∀ c L a w, L i = false → (∀ e ∈ o.after, Region.binds .any e = true → L e.on = true) → a = frm ops a0 (val c) L ops.size → Wd c L w → DoesX ops Q Wd val i L c a w)
    (hend : ∀ c L w, (∀ i, i < ops.size → L i = true) → Wd c L w → Q .normal (frm ops a0 (val c) (fun _ => true) ops.size) w) : (Code.region id ops true).wp Tryd.prog Q a0 w := by
  refine region_inv (by kernel_rfl) (fun L a w => ∃ c, a = frm ops a0 (val c) L ops.size ∧ Wd c L w) hac ?_ ?_ ?_
  · obtain ⟨c, h0⟩ := h0
    refine ⟨c, ?_, h0⟩
    have : ∀ n, frm ops a0 (val c) (fun _ => false) n = a0 := by
      intro n
      induction n with
      | zero => rfl
      | succ n ih => simpa [frm] using ih
    exact (this _).symm
  · intro L a w i o ho hL hdep ⟨c, ha, hw⟩
    refine wpOp_mono ?_ (hstep i o ho c L a w hL hdep ha hw)
    rintro a' w' ⟨c', h1, rfl, hw'⟩
    refine ⟨c', ?_, hw'⟩
    rw [frm_upd a0 (val c') L i hL (fun j hj => hdis i j hj), if_pos (Array.getElem?_eq_some_iff.1 ho).1, ha, frm_congr h1]
  · intro L a w hall ⟨c, ha, hw⟩
    have : ∀ n, n ≤ ops.size → frm ops a0 (val c) L n = frm ops a0 (val c) (fun _ => true) n := by
      intro n
      induction n with
      | zero => intro _; rfl
      | succ n ih => intro h; simp only [frm]; rw [hall n (by omega), ih (by omega)]; simp
    rw [ha, this _ (Nat.le_refl _)]
    exact hend c L w hall hw
end Go.Proofs.YtbeionikiiccpaaDoor
