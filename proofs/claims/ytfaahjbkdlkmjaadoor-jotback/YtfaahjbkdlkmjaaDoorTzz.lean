import Derived.Test.YtfaahjbkdlkmjaaDoorProg
import Derived.WalkKit
import Derived.BigQuiet
import Derived.Deep.QuietTactic
import Derived.Conc.MuLone
import Derived.Laws.Tables
/- A region that draws its order, by an invariant: one goal an operation, not one an order. -/
namespace Go.Proofs.YtfaahjbkdlkmjaaDoor
variable {P : Program} {ops : Array Oper} {Q : Exit → Act → World → Prop}
def upd (L : Nat → Bool) (i : Nat) : Nat → Bool := fun j => if j = i then true else L j
def left (listed : Array Bool) : Nat → Nat
  | 0 => 0
  | n + 1 => left listed n + (if listed.getD n true = false then 1 else 0)
theorem left_zero {listed : Array Bool} : ∀ {n : Nat}, left listed n = 0 → ∀ i, i < n → listed.getD i true = true := by
  intro n
  induction n with
  | zero => intro _ i hi; omega
  | succ n ih =>
    intro h i hi
    simp only [left] at h
    by_cases e : i = n
    · subst e
      cases hq : listed.getD i true
      · simp [hq] at h
      · rfl
    · exact ih (by omega) i (by omega)
theorem left_set {listed : Array Bool} {i : Nat} (hi : listed.getD i true = false) : ∀ {n : Nat}, i < n → left (listed.setIfInBounds i true) n + 1 = left listed n := by
  have hlt : i < listed.size := by
    rcases Nat.lt_or_ge i listed.size with h' | h'
    · exact h'
    · simp [Array.getElem?_eq_none h'] at hi
  have hself : (listed.setIfInBounds i true).getD i true = true := by simp [hlt]
  have low : ∀ n, n ≤ i → left (listed.setIfInBounds i true) n = left listed n := by
    intro n
    induction n with
    | zero => intro _; rfl
    | succ n ih =>
      intro h
      simp only [left]
      rw [ih (by omega), getD_set_ne true (by omega)]
  intro n
  induction n with
  | zero => intro h; omega
  | succ n ih =>
    intro h
    simp only [left]
    by_cases e : i = n
    · subst e
      rw [low i (Nat.le_refl _), hself, hi]
      simp
    · rw [getD_set_ne true e]
      have := ih (by omega)
      omega
theorem any_inv (I : (Nat → Bool) → Act → World → Prop)
    (hac : ∀ i o, ops[i]? = some o → ∀ e ∈ o.after, Region.binds .any e = true → e.on < i)
    (hstep : ∀ L a w i o, ops[i]? = some o → L i = false → (∀ e ∈ o.after, Region.binds .any e = true → L e.on = true) → I L a w → wpOp P ops Q i (fun a' w' => I (upd L i) a' w') a w)
    (hend : ∀ L a w, (∀ i, i < ops.size → L i = true) → I L a w → Q .normal a w) :
    ∀ fuel listed a w, listed.size = ops.size → left listed ops.size ≤ fuel → I (fun j => listed.getD j false) a w → wpAny P .any ops Q fuel listed a w := by
  have same : ∀ (listed : Array Bool) (j : Nat), j < listed.size → listed.getD j true = listed.getD j false := by
    intro listed j hj; simp [hj]
  have nil : ∀ (listed : Array Bool) (a : Act) (w : World), listed.size = ops.size → I (fun j => listed.getD j false) a w → Region.ready .any ops listed = [] → Q .normal a w := by
    intro listed a w hs hI hr
    refine hend _ a w ?_ hI
    intro i
    induction i using Nat.strongRecOn with
    | ind i ih =>
      intro hi
      cases hq : listed.getD i false
      · exfalso
        have hm : i ∈ Region.ready .any ops listed := by
          rw [mem_ready]
          refine ⟨by rw [same listed i (by omega)]; exact hq, ops[i], by simp [hi], ?_⟩
          intro e he hb
          have hlt := hac i ops[i] (by simp [hi]) e he hb
          exact ih e.on hlt (by omega)
        rw [hr] at hm
        cases hm
      · rfl
  intro fuel
  induction fuel with
  | zero =>
    intro listed a w hs hl hI
    have hr : Region.ready .any ops listed = [] := by
      cases hq : Region.ready .any ops listed with
      | nil => rfl
      | cons x xs =>
        have hm : x ∈ Region.ready .any ops listed := by rw [hq]; simp
        rw [mem_ready] at hm
        obtain ⟨h1, o, ho, _⟩ := hm
        have hlt : x < ops.size := (Array.getElem?_eq_some_iff.1 ho).1
        have := left_zero (listed := listed) (n := ops.size) (by omega) x hlt
        rw [this] at h1
        cases h1
    exact ⟨hr, nil listed a w hs hI hr⟩
  | succ fuel ih =>
    intro listed a w hs hl hI
    refine ⟨nil listed a w hs hI, ?_⟩
    intro i hi
    rw [mem_ready] at hi
    obtain ⟨h1, o, ho, hall⟩ := hi
    have hlt : i < ops.size := (Array.getElem?_eq_some_iff.1 ho).1
    refine wpOp_mono ?_ (hstep (fun j => listed.getD j false) a w i o ho (by rw [← same listed i (by omega)]; exact h1) hall hI)
    intro a' w' hI'
    refine ih (listed.setIfInBounds i true) a' w' (by simpa using hs) (by have := left_set h1 hlt; omega) ?_
    have e : (fun j => (listed.setIfInBounds i true).getD j false) = upd (fun j => listed.getD j false) i := by
      funext j
      unfold upd
      by_cases hj : j = i
      · subst hj
        simp [hs, hlt]
      · rw [if_neg hj, getD_set_ne false (Ne.symm hj)]
    rw [e]
    exact hI'
theorem region_inv {id : Nat} {a : Act} {w : World} (hm : P.follows .mixedOrders = true) (I : (Nat → Bool) → Act → World → Prop)
    (hac : ∀ i o, ops[i]? = some o → ∀ e ∈ o.after, Region.binds .any e = true → e.on < i)
    (h0 : I (fun _ => false) a w.drew)
    (hstep : ∀ L a w i o, ops[i]? = some o → L i = false → (∀ e ∈ o.after, Region.binds .any e = true → L e.on = true) → I L a w → wpOp P ops Q i (fun a' w' => I (upd L i) a' w') a w)
    (hend : ∀ L a w, (∀ i, i < ops.size → L i = true) → I L a w → Q .normal a w) : (Code.region id ops true).wp P Q a w := by
  refine wp_region_any hm ?_
  refine any_inv I hac hstep hend ops.size _ a _ (by simp) ?_ ?_
  · have : ∀ n, n ≤ ops.size → left (Array.replicate ops.size false) n ≤ n := by
      intro n
      induction n with
      | zero => intro _; simp [left]
      | succ n ih => intro h; simp only [left]; have := ih (by omega); split <;> omega
    exact this _ (Nat.le_refl _)
  · have e : (fun j => (Array.replicate ops.size false).getD j false) = fun _ => false := by
      funext j
      by_cases hj : j < ops.size
      · simp [hj]
      · simp [Array.getElem?_eq_none (show (Array.replicate ops.size false).size ≤ j by simp; omega)]
    rw [e]
    exact h0
end Go.Proofs.YtfaahjbkdlkmjaaDoor
/- A region that draws its order, each of whose operations yields one value, whatever the order: one goal an operation, over a frame of which a few slots are known. -/
namespace Go.Proofs.YtfaahjbkdlkmjaaDoor
variable {P : Program} {ops : Array Oper} {Q : Exit → Act → World → Prop}
/-- Where an operation lays what it yields. -/
def dstOf (ops : Array Oper) (i : Nat) : Option Tmp := (ops[i]?).bind (·.dst)
/-- The frame behind those operations that came up. -/
def frm (ops : Array Oper) (a0 : Act) (val : Nat → Value) (L : Nat → Bool) : Nat → Act
  | 0 => a0
  | n + 1 => if L n = true then (frm ops a0 val L n).put (dstOf ops n) (val n) else frm ops a0 val L n
theorem put_comm (a : Act) (d e : Option Tmp) (u v : Value) (h : d ≠ e ∨ d = none) : (a.put d u).put e v = (a.put e v).put d u := by
  cases d with
  | none => rfl
  | some x =>
    cases e with
    | none => rfl
    | some y =>
      have hne : x ≠ y := by
        rcases h with h | h
        · intro q; exact h (by rw [q])
        · cases h
      simp only [Act.put]
      rw [Array.setIfInBounds_comm _ _ hne]
theorem frm_upd (a0 : Act) (val : Nat → Value) (L : Nat → Bool) (i : Nat) (hL : L i = false) (hd : ∀ j, j ≠ i → dstOf ops j ≠ dstOf ops i ∨ dstOf ops j = none) :
    ∀ n, frm ops a0 val (upd L i) n = if i < n then (frm ops a0 val L n).put (dstOf ops i) (val i) else frm ops a0 val L n := by
  intro n
  induction n with
  | zero => simp [frm]
  | succ n ih =>
    by_cases e : n = i
    · subst e
      have e1 : upd L n n = true := by simp [upd]
      have e2 : frm ops a0 val L (n + 1) = frm ops a0 val L n := by simp [frm, hL]
      have e3 : frm ops a0 val (upd L n) (n + 1) = (frm ops a0 val (upd L n) n).put (dstOf ops n) (val n) := by simp [frm, e1]
      rw [e3, e2, ih, if_neg (Nat.lt_irrefl n), if_pos (Nat.lt_succ_self n)]
    · have e1 : upd L i n = L n := by simp [upd, e]
      cases hn : L n with
      | false =>
        have e2 : frm ops a0 val L (n + 1) = frm ops a0 val L n := by simp [frm, hn]
        have e3 : frm ops a0 val (upd L i) (n + 1) = frm ops a0 val (upd L i) n := by simp [frm, e1, hn]
        rw [e3, e2, ih]
        by_cases hlt : i < n
        · rw [if_pos hlt, if_pos (show i < n + 1 by omega)]
        · rw [if_neg hlt, if_neg (show ¬ i < n + 1 by omega)]
      | true =>
        have e2 : frm ops a0 val L (n + 1) = (frm ops a0 val L n).put (dstOf ops n) (val n) := by simp [frm, hn]
        have e3 : frm ops a0 val (upd L i) (n + 1) = (frm ops a0 val (upd L i) n).put (dstOf ops n) (val n) := by simp [frm, e1, hn]
        rw [e3, e2, ih]
        by_cases hlt : i < n
        · rw [if_pos hlt, if_pos (show i < n + 1 by omega)]
          exact (put_comm _ _ _ _ _ (hd n e)).symm
        · rw [if_neg hlt, if_neg (show ¬ i < n + 1 by omega)]
theorem put_size (a : Act) (d : Option Tmp) (v : Value) : (a.put d v).tmps.size = a.tmps.size := by
  cases d with
  | none => rfl
  | some x => simp [Act.put]
theorem frm_size (a0 : Act) (val : Nat → Value) (L : Nat → Bool) : ∀ n, (frm ops a0 val L n).tmps.size = a0.tmps.size := by
  intro n
  induction n with
  | zero => rfl
  | succ n ih =>
    simp only [frm]
    split
    · rw [put_size, ih]
    · exact ih
theorem put_get_ne (a : Act) (d : Option Tmp) (v : Value) (s : Nat) (h : d ≠ some s) : (a.put d v).tmps[s]? = a.tmps[s]? := by
  cases d with
  | none => rfl
  | some x =>
    have : x ≠ s := fun q => h (by rw [q])
    simp [Act.put, this]
theorem put_get (a : Act) (s : Nat) (v : Value) (h : s < a.tmps.size) : (a.put (some s) v).tmps[s]? = some v := by
  simp [Act.put, h]
/-- A slot that no operation of the region lays. -/
theorem frm_out (a0 : Act) (val : Nat → Value) (L : Nat → Bool) (s : Nat) : ∀ n, (∀ j, j < n → dstOf ops j ≠ some s) → (frm ops a0 val L n).tmps[s]? = a0.tmps[s]? := by
  intro n
  induction n with
  | zero => intro _; rfl
  | succ n ih =>
    intro h
    simp only [frm]
    split
    · rw [put_get_ne _ _ _ _ (h n (by omega))]; exact ih (fun j hj => h j (by omega))
    · exact ih (fun j hj => h j (by omega))
/-- What an operation that came up has laid. -/
theorem frm_in (a0 : Act) (val : Nat → Value) (L : Nat → Bool) (i s : Nat) (hi : dstOf ops i = some s) (hs : s < a0.tmps.size) (hL : L i = true) (hd : ∀ j, j ≠ i → dstOf ops j ≠ some s) : ∀ n, i < n → (frm ops a0 val L n).tmps[s]? = some (val i) := by
  intro n
  induction n with
  | zero => intro h; omega
  | succ n ih =>
    intro h
    simp only [frm]
    by_cases e : n = i
    · subst e
      rw [if_pos hL, hi, put_get _ _ _ (by rw [frm_size]; exact hs)]
    · have := ih (by omega)
      split
      · rw [put_get_ne _ _ _ _ (hd n e)]; exact this
      · exact this
theorem eval_of {a : Act} {s : Nat} {v : Value} (h : a.tmps[s]? = some v) : a.eval (.tmp s) = v := by
  simp [Act.eval, h]
theorem wanted_none {o : Oper} {y : Nat → Option Bool} (h : o.guard = none) : Region.wanted o y = true := by simp [Region.wanted, h]
def acB (ops : Array Oper) : Bool := (List.range ops.size).all fun i => match ops[i]? with | some o => o.after.toList.all (fun e => !(Region.binds .any e) || decide (e.on < i)) | none => true
theorem hac_of (h : acB ops = true) : ∀ i o, ops[i]? = some o → ∀ e ∈ o.after, Region.binds .any e = true → e.on < i := by
  intro i o ho e he hb
  have hi : i < ops.size := (Array.getElem?_eq_some_iff.1 ho).1
  have h1 := List.all_eq_true.1 h i (List.mem_range.2 hi)
  simp only [ho] at h1
  have h2 := List.all_eq_true.1 h1 e (by simpa using he)
  simpa [hb] using h2
/-- What an operation that came up has laid. -/
theorem frm_at (hdis : ∀ i j, j ≠ i → dstOf ops j ≠ dstOf ops i ∨ dstOf ops j = none) {a a0 : Act} {val : Nat → Value} {L : Nat → Bool} (ha : a = frm ops a0 val L ops.size) (i s : Nat) (hi : dstOf ops i = some s) (hs : s < a0.tmps.size) (hL : L i = true) : a.tmps[s]? = some (val i) := by
  rw [ha]
  have hlt : i < ops.size := by
    rcases Nat.lt_or_ge i ops.size with h | h
    · exact h
    · simp [dstOf, Array.getElem?_eq_none h] at hi
  refine frm_in a0 val L i s hi hs hL (fun j hj => ?_) _ hlt
  rcases hdis i j hj with q | q
  · rw [← hi]; exact q
  · rw [q]; simp
theorem frm_old {a a0 : Act} {val : Nat → Value} {L : Nat → Bool} (ha : a = frm ops a0 val L ops.size) (s : Nat) (v : Value) (h : (List.range ops.size).all (fun j => !(dstOf ops j == some s)) = true) (h0 : a0.tmps[s]? = some v) : a.tmps[s]? = some v := by
  rw [ha, frm_out a0 val L s ops.size, h0]
  intro j hj q
  have := List.all_eq_true.1 h j (List.mem_range.2 hj)
  rw [q] at this
  simp at this
end Go.Proofs.YtfaahjbkdlkmjaaDoor
namespace Go.Proofs.YtfaahjbkdlkmjaaDoor
open Go.RowKit
theorem tab_at {ops : Array Oper} {l : List (Op × Option Tmp × Option (Nat × Bool))} (h : ops.toList.map (fun o => (o.op, o.dst, o.guard)) = l) {i : Nat} {o : Oper} (ho : ops[i]? = some o) {x : Op × Option Tmp × Option (Nat × Bool)} (hx : l[i]? = some x) : o.op = x.1 ∧ o.dst = x.2.1 ∧ o.guard = x.2.2 := by
  rw [← h, List.getElem?_map] at hx
  have : ops.toList[i]? = some o := by simpa using ho
  rw [this] at hx
  have := Option.some.inj hx
  rw [← this]
  exact ⟨rfl, rfl, rfl⟩
theorem tab_dst {ops : Array Oper} {l : List (Op × Option Tmp × Option (Nat × Bool))} (h : ops.toList.map (fun o => (o.op, o.dst, o.guard)) = l) (i : Nat) : dstOf ops i = (l[i]?).bind (·.2.1) := by
  rw [← h, List.getElem?_map]
  unfold dstOf
  have : ops.toList[i]? = ops[i]? := by simp
  rw [this]
  cases ops[i]? <;> rfl
theorem run_move (ρ : Operand → Value) (o : Oper) (x : Operand) (ho : o.op = .move x) (P : Program) (w : World) : (execOp ρ o).run P w = .ok (.value (ρ x)) w := by
  unfold execOp
  simp only [ho]
  rfl
variable {ops : Array Oper} {Q : Exit → Act → World → Prop}
def DoesL (ops : Array Oper) (Q : Exit → Act → World → Prop) (Wd : (Nat → Bool) → World → Prop) (val : Nat → Value) (i : Nat) (L : Nat → Bool) (a : Act) (w : World) : Prop :=
  wpOp Tryd.prog ops Q i (fun a' w' => a' = a.put (dstOf ops i) (val i) ∧ Wd (upd L i) w') a w
variable {Wd : (Nat → Bool) → World → Prop} {val : Nat → Value} {i : Nat} {L : Nat → Bool} {o : Oper} {a : Act} {w : World}
theorem doesL_run (ho : ops[i]? = some o) (hw : Region.wanted o (yielded ops a.tmps) = true) (hW : Wd (upd L i) w)
    (hr : (execOp a.eval o).run Tryd.prog w = .ok (.value (val i)) w) : DoesL ops Q Wd val i L a w := by
  unfold DoesL wpOp
  simp only [ho]
  rw [if_pos hw]
  left
  unfold Oper.wp
  rw [hr, Oper.upon_value]
  refine ⟨?_, hW⟩
  simp [dstOf, ho]
theorem run_assign (ρ : Operand → Value) (o : Oper) (x : Operand) (ho : o.op = .assign x) (w : World) : (execOp ρ o).run Tryd.prog w = .ok (.value (ρ x)) w := by
  unfold execOp
  simp only [ho]
  rfl
theorem run_calls {f : FuncId} {fn : Func} {c : Code} (hf : Tryd.prog.funcs[f]? = some fn) (hname : (fn.name == "runtime.NumGoroutine") = false) (hb : fn.body = some c) (ρ : Operand → Value) (o : Oper) (xs : Array Operand) (ty : Array TypeId) (ho : o.op = .call { callee := .value (.func f), args := xs, argTypes := ty }) (hfn : ρ (.func f) = .func (.func f) #[] #[]) (w : World) : (execOp ρ o).run Tryd.prog w = .ok (.enter f (xs.map ρ)) w := by
  unfold execOp
  simp only [ho, resolve, hfn]
  have := Go.MuLone.run_callFunc_enter (P := Tryd.prog) hf hname hb (xs.map ρ) w
  simp [Deferred.ofValue, invoke, this]
theorem run_nil (ρ : Operand → Value) (o : Oper) (x : Operand) (ho : o.op = .nilCheck x) (p : Addr) (hx : ρ x = .pointer (some p)) (w : World) : (execOp ρ o).run Tryd.prog w = .ok (.value (.pointer (some p))) w := by
  unfold execOp
  simp only [ho, hx]
  rfl
theorem run_len (ρ : Operand → Value) (o : Oper) (x : Operand) (ho : o.op = .call { callee := .builtin .len, args := #[x], argTypes := #[9] }) (s : List UInt8) (hx : ρ x = .string ⟨s.toArray⟩) (w : World) : (execOp ρ o).run Tryd.prog w = .ok (.value (.int .i64 (s.length : Int))) w := by
  unfold execOp
  simp only [ho, resolve, invoke, builtin]
  simp [hx, go_sem]
def deplB (l : List (Nat × Nat)) (ops : Array Oper) : Bool := l.all fun x => match ops[x.1]? with | some o => o.after.toList.any (fun e => Region.binds .any e && e.on == x.2) | none => false
theorem depl_of {l : List (Nat × Nat)} {ops : Array Oper} (h : deplB l ops = true) (i j : Nat) (hm : (i, j) ∈ l) {o : Oper} (ho : ops[i]? = some o) {L : Nat → Bool} (hd : ∀ e ∈ o.after, Region.binds .any e = true → L e.on = true) : L j = true := by
  have h1 := List.all_eq_true.1 h (i, j) hm
  simp only [ho] at h1
  obtain ⟨e, he, q⟩ := List.any_eq_true.1 h1
  rw [Bool.and_eq_true] at q
  have := hd e (by simpa using he) q.1
  rw [beq_iff_eq.1 q.2] at this
  exact this
def disL (T : List (Op × Option Tmp × Option (Nat × Bool))) : Bool := (List.range T.length).all fun i => (List.range T.length).all fun j => i == j || ((T[j]?).bind (·.2.1)).isNone || !((T[j]?).bind (·.2.1) == (T[i]?).bind (·.2.1))
theorem disL_of {T : List (Op × Option Tmp × Option (Nat × Bool))} {ops : Array Oper} (htab : ops.toList.map (fun o => (o.op, o.dst, o.guard)) = T) (h : disL T = true) : ∀ i j, j ≠ i → dstOf ops j ≠ dstOf ops i ∨ dstOf ops j = none := by
  intro i j hne
  rw [tab_dst htab, tab_dst htab]
  by_cases hj : j < T.length
  · by_cases hi : i < T.length
    · have h1 := List.all_eq_true.1 (List.all_eq_true.1 h i (List.mem_range.2 hi)) j (List.mem_range.2 hj)
      simp only [Bool.or_eq_true, beq_iff_eq, Option.isNone_iff_eq_none, Bool.not_eq_true', beq_eq_false_iff_ne, ne_eq] at h1
      rcases h1 with (h1 | h1) | h1
      · exact absurd h1.symm hne
      · exact .inr h1
      · exact .inl h1
    · rw [List.getElem?_eq_none (Nat.le_of_not_lt hi)]
      cases q : (T[j]?).bind (·.2.1) with
      | none => exact .inr rfl
      | some x => exact .inl (by simp)
  · right
    rw [List.getElem?_eq_none (Nat.le_of_not_lt hj)]
    rfl
theorem holdL {T : List (Op × Option Tmp × Option (Nat × Bool))} {ops : Array Oper} (htab : ops.toList.map (fun o => (o.op, o.dst, o.guard)) = T) (s : Nat) (h : T.all (fun x => !(x.2.1 == some s)) = true) : (List.range ops.size).all (fun j => !(dstOf ops j == some s)) = true := by
  rw [List.all_eq_true]
  intro j hj
  rw [tab_dst htab]
  cases q : T[j]? with
  | none => rfl
  | some x =>
    have := List.all_eq_true.1 h x (List.mem_of_getElem? q)
    exact this
theorem put_none (a : Act) (v : Value) : a.put none v = a := rfl
theorem doesL_runw {ops : Array Oper} {Q : Exit → Act → World → Prop} {Wd : (Nat → Bool) → World → Prop} {val : Nat → Value} {i : Nat} {L : Nat → Bool} {o : Oper} {a : Act} {w w' : World} (ho : ops[i]? = some o) (hw : Region.wanted o (yielded ops a.tmps) = true) (hW : Wd (upd L i) w')
    (hr : (execOp a.eval o).run Tryd.prog w = .ok (.value (val i)) w') : DoesL ops Q Wd val i L a w := by
  unfold DoesL wpOp
  simp only [ho]
  rw [if_pos hw]
  left
  unfold Oper.wp
  rw [hr, Oper.upon_value]
  refine ⟨?_, hW⟩
  simp [dstOf, ho]
theorem doesL_skp {ops : Array Oper} {Q : Exit → Act → World → Prop} {Wd : (Nat → Bool) → World → Prop} {val : Nat → Value} {i : Nat} {L : Nat → Bool} {o : Oper} {a : Act} {w w' : World} (ho : ops[i]? = some o) (hw : Region.wanted o (yielded ops a.tmps) = true) (hv : val i = undef) (hW : Wd (upd L i) w')
    (hr : (execOp a.eval o).run Tryd.prog w = .ok .skip w') : DoesL ops Q Wd val i L a w := by
  unfold DoesL wpOp
  simp only [ho]
  rw [if_pos hw]
  left
  unfold Oper.wp
  rw [hr, Oper.upon_skip]
  refine ⟨?_, hW⟩
  simp [dstOf, ho, hv]
end Go.Proofs.YtfaahjbkdlkmjaaDoor
/- A region that draws its order, some of whose values come up only as it goes: what is chosen so far is carried. -/
namespace Go.Proofs.YtfaahjbkdlkmjaaDoor
open Go.RowKit
variable {C : Type} {ops : Array Oper} {Q : Exit → Act → World → Prop}
def DoesX (ops : Array Oper) (Q : Exit → Act → World → Prop) (Wd : C → (Nat → Bool) → World → Prop) (val : C → Nat → Value) (i : Nat) (L : Nat → Bool) (c : C) (a : Act) (w : World) : Prop :=
  wpOp Tryd.prog ops Q i (fun a' w' => ∃ c', (∀ j, L j = true → val c' j = val c j) ∧ a' = a.put (dstOf ops i) (val c' i) ∧ Wd c' (upd L i) w') a w
theorem doesX_of {Wd : C → (Nat → Bool) → World → Prop} {val : C → Nat → Value} {i : Nat} {L : Nat → Bool} {c : C} {a : Act} {w : World} (h : DoesL ops Q (Wd c) (val c) i L a w) : DoesX ops Q Wd val i L c a w := by
  unfold DoesX
  refine wpOp_mono ?_ h
  rintro a' w' ⟨rfl, hw⟩
  exact ⟨c, fun _ _ => rfl, rfl, hw⟩
theorem doesX_call {Wd : C → (Nat → Bool) → World → Prop} {val : C → Nat → Value} {i : Nat} {L : Nat → Bool} {c : C} {o : Oper} {a : Act} {w : World} (ho : ops[i]? = some o) (hw : Region.wanted o (yielded ops a.tmps) = true) (f : FuncId) (args : Array Value)
    (hr : (execOp a.eval o).run Tryd.prog w = .ok (.enter f args) w) (hc : Calls Tryd.prog f args w fun e w' => ∃ c', (∀ j, L j = true → val c' j = val c j) ∧ e = .returned (val c' i) ∧ Wd c' (upd L i) w') : DoesX ops Q Wd val i L c a w := by
  unfold DoesX wpOp
  simp only [ho]
  rw [if_pos hw]
  left
  unfold Oper.wp
  rw [hr, Oper.upon_enter]
  refine hc.mono ?_
  rintro e w' ⟨c', h1, rfl, hW⟩
  refine ⟨c', h1, ?_, hW⟩
  simp [dstOf, ho]
theorem frm_congr {a0 : Act} {v v' : Nat → Value} {L : Nat → Bool} (h : ∀ j, L j = true → v' j = v j) : ∀ n, frm ops a0 v' L n = frm ops a0 v L n := by
  intro n
  induction n with
  | zero => rfl
  | succ n ih =>
    simp only [frm]
    split
    · rename_i hn
      rw [ih, h n hn]
    · exact ih
theorem region_detX {id : Nat} {a0 : Act} {w : World} (val : C → Nat → Value) (Wd : C → (Nat → Bool) → World → Prop)
    (hac : ∀ i o, ops[i]? = some o → ∀ e ∈ o.after, Region.binds .any e = true → e.on < i)
    (hdis : ∀ i j, j ≠ i → dstOf ops j ≠ dstOf ops i ∨ dstOf ops j = none)
    (h0 : ∃ c, Wd c (fun _ => false) w.drew)
    (hstep : ∀ i o, ops[i]? = some o → ∀ c L a w, L i = false → (∀ e ∈ o.after, Region.binds .any e = true → L e.on = true) → a = frm ops a0 (val c) L ops.size → Wd c L w → DoesX ops Q Wd val i L c a w)
    (hend : ∀ c L w, (∀ i, i < ops.size → L i = true) → Wd c L w → Q .normal (frm ops a0 (val c) (fun _ => true) ops.size) w) : (Code.region id ops true).wp Tryd.prog Q a0 w := by
  refine region_inv (by kernel_rfl) (fun L a w => ∃ c, a = frm ops a0 (val c) L ops.size ∧ Wd c L w) hac ?_ ?_ ?_
  · obtain ⟨c, h0⟩ := h0
    refine ⟨c, ?_, h0⟩
    have : ∀ n, frm ops a0 (val c) (fun _ => false) n = a0 := by
      intro n
      induction n with
      | zero => rfl
      | succ n ih => simpa [frm] using ih
    exact (this _).symm
  · intro L a w i o ho hL hdep ⟨c, ha, hw⟩
    refine wpOp_mono ?_ (hstep i o ho c L a w hL hdep ha hw)
    rintro a' w' ⟨c', h1, rfl, hw'⟩
    refine ⟨c', ?_, hw'⟩
    rw [frm_upd a0 (val c') L i hL (fun j hj => hdis i j hj), if_pos (Array.getElem?_eq_some_iff.1 ho).1, ha, frm_congr h1]
  · intro L a w hall ⟨c, ha, hw⟩
    have : ∀ n, n ≤ ops.size → frm ops a0 (val c) L n = frm ops a0 (val c) (fun _ => true) n := by
      intro n
      induction n with
      | zero => intro _; rfl
      | succ n ih => intro h; simp only [frm]; rw [hall n (by omega), ih (by omega)]; simp
    rw [ha, this _ (Nat.le_refl _)]
    exact hend c L w hall hw
end Go.Proofs.YtfaahjbkdlkmjaaDoor
/- What an operation of a drawn region comes to, told by what its sentence in the model's words comes to. -/
namespace Go.Proofs.YtfaahjbkdlkmjaaDoor
open Go.RowKit
theorem doesX_runw {C : Type} {ops : Array Oper} {Q : Exit → Act → World → Prop} {Wd : C → (Nat → Bool) → World → Prop} {val : C → Nat → Value} {i : Nat} {L : Nat → Bool} {c : C} {o : Oper} {a : Act} {w w' : World} (ho : ops[i]? = some o) (hw : Region.wanted o (yielded ops a.tmps) = true) (c' : C) (hv : ∀ j, L j = true → val c' j = val c j) (hW : Wd c' (upd L i) w')
    (hr : (execOp a.eval o).run Tryd.prog w = .ok (.value (val c' i)) w') : DoesX ops Q Wd val i L c a w := by
  have h := doesL_runw (Q := Q) (val := val c') (Wd := Wd c') ho hw hW hr
  unfold DoesL at h
  unfold DoesX
  refine wpOp_mono ?_ h
  rintro a' w2 ⟨rfl, h2⟩
  exact ⟨c', hv, rfl, h2⟩
variable {ρ : Operand → Value} {o : Oper} {w w' : World} {r : Value}
theorem g_load {t : TypeId} {a : Operand} {va : Value} (ho : o.op = .load t a) (ha : ρ a = va) (hr : (Instr.loadAt t va).run Tryd.prog w = .ok r w') : (execOp ρ o).run Tryd.prog w = .ok (.value r) w' := by
  unfold execOp
  simp only [ho, ha, Sem.run_bind, hr, Result.andThen_ok, Sem.run_pure]
theorem g_store {t : TypeId} {a x : Operand} {va vx : Value} (ho : o.op = .store t a x) (ha : ρ a = va) (hx : ρ x = vx) (hr : (Instr.storeAt t va vx).run Tryd.prog w = .ok () w') : (execOp ρ o).run Tryd.prog w = .ok .skip w' := by
  unfold execOp
  simp only [ho, ha, hx, Sem.run_bind, hr, Result.andThen_ok, Sem.run_pure]
theorem g_alloc {t : TypeId} (ho : o.op = .alloc t) (hr : (Instr.alloc t true (.tuple #[])).run Tryd.prog w = .ok r w') : (execOp ρ o).run Tryd.prog w = .ok (.value r) w' := by
  unfold execOp
  simp only [ho, Sem.run_bind, hr, Result.andThen_ok, Sem.run_pure]
theorem g_bin {p : BinOp} {t u : TypeId} {x y : Operand} {vx vy : Value} (ho : o.op = .binOp p t x y u) (hx : ρ x = vx) (hy : ρ y = vy) (hr : (do eqGuard p t x y vx vy; binOp p t vx vy : Sem Value).run Tryd.prog w = .ok r w') : (execOp ρ o).run Tryd.prog w = .ok (.value r) w' := by
  unfold execOp
  simp only [ho, hx, hy]
  rw [Sem.run_bind, hr, Result.andThen_ok, Sem.run_pure]
theorem g_conv {s t : TypeId} {x : Operand} {vx : Value} (ho : o.op = .convert s t x) (hx : ρ x = vx) (hr : (convert s t vx).run Tryd.prog w = .ok r w') : (execOp ρ o).run Tryd.prog w = .ok (.value r) w' := by
  unfold execOp
  simp only [ho, hx, Sem.run_bind, hr, Result.andThen_ok, Sem.run_pure]
theorem g_field {t : TypeId} {j : Nat} {x : Operand} {vx : Value} (ho : o.op = .fieldAddr t x j) (hx : ρ x = vx) (hr : (Instr.fieldAt t vx j).run Tryd.prog w = .ok r w') : (execOp ρ o).run Tryd.prog w = .ok (.value r) w' := by
  unfold execOp
  simp only [ho, hx, Sem.run_bind, hr, Result.andThen_ok, Sem.run_pure]
theorem g_ext {j : Nat} {x : Operand} {vx : Value} (ho : o.op = .extract x j) (hx : ρ x = vx) (hr : (Instr.extract vx j).run Tryd.prog w = .ok r w') : (execOp ρ o).run Tryd.prog w = .ok (.value r) w' := by
  unfold execOp
  simp only [ho, hx, Sem.run_bind, hr, Result.andThen_ok, Sem.run_pure]
theorem g_mki {t : TypeId} {x : Operand} {vx : Value} (ho : o.op = .makeInterface t x) (hx : ρ x = vx) (hr : (Instr.makeInterface t vx).run Tryd.prog w = .ok r w') : (execOp ρ o).run Tryd.prog w = .ok (.value r) w' := by
  unfold execOp
  simp only [ho, hx, Sem.run_bind, hr, Result.andThen_ok, Sem.run_pure]
theorem g_build {t : TypeId} {ps : Array (Nat × Operand)} {vs : Array (Nat × Value)} (ho : o.op = .build t ps) (hp : (ps.map fun (i, x) => (i, ρ x)) = vs) (hr : (Instr.build t vs).run Tryd.prog w = .ok r w') : (execOp ρ o).run Tryd.prog w = .ok (.value r) w' := by
  unfold execOp
  simp only [ho, hp, Sem.run_bind, hr, Result.andThen_ok, Sem.run_pure]
theorem g_bs {t : TypeId} {n : Nat} {ps : Array (Nat × Operand)} {vs : Array (Nat × Value)} (ho : o.op = .buildSlice t n ps) (hp : (ps.map fun (i, x) => (i, ρ x)) = vs) (hr : (Instr.buildSlice t n vs).run Tryd.prog w = .ok r w') : (execOp ρ o).run Tryd.prog w = .ok (.value r) w' := by
  unfold execOp
  simp only [ho, hp, Sem.run_bind, hr, Result.andThen_ok, Sem.run_pure]
end Go.Proofs.YtfaahjbkdlkmjaaDoor
/- What the sentences of operations come to: loads, stores, allocs, texts. -/
namespace Go.Proofs.YtfaahjbkdlkmjaaDoor
open Go.RowKit
theorem tab3 {ops : Array Oper} {l : List (Op × Option Tmp × Option (Nat × Bool))} (h : ops.toList.map (fun o => (o.op, o.dst, o.guard)) = l) {i : Nat} {o : Oper} (ho : ops[i]? = some o) {p : Op} {d : Option Tmp} {g : Option (Nat × Bool)} (hx : l[i]? = some (p, d, g)) : o.op = p ∧ o.guard = g := by
  obtain ⟨h1, _, h3⟩ := tab_at h ho hx
  exact ⟨h1, h3⟩
theorem dXr {C : Type} {ops : Array Oper} {Q : Exit → Act → World → Prop} {Wd : C → (Nat → Bool) → World → Prop} {val : C → Nat → Value} {i : Nat} {L : Nat → Bool} {c : C} {o : Oper} {a : Act} {w : World} (ho : ops[i]? = some o) (hg : o.guard = none) (hW : Wd c (upd L i) w) (hr : (execOp a.eval o).run Tryd.prog w = .ok (.value (val c i)) w) : DoesX ops Q Wd val i L c a w :=
  doesX_of (doesL_run ho (wanted_none hg) hW hr)
theorem g_mov {ρ : Operand → Value} {o : Oper} {x : Operand} {v : Value} {w : World} (ho : o.op = .move x) (hx : ρ x = v) : (execOp ρ o).run Tryd.prog w = .ok (.value v) w := by rw [run_move _ _ _ ho, hx]
theorem map4 {ρ : Operand → Value} {x0 x1 x2 x3 : Operand} {v0 v1 v2 v3 : Value} (h0 : ρ x0 = v0) (h1 : ρ x1 = v1) (h2 : ρ x2 = v2) (h3 : ρ x3 = v3) : ((#[(0, x0), (1, x1), (2, x2), (3, x3)] : Array (Nat × Operand)).map fun (i, x) => (i, ρ x)) = #[(0, v0), (1, v1), (2, v2), (3, v3)] := by
  simp [h0, h1, h2, h3]
theorem map5 {ρ : Operand → Value} {x0 x1 x2 x3 x4 : Operand} {v0 v1 v2 v3 v4 : Value} (h0 : ρ x0 = v0) (h1 : ρ x1 = v1) (h2 : ρ x2 = v2) (h3 : ρ x3 = v3) (h4 : ρ x4 = v4) : ((#[(0, x0), (1, x1), (2, x2), (3, x3), (4, x4)] : Array (Nat × Operand)).map fun (i, x) => (i, ρ x)) = #[(0, v0), (1, v1), (2, v2), (3, v3), (4, v4)] := by
  simp [h0, h1, h2, h3, h4]
variable {w : World}
theorem s_ld {T : TypeId} (hA : ∀ w, (isAgg T).run Tryd.prog w = .ok false w) {p : Addr} {v : Value} (h : w.cell? p = some v) : (Instr.loadAt T (.pointer (some p))).run Tryd.prog w = .ok v w := by
  simp [Instr.loadAt, go_sem, h, hA]
theorem s_lda {T : TypeId} {n : Nat} (hA : ∀ w, (isAgg T).run Tryd.prog w = .ok true w) (hs : ∀ w, (sizeOf T).run Tryd.prog w = .ok n w) {g o : Nat} (cs : List Value) (hn : cs.length = n) (h : ∀ j v, cs[j]? = some v → w.cell? ⟨g, o + j, none⟩ = some v) : (Instr.loadAt T (.pointer (some ⟨g, o, none⟩))).run Tryd.prog w = .ok (.agg cs.toArray) w := by
  have hl := run_loadCells_list (P := Tryd.prog) w ⟨g, o, none⟩ cs (fun j v hv => by
    have q := h j v hv
    by_cases hj : j = 0
    · subst hj; simpa [Addr.add] using q
    · simpa [Addr.add, hj] using q)
  rw [hn] at hl
  simp [Instr.loadAt, Instr.sureAddr, loadVar, hA, hs, hl, Result.andThen]
/-- The same, of a row that stands in memory. -/
theorem s_ldr {T : TypeId} {n : Nat} (hA : ∀ w, (isAgg T).run Tryd.prog w = .ok true w) (hs : ∀ w, (sizeOf T).run Tryd.prog w = .ok n w) {g o : Nat} {cur : Array Value} {t : TypeId} {f : Nat × Nat} (hg : w.heap[g]? = some (.cells cur t f)) (cs : List Value) (hn : cs.length = n) (h : (cur.toList.drop o).take n = cs) : (Instr.loadAt T (.pointer (some ⟨g, o, none⟩))).run Tryd.prog w = .ok (.agg cs.toArray) w := by
  refine s_lda hA hs cs hn ?_
  intro j v hj
  have hc := cell_of_row w g (o + j) cur t f hg
  rw [hc]
  have hlt : j < n := by rw [← hn]; exact (List.getElem?_eq_some_iff.1 hj).1
  rw [← h, List.getElem?_take, if_pos hlt, List.getElem?_drop] at hj
  simpa using hj
theorem s_sta {T : TypeId} {n : Nat} (hs : ∀ w, (sizeOf T).run Tryd.prog w = .ok n w) {g o : Nat} {cur : Array Value} {t : TypeId} (hg : w.heap[g]? = some (.cells cur t (0, 0))) (v : Value) (hn : v.cells.size = n) (hle : o + n ≤ cur.size) (h1 : ∀ x ∈ v.cells.toList, x.oneCell' = true) : (Instr.storeAt T (.pointer (some ⟨g, o, none⟩)) v).run Tryd.prog w = .ok () (w.setRow g (cur.toList.take o ++ v.cells.toList ++ cur.toList.drop (o + n)).toArray) := by
  have hst := run_storeCells_at Tryd.prog g o t v.cells.toList 0 cur w hg (by simp [hn]; omega) h1
  simp only [Nat.add_zero, Array.length_toList, hn] at hst
  simp [Instr.storeAt, Instr.sureAddr, storeVar, hs, hn, hst, Result.andThen]
end Go.Proofs.YtfaahjbkdlkmjaaDoor
/- A drawn region by a table: the operations that only reckon are told by one closed fact. -/
namespace Go.Proofs.YtfaahjbkdlkmjaaDoor
open Go.RowKit
/-- What a plain operation reckons. -/
def plainRun (ρ : Operand → Value) : Op → Option (Sem Value)
  | .move x => some (pure (ρ x))
  | .assign x => some (pure (ρ x))
  | .fieldAddr t x j => some (Instr.fieldAt t (ρ x) j)
  | .makeInterface t x => some (Instr.makeInterface t (ρ x))
  | .extract x j => some (Instr.extract (ρ x) j)
  | .convert s t x => some (convert s t (ρ x))
  | .binOp p t x y _ => some (do eqGuard p t x y (ρ x) (ρ y); binOp p t (ρ x) (ρ y))
  | .build t ps => some (Instr.build t (ps.map fun q => (q.1, ρ q.2)))
  | .nilCheck x => match ρ x with | .pointer (some p) => some (pure (.pointer (some p))) | _ => none
  | _ => none
theorem plain_run {ρ : Operand → Value} {o : Oper} {m : Sem Value} (h : plainRun ρ o.op = some m) {r : Value} {w : World} (hr : m.run Tryd.prog w = .ok r w) : (execOp ρ o).run Tryd.prog w = .ok (.value r) w := by
  cases ho : o.op
  case nilCheck x =>
    simp only [plainRun, ho] at h
    split at h
    · rename_i p hp
      cases h
      simp only [Sem.run_pure, Result.ok.injEq, and_true] at hr
      rw [← hr]
      exact run_nil _ _ _ ho p hp w
    · cases h
  all_goals simp only [plainRun, ho, reduceCtorEq, Option.some.injEq] at h
  all_goals subst h
  case move x => rw [run_move _ _ _ ho]; simp only [Sem.run_pure, Result.ok.injEq, and_true] at hr; rw [hr]
  case assign x => rw [run_assign _ _ _ ho]; simp only [Sem.run_pure, Result.ok.injEq, and_true] at hr; rw [hr]
  case fieldAddr => exact g_field ho rfl hr
  case makeInterface => exact g_mki ho rfl hr
  case extract => exact g_ext ho rfl hr
  case convert => exact g_conv ho rfl hr
  case binOp => exact g_bin ho rfl rfl hr
  case build => exact g_build ho rfl hr
theorem plain_congr {ρ σ : Operand → Value} (p : Op) (h : ∀ x ∈ p.operands.toList, ρ x = σ x) : plainRun ρ p = plainRun σ p := by
  cases p <;> simp only [plainRun, Op.operands, List.mem_cons, List.not_mem_nil, or_false, forall_eq] at h ⊢
  case move x => rw [h]
  case assign x => rw [h]
  case fieldAddr => rw [h]
  case makeInterface => rw [h]
  case extract => rw [h]
  case convert => rw [h]
  case binOp => rw [h _ (.inl rfl), h _ (.inr rfl)]
  case nilCheck => rw [h]
  case build t ps =>
    congr 2
    apply Array.map_congr_left
    intro q hq
    rw [h q.2 (List.mem_map.2 ⟨q, by simpa using hq, rfl⟩)]
/-- Which operation lays a slot. -/
def idxOf (T : List (Op × Option Tmp × Option (Nat × Bool))) (s : Nat) : Option Nat := T.findIdx? (fun r => r.2.1 == some s)
/-- What an operand holds, by the table. -/
def rhoT (T : List (Op × Option Tmp × Option (Nat × Bool))) (old : List (Nat × Value)) (v : Nat → Value) : Operand → Value
  | .tmp s => match idxOf T s with | some j => v j | none => (old.lookup s).getD undef
  | x => (⟨#[], []⟩ : Act).eval x
/-- That each slot that the operations read is laid by one that comes ahead of it, or is told. -/
def plB (T : List (Op × Option Tmp × Option (Nat × Bool))) (old : List (Nat × Value)) (mx : Nat) (ops : Array Oper) (pl : List Nat) : Bool :=
  pl.all fun i => match T[i]? with
    | some r => r.2.2.isNone && (r.1.operands.toList).all fun x => match x with
      | .tmp s => match idxOf T s with
        | some j => decide (s < mx) && deplB [(i, j)] ops
        | none => (old.lookup s).isSome
      | _ => true
    | none => false
theorem mem_lookup {l : List (Nat × Value)} {s : Nat} {v : Value} (h : l.lookup s = some v) : (s, v) ∈ l := by
  induction l with
  | nil => cases h
  | cons q l ih =>
    obtain ⟨k, u⟩ := q
    by_cases e : s = k
    · subst e
      simp [List.lookup] at h
      subst h
      exact List.mem_cons_self ..
    · have : (s == k) = false := by simpa using e
      simp only [List.lookup, this] at h
      exact List.mem_cons_of_mem _ (ih h)
theorem evalT {T : List (Op × Option Tmp × Option (Nat × Bool))} {old : List (Nat × Value)} {mx : Nat} {ops : Array Oper} {pl : List Nat} (htab : ops.toList.map (fun o => (o.op, o.dst, o.guard)) = T) (hd : disL T = true) (hpl : plB T old mx ops pl = true)
    {a0 a : Act} (hsz : mx ≤ a0.tmps.size) (hold : ∀ s v, old.lookup s = some v → a0.tmps[s]? = some v) {val : Nat → Value} {L : Nat → Bool} (ha : a = frm ops a0 val L ops.size) {i : Nat} (hi : i ∈ pl) {o : Oper} (ho : ops[i]? = some o)
    (hdep : ∀ e ∈ o.after, Region.binds .any e = true → L e.on = true) : o.guard = none ∧ ∀ x ∈ o.op.operands.toList, a.eval x = rhoT T old val x := by
  have h1 := List.all_eq_true.1 hpl i hi
  cases hT : T[i]? with
  | none => rw [hT] at h1; cases h1
  | some r =>
    rw [hT] at h1
    simp only [Bool.and_eq_true] at h1
    obtain ⟨e1, _, e3⟩ := tab_at htab ho hT
    refine ⟨by rw [e3]; exact Option.isNone_iff_eq_none.1 h1.1, fun x hx => ?_⟩
    rw [e1] at hx
    have h2 := List.all_eq_true.1 h1.2 x hx
    cases x with
    | tmp s =>
      simp only [rhoT] at h2 ⊢
      cases hj : idxOf T s with
      | some j =>
        rw [hj] at h2
        simp only [Bool.and_eq_true, decide_eq_true_eq] at h2
        have hds : dstOf ops j = some s := by
          rw [tab_dst htab]
          have := List.findIdx?_eq_some_iff_getElem.1 hj
          obtain ⟨hlt, hq, _⟩ := this
          rw [List.getElem?_eq_getElem hlt]
          simpa using hq
        exact eval_of (frm_at (disL_of htab hd) ha j s hds (Nat.lt_of_lt_of_le h2.1 hsz) (depl_of h2.2 i j (by simp) ho hdep))
      | none =>
        rw [hj] at h2
        obtain ⟨v, hv⟩ := Option.isSome_iff_exists.1 h2
        rw [hv]
        refine eval_of (frm_old ha s v (holdL htab s ?_) (hold s v hv))
        have := List.findIdx?_eq_none_iff.1 hj
        rw [List.all_eq_true]
        intro y hy
        simpa using this y hy
    | _ => first | rfl | simp [rhoT, Act.eval]
/-- What an operation that does more than reckon must be told to do. -/
def SpT {C : Type} (T : List (Op × Option Tmp × Option (Nat × Bool))) (old : List (Nat × Value)) (val : C → Nat → Value) (Wd : C → (Nat → Bool) → World → Prop) (i : Nat) (c : C) (L : Nat → Bool) (W : World) : Prop :=
  match ((T[i]?).map (fun r => r.1) : Option Op) with
  | some (.load t x) => (Instr.loadAt t (rhoT T old (val c) x)).run Tryd.prog W = .ok (val c i) W ∧ Wd c (upd L i) W
  | some (.store t x y) => val c i = undef ∧ ∃ W', (Instr.storeAt t (rhoT T old (val c) x) (rhoT T old (val c) y)).run Tryd.prog W = .ok () W' ∧ Wd c (upd L i) W'
  | some (.buildSlice t n ps) => ∃ c' W', (∀ j, L j = true → val c' j = val c j) ∧ (Instr.buildSlice t n (ps.toList.map fun q => (q.1, rhoT T old (val c) q.2)).toArray).run Tryd.prog W = .ok (val c' i) W' ∧ Wd c' (upd L i) W'
  | some (.alloc t) => ∃ c' W', (∀ j, L j = true → val c' j = val c j) ∧ (Instr.alloc t true (.tuple #[])).run Tryd.prog W = .ok (val c' i) W' ∧ Wd c' (upd L i) W'
  | some (.call k) => match k.callee with
    | .value (.func f) => (∃ fn b, Tryd.prog.funcs[f]? = some fn ∧ (fn.name == "runtime.NumGoroutine") = false ∧ fn.body = some b) ∧ Calls Tryd.prog f (k.args.toList.map (rhoT T old (val c))).toArray W fun e w' => ∃ c', (∀ j, L j = true → val c' j = val c j) ∧ e = .returned (val c' i) ∧ Wd c' (upd L i) w'
    | _ => False
  | some p => (∃ m, plainRun (rhoT T old (val c)) p = some m ∧ m.run Tryd.prog W = .ok (val c i) W) ∧ Wd c (upd L i) W
  | none => False
theorem doesT {C : Type} {T : List (Op × Option Tmp × Option (Nat × Bool))} {old : List (Nat × Value)} {val : C → Nat → Value} {Wd : C → (Nat → Bool) → World → Prop} {ops : Array Oper} {Q : Exit → Act → World → Prop} (htab : ops.toList.map (fun o => (o.op, o.dst, o.guard)) = T) {i : Nat} {o : Oper} (ho : ops[i]? = some o) {c : C} {L : Nat → Bool} {a : Act} {W : World} (hg : o.guard = none)
    (hx : ∀ x ∈ o.op.operands.toList, a.eval x = rhoT T old (val c) x) (h : SpT T old val Wd i c L W) : DoesX ops Q Wd val i L c a W := by
  have hT : (T[i]?).map (fun r => r.1) = some o.op := by
    have : (ops.toList.map (fun o => (o.op, o.dst, o.guard)))[i]? = some (o.op, o.dst, o.guard) := by
      rw [List.getElem?_map, show ops.toList[i]? = some o by simpa using ho]
      rfl
    rw [← htab, this]
    rfl
  unfold SpT at h
  rw [hT] at h
  split at h
  · rename_i t x hp
    have hp' : o.op = .load t x := Option.some.inj hp
    exact dXr ho hg h.2 (g_load hp' (hx x (by rw [hp']; simp [Op.operands])) h.1)
  · rename_i t x y hp
    have hp' : o.op = .store t x y := Option.some.inj hp
    obtain ⟨hv, W', h1, h2⟩ := h
    exact doesX_of (doesL_skp ho (wanted_none hg) hv h2 (g_store hp' (hx x (by rw [hp']; simp [Op.operands])) (hx y (by rw [hp']; simp [Op.operands])) h1))
  · rename_i t n ps hp
    have hp' : o.op = .buildSlice t n ps := Option.some.inj hp
    obtain ⟨c', W', h0, h1, h2⟩ := h
    refine doesX_runw ho (wanted_none hg) c' h0 h2 (g_bs hp' ?_ h1)
    apply Array.ext'
    simp only [Array.toList_map]
    refine List.map_congr_left ?_
    intro q hq
    have e := hx q.2 (by rw [hp']; simp only [Op.operands]; exact List.mem_map.2 ⟨q, by simpa using hq, rfl⟩)
    show (q.1, a.eval q.2) = (q.1, rhoT T old (val c) q.2)
    rw [e]
  · rename_i t hp
    have hp' : o.op = .alloc t := Option.some.inj hp
    obtain ⟨c', W', h0, h1, h2⟩ := h
    exact doesX_runw ho (wanted_none hg) c' h0 h2 (g_alloc hp' h1)
  · rename_i k hp
    have hp' : o.op = .call k := Option.some.inj hp
    split at h
    · rename_i f hf
      obtain ⟨⟨fn, b, q1, q2, q3⟩, h1⟩ := h
      have hk : k = { callee := .value (.func f), args := k.args, argTypes := k.argTypes } := by rw [← hf]
      rw [hk] at hp'
      refine doesX_call ho (wanted_none hg) f (k.args.toList.map (rhoT T old (val c))).toArray ?_ h1
      have e : k.args.map a.eval = (k.args.toList.map (rhoT T old (val c))).toArray := by
        apply Array.ext'
        simp only [Array.toList_map]
        refine List.map_congr_left ?_
        intro x hxx
        exact hx x (by rw [hp']; simp only [Op.operands, Call.operands]; simp [hxx])
      rw [run_calls q1 q2 q3 a.eval o k.args k.argTypes hp' rfl W, e]
    · cases h
  · obtain ⟨⟨m, h1, h2⟩, h3⟩ := h
    rename_i p _ _ _ _ _ hp
    have hp' : o.op = p := Option.some.inj hp
    exact dXr ho hg h3 (plain_run (m := m) (by rw [plain_congr o.op hx, hp']; exact h1) h2)
  · cases h
/-- The frame behind a table's operations. -/
def frmL : List (Op × Option Tmp × Option (Nat × Bool)) → Act → (Nat → Value) → Nat → Act
  | [], a, _, _ => a
  | r :: l, a, v, i => frmL l (a.put r.2.1 (v i)) v (i + 1)
theorem frmL_snoc (l : List (Op × Option Tmp × Option (Nat × Bool))) (r : Op × Option Tmp × Option (Nat × Bool)) (a : Act) (v : Nat → Value) (i : Nat) : frmL (l ++ [r]) a v i = (frmL l a v i).put r.2.1 (v (i + l.length)) := by
  induction l generalizing a i with
  | nil => rfl
  | cons q l ih =>
    simp only [List.cons_append, frmL, ih, List.length_cons]
    rw [show i + 1 + l.length = i + (l.length + 1) by omega]
theorem frm_L {T : List (Op × Option Tmp × Option (Nat × Bool))} {ops : Array Oper} (htab : ops.toList.map (fun o => (o.op, o.dst, o.guard)) = T) (a0 : Act) (v : Nat → Value) : ∀ n, n ≤ T.length → frm ops a0 v (fun _ => true) n = frmL (T.take n) a0 v 0
  | 0, _ => rfl
  | n + 1, h => by
    rw [List.take_succ_eq_append_getElem (by omega), frmL_snoc, ← frm_L htab a0 v n (by omega)]
    simp only [frm, if_true]
    rw [tab_dst htab, List.getElem?_eq_getElem (by omega)]
    simp [show min n T.length = n by omega]
/-- A drawn region by its table. -/
theorem region_tab {C : Type} {ops : Array Oper} {id : Nat} {Q : Exit → Act → World → Prop} (T : List (Op × Option Tmp × Option (Nat × Bool))) (old : List (Nat × Value)) (mx : Nat) (pl : List Nat) (val : C → Nat → Value)
    (htab : ops.toList.map (fun o => (o.op, o.dst, o.guard)) = T) (hall : plB T old mx ops (List.range T.length) = true) (hac : acB ops = true) (hd : disL T = true)
    (chk : ∀ (c : C) (w : World), (pl.map fun i => ((T[i]?).bind fun r => plainRun (rhoT T old (val c)) r.1).map fun m => m.run Tryd.prog w) = pl.map fun i => some (.ok (val c i) w))
    (a0 : Act) (w : World) (hsz : mx ≤ a0.tmps.size) (hold : (old.map fun q => a0.tmps[q.1]?) = old.map fun q => some q.2)
    (Wd : C → (Nat → Bool) → World → Prop) (h0 : ∃ c, Wd c (fun _ => false) w.drew) (hpure : ∀ i, i ∈ pl → ∀ c L W, Wd c L W → Wd c (upd L i) W)
    (hsp : ∀ i, i < T.length → i ∉ pl → ∀ c L W, Wd c L W → L i = false → (∀ j, deplB [(i, j)] ops = true → L j = true) → SpT T old val Wd i c L W)
    (hend : ∀ c L W, (∀ i, i < T.length → L i = true) → Wd c L W → Q .normal (frmL T a0 (val c) 0) W) : (Code.region id ops true).wp Tryd.prog Q a0 w := by
  have hlen : ops.size = T.length := by rw [← htab]; simp
  have hold' : ∀ s v, old.lookup s = some v → a0.tmps[s]? = some v := by
    intro s v h
    rw [List.map_inj_left] at hold
    exact hold (s, v) (mem_lookup h)
  refine region_detX val Wd (hac_of hac) (disL_of htab hd) h0 ?_ (fun c L W h hW => by
    have := hend c L W (by rw [← hlen]; exact h) hW
    rw [hlen, frm_L htab a0 (val c) T.length (Nat.le_refl _), List.take_length]
    exact this)
  intro i o ho c L a W hL hdep ha hW
  have hi : i < T.length := by rw [← hlen]; exact (Array.getElem?_eq_some_iff.1 ho).1
  obtain ⟨hg, hx⟩ := evalT htab hd hall hsz hold' ha (List.mem_range.2 hi) ho hdep
  by_cases hp : i ∈ pl
  · have hc := chk c W
    rw [List.map_inj_left] at hc
    have hq := hc i hp
    cases hT : T[i]? with
    | none => rw [hT] at hq; cases hq
    | some r =>
      obtain ⟨e1, _, _⟩ := tab_at htab ho hT
      rw [hT] at hq
      simp only [Option.bind_some] at hq
      cases hm : plainRun (rhoT T old (val c)) r.1 with
      | none => rw [hm] at hq; cases hq
      | some m =>
        rw [hm] at hq
        simp only [Option.map_some, Option.some.injEq] at hq
        exact dXr ho hg (hpure i hp c L W hW) (plain_run (m := m) (by rw [plain_congr o.op hx, e1]; exact hm) hq)
  · exact doesT htab ho hg hx (hsp i hi hp c L W hW hL (fun j hj => depl_of hj i j (by simp) ho hdep))
end Go.Proofs.YtfaahjbkdlkmjaaDoor
/- A drawn region by a table, with places of a list. -/
namespace Go.Proofs.YtfaahjbkdlkmjaaDoor
open Go.RowKit
theorem g_ixa {ρ : Operand → Value} {o : Oper} {r : Value} {w w' : World} {t : TypeId} {x y : Operand} {vx vy : Value} (ho : o.op = .indexAddr t x y) (hx : ρ x = vx) (hy : ρ y = vy) (hr : (Instr.indexAt t vx vy).run Tryd.prog w = .ok r w') : (execOp ρ o).run Tryd.prog w = .ok (.value r) w' := by
  unfold execOp
  simp only [ho, hx, hy, Sem.run_bind, hr, Result.andThen_ok, Sem.run_pure]
/-- What a plain operation reckons. -/
def plainRunX (ρ : Operand → Value) : Op → Option (Sem Value)
  | .move x => some (pure (ρ x))
  | .assign x => some (pure (ρ x))
  | .fieldAddr t x j => some (Instr.fieldAt t (ρ x) j)
  | .indexAddr t x y => some (Instr.indexAt t (ρ x) (ρ y))
  | .makeInterface t x => some (Instr.makeInterface t (ρ x))
  | .extract x j => some (Instr.extract (ρ x) j)
  | .convert s t x => some (convert s t (ρ x))
  | .binOp p t x y _ => some (do eqGuard p t x y (ρ x) (ρ y); binOp p t (ρ x) (ρ y))
  | .build t ps => some (Instr.build t (ps.map fun q => (q.1, ρ q.2)))
  | .nilCheck x => match ρ x with | .pointer (some p) => some (pure (.pointer (some p))) | _ => none
  | _ => none
theorem plain_runX {ρ : Operand → Value} {o : Oper} {m : Sem Value} (h : plainRunX ρ o.op = some m) {r : Value} {w : World} (hr : m.run Tryd.prog w = .ok r w) : (execOp ρ o).run Tryd.prog w = .ok (.value r) w := by
  cases ho : o.op
  case nilCheck x =>
    simp only [plainRunX, ho] at h
    split at h
    · rename_i p hp
      cases h
      simp only [Sem.run_pure, Result.ok.injEq, and_true] at hr
      rw [← hr]
      exact run_nil _ _ _ ho p hp w
    · cases h
  all_goals simp only [plainRunX, ho, reduceCtorEq, Option.some.injEq] at h
  all_goals subst h
  case move x => rw [run_move _ _ _ ho]; simp only [Sem.run_pure, Result.ok.injEq, and_true] at hr; rw [hr]
  case assign x => rw [run_assign _ _ _ ho]; simp only [Sem.run_pure, Result.ok.injEq, and_true] at hr; rw [hr]
  case fieldAddr => exact g_field ho rfl hr
  case indexAddr => exact g_ixa ho rfl rfl hr
  case makeInterface => exact g_mki ho rfl hr
  case extract => exact g_ext ho rfl hr
  case convert => exact g_conv ho rfl hr
  case binOp => exact g_bin ho rfl rfl hr
  case build => exact g_build ho rfl hr
theorem plain_congrX {ρ σ : Operand → Value} (p : Op) (h : ∀ x ∈ p.operands.toList, ρ x = σ x) : plainRunX ρ p = plainRunX σ p := by
  cases p <;> simp only [plainRunX, Op.operands, List.mem_cons, List.not_mem_nil, or_false, forall_eq] at h ⊢
  case move x => rw [h]
  case assign x => rw [h]
  case fieldAddr => rw [h]
  case indexAddr => rw [h _ (.inl rfl), h _ (.inr rfl)]
  case makeInterface => rw [h]
  case extract => rw [h]
  case convert => rw [h]
  case binOp => rw [h _ (.inl rfl), h _ (.inr rfl)]
  case nilCheck => rw [h]
  case build t ps =>
    congr 2
    apply Array.map_congr_left
    intro q hq
    rw [h q.2 (List.mem_map.2 ⟨q, by simpa using hq, rfl⟩)]
/-- What an operation that does more than reckon must be told to do. -/
def SpTX {C : Type} (T : List (Op × Option Tmp × Option (Nat × Bool))) (old : List (Nat × Value)) (val : C → Nat → Value) (Wd : C → (Nat → Bool) → World → Prop) (i : Nat) (c : C) (L : Nat → Bool) (W : World) : Prop :=
  match ((T[i]?).map (fun r => r.1) : Option Op) with
  | some (.load t x) => (Instr.loadAt t (rhoT T old (val c) x)).run Tryd.prog W = .ok (val c i) W ∧ Wd c (upd L i) W
  | some (.store t x y) => val c i = undef ∧ ∃ W', (Instr.storeAt t (rhoT T old (val c) x) (rhoT T old (val c) y)).run Tryd.prog W = .ok () W' ∧ Wd c (upd L i) W'
  | some (.buildSlice t n ps) => ∃ c' W', (∀ j, L j = true → val c' j = val c j) ∧ (Instr.buildSlice t n (ps.toList.map fun q => (q.1, rhoT T old (val c) q.2)).toArray).run Tryd.prog W = .ok (val c' i) W' ∧ Wd c' (upd L i) W'
  | some (.alloc t) => ∃ c' W', (∀ j, L j = true → val c' j = val c j) ∧ (Instr.alloc t true (.tuple #[])).run Tryd.prog W = .ok (val c' i) W' ∧ Wd c' (upd L i) W'
  | some (.call k) => match k.callee with
    | .value (.func f) => (∃ fn b, Tryd.prog.funcs[f]? = some fn ∧ (fn.name == "runtime.NumGoroutine") = false ∧ fn.body = some b) ∧ Calls Tryd.prog f (k.args.toList.map (rhoT T old (val c))).toArray W fun e w' => ∃ c', (∀ j, L j = true → val c' j = val c j) ∧ e = .returned (val c' i) ∧ Wd c' (upd L i) w'
    | _ => False
  | some p => (∃ m, plainRunX (rhoT T old (val c)) p = some m ∧ m.run Tryd.prog W = .ok (val c i) W) ∧ Wd c (upd L i) W
  | none => False
theorem doesTX {C : Type} {T : List (Op × Option Tmp × Option (Nat × Bool))} {old : List (Nat × Value)} {val : C → Nat → Value} {Wd : C → (Nat → Bool) → World → Prop} {ops : Array Oper} {Q : Exit → Act → World → Prop} (htab : ops.toList.map (fun o => (o.op, o.dst, o.guard)) = T) {i : Nat} {o : Oper} (ho : ops[i]? = some o) {c : C} {L : Nat → Bool} {a : Act} {W : World} (hg : o.guard = none)
    (hx : ∀ x ∈ o.op.operands.toList, a.eval x = rhoT T old (val c) x) (h : SpTX T old val Wd i c L W) : DoesX ops Q Wd val i L c a W := by
  have hT : (T[i]?).map (fun r => r.1) = some o.op := by
    have : (ops.toList.map (fun o => (o.op, o.dst, o.guard)))[i]? = some (o.op, o.dst, o.guard) := by
      rw [List.getElem?_map, show ops.toList[i]? = some o by simpa using ho]
      rfl
    rw [← htab, this]
    rfl
  unfold SpTX at h
  rw [hT] at h
  split at h
  · rename_i t x hp
    have hp' : o.op = .load t x := Option.some.inj hp
    exact dXr ho hg h.2 (g_load hp' (hx x (by rw [hp']; simp [Op.operands])) h.1)
  · rename_i t x y hp
    have hp' : o.op = .store t x y := Option.some.inj hp
    obtain ⟨hv, W', h1, h2⟩ := h
    exact doesX_of (doesL_skp ho (wanted_none hg) hv h2 (g_store hp' (hx x (by rw [hp']; simp [Op.operands])) (hx y (by rw [hp']; simp [Op.operands])) h1))
  · rename_i t n ps hp
    have hp' : o.op = .buildSlice t n ps := Option.some.inj hp
    obtain ⟨c', W', h0, h1, h2⟩ := h
    refine doesX_runw ho (wanted_none hg) c' h0 h2 (g_bs hp' ?_ h1)
    apply Array.ext'
    simp only [Array.toList_map]
    refine List.map_congr_left ?_
    intro q hq
    have e := hx q.2 (by rw [hp']; simp only [Op.operands]; exact List.mem_map.2 ⟨q, by simpa using hq, rfl⟩)
    show (q.1, a.eval q.2) = (q.1, rhoT T old (val c) q.2)
    rw [e]
  · rename_i t hp
    have hp' : o.op = .alloc t := Option.some.inj hp
    obtain ⟨c', W', h0, h1, h2⟩ := h
    exact doesX_runw ho (wanted_none hg) c' h0 h2 (g_alloc hp' h1)
  · rename_i k hp
    have hp' : o.op = .call k := Option.some.inj hp
    split at h
    · rename_i f hf
      obtain ⟨⟨fn, b, q1, q2, q3⟩, h1⟩ := h
      have hk : k = { callee := .value (.func f), args := k.args, argTypes := k.argTypes } := by rw [← hf]
      rw [hk] at hp'
      refine doesX_call ho (wanted_none hg) f (k.args.toList.map (rhoT T old (val c))).toArray ?_ h1
      have e : k.args.map a.eval = (k.args.toList.map (rhoT T old (val c))).toArray := by
        apply Array.ext'
        simp only [Array.toList_map]
        refine List.map_congr_left ?_
        intro x hxx
        exact hx x (by rw [hp']; simp only [Op.operands, Call.operands]; simp [hxx])
      rw [run_calls q1 q2 q3 a.eval o k.args k.argTypes hp' rfl W, e]
    · cases h
  · obtain ⟨⟨m, h1, h2⟩, h3⟩ := h
    rename_i p _ _ _ _ _ hp
    have hp' : o.op = p := Option.some.inj hp
    exact dXr ho hg h3 (plain_runX (m := m) (by rw [plain_congrX o.op hx, hp']; exact h1) h2)
  · cases h
/-- A drawn region by its table. -/
theorem region_tabX {C : Type} {ops : Array Oper} {id : Nat} {Q : Exit → Act → World → Prop} (T : List (Op × Option Tmp × Option (Nat × Bool))) (old : List (Nat × Value)) (mx : Nat) (pl : List Nat) (val : C → Nat → Value)
    (htab : ops.toList.map (fun o => (o.op, o.dst, o.guard)) = T) (hall : plB T old mx ops (List.range T.length) = true) (hac : acB ops = true) (hd : disL T = true)
    (chk : ∀ (c : C) (w : World), (pl.map fun i => ((T[i]?).bind fun r => plainRunX (rhoT T old (val c)) r.1).map fun m => m.run Tryd.prog w) = pl.map fun i => some (.ok (val c i) w))
    (a0 : Act) (w : World) (hsz : mx ≤ a0.tmps.size) (hold : (old.map fun q => a0.tmps[q.1]?) = old.map fun q => some q.2)
    (Wd : C → (Nat → Bool) → World → Prop) (h0 : ∃ c, Wd c (fun _ => false) w.drew) (hpure : ∀ i, i ∈ pl → ∀ c L W, Wd c L W → Wd c (upd L i) W)
    (hsp : ∀ i, i < T.length → i ∉ pl → ∀ c L W, Wd c L W → L i = false → (∀ j, deplB [(i, j)] ops = true → L j = true) → SpTX T old val Wd i c L W)
    (hend : ∀ c L W, (∀ i, i < T.length → L i = true) → Wd c L W → Q .normal (frmL T a0 (val c) 0) W) : (Code.region id ops true).wp Tryd.prog Q a0 w := by
  have hlen : ops.size = T.length := by rw [← htab]; simp
  have hold' : ∀ s v, old.lookup s = some v → a0.tmps[s]? = some v := by
    intro s v h
    rw [List.map_inj_left] at hold
    exact hold (s, v) (mem_lookup h)
  refine region_detX val Wd (hac_of hac) (disL_of htab hd) h0 ?_ (fun c L W h hW => by
    have := hend c L W (by rw [← hlen]; exact h) hW
    rw [hlen, frm_L htab a0 (val c) T.length (Nat.le_refl _), List.take_length]
    exact this)
  intro i o ho c L a W hL hdep ha hW
  have hi : i < T.length := by rw [← hlen]; exact (Array.getElem?_eq_some_iff.1 ho).1
  obtain ⟨hg, hx⟩ := evalT htab hd hall hsz hold' ha (List.mem_range.2 hi) ho hdep
  by_cases hp : i ∈ pl
  · have hc := chk c W
    rw [List.map_inj_left] at hc
    have hq := hc i hp
    cases hT : T[i]? with
    | none => rw [hT] at hq; cases hq
    | some r =>
      obtain ⟨e1, _, _⟩ := tab_at htab ho hT
      rw [hT] at hq
      simp only [Option.bind_some] at hq
      cases hm : plainRunX (rhoT T old (val c)) r.1 with
      | none => rw [hm] at hq; cases hq
      | some m =>
        rw [hm] at hq
        simp only [Option.map_some, Option.some.injEq] at hq
        exact dXr ho hg (hpure i hp c L W hW) (plain_runX (m := m) (by rw [plain_congrX o.op hx, e1]; exact hm) hq)
  · exact doesTX htab ho hg hx (hsp i hi hp c L W hW hL (fun j hj => depl_of hj i j (by simp) ho hdep))
end Go.Proofs.YtfaahjbkdlkmjaaDoor
/- A drawn region by a table, whose guards are decided: the operations of sk are passed over. -/
namespace Go.Proofs.YtfaahjbkdlkmjaaDoor
open Go.RowKit
theorem run_pick (ρ : Operand → Value) (o : Oper) (x y z : Operand) (ho : o.op = .pick x y z) (b : Bool) (hx : ρ x = .bool b) (w : World) : (execOp ρ o).run Tryd.prog w = .ok (.value (if b then ρ y else ρ z)) w := by
  unfold execOp
  simp only [ho, hx]
  cases b <;> rfl
theorem g_un {ρ : Operand → Value} {o : Oper} {p : UnOp} {t : TypeId} {x : Operand} {r : Value} {w w' : World} (ho : o.op = .unOp p t x) (hr : (Op.unary p (ρ x)).run Tryd.prog w = .ok r w') : (execOp ρ o).run Tryd.prog w = .ok (.value r) w' := by
  unfold execOp
  simp only [ho, Sem.run_bind, hr, Result.andThen_ok, Sem.run_pure]
/-- What a plain operation reckons. -/
def plainRunG (ρ : Operand → Value) : Op → Option (Sem Value)
  | .move x => some (pure (ρ x))
  | .assign x => some (pure (ρ x))
  | .pick x y z => match ρ x with | .bool b => some (pure (if b then ρ y else ρ z)) | _ => none
  | .unOp p _ x => some (Op.unary p (ρ x))
  | .fieldAddr t x j => some (Instr.fieldAt t (ρ x) j)
  | .indexAddr t x y => some (Instr.indexAt t (ρ x) (ρ y))
  | .makeInterface t x => some (Instr.makeInterface t (ρ x))
  | .extract x j => some (Instr.extract (ρ x) j)
  | .convert s t x => some (convert s t (ρ x))
  | .binOp p t x y _ => some (do eqGuard p t x y (ρ x) (ρ y); binOp p t (ρ x) (ρ y))
  | .build t ps => some (Instr.build t (ps.map fun q => (q.1, ρ q.2)))
  | .nilCheck x => match ρ x with | .pointer (some p) => some (pure (.pointer (some p))) | _ => none
  | _ => none
theorem plain_runG {ρ : Operand → Value} {o : Oper} {m : Sem Value} (h : plainRunG ρ o.op = some m) {r : Value} {w : World} (hr : m.run Tryd.prog w = .ok r w) : (execOp ρ o).run Tryd.prog w = .ok (.value r) w := by
  cases ho : o.op
  case nilCheck x =>
    simp only [plainRunG, ho] at h
    split at h
    · rename_i p hp
      cases h
      simp only [Sem.run_pure, Result.ok.injEq, and_true] at hr
      rw [← hr]
      exact run_nil _ _ _ ho p hp w
    · cases h
  case pick x y z =>
    simp only [plainRunG, ho] at h
    split at h
    · rename_i b hb
      cases h
      simp only [Sem.run_pure, Result.ok.injEq, and_true] at hr
      rw [← hr]
      exact run_pick _ _ _ _ _ ho b hb w
    · cases h
  all_goals simp only [plainRunG, ho, reduceCtorEq, Option.some.injEq] at h
  all_goals subst h
  case move x => rw [run_move _ _ _ ho]; simp only [Sem.run_pure, Result.ok.injEq, and_true] at hr; rw [hr]
  case assign x => rw [run_assign _ _ _ ho]; simp only [Sem.run_pure, Result.ok.injEq, and_true] at hr; rw [hr]
  case unOp => exact g_un ho hr
  case fieldAddr => exact g_field ho rfl hr
  case indexAddr => exact g_ixa ho rfl rfl hr
  case makeInterface => exact g_mki ho rfl hr
  case extract => exact g_ext ho rfl hr
  case convert => exact g_conv ho rfl hr
  case binOp => exact g_bin ho rfl rfl hr
  case build => exact g_build ho rfl hr
theorem plain_congrG {ρ σ : Operand → Value} (p : Op) (h : ∀ x ∈ p.operands.toList, ρ x = σ x) : plainRunG ρ p = plainRunG σ p := by
  cases p <;> simp only [plainRunG, Op.operands, List.mem_cons, List.not_mem_nil, or_false, forall_eq] at h ⊢
  case move x => rw [h]
  case assign x => rw [h]
  case unOp => rw [h]
  case pick x y z => rw [h _ (.inl rfl), h _ (.inr (.inl rfl)), h _ (.inr (.inr rfl))]
  case fieldAddr => rw [h]
  case indexAddr => rw [h _ (.inl rfl), h _ (.inr rfl)]
  case makeInterface => rw [h]
  case extract => rw [h]
  case convert => rw [h]
  case binOp => rw [h _ (.inl rfl), h _ (.inr rfl)]
  case nilCheck => rw [h]
  case build t ps =>
    congr 2
    apply Array.map_congr_left
    intro q hq
    rw [h q.2 (List.mem_map.2 ⟨q, by simpa using hq, rfl⟩)]
abbrev TabL := List (Op × Option Tmp × Option (Nat × Bool))
/-- That each slot that an operation reads is laid by one that comes ahead of it, or is told; and its guard's too. -/
def plG (T : TabL) (old : List (Nat × Value)) (mx : Nat) (ops : Array Oper) (sk : List Nat) : Bool :=
  (List.range T.length).all fun i => match T[i]? with
    | some r => (match r.2.2 with
        | none => !(sk.contains i)
        | some (k, _) => (match (T[k]?).bind (·.2.1) with | some s => decide (s < mx) | none => false) && deplB [(i, k)] ops) && (sk.contains i || (r.1.operands.toList).all fun x => match x with
      | .tmp s => match idxOf T s with
        | some j => decide (s < mx) && deplB [(i, j)] ops
        | none => (old.lookup s).isSome
      | _ => true)
    | none => false
/-- Is an operation's guard open, by what is laid? -/
def gqT (T : TabL) (v : Nat → Value) (i : Nat) : Bool := match (T[i]?).bind (fun r => r.2.2) with
  | none => true
  | some (k, b) => match v k with | .bool x => x == b | _ => false
theorem evalG {T : TabL} {old : List (Nat × Value)} {mx : Nat} {ops : Array Oper} {sk : List Nat} (htab : ops.toList.map (fun o => (o.op, o.dst, o.guard)) = T) (hd : disL T = true) (hpl : plG T old mx ops sk = true)
    {a0 a : Act} (hsz : mx ≤ a0.tmps.size) (hold : ∀ s v, old.lookup s = some v → a0.tmps[s]? = some v) {val : Nat → Value} {L : Nat → Bool} (ha : a = frm ops a0 val L ops.size) {i : Nat} (hi : i < T.length) {o : Oper} (ho : ops[i]? = some o)
    (hdep : ∀ e ∈ o.after, Region.binds .any e = true → L e.on = true) : Region.wanted o (yielded ops a.tmps) = gqT T val i ∧ (sk.contains i = false → ∀ x ∈ o.op.operands.toList, a.eval x = rhoT T old val x) := by
  have h1 := List.all_eq_true.1 hpl i (List.mem_range.2 hi)
  cases hT : T[i]? with
  | none => rw [hT] at h1; cases h1
  | some r =>
    rw [hT] at h1
    simp only [Bool.and_eq_true] at h1
    obtain ⟨h1g, h1o⟩ := h1
    obtain ⟨e1, _, e3⟩ := tab_at htab ho hT
    constructor
    · unfold Region.wanted gqT
      rw [hT, e3]
      simp only [Option.bind_some]
      cases hg : r.2.2 with
      | none => rfl
      | some p =>
        obtain ⟨k, b⟩ := p
        rw [hg] at h1g
        simp only [Bool.and_eq_true] at h1g
        obtain ⟨h2, h3⟩ := h1g
        cases hs : (T[k]?).bind (·.2.1) with
        | none => rw [hs] at h2; cases h2
        | some s =>
          rw [hs] at h2
          have hds : dstOf ops k = some s := by rw [tab_dst htab]; exact hs
          have hat := frm_at (disL_of htab hd) ha k s hds (Nat.lt_of_lt_of_le (by simpa using h2) hsz) (depl_of h3 i k (by simp) ho hdep)
          have hy : yielded ops a.tmps k = match val k with | .bool x => some x | _ => none := by
            unfold yielded
            have : (ops[k]?).bind (·.dst) = some s := hds
            rw [this]
            simp only [Option.bind_some, hat]
            cases val k <;> rfl
          show (yielded ops a.tmps k == some b) = match val k with | .bool x => x == b | _ => false
          rw [hy]
          cases val k <;> first | rfl | simp
    · intro hk x hx
      rw [e1] at hx
      simp only [Bool.or_eq_true] at h1o
      have h1o := h1o.resolve_left (by rw [hk]; simp)
      have h2 := List.all_eq_true.1 h1o x hx
      cases x with
      | tmp s =>
        simp only [rhoT] at h2 ⊢
        cases hj : idxOf T s with
        | some j =>
          rw [hj] at h2
          simp only [Bool.and_eq_true, decide_eq_true_eq] at h2
          have hds : dstOf ops j = some s := by
            rw [tab_dst htab]
            have := List.findIdx?_eq_some_iff_getElem.1 hj
            obtain ⟨hlt, hq, _⟩ := this
            rw [List.getElem?_eq_getElem hlt]
            simpa using hq
          exact eval_of (frm_at (disL_of htab hd) ha j s hds (Nat.lt_of_lt_of_le h2.1 hsz) (depl_of h2.2 i j (by simp) ho hdep))
        | none =>
          rw [hj] at h2
          obtain ⟨v, hv⟩ := Option.isSome_iff_exists.1 h2
          rw [hv]
          refine eval_of (frm_old ha s v (holdL htab s ?_) (hold s v hv))
          have := List.findIdx?_eq_none_iff.1 hj
          rw [List.all_eq_true]
          intro y hy
          simpa using this y hy
      | _ => first | rfl | simp [rhoT, Act.eval]
/-- What an operation that does more than reckon must be told to do. -/
def SpTG {C : Type} (T : TabL) (old : List (Nat × Value)) (val : C → Nat → Value) (Wd : C → (Nat → Bool) → World → Prop) (i : Nat) (c : C) (L : Nat → Bool) (W : World) : Prop :=
  match ((T[i]?).map (fun r => r.1) : Option Op) with
  | some (.load t x) => (Instr.loadAt t (rhoT T old (val c) x)).run Tryd.prog W = .ok (val c i) W ∧ Wd c (upd L i) W
  | some (.store t x y) => val c i = undef ∧ ∃ W', (Instr.storeAt t (rhoT T old (val c) x) (rhoT T old (val c) y)).run Tryd.prog W = .ok () W' ∧ Wd c (upd L i) W'
  | some (.buildSlice t n ps) => ∃ c' W', (∀ j, L j = true → val c' j = val c j) ∧ (Instr.buildSlice t n (ps.toList.map fun q => (q.1, rhoT T old (val c) q.2)).toArray).run Tryd.prog W = .ok (val c' i) W' ∧ Wd c' (upd L i) W'
  | some (.alloc t) => ∃ c' W', (∀ j, L j = true → val c' j = val c j) ∧ (Instr.alloc t true (.tuple #[])).run Tryd.prog W = .ok (val c' i) W' ∧ Wd c' (upd L i) W'
  | some (.call k) => match k.callee with
    | .value (.func f) => (∃ fn b, Tryd.prog.funcs[f]? = some fn ∧ (fn.name == "runtime.NumGoroutine") = false ∧ fn.body = some b) ∧ Calls Tryd.prog f (k.args.toList.map (rhoT T old (val c))).toArray W fun e w' => ∃ c', (∀ j, L j = true → val c' j = val c j) ∧ e = .returned (val c' i) ∧ Wd c' (upd L i) w'
    | _ => False
  | some p => (∃ m, plainRunG (rhoT T old (val c)) p = some m ∧ m.run Tryd.prog W = .ok (val c i) W) ∧ Wd c (upd L i) W
  | none => False
theorem dXrw {C : Type} {ops : Array Oper} {Q : Exit → Act → World → Prop} {Wd : C → (Nat → Bool) → World → Prop} {val : C → Nat → Value} {i : Nat} {L : Nat → Bool} {c : C} {o : Oper} {a : Act} {w : World} (ho : ops[i]? = some o) (hg : Region.wanted o (yielded ops a.tmps) = true) (hW : Wd c (upd L i) w) (hr : (execOp a.eval o).run Tryd.prog w = .ok (.value (val c i)) w) : DoesX ops Q Wd val i L c a w :=
  doesX_of (doesL_run ho hg hW hr)
theorem doesTG {C : Type} {T : TabL} {old : List (Nat × Value)} {val : C → Nat → Value} {Wd : C → (Nat → Bool) → World → Prop} {ops : Array Oper} {Q : Exit → Act → World → Prop} (htab : ops.toList.map (fun o => (o.op, o.dst, o.guard)) = T) {i : Nat} {o : Oper} (ho : ops[i]? = some o) {c : C} {L : Nat → Bool} {a : Act} {W : World} (hg : Region.wanted o (yielded ops a.tmps) = true)
    (hx : ∀ x ∈ o.op.operands.toList, a.eval x = rhoT T old (val c) x) (h : SpTG T old val Wd i c L W) : DoesX ops Q Wd val i L c a W := by
  have hT : (T[i]?).map (fun r => r.1) = some o.op := by
    have : (ops.toList.map (fun o => (o.op, o.dst, o.guard)))[i]? = some (o.op, o.dst, o.guard) := by
      rw [List.getElem?_map, show ops.toList[i]? = some o by simpa using ho]
      rfl
    rw [← htab, this]
    rfl
  unfold SpTG at h
  rw [hT] at h
  split at h
  · rename_i t x hp
    have hp' : o.op = .load t x := Option.some.inj hp
    exact dXrw ho hg h.2 (g_load hp' (hx x (by rw [hp']; simp [Op.operands])) h.1)
  · rename_i t x y hp
    have hp' : o.op = .store t x y := Option.some.inj hp
    obtain ⟨hv, W', h1, h2⟩ := h
    exact doesX_of (doesL_skp ho hg hv h2 (g_store hp' (hx x (by rw [hp']; simp [Op.operands])) (hx y (by rw [hp']; simp [Op.operands])) h1))
  · rename_i t n ps hp
    have hp' : o.op = .buildSlice t n ps := Option.some.inj hp
    obtain ⟨c', W', h0, h1, h2⟩ := h
    refine doesX_runw ho hg c' h0 h2 (g_bs hp' ?_ h1)
    apply Array.ext'
    simp only [Array.toList_map]
    refine List.map_congr_left ?_
    intro q hq
    have e := hx q.2 (by rw [hp']; simp only [Op.operands]; exact List.mem_map.2 ⟨q, by simpa using hq, rfl⟩)
    show (q.1, a.eval q.2) = (q.1, rhoT T old (val c) q.2)
    rw [e]
  · rename_i t hp
    have hp' : o.op = .alloc t := Option.some.inj hp
    obtain ⟨c', W', h0, h1, h2⟩ := h
    exact doesX_runw ho hg c' h0 h2 (g_alloc hp' h1)
  · rename_i k hp
    have hp' : o.op = .call k := Option.some.inj hp
    split at h
    · rename_i f hf
      obtain ⟨⟨fn, b, q1, q2, q3⟩, h1⟩ := h
      have hk : k = { callee := .value (.func f), args := k.args, argTypes := k.argTypes } := by rw [← hf]
      rw [hk] at hp'
      refine doesX_call ho hg f (k.args.toList.map (rhoT T old (val c))).toArray ?_ h1
      have e : k.args.map a.eval = (k.args.toList.map (rhoT T old (val c))).toArray := by
        apply Array.ext'
        simp only [Array.toList_map]
        refine List.map_congr_left ?_
        intro x hxx
        exact hx x (by rw [hp']; simp only [Op.operands, Call.operands]; simp [hxx])
      rw [run_calls q1 q2 q3 a.eval o k.args k.argTypes hp' rfl W, e]
    · cases h
  · obtain ⟨⟨m, h1, h2⟩, h3⟩ := h
    rename_i p _ _ _ _ _ hp
    have hp' : o.op = p := Option.some.inj hp
    exact dXrw ho hg h3 (plain_runG (m := m) (by rw [plain_congrG o.op hx, hp']; exact h1) h2)
  · cases h
/-- An operation that is passed over. -/
theorem doesX_off {C : Type} {ops : Array Oper} {Q : Exit → Act → World → Prop} {Wd : C → (Nat → Bool) → World → Prop} {val : C → Nat → Value} {i : Nat} {L : Nat → Bool} {c : C} {o : Oper} {a : Act} {w : World} (ho : ops[i]? = some o) (hg : Region.wanted o (yielded ops a.tmps) = false) (hv : val c i = undef) (hW : Wd c (upd L i) w) : DoesX ops Q Wd val i L c a w := by
  unfold DoesX wpOp
  simp only [ho]
  rw [if_neg (by rw [hg]; simp)]
  refine ⟨c, fun _ _ => rfl, ?_, hW⟩
  simp [dstOf, ho, hv]
/-- A drawn region by its table. -/
theorem region_tabG {C : Type} {ops : Array Oper} {id : Nat} {Q : Exit → Act → World → Prop} (T : TabL) (old : List (Nat × Value)) (mx : Nat) (pl sk : List Nat) (val : C → Nat → Value)
    (htab : ops.toList.map (fun o => (o.op, o.dst, o.guard)) = T) (hall : plG T old mx ops sk = true) (hac : acB ops = true) (hd : disL T = true)
    (gchk : ∀ c : C, (List.range T.length).map (gqT T (val c)) = (List.range T.length).map fun i => !(sk.contains i))
    (schk : ∀ c : C, sk.map (val c) = sk.map fun _ => undef)
    (chk : ∀ (c : C) (w : World), (pl.map fun i => ((T[i]?).bind fun r => plainRunG (rhoT T old (val c)) r.1).map fun m => m.run Tryd.prog w) = pl.map fun i => some (.ok (val c i) w))
    (a0 : Act) (w : World) (hsz : mx ≤ a0.tmps.size) (hold : (old.map fun q => a0.tmps[q.1]?) = old.map fun q => some q.2)
    (Wd : C → (Nat → Bool) → World → Prop) (h0 : ∃ c, Wd c (fun _ => false) w.drew) (hpure : ∀ i, (i ∈ pl ∨ i ∈ sk) → ∀ c L W, Wd c L W → Wd c (upd L i) W)
    (hsp : ∀ i, i < T.length → i ∉ pl → i ∉ sk → ∀ c L W, Wd c L W → L i = false → (∀ j, deplB [(i, j)] ops = true → L j = true) → SpTG T old val Wd i c L W)
    (hend : ∀ c L W, (∀ i, i < T.length → L i = true) → Wd c L W → Q .normal (frmL T a0 (val c) 0) W) : (Code.region id ops true).wp Tryd.prog Q a0 w := by
  have hlen : ops.size = T.length := by rw [← htab]; simp
  have hold' : ∀ s v, old.lookup s = some v → a0.tmps[s]? = some v := by
    intro s v h
    rw [List.map_inj_left] at hold
    exact hold (s, v) (mem_lookup h)
  refine region_detX val Wd (hac_of hac) (disL_of htab hd) h0 ?_ (fun c L W h hW => by
    have := hend c L W (by rw [← hlen]; exact h) hW
    rw [hlen, frm_L htab a0 (val c) T.length (Nat.le_refl _), List.take_length]
    exact this)
  intro i o ho c L a W hL hdep ha hW
  have hi : i < T.length := by rw [← hlen]; exact (Array.getElem?_eq_some_iff.1 ho).1
  obtain ⟨hg, hx⟩ := evalG htab hd hall hsz hold' ha hi ho hdep
  have hgc := gchk c
  rw [List.map_inj_left] at hgc
  rw [hgc i (List.mem_range.2 hi)] at hg
  by_cases hs : i ∈ sk
  · have hv := schk c
    rw [List.map_inj_left] at hv
    exact doesX_off ho (by rw [hg]; simp [hs]) (hv i hs) (hpure i (.inr hs) c L W hW)
  have hsk : sk.contains i = false := by simpa using hs
  rw [hsk] at hg
  have hx := hx hsk
  by_cases hp : i ∈ pl
  · have hc := chk c W
    rw [List.map_inj_left] at hc
    have hq := hc i hp
    cases hT : T[i]? with
    | none => rw [hT] at hq; cases hq
    | some r =>
      obtain ⟨e1, _, _⟩ := tab_at htab ho hT
      rw [hT] at hq
      simp only [Option.bind_some] at hq
      cases hm : plainRunG (rhoT T old (val c)) r.1 with
      | none => rw [hm] at hq; cases hq
      | some m =>
        rw [hm] at hq
        simp only [Option.map_some, Option.some.injEq] at hq
        exact dXrw ho hg (hpure i (.inl hp) c L W hW) (plain_runG (m := m) (by rw [plain_congrG o.op hx, e1]; exact hm) hq)
  · exact doesTG htab ho hg hx (hsp i hi hp hs c L W hW hL (fun j hj => depl_of hj i j (by simp) ho hdep))
end Go.Proofs.YtfaahjbkdlkmjaaDoor
