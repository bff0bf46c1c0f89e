import Derived.Test.YtbeionikiiccpaaDoorInv
/- A region that draws its order, each of whose operations yields one value, whatever the order: one goal an operation, over a frame of which a few slots are known. -/
namespace Go.Proofs.YtbeionikiiccpaaDoor
variable {P : Program} {ops : Array Oper} {Q : Exit → Act → World → Prop}
/-- Where an operation lays what it yields. -/
def dstOf (ops : Array Oper) (i : Nat) : Option Tmp := (ops[i]?).bind (·.dst)
/-- The frame behind those operations that came up. -/
def frm (ops : Array Oper) (a0 : Act) (val : Nat → Value) (L : Nat → Bool) : Nat → Act
  | 0 => a0
  | n + 1 => if L n = true then (frm ops a0 val L n).put (dstOf ops n) (val n) else frm ops a0 val L n
theorem put_comm (a : Act) (d e : Option Tmp) (u v : Value) (h : d ≠ e ∨ d = none) : (a.put d u).put e v = (a.put e v).put d u := by
  cases d with
  | none => rfl
  | some x =>
    cases e with
    | none => rfl
    | some y =>
      have hne : x ≠ y := by
        rcases h with h | h
        · intro q; exact h (by rw [q])
        · cases h
      simp only [Act.put]
      rw [Array.setIfInBounds_comm _ _ hne]
theorem frm_upd (a0 : Act) (val : Nat → Value) (L : Nat → Bool) (i : Nat) (hL : L i = false) (hd : ∀ j, j ≠ i → dstOf ops j ≠ dstOf ops i ∨ dstOf ops j = none) :
    ∀ n, frm ops a0 val (upd L i) n = if i < n then (frm ops a0 val L n).put (dstOf ops i) (val i) else frm ops a0 val L n := by
  intro n
  induction n with
  | zero => simp [frm]
  | succ n ih =>
    by_cases e : n = i
    · subst e
      have e1 : upd L n n = true := by simp [upd]
      have e2 : frm ops a0 val L (n + 1) = frm ops a0 val L n := by simp [frm, hL]
      have e3 : frm ops a0 val (upd L n) (n + 1) = (frm ops a0 val (upd L n) n).put (dstOf ops n) (val n) := by simp [frm, e1]
      rw [e3, e2, ih, if_neg (Nat.lt_irrefl n), if_pos (Nat.lt_succ_self n)]
    · have e1 : upd L i n = L n := by simp [upd, e]
      cases hn : L n with
      | false =>
        have e2 : frm ops a0 val L (n + 1) = frm ops a0 val L n := by simp [frm, hn]
        have e3 : frm ops a0 val (upd L i) (n + 1) = frm ops a0 val (upd L i) n := by simp [frm, e1, hn]
        rw [e3, e2, ih]
        by_cases hlt : i < n
        · rw [if_pos hlt, if_pos (show i < n + 1 by omega)]
        · rw [if_neg hlt, if_neg (show ¬ i < n + 1 by omega)]
      | true =>
        have e2 : frm ops a0 val L (n + 1) = (frm ops a0 val L n).put (dstOf ops n) (val n) := by simp [frm, hn]
        have e3 : frm ops a0 val (upd L i) (n + 1) = (frm ops a0 val (upd L i) n).put (dstOf ops n) (val n) := by simp [frm, e1, hn]
        rw [e3, e2, ih]
        by_cases hlt : i < n
        · rw [if_pos hlt, if_pos (show i < n + 1 by omega)]
          exact (put_comm _ _ _ _ _ (hd n e)).symm
        · rw [if_neg hlt, if_neg (show ¬ i < n + 1 by omega)]
theorem put_size (a : Act) (d : Option Tmp) (v : Value) : (a.put d v).tmps.size = a.tmps.size := by
  cases d with
  | none => rfl
  | some x => simp [Act.put]
theorem frm_size (a0 : Act) (val : Nat → Value) (L : Nat → Bool) : ∀ n, (frm ops a0 val L n).tmps.size = a0.tmps.size := by
  intro n
  induction n with
  | zero => rfl
  | succ n ih =>
    simp only [frm]
    split
    · rw [put_size, ih]
    · exact ih
theorem put_get_ne (a : Act) (d : Option Tmp) (v : Value) (s : Nat) (h : d ≠ some s) : (a.put d v).tmps[s]? = a.tmps[s]? := by
  cases d with
  | none => rfl
  | some x =>
    have : x ≠ s := fun q => h (by rw [q])
    simp [Act.put, this]
theorem put_get (a : Act) (s : Nat) (v : Value) (h : s < a.tmps.size) : (a.put (some s) v).tmps[s]? = some v := by
  simp [Act.put, h]
/-- A slot that no operation of the region lays. -/
theorem frm_out (a0 : Act) (val : Nat → Value) (L : Nat → Bool) (s : Nat) : ∀ n, (∀ j, j < n → dstOf ops j ≠ some s) → (frm ops a0 val L n).tmps[s]? = a0.tmps[s]? := by
  intro n
  induction n with
  | zero => intro _; rfl
  | succ n ih =>
    intro h
    simp only [frm]
    split
    · rw [put_get_ne _ _ _ _ (h n (by omega))]; exact ih (fun j hj => h j (by omega))
    · exact ih (fun j hj => h j (by omega))
/-- What an operation that came up has laid. -/
theorem frm_in (a0 : Act) (val : Nat → Value) (L : Nat → Bool) (i s : Nat) (hi : dstOf ops i = some s) (hs : s < a0.tmps.size) (hL : L i = true) (hd : ∀ j, j ≠ i → dstOf ops j ≠ some s) : ∀ n, i < n → (frm ops a0 val L n).tmps[s]? = some (val i) := by
  intro n
  induction n with
  | zero => intro h; omega
  | succ n ih =>
    intro h
    simp only [frm]
    by_cases e : n = i
    · subst e
      rw [if_pos hL, hi, put_get _ _ _ (by rw [frm_size]; exact hs)]
    · have := ih (by omega)
      split
      · rw [put_get_ne _ _ _ _ (hd n e)]; exact this
      · exact this
theorem eval_of {a : Act} {s : Nat} {v : Value} (h : a.tmps[s]? = some v) : a.eval (.tmp s) = v := by
  simp [Act.eval, h]
/-- What an operation may do: it yields its value, or is passed over. -/
def Does (P : Program) (ops : Array Oper) (Q : Exit → Act → World → Prop) (Wd : World → Prop) (val : Nat → Value) (i : Nat) (a : Act) (w : World) : Prop :=
  wpOp P ops Q i (fun a' w' => a' = a.put (dstOf ops i) (val i) ∧ Wd w') a w
theorem region_det {id : Nat} {a0 : Act} {w : World} (hm : P.follows .mixedOrders = true) (val : Nat → Value) (Wd : World → Prop)
    (hac : ∀ i o, ops[i]? = some o → ∀ e ∈ o.after, Region.binds .any e = true → e.on < i)
    (hdis : ∀ i j, j ≠ i → dstOf ops j ≠ dstOf ops i ∨ dstOf ops j = none)
    (h0 : Wd w.drew)
    (hstep : ∀ i o, ops[i]? = some o → ∀ L a w, (∀ e ∈ o.after, Region.binds .any e = true → L e.on = true) → a = frm ops a0 val L ops.size → Wd w → Does P ops Q Wd val i a w)
    (hend : ∀ w, Wd w → Q .normal (frm ops a0 val (fun _ => true) ops.size) w) : (Code.region id ops true).wp P Q a0 w := by
  refine region_inv hm (fun L a w => a = frm ops a0 val L ops.size ∧ Wd w) hac ?_ ?_ ?_
  · refine ⟨?_, h0⟩
    have : ∀ n, frm ops a0 val (fun _ => false) n = a0 := by
      intro n
      induction n with
      | zero => rfl
      | succ n ih => simpa [frm] using ih
    exact (this _).symm
  · intro L a w i o ho hL hdep ⟨ha, hw⟩
    refine wpOp_mono ?_ (hstep i o ho L a w hdep ha hw)
    rintro a' w' ⟨rfl, hw'⟩
    refine ⟨?_, hw'⟩
    rw [frm_upd a0 val L i hL (fun j hj => hdis i j hj), if_pos (Array.getElem?_eq_some_iff.1 ho).1, ha]
  · intro L a w hall ⟨ha, hw⟩
    have : ∀ n, n ≤ ops.size → frm ops a0 val L n = frm ops a0 val (fun _ => true) n := by
      intro n
      induction n with
      | zero => intro _; rfl
      | succ n ih => intro h; simp only [frm]; rw [hall n (by omega), ih (by omega)]; simp
    rw [ha, this _ (Nat.le_refl _)]
    exact hend w hw
/-- An operation that runs to a value. -/
theorem does_run {Wd : World → Prop} {val : Nat → Value} {i : Nat} {o : Oper} {a : Act} {w : World} (ho : ops[i]? = some o) (hw : Region.wanted o (yielded ops a.tmps) = true) (hW : Wd w)
    (hr : (execOp a.eval o).run P w = .ok (.value (val i)) w) : Does P ops Q Wd val i a w := by
  unfold Does wpOp
  simp only [ho]
  rw [if_pos hw]
  left
  unfold Oper.wp
  rw [hr, Oper.upon_value]
  refine ⟨?_, hW⟩
  simp [dstOf, ho]
/-- An operation that is passed over. -/
theorem does_skip {Wd : World → Prop} {val : Nat → Value} {i : Nat} {o : Oper} {a : Act} {w : World} (ho : ops[i]? = some o) (hw : Region.wanted o (yielded ops a.tmps) = false) (hW : Wd w) (hv : val i = undef) : Does P ops Q Wd val i a w := by
  unfold Does wpOp
  simp only [ho]
  rw [if_neg (by rw [hw]; decide)]
  refine ⟨?_, hW⟩
  simp [dstOf, ho, hv]
/-- A call of a Go function. -/
theorem does_call {Wd : World → Prop} {val : Nat → Value} {i : Nat} {o : Oper} {a : Act} {w : World} (ho : ops[i]? = some o) (hw : Region.wanted o (yielded ops a.tmps) = true) (f : FuncId) (args : Array Value)
    (hr : (execOp a.eval o).run P w = .ok (.enter f args) w) (hc : Calls P f args w fun e w' => e = .returned (val i) ∧ Wd w') : Does P ops Q Wd val i a w := by
  unfold Does wpOp
  simp only [ho]
  rw [if_pos hw]
  left
  unfold Oper.wp
  rw [hr, Oper.upon_enter]
  refine hc.mono ?_
  rintro e w' ⟨rfl, hW⟩
  refine ⟨?_, hW⟩
  simp [dstOf, ho]
theorem wanted_none {o : Oper} {y : Nat → Option Bool} (h : o.guard = none) : Region.wanted o y = true := by simp [Region.wanted, h]
theorem wanted_at {o : Oper} {ops : Array Oper} {a : Act} {j s : Nat} {b want : Bool} (h : o.guard = some (j, want)) (hd : dstOf ops j = some s) (hs : a.tmps[s]? = some (.bool b)) : Region.wanted o (yielded ops a.tmps) = (b == want) := by
  unfold dstOf at hd
  simp only [Region.wanted, h, yielded, hd, Option.bind_some, hs]
  cases b <;> cases want <;> rfl
theorem wanted_undef {o : Oper} {ops : Array Oper} {a : Act} {j s : Nat} {want : Bool} (h : o.guard = some (j, want)) (hd : dstOf ops j = some s) (hs : a.tmps[s]? = some undef) : Region.wanted o (yielded ops a.tmps) = false := by
  unfold dstOf at hd
  simp only [Region.wanted, h, yielded, hd, Option.bind_some, hs]
  rfl
def acB (ops : Array Oper) : Bool := (List.range ops.size).all fun i => match ops[i]? with | some o => o.after.toList.all (fun e => !(Region.binds .any e) || decide (e.on < i)) | none => true
theorem hac_of (h : acB ops = true) : ∀ i o, ops[i]? = some o → ∀ e ∈ o.after, Region.binds .any e = true → e.on < i := by
  intro i o ho e he hb
  have hi : i < ops.size := (Array.getElem?_eq_some_iff.1 ho).1
  have h1 := List.all_eq_true.1 h i (List.mem_range.2 hi)
  simp only [ho] at h1
  have h2 := List.all_eq_true.1 h1 e (by simpa using he)
  simpa [hb] using h2
def disB (ops : Array Oper) : Bool := (List.range ops.size).all fun i => (List.range ops.size).all fun j => i == j || (dstOf ops j).isNone || !(dstOf ops j == dstOf ops i)
theorem hdis_of (h : disB ops = true) : ∀ i j, j ≠ i → dstOf ops j ≠ dstOf ops i ∨ dstOf ops j = none := by
  intro i j hne
  by_cases hj : j < ops.size
  · by_cases hi : i < ops.size
    · have h1 := List.all_eq_true.1 (List.all_eq_true.1 h i (List.mem_range.2 hi)) j (List.mem_range.2 hj)
      simp only [Bool.or_eq_true, beq_iff_eq, Option.isNone_iff_eq_none, Bool.not_eq_true', beq_eq_false_iff_ne, ne_eq] at h1
      rcases h1 with (h1 | h1) | h1
      · exact absurd h1.symm hne
      · exact .inr h1
      · exact .inl h1
    · have e : dstOf ops i = none := by simp [dstOf, Array.getElem?_eq_none (Nat.le_of_not_lt hi)]
      rw [e]
      cases q : dstOf ops j with
      | none => exact .inr rfl
      | some x => exact .inl (by simp)
  · right
    simp [dstOf, Array.getElem?_eq_none (Nat.le_of_not_lt hj)]
/-- What an operation that came up has laid. -/
theorem frm_at (hdis : ∀ i j, j ≠ i → dstOf ops j ≠ dstOf ops i ∨ dstOf ops j = none) {a a0 : Act} {val : Nat → Value} {L : Nat → Bool} (ha : a = frm ops a0 val L ops.size) (i s : Nat) (hi : dstOf ops i = some s) (hs : s < a0.tmps.size) (hL : L i = true) : a.tmps[s]? = some (val i) := by
  rw [ha]
  have hlt : i < ops.size := by
    rcases Nat.lt_or_ge i ops.size with h | h
    · exact h
    · simp [dstOf, Array.getElem?_eq_none h] at hi
  refine frm_in a0 val L i s hi hs hL (fun j hj => ?_) _ hlt
  rcases hdis i j hj with q | q
  · rw [← hi]; exact q
  · rw [q]; simp
theorem frm_old {a a0 : Act} {val : Nat → Value} {L : Nat → Bool} (ha : a = frm ops a0 val L ops.size) (s : Nat) (v : Value) (h : (List.range ops.size).all (fun j => !(dstOf ops j == some s)) = true) (h0 : a0.tmps[s]? = some v) : a.tmps[s]? = some v := by
  rw [ha, frm_out a0 val L s ops.size, h0]
  intro j hj q
  have := List.all_eq_true.1 h j (List.mem_range.2 hj)
  rw [q] at this
  simp at this
end Go.Proofs.YtbeionikiiccpaaDoor
