import Derived.Test.YthddilflldkmfaaDoorDetz
import Derived.Test.YthddilflldkmfaaDoorBase
import Derived.Conc.MuLone
namespace Go.Proofs.YthddilflldkmfaaDoor
open Go.RowKit Go.Lib
/-- The operations of a test that reads a text of a list and says another anew. -/
def tabL (S E T XS : Nat) (f : FuncId) : List (Op × Option Tmp × Option (Nat × Bool)) := [
  (.move (.tmp E), some (S + 0), none),
  (.binOp .eql 39 (.tmp S) (.const (.int .i64 0)) 39, some (S + 1), none),
  (.move (.tmp (S + 1)), some (S + 2), none),
  (.move (.tmp T), some (S + 3), some (2, true)),
  (.call { callee := .value (.func f), args := #[.tmp (S + 3)], argTypes := #[9] }, some (S + 4), some (2, true)),
  (.move (.tmp XS), some (S + 5), some (2, true)),
  (.move (.tmp 22), some (S + 6), some (2, true)),
  (.indexAddr 66 (.tmp (S + 5)) (.tmp (S + 6)), some (S + 7), some (2, true)),
  (.load 9 (.tmp (S + 7)), some (S + 8), some (2, true)),
  (.binOp .neq 9 (.tmp (S + 4)) (.tmp (S + 8)) 9, some (S + 9), some (2, true)),
  (.pick (.tmp (S + 2)) (.tmp (S + 9)) (.const (.bool false)), some (S + 10), none),
  (.move (.tmp (S + 10)), some (S + 11), none),
  (.move (.tmp E), some (S + 12), some (11, false)),
  (.binOp .neq 39 (.tmp (S + 12)) (.const (.int .i64 0)) 39, some (S + 13), some (11, false)),
  (.move (.tmp (S + 13)), some (S + 14), some (11, false)),
  (.move (.tmp E), some (S + 15), some (14, true)),
  (.binOp .neq 39 (.tmp (S + 15)) (.const (.int .i64 24)) 39, some (S + 16), some (14, true)),
  (.move (.tmp (S + 16)), some (S + 17), some (14, true)),
  (.move (.tmp T), some (S + 18), some (17, false)),
  (.binOp .neq 9 (.tmp (S + 18)) (.const (.string ⟨#[]⟩)) 9, some (S + 19), some (17, false)),
  (.pick (.tmp (S + 17)) (.const (.bool true)) (.tmp (S + 19)), some (S + 20), some (14, true)),
  (.pick (.tmp (S + 14)) (.tmp (S + 20)) (.const (.bool false)), some (S + 21), some (11, false)),
  (.pick (.tmp (S + 11)) (.const (.bool true)) (.tmp (S + 21)), some (S + 22), none)]
def valL (k g : Nat) (m t : List UInt8) : Nat → Value
  | 0 => (.int .i64 0)
  | 1 => (.bool true)
  | 2 => (.bool true)
  | 3 => (.string ⟨m.toArray⟩)
  | 4 => (.string ⟨t.toArray⟩)
  | 5 => (.slice (some ⟨g, 0, none⟩) 5 5)
  | 6 => (.int .i64 k)
  | 7 => (.pointer (some ⟨g, k, none⟩))
  | 8 => (.string ⟨t.toArray⟩)
  | 9 => (.bool false)
  | 10 => (.bool false)
  | 11 => (.bool false)
  | 12 => (.int .i64 0)
  | 13 => (.bool false)
  | 14 => (.bool false)
  | 15 => undef
  | 16 => undef
  | 17 => undef
  | 18 => undef
  | 19 => undef
  | 20 => undef
  | 21 => (.bool false)
  | 22 => (.bool false)
  | _ => undef
def depL : List (Nat × Nat) := [(1, 0), (2, 1), (3, 2), (4, 2), (4, 3), (5, 2), (6, 2), (7, 2), (7, 5), (7, 6), (8, 2), (8, 7), (9, 2), (9, 4), (9, 8), (10, 2), (10, 9), (11, 10), (12, 11), (13, 11), (13, 12), (14, 11), (14, 13), (15, 14), (16, 14), (17, 14), (18, 17), (19, 17), (20, 14), (21, 11), (21, 14), (22, 11), (22, 21)]
def depB (ops : Array Oper) : Bool := depL.all fun x => match ops[x.1]? with | some o => o.after.toList.any (fun e => Region.binds .any e && e.on == x.2) | none => false
theorem dep_of {ops : Array Oper} (h : depB ops = true) (i j : Nat) (hm : (i, j) ∈ depL) {o : Oper} (ho : ops[i]? = some o) {L : Nat → Bool} (hd : ∀ e ∈ o.after, Region.binds .any e = true → L e.on = true) : L j = true := by
  have h1 := List.all_eq_true.1 h (i, j) hm
  simp only [ho] at h1
  obtain ⟨e, he, q⟩ := List.any_eq_true.1 h1
  rw [Bool.and_eq_true] at q
  have := hd e (by simpa using he) q.1
  rw [beq_iff_eq.1 q.2] at this
  exact this
theorem tab_at {ops : Array Oper} {l : List (Op × Option Tmp × Option (Nat × Bool))} (h : ops.toList.map (fun o => (o.op, o.dst, o.guard)) = l) {i : Nat} {o : Oper} (ho : ops[i]? = some o) {x : Op × Option Tmp × Option (Nat × Bool)} (hx : l[i]? = some x) : o.op = x.1 ∧ o.dst = x.2.1 ∧ o.guard = x.2.2 := by
  rw [← h, List.getElem?_map] at hx
  have : ops.toList[i]? = some o := by simpa using ho
  rw [this] at hx
  have := Option.some.inj hx
  rw [← this]
  exact ⟨rfl, rfl, rfl⟩
theorem tab_dst {ops : Array Oper} {l : List (Op × Option Tmp × Option (Nat × Bool))} (h : ops.toList.map (fun o => (o.op, o.dst, o.guard)) = l) (i : Nat) : dstOf ops i = (l[i]?).bind (·.2.1) := by
  rw [← h, List.getElem?_map]
  unfold dstOf
  have : ops.toList[i]? = ops[i]? := by simp
  rw [this]
  cases ops[i]? <;> rfl
theorem tabL_dst (S E T XS : Nat) (f : FuncId) (i : Nat) (hi : i < 23) : ((tabL S E T XS f)[i]?).bind (·.2.1) = some (S + i) := by
  match i, hi with
  | 0, _ => rfl
  | 1, _ => rfl
  | 2, _ => rfl
  | 3, _ => rfl
  | 4, _ => rfl
  | 5, _ => rfl
  | 6, _ => rfl
  | 7, _ => rfl
  | 8, _ => rfl
  | 9, _ => rfl
  | 10, _ => rfl
  | 11, _ => rfl
  | 12, _ => rfl
  | 13, _ => rfl
  | 14, _ => rfl
  | 15, _ => rfl
  | 16, _ => rfl
  | 17, _ => rfl
  | 18, _ => rfl
  | 19, _ => rfl
  | 20, _ => rfl
  | 21, _ => rfl
  | 22, _ => rfl
  | (i + 23), h => exact absurd h (by omega)
theorem tabL_no (S E T XS : Nat) (f : FuncId) (i : Nat) (hi : 23 ≤ i) : ((tabL S E T XS f)[i]?).bind (·.2.1) = none := by
  rw [List.getElem?_eq_none (by simpa [tabL] using hi)]
  rfl
theorem run_pick (ρ : Operand → Value) (o : Oper) (c x y : Operand) (ho : o.op = .pick c x y) (b : Bool) (hc : ρ c = .bool b) (P : Program) (w : World) : (execOp ρ o).run P w = .ok (.value (if b then ρ x else ρ y)) w := by
  unfold execOp
  simp only [ho, hc]
  cases b <;> rfl
theorem run_move (ρ : Operand → Value) (o : Oper) (x : Operand) (ho : o.op = .move x) (P : Program) (w : World) : (execOp ρ o).run P w = .ok (.value (ρ x)) w := by
  unfold execOp
  simp only [ho]
  rfl
theorem run_int (ρ : Operand → Value) (o : Oper) (op : BinOp) (t u : TypeId) (x y : Operand) (ho : o.op = .binOp op t x y u) (a b : Int) (ha : ρ x = .int .i64 a) (hb : ρ y = .int .i64 b) (r : Bool) (h : (op = .eql ∧ r = (a == b)) ∨ (op = .neq ∧ r = (a != b))) (P : Program) (w : World) : (execOp ρ o).run P w = .ok (.value (.bool r)) w := by
  unfold execOp
  simp only [ho, ha, hb]
  rcases h with ⟨rfl, rfl⟩ | ⟨rfl, rfl⟩ <;> simp [eqGuard, go_sem]
theorem run_strne (ρ : Operand → Value) (o : Oper) (t u : TypeId) (x y : Operand) (ho : o.op = .binOp .neq t x y u) (a : List UInt8) (ha : ρ x = .string ⟨a.toArray⟩) (hb : ρ y = .string ⟨a.toArray⟩) (P : Program) (w : World) : (execOp ρ o).run P w = .ok (.value (.bool false)) w := by
  unfold execOp
  simp only [ho, ha, hb]
  simp [eqGuard, go_sem]
theorem run_idx (ρ : Operand → Value) (o : Oper) (x y : Operand) (ho : o.op = .indexAddr 66 x y) (g k : Nat) (hk : k < 5) (ha : ρ x = .slice (some ⟨g, 0, none⟩) 5 5) (hb : ρ y = .int .i64 (k : Int)) (w : World) : (execOp ρ o).run Tryd.prog w = .ok (.value (.pointer (some ⟨g, k, none⟩))) w := by
  unfold execOp
  simp only [ho, ha, hb]
  have h1 : (0 : Int) ≤ (k : Int) := by omega
  simp [Instr.indexAt, go_sem, h1]
  intro h
  omega
theorem run_ld (ρ : Operand → Value) (o : Oper) (x : Operand) (ho : o.op = .load 9 x) (p : Addr) (v : ByteArray) (ha : ρ x = .pointer (some p)) (w : World) (hc : w.cell? p = some (.string v)) : (execOp ρ o).run Tryd.prog w = .ok (.value (.string v)) w := by
  unfold execOp
  simp only [ho, ha]
  simp [Instr.loadAt, go_sem, hc, Tryd.isAgg9]
theorem run_call1 {f : FuncId} {fn : Func} {c : Code} (hf : Tryd.prog.funcs[f]? = some fn) (hname : (fn.name == "runtime.NumGoroutine") = false) (hb : fn.body = some c) (ρ : Operand → Value) (o : Oper) (x : Operand) (ty : TypeId) (ho : o.op = .call { callee := .value (.func f), args := #[x], argTypes := #[ty] }) (hfn : ρ (.func f) = .func (.func f) #[] #[]) (w : World) : (execOp ρ o).run Tryd.prog w = .ok (.enter f #[ρ x]) w := by
  unfold execOp
  simp only [ho, resolve, hfn]
  have := Go.MuLone.run_callFunc_enter (P := Tryd.prog) hf hname hb #[ρ x] w
  simp [Deferred.ofValue, invoke, this]
def valsL (k g : Nat) (m t : List UInt8) : List Value := [(.int .i64 0), (.bool true), (.bool true), (.string ⟨m.toArray⟩), (.string ⟨t.toArray⟩), (.slice (some ⟨g, 0, none⟩) 5 5), (.int .i64 k), (.pointer (some ⟨g, k, none⟩)), (.string ⟨t.toArray⟩), (.bool false), (.bool false), (.bool false), (.int .i64 0), (.bool false), (.bool false), undef, undef, undef, undef, undef, undef, (.bool false), (.bool false)]
theorem valsL_at (k g : Nat) (m t : List UInt8) (i : Nat) (hi : i < 23) : (valsL k g m t)[i]? = some (valL k g m t i) := by
  match i, hi with
  | 0, _ => rfl
  | 1, _ => rfl
  | 2, _ => rfl
  | 3, _ => rfl
  | 4, _ => rfl
  | 5, _ => rfl
  | 6, _ => rfl
  | 7, _ => rfl
  | 8, _ => rfl
  | 9, _ => rfl
  | 10, _ => rfl
  | 11, _ => rfl
  | 12, _ => rfl
  | 13, _ => rfl
  | 14, _ => rfl
  | 15, _ => rfl
  | 16, _ => rfl
  | 17, _ => rfl
  | 18, _ => rfl
  | 19, _ => rfl
  | 20, _ => rfl
  | 21, _ => rfl
  | 22, _ => rfl
  | (i + 23), h => exact absurd h (by omega)
theorem frm_defers {ops : Array Oper} (a0 : Act) (val : Nat → Value) (L : Nat → Bool) : ∀ n, (frm ops a0 val L n).defers = a0.defers := by
  intro n
  induction n with
  | zero => rfl
  | succ n ih =>
    simp only [frm]
    split
    · rw [← ih]
      cases dstOf ops n <;> rfl
    · exact ih
theorem frm_fin {ops : Array Oper} (S : Nat) (a0 : Act) (val : Nat → Value) (vs : List Value) (hvs : vs.length = 23) (hds : ∀ i, i < 23 → dstOf ops i = some (S + i)) (_hdn : ∀ i, 23 ≤ i → dstOf ops i = none)
    (hdis : ∀ i j, j ≠ i → dstOf ops j ≠ dstOf ops i ∨ dstOf ops j = none) (hosz : ops.size = 23) (hsz : S + 23 ≤ a0.tmps.size) (hv : ∀ i, i < 23 → vs[i]? = some (val i)) :
    frm ops a0 val (fun _ => true) 23 = ⟨(a0.tmps.toList.take S ++ vs ++ a0.tmps.toList.drop (S + 23)).toArray, a0.defers⟩ := by
  have hd := frm_defers (ops := ops) a0 val (fun _ => true) 23
  have ht : (frm ops a0 val (fun _ => true) 23).tmps = (a0.tmps.toList.take S ++ vs ++ a0.tmps.toList.drop (S + 23)).toArray := by
    apply Array.ext_getElem?
    intro s
    have er : (a0.tmps.toList.take S ++ vs ++ a0.tmps.toList.drop (S + 23)).toArray[s]? = (a0.tmps.toList.take S ++ vs ++ a0.tmps.toList.drop (S + 23))[s]? := by simp
    rw [er]
    by_cases h1 : s < S
    · rw [frm_out a0 val _ s 23 (fun j hj => by rw [hds j hj]; simp; omega)]
      rw [List.append_assoc, List.getElem?_append_left (by rw [List.length_take, Array.length_toList]; omega), List.getElem?_take_of_lt h1]
      simp
    · by_cases h2 : s < S + 23
      · have := frm_at (ops := ops) (a0 := a0) (val := val) (L := fun _ => true) hdis (a := frm ops a0 val (fun _ => true) 23) (by rw [hosz]) (s - S) s (by rw [hds _ (by omega)]; congr 1; omega) (by omega) rfl
        rw [this, List.append_assoc, List.getElem?_append_right (by rw [List.length_take, Array.length_toList]; omega), List.getElem?_append_left (by rw [List.length_take, Array.length_toList]; omega)]
        rw [List.length_take, Array.length_toList, show min S a0.tmps.size = S by omega]
        exact (hv (s - S) (by omega)).symm
      · rw [frm_out a0 val _ s 23 (fun j hj => by rw [hds j hj]; simp; omega)]
        rw [List.getElem?_append_right (by rw [List.length_append, List.length_take, Array.length_toList]; omega)]
        rw [List.length_append, List.length_take, Array.length_toList, List.getElem?_drop, show S + 23 + (s - (min S a0.tmps.size + vs.length)) = s by omega]
        simp
  cases hfr : frm ops a0 val (fun _ => true) 23 with
  | mk tm de =>
    rw [hfr] at hd ht
    simp only at hd ht
    rw [hd, ht]
/-- A frame, written out. -/
theorem norm_frame {Q : Exit → Act → World → Prop} {a : Act} {w : World} {l : List Value} (h : a.tmps.toList = l) (hd : a.defers = []) (hQ : Q .normal ⟨l.toArray, []⟩ w) : Q .normal a w := by
  obtain ⟨tm, de⟩ := a
  simp only at h hd
  subst hd
  have : tm = l.toArray := by rw [← h]
  rw [this]
  exact hQ
set_option maxHeartbeats 2000000 in
theorem region_check {ops : Array Oper} {id : Nat} {Q : Exit → Act → World → Prop} (S E T XS : Nat) (f : FuncId) (fn : Func) (c : Code) (hE : E < S) (hT : T < S) (hXS : XS < S) (h22 : 22 < S)
    (htab : ops.toList.map (fun o => (o.op, o.dst, o.guard)) = tabL S E T XS f) (hdep : depB ops = true) (hac : acB ops = true)
    (hf : Tryd.prog.funcs[f]? = some fn) (hname : (fn.name == "runtime.NumGoroutine") = false) (hbody : fn.body = some c)
    (a0 : Act) (w : World) (k g : Nat) (m t : List UInt8) (hk : k < 5) (hsz : S + 23 ≤ a0.tmps.size)
    (hE0 : a0.tmps[E]? = some (.int .i64 0)) (hT0 : a0.tmps[T]? = some (.string ⟨m.toArray⟩)) (hX0 : a0.tmps[XS]? = some (.slice (some ⟨g, 0, none⟩) 5 5)) (hI0 : a0.tmps[22]? = some (.int .i64 (k : Int)))
    (BM : ∀ W, Calls Tryd.prog f #[.string ⟨m.toArray⟩] W fun e w' => e = .returned (.string ⟨t.toArray⟩) ∧ Below W.heap.size W w')
    (hcell : ∀ W, Below w.heap.size w W → W.cell? ⟨g, k, none⟩ = some (.string ⟨t.toArray⟩))
    (hend : ∀ w', Below w.heap.size w w' → Q .normal ⟨(a0.tmps.toList.take S ++ valsL k g m t ++ a0.tmps.toList.drop (S + 23)).toArray, a0.defers⟩ w') : (Code.region id ops true).wp Tryd.prog Q a0 w := by
  have hosz : ops.size = 23 := by
    have := congrArg List.length htab
    simpa [tabL] using this
  have hds : ∀ i, i < 23 → dstOf ops i = some (S + i) := fun i hi => by rw [tab_dst htab, tabL_dst S E T XS f i hi]
  have hdn : ∀ i, 23 ≤ i → dstOf ops i = none := fun i hi => by rw [tab_dst htab, tabL_no S E T XS f i hi]
  have hdis : ∀ i j, j ≠ i → dstOf ops j ≠ dstOf ops i ∨ dstOf ops j = none := by
    intro i j hne
    by_cases hj : j < 23
    · by_cases hi : i < 23
      · left
        rw [hds i hi, hds j hj]
        simp
        omega
      · left
        rw [hdn i (by omega), hds j hj]
        simp
    · right
      exact hdn j (by omega)
  have hold : ∀ s, s < S → (List.range ops.size).all (fun j => !(dstOf ops j == some s)) = true := by
    intro s hs
    rw [List.all_eq_true]
    intro j hj
    have hj2 : j < 23 := by rw [← hosz]; exact List.mem_range.1 hj
    rw [hds j hj2]
    simp
    omega
  refine region_det (by kernel_rfl) (valL k g m t) (fun W => Below w.heap.size w W) (hac_of hac) hdis ((Below.refl _ _).drew) ?_ ?_
  rotate_left
  · intro w' hw'
    have e := frm_fin (ops := ops) S a0 (valL k g m t) (valsL k g m t) rfl hds hdn hdis hosz hsz (valsL_at k g m t)
    rw [hosz, e]
    exact hend w' hw'
  intro i o ho L a w' hd ha hW
  have hi : i < 23 := by rw [← hosz]; exact (Array.getElem?_eq_some_iff.1 ho).1
  match i, ho, hi with
  | 0, ho, _ =>
    obtain ⟨hop, hdst, hgd⟩ := tab_at htab ho (show (tabL S E T XS f)[0]? = _ from rfl)
    simp only at hop hgd
    have hs := frm_old ha E _ (hold E (by omega)) hE0
    exact does_run ho (wanted_none hgd) hW (by rw [run_move _ _ _ hop, eval_of hs]; rfl)
  | 1, ho, _ =>
    obtain ⟨hop, hdst, hgd⟩ := tab_at htab ho (show (tabL S E T XS f)[1]? = _ from rfl)
    simp only at hop hgd
    have h1 := frm_at hdis ha 0 (S + 0) (hds 0 (by omega)) (by omega) (dep_of hdep 1 0 (by decide) ho hd)
    exact does_run ho (wanted_none hgd) hW (run_int _ _ _ _ _ _ _ hop 0 0 (eval_of h1) rfl _ (.inl ⟨rfl, rfl⟩) _ _)
  | 2, ho, _ =>
    obtain ⟨hop, hdst, hgd⟩ := tab_at htab ho (show (tabL S E T XS f)[2]? = _ from rfl)
    simp only at hop hgd
    have hs := frm_at hdis ha 1 (S + 1) (hds 1 (by omega)) (by omega) (dep_of hdep 2 1 (by decide) ho hd)
    exact does_run ho (wanted_none hgd) hW (by rw [run_move _ _ _ hop, eval_of hs]; rfl)
  | 3, ho, _ =>
    obtain ⟨hop, hdst, hgd⟩ := tab_at htab ho (show (tabL S E T XS f)[3]? = _ from rfl)
    simp only at hop hgd
    have hg := frm_at hdis ha 2 (S + 2) (hds 2 (by omega)) (by omega) (dep_of hdep 3 2 (by decide) ho hd)
    have hs := frm_old ha T _ (hold T (by omega)) hT0
    exact does_run ho (wanted_at (b := true) hgd (hds 2 (by omega)) hg) hW (by rw [run_move _ _ _ hop, eval_of hs]; rfl)
  | 4, ho, _ =>
    obtain ⟨hop, hdst, hgd⟩ := tab_at htab ho (show (tabL S E T XS f)[4]? = _ from rfl)
    simp only at hop hgd
    have hg := frm_at hdis ha 2 (S + 2) (hds 2 (by omega)) (by omega) (dep_of hdep 4 2 (by decide) ho hd)
    have h1 := frm_at hdis ha 3 (S + 3) (hds 3 (by omega)) (by omega) (dep_of hdep 4 3 (by decide) ho hd)
    refine does_call ho (wanted_at (b := true) hgd (hds 2 (by omega)) hg) f #[.string ⟨m.toArray⟩] (by rw [run_call1 hf hname hbody _ _ _ _ hop rfl, eval_of h1]; rfl) ?_
    exact (BM w').mono (fun e w2 ⟨e1, e2⟩ => ⟨e1, hW.trans (e2.mono hW.size)⟩)
  | 5, ho, _ =>
    obtain ⟨hop, hdst, hgd⟩ := tab_at htab ho (show (tabL S E T XS f)[5]? = _ from rfl)
    simp only at hop hgd
    have hg := frm_at hdis ha 2 (S + 2) (hds 2 (by omega)) (by omega) (dep_of hdep 5 2 (by decide) ho hd)
    have hs := frm_old ha XS _ (hold XS (by omega)) hX0
    exact does_run ho (wanted_at (b := true) hgd (hds 2 (by omega)) hg) hW (by rw [run_move _ _ _ hop, eval_of hs]; rfl)
  | 6, ho, _ =>
    obtain ⟨hop, hdst, hgd⟩ := tab_at htab ho (show (tabL S E T XS f)[6]? = _ from rfl)
    simp only at hop hgd
    have hg := frm_at hdis ha 2 (S + 2) (hds 2 (by omega)) (by omega) (dep_of hdep 6 2 (by decide) ho hd)
    have hs := frm_old ha 22 _ (hold 22 (by omega)) hI0
    exact does_run ho (wanted_at (b := true) hgd (hds 2 (by omega)) hg) hW (by rw [run_move _ _ _ hop, eval_of hs]; rfl)
  | 7, ho, _ =>
    obtain ⟨hop, hdst, hgd⟩ := tab_at htab ho (show (tabL S E T XS f)[7]? = _ from rfl)
    simp only at hop hgd
    have hg := frm_at hdis ha 2 (S + 2) (hds 2 (by omega)) (by omega) (dep_of hdep 7 2 (by decide) ho hd)
    have h1 := frm_at hdis ha 5 (S + 5) (hds 5 (by omega)) (by omega) (dep_of hdep 7 5 (by decide) ho hd)
    have h2 := frm_at hdis ha 6 (S + 6) (hds 6 (by omega)) (by omega) (dep_of hdep 7 6 (by decide) ho hd)
    exact does_run ho (wanted_at (b := true) hgd (hds 2 (by omega)) hg) hW (run_idx _ _ _ _ hop g k hk (eval_of h1) (eval_of h2) _)
  | 8, ho, _ =>
    obtain ⟨hop, hdst, hgd⟩ := tab_at htab ho (show (tabL S E T XS f)[8]? = _ from rfl)
    simp only at hop hgd
    have hg := frm_at hdis ha 2 (S + 2) (hds 2 (by omega)) (by omega) (dep_of hdep 8 2 (by decide) ho hd)
    have h1 := frm_at hdis ha 7 (S + 7) (hds 7 (by omega)) (by omega) (dep_of hdep 8 7 (by decide) ho hd)
    exact does_run ho (wanted_at (b := true) hgd (hds 2 (by omega)) hg) hW (run_ld _ _ _ hop ⟨g, k, none⟩ _ (eval_of h1) _ (hcell _ hW))
  | 9, ho, _ =>
    obtain ⟨hop, hdst, hgd⟩ := tab_at htab ho (show (tabL S E T XS f)[9]? = _ from rfl)
    simp only at hop hgd
    have hg := frm_at hdis ha 2 (S + 2) (hds 2 (by omega)) (by omega) (dep_of hdep 9 2 (by decide) ho hd)
    have h1 := frm_at hdis ha 4 (S + 4) (hds 4 (by omega)) (by omega) (dep_of hdep 9 4 (by decide) ho hd)
    have h2 := frm_at hdis ha 8 (S + 8) (hds 8 (by omega)) (by omega) (dep_of hdep 9 8 (by decide) ho hd)
    exact does_run ho (wanted_at (b := true) hgd (hds 2 (by omega)) hg) hW (run_strne _ _ _ _ _ _ hop t (eval_of h1) (eval_of h2) _ _)
  | 10, ho, _ =>
    obtain ⟨hop, hdst, hgd⟩ := tab_at htab ho (show (tabL S E T XS f)[10]? = _ from rfl)
    simp only at hop hgd
    have h1 := frm_at hdis ha 2 (S + 2) (hds 2 (by omega)) (by omega) (dep_of hdep 10 2 (by decide) ho hd)
    have h2 := frm_at hdis ha 9 (S + 9) (hds 9 (by omega)) (by omega) (dep_of hdep 10 9 (by decide) ho hd)
    exact does_run ho (wanted_none hgd) hW (by rw [run_pick _ _ _ _ _ hop true (eval_of h1), if_pos rfl, eval_of h2]; rfl)
  | 11, ho, _ =>
    obtain ⟨hop, hdst, hgd⟩ := tab_at htab ho (show (tabL S E T XS f)[11]? = _ from rfl)
    simp only at hop hgd
    have hs := frm_at hdis ha 10 (S + 10) (hds 10 (by omega)) (by omega) (dep_of hdep 11 10 (by decide) ho hd)
    exact does_run ho (wanted_none hgd) hW (by rw [run_move _ _ _ hop, eval_of hs]; rfl)
  | 12, ho, _ =>
    obtain ⟨hop, hdst, hgd⟩ := tab_at htab ho (show (tabL S E T XS f)[12]? = _ from rfl)
    simp only at hop hgd
    have hg := frm_at hdis ha 11 (S + 11) (hds 11 (by omega)) (by omega) (dep_of hdep 12 11 (by decide) ho hd)
    have hs := frm_old ha E _ (hold E (by omega)) hE0
    exact does_run ho (wanted_at (b := false) hgd (hds 11 (by omega)) hg) hW (by rw [run_move _ _ _ hop, eval_of hs]; rfl)
  | 13, ho, _ =>
    obtain ⟨hop, hdst, hgd⟩ := tab_at htab ho (show (tabL S E T XS f)[13]? = _ from rfl)
    simp only at hop hgd
    have hg := frm_at hdis ha 11 (S + 11) (hds 11 (by omega)) (by omega) (dep_of hdep 13 11 (by decide) ho hd)
    have h1 := frm_at hdis ha 12 (S + 12) (hds 12 (by omega)) (by omega) (dep_of hdep 13 12 (by decide) ho hd)
    exact does_run ho (wanted_at (b := false) hgd (hds 11 (by omega)) hg) hW (run_int _ _ _ _ _ _ _ hop 0 0 (eval_of h1) rfl _ (.inr ⟨rfl, rfl⟩) _ _)
  | 14, ho, _ =>
    obtain ⟨hop, hdst, hgd⟩ := tab_at htab ho (show (tabL S E T XS f)[14]? = _ from rfl)
    simp only at hop hgd
    have hg := frm_at hdis ha 11 (S + 11) (hds 11 (by omega)) (by omega) (dep_of hdep 14 11 (by decide) ho hd)
    have hs := frm_at hdis ha 13 (S + 13) (hds 13 (by omega)) (by omega) (dep_of hdep 14 13 (by decide) ho hd)
    exact does_run ho (wanted_at (b := false) hgd (hds 11 (by omega)) hg) hW (by rw [run_move _ _ _ hop, eval_of hs]; rfl)
  | 15, ho, _ =>
    obtain ⟨hop, hdst, hgd⟩ := tab_at htab ho (show (tabL S E T XS f)[15]? = _ from rfl)
    simp only at hop hgd
    have hg := frm_at hdis ha 14 (S + 14) (hds 14 (by omega)) (by omega) (dep_of hdep 15 14 (by decide) ho hd)
    exact does_skip ho (wanted_at (b := false) hgd (hds 14 (by omega)) hg) hW rfl
  | 16, ho, _ =>
    obtain ⟨hop, hdst, hgd⟩ := tab_at htab ho (show (tabL S E T XS f)[16]? = _ from rfl)
    simp only at hop hgd
    have hg := frm_at hdis ha 14 (S + 14) (hds 14 (by omega)) (by omega) (dep_of hdep 16 14 (by decide) ho hd)
    exact does_skip ho (wanted_at (b := false) hgd (hds 14 (by omega)) hg) hW rfl
  | 17, ho, _ =>
    obtain ⟨hop, hdst, hgd⟩ := tab_at htab ho (show (tabL S E T XS f)[17]? = _ from rfl)
    simp only at hop hgd
    have hg := frm_at hdis ha 14 (S + 14) (hds 14 (by omega)) (by omega) (dep_of hdep 17 14 (by decide) ho hd)
    exact does_skip ho (wanted_at (b := false) hgd (hds 14 (by omega)) hg) hW rfl
  | 18, ho, _ =>
    obtain ⟨hop, hdst, hgd⟩ := tab_at htab ho (show (tabL S E T XS f)[18]? = _ from rfl)
    simp only at hop hgd
    have hg := frm_at hdis ha 17 (S + 17) (hds 17 (by omega)) (by omega) (dep_of hdep 18 17 (by decide) ho hd)
    exact does_skip ho (wanted_undef hgd (hds 17 (by omega)) hg) hW rfl
  | 19, ho, _ =>
    obtain ⟨hop, hdst, hgd⟩ := tab_at htab ho (show (tabL S E T XS f)[19]? = _ from rfl)
    simp only at hop hgd
    have hg := frm_at hdis ha 17 (S + 17) (hds 17 (by omega)) (by omega) (dep_of hdep 19 17 (by decide) ho hd)
    exact does_skip ho (wanted_undef hgd (hds 17 (by omega)) hg) hW rfl
  | 20, ho, _ =>
    obtain ⟨hop, hdst, hgd⟩ := tab_at htab ho (show (tabL S E T XS f)[20]? = _ from rfl)
    simp only at hop hgd
    have hg := frm_at hdis ha 14 (S + 14) (hds 14 (by omega)) (by omega) (dep_of hdep 20 14 (by decide) ho hd)
    exact does_skip ho (wanted_at (b := false) hgd (hds 14 (by omega)) hg) hW rfl
  | 21, ho, _ =>
    obtain ⟨hop, hdst, hgd⟩ := tab_at htab ho (show (tabL S E T XS f)[21]? = _ from rfl)
    simp only at hop hgd
    have hg := frm_at hdis ha 11 (S + 11) (hds 11 (by omega)) (by omega) (dep_of hdep 21 11 (by decide) ho hd)
    have h1 := frm_at hdis ha 14 (S + 14) (hds 14 (by omega)) (by omega) (dep_of hdep 21 14 (by decide) ho hd)
    exact does_run ho (wanted_at (b := false) hgd (hds 11 (by omega)) hg) hW (by rw [run_pick _ _ _ _ _ hop false (eval_of h1)]; rfl)
  | 22, ho, _ =>
    obtain ⟨hop, hdst, hgd⟩ := tab_at htab ho (show (tabL S E T XS f)[22]? = _ from rfl)
    simp only at hop hgd
    have h1 := frm_at hdis ha 11 (S + 11) (hds 11 (by omega)) (by omega) (dep_of hdep 22 11 (by decide) ho hd)
    have h2 := frm_at hdis ha 21 (S + 21) (hds 21 (by omega)) (by omega) (dep_of hdep 22 21 (by decide) ho hd)
    exact does_run ho (wanted_none hgd) hW (by rw [run_pick _ _ _ _ _ hop false (eval_of h1), if_neg (by decide), eval_of h2]; rfl)
  | (i + 23), ho, hi => exact absurd hi (by omega)
end Go.Proofs.YthddilflldkmfaaDoor
