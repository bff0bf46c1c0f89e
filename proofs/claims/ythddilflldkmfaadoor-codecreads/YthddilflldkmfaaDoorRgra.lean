import Derived.Test.YthddilflldkmfaaDoorItmc
namespace Go.Proofs.YthddilflldkmfaaDoor
open Go.RowKit Go.Lib
def rgr0T : List (Op × Option Tmp × Option (Nat × Bool)) := [
  (.move (.tmp 1), some 10, none),
  (.load 57 (.tmp 2), some 11, none),
  (.call { callee := .value (.func 71), args := #[(.tmp 11)], argTypes := #[57] }, some 12, none),
  (.call { callee := .value (.func 25), args := #[(.tmp 10), (.tmp 12)], argTypes := #[43, 3] }, some 13, none),
  (.load 57 (.tmp 2), some 14, none),
  (.call { callee := .value (.func 72), args := #[(.tmp 14)], argTypes := #[57] }, some 15, none),
  (.binOp .eql 3 (.tmp 13) (.tmp 15) 3, some 16, none),
  (.assign (.tmp 16), some 4, none)]
def rgr0D : List (Nat × Nat) := [(2, 1), (3, 0), (3, 2), (5, 4), (6, 3), (6, 5), (7, 6)]
set_option maxHeartbeats 2000000 in
theorem rgr0 {ops : Array Oper} {id : Nat} {Q : Exit → Act → World → Prop} (x : Raw) (b g : Nat) (V : Int) (htab : ops.toList.map (fun o => (o.op, o.dst, o.guard)) = rgr0T) (hdep : deplB rgr0D ops = true) (hac : acB ops = true)
    (a0 : Act) (w : World) (hsz : 17 ≤ a0.tmps.size) (o1 : a0.tmps[1]? = some (.pointer (some ⟨b, 0, none⟩))) (o2 : a0.tmps[2]? = some (.pointer (some ⟨g, 0, none⟩)))
    (Wd : (Nat → Bool) → World → Prop) (h0 : Wd (fun _ => false) w.drew) (hpure : ∀ i, i ∉ ([2, 3, 5] : List Nat) → ∀ L W, Wd L W → Wd (upd L i) W)
    (l1 : ∀ L W, Wd L W → Box g x W) (c2 : ∀ L W, Wd L W → L 2 = false → Calls Tryd.prog 71 #[(.agg #[.int .i64 x.k, .int .i64 x.s, .int .i64 x.n, .int .i64 x.m, .string ⟨x.t.toArray⟩])] W fun e w' => e = .returned (.int .i64 (x.size : Int)) ∧ Wd (upd L 2) w')
    (c3 : ∀ L W, Wd L W → L 3 = false → Calls Tryd.prog 25 #[(.pointer (some ⟨b, 0, none⟩)), .int .i64 (x.size : Int)] W fun e w' => e = .returned (.int .i64 V) ∧ Wd (upd L 3) w')
    (l4 : ∀ L W, Wd L W → Box g x W) (c5 : ∀ L W, Wd L W → L 5 = false → Calls Tryd.prog 72 #[(.agg #[.int .i64 x.k, .int .i64 x.s, .int .i64 x.n, .int .i64 x.m, .string ⟨x.t.toArray⟩])] W fun e w' => e = .returned (.int .i64 (x.num : Int)) ∧ Wd (upd L 5) w')
    (hend : ∀ L W, (∀ i, i < 8 → L i = true) → Wd L W → Q .normal ((((((((a0.put (some 10) (.pointer (some ⟨b, 0, none⟩))).put (some 11) (.agg #[.int .i64 x.k, .int .i64 x.s, .int .i64 x.n, .int .i64 x.m, .string ⟨x.t.toArray⟩])).put (some 12) (.int .i64 (x.size : Int))).put (some 13) (.int .i64 V)).put (some 14) (.agg #[.int .i64 x.k, .int .i64 x.s, .int .i64 x.n, .int .i64 x.m, .string ⟨x.t.toArray⟩])).put (some 15) (.int .i64 (x.num : Int))).put (some 16) (.bool (V == (x.num : Int)))).put (some 4) (.bool (V == (x.num : Int)))) W) : (Code.region id ops true).wp Tryd.prog Q a0 w := by
  let val : Nat → Value := fun i => match i with
    | 0 => (.pointer (some ⟨b, 0, none⟩))
    | 1 => (.agg #[.int .i64 x.k, .int .i64 x.s, .int .i64 x.n, .int .i64 x.m, .string ⟨x.t.toArray⟩])
    | 2 => (.int .i64 (x.size : Int))
    | 3 => (.int .i64 V)
    | 4 => (.agg #[.int .i64 x.k, .int .i64 x.s, .int .i64 x.n, .int .i64 x.m, .string ⟨x.t.toArray⟩])
    | 5 => (.int .i64 (x.num : Int))
    | 6 => (.bool (V == (x.num : Int)))
    | 7 => (.bool (V == (x.num : Int)))
    | _ => undef
  have hosz : ops.size = 8 := by
    have := congrArg List.length htab
    simpa [rgr0T] using this
  have hds : ∀ i s, (rgr0T[i]?).bind (·.2.1) = some s → dstOf ops i = some s := fun i s hi => by rw [tab_dst htab, hi]
  have hdisB : disL rgr0T = true := by rfl
  have hdis := disL_of htab hdisB
  have hold : ∀ s, rgr0T.all (fun x => !(x.2.1 == some s)) = true → (List.range ops.size).all (fun j => !(dstOf ops j == some s)) = true := fun s h => holdL htab s h
  refine region_detL val Wd (hac_of hac) hdis h0 ?_ ?_
  rotate_left
  · intro L W hall hW
    have := hend L W (by rw [← hosz]; exact hall) hW
    have e : frm ops a0 val (fun _ => true) ops.size = ((((((((a0.put (some 10) (.pointer (some ⟨b, 0, none⟩))).put (some 11) (.agg #[.int .i64 x.k, .int .i64 x.s, .int .i64 x.n, .int .i64 x.m, .string ⟨x.t.toArray⟩])).put (some 12) (.int .i64 (x.size : Int))).put (some 13) (.int .i64 V)).put (some 14) (.agg #[.int .i64 x.k, .int .i64 x.s, .int .i64 x.n, .int .i64 x.m, .string ⟨x.t.toArray⟩])).put (some 15) (.int .i64 (x.num : Int))).put (some 16) (.bool (V == (x.num : Int)))).put (some 4) (.bool (V == (x.num : Int)))) := by
      rw [hosz]
      simp only [frm, if_true]
      rw [tab_dst htab 0, tab_dst htab 1, tab_dst htab 2, tab_dst htab 3, tab_dst htab 4, tab_dst htab 5, tab_dst htab 6, tab_dst htab 7]
      rfl
    rw [e]
    exact this
  intro i o ho L a w' hL hd ha hW
  have hi : i < 8 := by rw [← hosz]; exact (Array.getElem?_eq_some_iff.1 ho).1
  match i, ho, hL, hi with
  | 0, ho, hL, _ =>
    obtain ⟨hop, hdst, hgd⟩ := tab_at htab ho (show rgr0T[0]? = _ from rfl)
    simp only at hop hgd
    have h0 := frm_old ha 1 _ (hold 1 rfl) o1
    exact doesL_run ho (wanted_none hgd) (hpure 0 (by decide) L w' hW) (by rw [run_move _ _ _ hop]; exact congrArg (fun v => Result.ok (Next.value v) w') (eval_of h0))
  | 1, ho, hL, _ =>
    obtain ⟨hop, hdst, hgd⟩ := tab_at htab ho (show rgr0T[1]? = _ from rfl)
    simp only at hop hgd
    have h0 := frm_old ha 2 _ (hold 2 rfl) o2
    exact doesL_run ho (wanted_none hgd) (hpure 1 (by decide) L w' hW) (run_l57 _ _ _ hop _ (eval_of h0) _ _ _ _ _ _ (l1 L w' hW).c0 (l1 L w' hW).c1 (l1 L w' hW).c2 (l1 L w' hW).c3 (l1 L w' hW).c4)
  | 2, ho, hL, _ =>
    obtain ⟨hop, hdst, hgd⟩ := tab_at htab ho (show rgr0T[2]? = _ from rfl)
    simp only at hop hgd
    have h0 := frm_at hdis ha 1 11 (hds 1 11 rfl) (by omega) (depl_of hdep 2 1 (by decide) ho hd)
    refine doesL_call ho (wanted_none hgd) 71 #[(.agg #[.int .i64 x.k, .int .i64 x.s, .int .i64 x.n, .int .i64 x.m, .string ⟨x.t.toArray⟩])] ?_ (c2 L w' hW hL)
    rw [run_calls Tryd.func71 (by kernel_rfl) rfl _ _ _ _ hop rfl]
    simp only [List.map_toArray, List.map_cons, List.map_nil, eval_of h0]
    all_goals rfl
  | 3, ho, hL, _ =>
    obtain ⟨hop, hdst, hgd⟩ := tab_at htab ho (show rgr0T[3]? = _ from rfl)
    simp only at hop hgd
    have h0 := frm_at hdis ha 0 10 (hds 0 10 rfl) (by omega) (depl_of hdep 3 0 (by decide) ho hd)
    have h1 := frm_at hdis ha 2 12 (hds 2 12 rfl) (by omega) (depl_of hdep 3 2 (by decide) ho hd)
    refine doesL_call ho (wanted_none hgd) 25 #[(.pointer (some ⟨b, 0, none⟩)), .int .i64 (x.size : Int)] ?_ (c3 L w' hW hL)
    rw [run_calls Tryd.func25 (by kernel_rfl) rfl _ _ _ _ hop rfl]
    simp only [List.map_toArray, List.map_cons, List.map_nil, eval_of h0, eval_of h1]
    all_goals rfl
  | 4, ho, hL, _ =>
    obtain ⟨hop, hdst, hgd⟩ := tab_at htab ho (show rgr0T[4]? = _ from rfl)
    simp only at hop hgd
    have h0 := frm_old ha 2 _ (hold 2 rfl) o2
    exact doesL_run ho (wanted_none hgd) (hpure 4 (by decide) L w' hW) (run_l57 _ _ _ hop _ (eval_of h0) _ _ _ _ _ _ (l4 L w' hW).c0 (l4 L w' hW).c1 (l4 L w' hW).c2 (l4 L w' hW).c3 (l4 L w' hW).c4)
  | 5, ho, hL, _ =>
    obtain ⟨hop, hdst, hgd⟩ := tab_at htab ho (show rgr0T[5]? = _ from rfl)
    simp only at hop hgd
    have h0 := frm_at hdis ha 4 14 (hds 4 14 rfl) (by omega) (depl_of hdep 5 4 (by decide) ho hd)
    refine doesL_call ho (wanted_none hgd) 72 #[(.agg #[.int .i64 x.k, .int .i64 x.s, .int .i64 x.n, .int .i64 x.m, .string ⟨x.t.toArray⟩])] ?_ (c5 L w' hW hL)
    rw [run_calls Tryd.func72 (by kernel_rfl) rfl _ _ _ _ hop rfl]
    simp only [List.map_toArray, List.map_cons, List.map_nil, eval_of h0]
    all_goals rfl
  | 6, ho, hL, _ =>
    obtain ⟨hop, hdst, hgd⟩ := tab_at htab ho (show rgr0T[6]? = _ from rfl)
    simp only at hop hgd
    have h0 := frm_at hdis ha 3 13 (hds 3 13 rfl) (by omega) (depl_of hdep 6 3 (by decide) ho hd)
    have h1 := frm_at hdis ha 5 15 (hds 5 15 rfl) (by omega) (depl_of hdep 6 5 (by decide) ho hd)
    exact doesL_run ho (wanted_none hgd) (hpure 6 (by decide) L w' hW) (run_inteq _ _ _ _ _ _ hop _ _ (eval_of h0) (eval_of h1) _)
  | 7, ho, hL, _ =>
    obtain ⟨hop, hdst, hgd⟩ := tab_at htab ho (show rgr0T[7]? = _ from rfl)
    simp only at hop hgd
    have h0 := frm_at hdis ha 6 16 (hds 6 16 rfl) (by omega) (depl_of hdep 7 6 (by decide) ho hd)
    exact doesL_run ho (wanted_none hgd) (hpure 7 (by decide) L w' hW) (by rw [run_assign _ _ _ hop]; exact congrArg (fun v => Result.ok (Next.value v) w') (eval_of h0))
  | (i + 8), ho, hL, hi => exact absurd hi (by omega)
def rgr1T : List (Op × Option Tmp × Option (Nat × Bool)) := [
  (.move (.tmp 1), some 19, none),
  (.load 57 (.tmp 2), some 20, none),
  (.call { callee := .value (.func 73), args := #[(.tmp 20)], argTypes := #[57] }, some 21, none),
  (.call { callee := .value (.func 27), args := #[(.tmp 19), (.tmp 21)], argTypes := #[43, 3] }, some 22, none),
  (.fieldAddr 57 (.tmp 2) 4, some 23, none),
  (.load 9 (.tmp 23), some 24, none),
  (.fieldAddr 57 (.tmp 2) 4, some 25, none),
  (.load 9 (.tmp 25), some 26, none),
  (.call { callee := .builtin .len, args := #[(.tmp 26)], argTypes := #[9] }, some 27, none),
  (.call { callee := .builtin .min, args := #[(.tmp 27), (.const (.int .i64 65535))], argTypes := #[3, 3] }, some 28, none),
  (.slice 9 (.tmp 24) none (some (.tmp 28)) none, some 29, none),
  (.binOp .eql 9 (.tmp 22) (.tmp 29) 9, some 30, none),
  (.assign (.tmp 30), some 4, none)]
def rgr1D : List (Nat × Nat) := [(2, 1), (3, 0), (3, 2), (5, 4), (7, 6), (8, 7), (9, 8), (10, 5), (10, 9), (11, 3), (11, 10), (12, 11)]
set_option maxHeartbeats 2000000 in
theorem rgr1 {ops : Array Oper} {id : Nat} {Q : Exit → Act → World → Prop} (x : Raw) (b g q : Nat) (V : List UInt8) (htab : ops.toList.map (fun o => (o.op, o.dst, o.guard)) = rgr1T) (hdep : deplB rgr1D ops = true) (hac : acB ops = true)
    (a0 : Act) (w : World) (hsz : 31 ≤ a0.tmps.size) (o1 : a0.tmps[1]? = some (.pointer (some ⟨b, 0, none⟩))) (o2 : a0.tmps[2]? = some (.pointer (some ⟨g, 0, none⟩)))
    (Wd : (Nat → Bool) → World → Prop) (h0 : Wd (fun _ => false) w.drew) (hpure : ∀ i, i ∉ ([2, 3] : List Nat) → ∀ L W, Wd L W → Wd (upd L i) W)
    (l1 : ∀ L W, Wd L W → Box g x W) (c2 : ∀ L W, Wd L W → L 2 = false → Calls Tryd.prog 73 #[(.agg #[.int .i64 x.k, .int .i64 x.s, .int .i64 x.n, .int .i64 x.m, .string ⟨x.t.toArray⟩])] W fun e w' => e = .returned (.int .i64 (x.most : Int)) ∧ Wd (upd L 2) w')
    (c3 : ∀ L W, Wd L W → L 3 = false → Calls Tryd.prog 27 #[(.pointer (some ⟨b, 0, none⟩)), .int .i64 (x.most : Int)] W fun e w' => e = .returned (.string ⟨V.toArray⟩) ∧ Wd (upd L 3) w')
    (l5 : ∀ L W, Wd L W → W.cell? ⟨g, 4, none⟩ = some (.string ⟨x.t.toArray⟩)) (l7 : ∀ L W, Wd L W → W.cell? ⟨g, 4, none⟩ = some (.string ⟨x.t.toArray⟩))
    (m9 : Value.int .i64 (if (65535 : Int) < (x.t.length : Int) then 65535 else (x.t.length : Int)) = .int .i64 (q : Int)) (s10 : q ≤ x.t.length ∧ x.t.length ≤ 9223372036854775807)
    (hend : ∀ L W, (∀ i, i < 13 → L i = true) → Wd L W → Q .normal (((((((((((((a0.put (some 19) (.pointer (some ⟨b, 0, none⟩))).put (some 20) (.agg #[.int .i64 x.k, .int .i64 x.s, .int .i64 x.n, .int .i64 x.m, .string ⟨x.t.toArray⟩])).put (some 21) (.int .i64 (x.most : Int))).put (some 22) (.string ⟨V.toArray⟩)).put (some 23) (.pointer (some ⟨g, 4, none⟩))).put (some 24) (.string ⟨x.t.toArray⟩)).put (some 25) (.pointer (some ⟨g, 4, none⟩))).put (some 26) (.string ⟨x.t.toArray⟩)).put (some 27) (.int .i64 (x.t.length : Int))).put (some 28) (.int .i64 (q : Int))).put (some 29) (.string ⟨(x.t.take q).toArray⟩)).put (some 30) (.bool (decide (V = x.t.take q)))).put (some 4) (.bool (decide (V = x.t.take q)))) W) : (Code.region id ops true).wp Tryd.prog Q a0 w := by
  let val : Nat → Value := fun i => match i with
    | 0 => (.pointer (some ⟨b, 0, none⟩))
    | 1 => (.agg #[.int .i64 x.k, .int .i64 x.s, .int .i64 x.n, .int .i64 x.m, .string ⟨x.t.toArray⟩])
    | 2 => (.int .i64 (x.most : Int))
    | 3 => (.string ⟨V.toArray⟩)
    | 4 => (.pointer (some ⟨g, 4, none⟩))
    | 5 => (.string ⟨x.t.toArray⟩)
    | 6 => (.pointer (some ⟨g, 4, none⟩))
    | 7 => (.string ⟨x.t.toArray⟩)
    | 8 => (.int .i64 (x.t.length : Int))
    | 9 => (.int .i64 (q : Int))
    | 10 => (.string ⟨(x.t.take q).toArray⟩)
    | 11 => (.bool (decide (V = x.t.take q)))
    | 12 => (.bool (decide (V = x.t.take q)))
    | _ => undef
  have hosz : ops.size = 13 := by
    have := congrArg List.length htab
    simpa [rgr1T] using this
  have hds : ∀ i s, (rgr1T[i]?).bind (·.2.1) = some s → dstOf ops i = some s := fun i s hi => by rw [tab_dst htab, hi]
  have hdisB : disL rgr1T = true := by rfl
  have hdis := disL_of htab hdisB
  have hold : ∀ s, rgr1T.all (fun x => !(x.2.1 == some s)) = true → (List.range ops.size).all (fun j => !(dstOf ops j == some s)) = true := fun s h => holdL htab s h
  refine region_detL val Wd (hac_of hac) hdis h0 ?_ ?_
  rotate_left
  · intro L W hall hW
    have := hend L W (by rw [← hosz]; exact hall) hW
    have e : frm ops a0 val (fun _ => true) ops.size = (((((((((((((a0.put (some 19) (.pointer (some ⟨b, 0, none⟩))).put (some 20) (.agg #[.int .i64 x.k, .int .i64 x.s, .int .i64 x.n, .int .i64 x.m, .string ⟨x.t.toArray⟩])).put (some 21) (.int .i64 (x.most : Int))).put (some 22) (.string ⟨V.toArray⟩)).put (some 23) (.pointer (some ⟨g, 4, none⟩))).put (some 24) (.string ⟨x.t.toArray⟩)).put (some 25) (.pointer (some ⟨g, 4, none⟩))).put (some 26) (.string ⟨x.t.toArray⟩)).put (some 27) (.int .i64 (x.t.length : Int))).put (some 28) (.int .i64 (q : Int))).put (some 29) (.string ⟨(x.t.take q).toArray⟩)).put (some 30) (.bool (decide (V = x.t.take q)))).put (some 4) (.bool (decide (V = x.t.take q)))) := by
      rw [hosz]
      simp only [frm, if_true]
      rw [tab_dst htab 0, tab_dst htab 1, tab_dst htab 2, tab_dst htab 3, tab_dst htab 4, tab_dst htab 5, tab_dst htab 6, tab_dst htab 7, tab_dst htab 8, tab_dst htab 9, tab_dst htab 10, tab_dst htab 11, tab_dst htab 12]
      rfl
    rw [e]
    exact this
  intro i o ho L a w' hL hd ha hW
  have hi : i < 13 := by rw [← hosz]; exact (Array.getElem?_eq_some_iff.1 ho).1
  match i, ho, hL, hi with
  | 0, ho, hL, _ =>
    obtain ⟨hop, hdst, hgd⟩ := tab_at htab ho (show rgr1T[0]? = _ from rfl)
    simp only at hop hgd
    have h0 := frm_old ha 1 _ (hold 1 rfl) o1
    exact doesL_run ho (wanted_none hgd) (hpure 0 (by decide) L w' hW) (by rw [run_move _ _ _ hop]; exact congrArg (fun v => Result.ok (Next.value v) w') (eval_of h0))
  | 1, ho, hL, _ =>
    obtain ⟨hop, hdst, hgd⟩ := tab_at htab ho (show rgr1T[1]? = _ from rfl)
    simp only at hop hgd
    have h0 := frm_old ha 2 _ (hold 2 rfl) o2
    exact doesL_run ho (wanted_none hgd) (hpure 1 (by decide) L w' hW) (run_l57 _ _ _ hop _ (eval_of h0) _ _ _ _ _ _ (l1 L w' hW).c0 (l1 L w' hW).c1 (l1 L w' hW).c2 (l1 L w' hW).c3 (l1 L w' hW).c4)
  | 2, ho, hL, _ =>
    obtain ⟨hop, hdst, hgd⟩ := tab_at htab ho (show rgr1T[2]? = _ from rfl)
    simp only at hop hgd
    have h0 := frm_at hdis ha 1 20 (hds 1 20 rfl) (by omega) (depl_of hdep 2 1 (by decide) ho hd)
    refine doesL_call ho (wanted_none hgd) 73 #[(.agg #[.int .i64 x.k, .int .i64 x.s, .int .i64 x.n, .int .i64 x.m, .string ⟨x.t.toArray⟩])] ?_ (c2 L w' hW hL)
    rw [run_calls Tryd.func73 (by kernel_rfl) rfl _ _ _ _ hop rfl]
    simp only [List.map_toArray, List.map_cons, List.map_nil, eval_of h0]
    all_goals rfl
  | 3, ho, hL, _ =>
    obtain ⟨hop, hdst, hgd⟩ := tab_at htab ho (show rgr1T[3]? = _ from rfl)
    simp only at hop hgd
    have h0 := frm_at hdis ha 0 19 (hds 0 19 rfl) (by omega) (depl_of hdep 3 0 (by decide) ho hd)
    have h1 := frm_at hdis ha 2 21 (hds 2 21 rfl) (by omega) (depl_of hdep 3 2 (by decide) ho hd)
    refine doesL_call ho (wanted_none hgd) 27 #[(.pointer (some ⟨b, 0, none⟩)), .int .i64 (x.most : Int)] ?_ (c3 L w' hW hL)
    rw [run_calls Tryd.func27 (by kernel_rfl) rfl _ _ _ _ hop rfl]
    simp only [List.map_toArray, List.map_cons, List.map_nil, eval_of h0, eval_of h1]
    all_goals rfl
  | 4, ho, hL, _ =>
    obtain ⟨hop, hdst, hgd⟩ := tab_at htab ho (show rgr1T[4]? = _ from rfl)
    simp only at hop hgd
    have h0 := frm_old ha 2 _ (hold 2 rfl) o2
    exact doesL_run ho (wanted_none hgd) (hpure 4 (by decide) L w' hW) (run_f57 _ _ _ 4 (by decide) hop _ (eval_of h0) _)
  | 5, ho, hL, _ =>
    obtain ⟨hop, hdst, hgd⟩ := tab_at htab ho (show rgr1T[5]? = _ from rfl)
    simp only at hop hgd
    have h0 := frm_at hdis ha 4 23 (hds 4 23 rfl) (by omega) (depl_of hdep 5 4 (by decide) ho hd)
    exact doesL_run ho (wanted_none hgd) (hpure 5 (by decide) L w' hW) (run_ld _ _ _ hop _ _ (eval_of h0) _ (l5 L w' hW))
  | 6, ho, hL, _ =>
    obtain ⟨hop, hdst, hgd⟩ := tab_at htab ho (show rgr1T[6]? = _ from rfl)
    simp only at hop hgd
    have h0 := frm_old ha 2 _ (hold 2 rfl) o2
    exact doesL_run ho (wanted_none hgd) (hpure 6 (by decide) L w' hW) (run_f57 _ _ _ 4 (by decide) hop _ (eval_of h0) _)
  | 7, ho, hL, _ =>
    obtain ⟨hop, hdst, hgd⟩ := tab_at htab ho (show rgr1T[7]? = _ from rfl)
    simp only at hop hgd
    have h0 := frm_at hdis ha 6 25 (hds 6 25 rfl) (by omega) (depl_of hdep 7 6 (by decide) ho hd)
    exact doesL_run ho (wanted_none hgd) (hpure 7 (by decide) L w' hW) (run_ld _ _ _ hop _ _ (eval_of h0) _ (l7 L w' hW))
  | 8, ho, hL, _ =>
    obtain ⟨hop, hdst, hgd⟩ := tab_at htab ho (show rgr1T[8]? = _ from rfl)
    simp only at hop hgd
    have h0 := frm_at hdis ha 7 26 (hds 7 26 rfl) (by omega) (depl_of hdep 8 7 (by decide) ho hd)
    exact doesL_run ho (wanted_none hgd) (hpure 8 (by decide) L w' hW) (run_len _ _ _ hop _ (eval_of h0) _)
  | 9, ho, hL, _ =>
    obtain ⟨hop, hdst, hgd⟩ := tab_at htab ho (show rgr1T[9]? = _ from rfl)
    simp only at hop hgd
    have h0 := frm_at hdis ha 8 27 (hds 8 27 rfl) (by omega) (depl_of hdep 9 8 (by decide) ho hd)
    exact doesL_run ho (wanted_none hgd) (hpure 9 (by decide) L w' hW) ((run_min _ _ _ _ _ hop _ _ (eval_of h0) rfl _).trans (congrArg (fun v => Result.ok (Next.value v) w') m9))
  | 10, ho, hL, _ =>
    obtain ⟨hop, hdst, hgd⟩ := tab_at htab ho (show rgr1T[10]? = _ from rfl)
    simp only at hop hgd
    have h0 := frm_at hdis ha 5 24 (hds 5 24 rfl) (by omega) (depl_of hdep 10 5 (by decide) ho hd)
    have h1 := frm_at hdis ha 9 28 (hds 9 28 rfl) (by omega) (depl_of hdep 10 9 (by decide) ho hd)
    exact doesL_run ho (wanted_none hgd) (hpure 10 (by decide) L w' hW) ((run_cut _ _ _ _ hop _ _ (s10).1 (s10).2 (eval_of h0) (eval_of h1) _))
  | 11, ho, hL, _ =>
    obtain ⟨hop, hdst, hgd⟩ := tab_at htab ho (show rgr1T[11]? = _ from rfl)
    simp only at hop hgd
    have h0 := frm_at hdis ha 3 22 (hds 3 22 rfl) (by omega) (depl_of hdep 11 3 (by decide) ho hd)
    have h1 := frm_at hdis ha 10 29 (hds 10 29 rfl) (by omega) (depl_of hdep 11 10 (by decide) ho hd)
    exact doesL_run ho (wanted_none hgd) (hpure 11 (by decide) L w' hW) (run_streq _ _ _ _ _ _ hop _ _ (eval_of h0) (eval_of h1) _)
  | 12, ho, hL, _ =>
    obtain ⟨hop, hdst, hgd⟩ := tab_at htab ho (show rgr1T[12]? = _ from rfl)
    simp only at hop hgd
    have h0 := frm_at hdis ha 11 30 (hds 11 30 rfl) (by omega) (depl_of hdep 12 11 (by decide) ho hd)
    exact doesL_run ho (wanted_none hgd) (hpure 12 (by decide) L w' hW) (by rw [run_assign _ _ _ hop]; exact congrArg (fun v => Result.ok (Next.value v) w') (eval_of h0))
  | (i + 13), ho, hL, hi => exact absurd hi (by omega)
def rgr2T : List (Op × Option Tmp × Option (Nat × Bool)) := [
  (.move (.tmp 1), some 31, none),
  (.fieldAddr 57 (.tmp 2) 4, some 32, none),
  (.load 9 (.tmp 32), some 33, none),
  (.call { callee := .builtin .len, args := #[(.tmp 33)], argTypes := #[9] }, some 34, none),
  (.call { callee := .value (.func 29), args := #[(.tmp 31), (.tmp 34)], argTypes := #[43, 3] }, some 35, none),
  (.fieldAddr 57 (.tmp 2) 4, some 36, none),
  (.load 9 (.tmp 36), some 37, none),
  (.binOp .eql 9 (.tmp 35) (.tmp 37) 9, some 38, none),
  (.assign (.tmp 38), some 4, none)]
def rgr2D : List (Nat × Nat) := [(2, 1), (3, 2), (4, 0), (4, 3), (6, 5), (7, 4), (7, 6), (8, 7)]
set_option maxHeartbeats 2000000 in
theorem rgr2 {ops : Array Oper} {id : Nat} {Q : Exit → Act → World → Prop} (x : Raw) (b g : Nat) (V : List UInt8) (htab : ops.toList.map (fun o => (o.op, o.dst, o.guard)) = rgr2T) (hdep : deplB rgr2D ops = true) (hac : acB ops = true)
    (a0 : Act) (w : World) (hsz : 39 ≤ a0.tmps.size) (o1 : a0.tmps[1]? = some (.pointer (some ⟨b, 0, none⟩))) (o2 : a0.tmps[2]? = some (.pointer (some ⟨g, 0, none⟩)))
    (Wd : (Nat → Bool) → World → Prop) (h0 : Wd (fun _ => false) w.drew) (hpure : ∀ i, i ∉ ([4] : List Nat) → ∀ L W, Wd L W → Wd (upd L i) W)
    (l2 : ∀ L W, Wd L W → W.cell? ⟨g, 4, none⟩ = some (.string ⟨x.t.toArray⟩))
    (c4 : ∀ L W, Wd L W → L 4 = false → Calls Tryd.prog 29 #[(.pointer (some ⟨b, 0, none⟩)), .int .i64 (x.t.length : Int)] W fun e w' => e = .returned (.string ⟨V.toArray⟩) ∧ Wd (upd L 4) w')
    (l6 : ∀ L W, Wd L W → W.cell? ⟨g, 4, none⟩ = some (.string ⟨x.t.toArray⟩))
    (hend : ∀ L W, (∀ i, i < 9 → L i = true) → Wd L W → Q .normal (((((((((a0.put (some 31) (.pointer (some ⟨b, 0, none⟩))).put (some 32) (.pointer (some ⟨g, 4, none⟩))).put (some 33) (.string ⟨x.t.toArray⟩)).put (some 34) (.int .i64 (x.t.length : Int))).put (some 35) (.string ⟨V.toArray⟩)).put (some 36) (.pointer (some ⟨g, 4, none⟩))).put (some 37) (.string ⟨x.t.toArray⟩)).put (some 38) (.bool (decide (V = x.t)))).put (some 4) (.bool (decide (V = x.t)))) W) : (Code.region id ops true).wp Tryd.prog Q a0 w := by
  let val : Nat → Value := fun i => match i with
    | 0 => (.pointer (some ⟨b, 0, none⟩))
    | 1 => (.pointer (some ⟨g, 4, none⟩))
    | 2 => (.string ⟨x.t.toArray⟩)
    | 3 => (.int .i64 (x.t.length : Int))
    | 4 => (.string ⟨V.toArray⟩)
    | 5 => (.pointer (some ⟨g, 4, none⟩))
    | 6 => (.string ⟨x.t.toArray⟩)
    | 7 => (.bool (decide (V = x.t)))
    | 8 => (.bool (decide (V = x.t)))
    | _ => undef
  have hosz : ops.size = 9 := by
    have := congrArg List.length htab
    simpa [rgr2T] using this
  have hds : ∀ i s, (rgr2T[i]?).bind (·.2.1) = some s → dstOf ops i = some s := fun i s hi => by rw [tab_dst htab, hi]
  have hdisB : disL rgr2T = true := by rfl
  have hdis := disL_of htab hdisB
  have hold : ∀ s, rgr2T.all (fun x => !(x.2.1 == some s)) = true → (List.range ops.size).all (fun j => !(dstOf ops j == some s)) = true := fun s h => holdL htab s h
  refine region_detL val Wd (hac_of hac) hdis h0 ?_ ?_
  rotate_left
  · intro L W hall hW
    have := hend L W (by rw [← hosz]; exact hall) hW
    have e : frm ops a0 val (fun _ => true) ops.size = (((((((((a0.put (some 31) (.pointer (some ⟨b, 0, none⟩))).put (some 32) (.pointer (some ⟨g, 4, none⟩))).put (some 33) (.string ⟨x.t.toArray⟩)).put (some 34) (.int .i64 (x.t.length : Int))).put (some 35) (.string ⟨V.toArray⟩)).put (some 36) (.pointer (some ⟨g, 4, none⟩))).put (some 37) (.string ⟨x.t.toArray⟩)).put (some 38) (.bool (decide (V = x.t)))).put (some 4) (.bool (decide (V = x.t)))) := by
      rw [hosz]
      simp only [frm, if_true]
      rw [tab_dst htab 0, tab_dst htab 1, tab_dst htab 2, tab_dst htab 3, tab_dst htab 4, tab_dst htab 5, tab_dst htab 6, tab_dst htab 7, tab_dst htab 8]
      rfl
    rw [e]
    exact this
  intro i o ho L a w' hL hd ha hW
  have hi : i < 9 := by rw [← hosz]; exact (Array.getElem?_eq_some_iff.1 ho).1
  match i, ho, hL, hi with
  | 0, ho, hL, _ =>
    obtain ⟨hop, hdst, hgd⟩ := tab_at htab ho (show rgr2T[0]? = _ from rfl)
    simp only at hop hgd
    have h0 := frm_old ha 1 _ (hold 1 rfl) o1
    exact doesL_run ho (wanted_none hgd) (hpure 0 (by decide) L w' hW) (by rw [run_move _ _ _ hop]; exact congrArg (fun v => Result.ok (Next.value v) w') (eval_of h0))
  | 1, ho, hL, _ =>
    obtain ⟨hop, hdst, hgd⟩ := tab_at htab ho (show rgr2T[1]? = _ from rfl)
    simp only at hop hgd
    have h0 := frm_old ha 2 _ (hold 2 rfl) o2
    exact doesL_run ho (wanted_none hgd) (hpure 1 (by decide) L w' hW) (run_f57 _ _ _ 4 (by decide) hop _ (eval_of h0) _)
  | 2, ho, hL, _ =>
    obtain ⟨hop, hdst, hgd⟩ := tab_at htab ho (show rgr2T[2]? = _ from rfl)
    simp only at hop hgd
    have h0 := frm_at hdis ha 1 32 (hds 1 32 rfl) (by omega) (depl_of hdep 2 1 (by decide) ho hd)
    exact doesL_run ho (wanted_none hgd) (hpure 2 (by decide) L w' hW) (run_ld _ _ _ hop _ _ (eval_of h0) _ (l2 L w' hW))
  | 3, ho, hL, _ =>
    obtain ⟨hop, hdst, hgd⟩ := tab_at htab ho (show rgr2T[3]? = _ from rfl)
    simp only at hop hgd
    have h0 := frm_at hdis ha 2 33 (hds 2 33 rfl) (by omega) (depl_of hdep 3 2 (by decide) ho hd)
    exact doesL_run ho (wanted_none hgd) (hpure 3 (by decide) L w' hW) (run_len _ _ _ hop _ (eval_of h0) _)
  | 4, ho, hL, _ =>
    obtain ⟨hop, hdst, hgd⟩ := tab_at htab ho (show rgr2T[4]? = _ from rfl)
    simp only at hop hgd
    have h0 := frm_at hdis ha 0 31 (hds 0 31 rfl) (by omega) (depl_of hdep 4 0 (by decide) ho hd)
    have h1 := frm_at hdis ha 3 34 (hds 3 34 rfl) (by omega) (depl_of hdep 4 3 (by decide) ho hd)
    refine doesL_call ho (wanted_none hgd) 29 #[(.pointer (some ⟨b, 0, none⟩)), .int .i64 (x.t.length : Int)] ?_ (c4 L w' hW hL)
    rw [run_calls Tryd.func29 (by kernel_rfl) rfl _ _ _ _ hop rfl]
    simp only [List.map_toArray, List.map_cons, List.map_nil, eval_of h0, eval_of h1]
    all_goals rfl
  | 5, ho, hL, _ =>
    obtain ⟨hop, hdst, hgd⟩ := tab_at htab ho (show rgr2T[5]? = _ from rfl)
    simp only at hop hgd
    have h0 := frm_old ha 2 _ (hold 2 rfl) o2
    exact doesL_run ho (wanted_none hgd) (hpure 5 (by decide) L w' hW) (run_f57 _ _ _ 4 (by decide) hop _ (eval_of h0) _)
  | 6, ho, hL, _ =>
    obtain ⟨hop, hdst, hgd⟩ := tab_at htab ho (show rgr2T[6]? = _ from rfl)
    simp only at hop hgd
    have h0 := frm_at hdis ha 5 36 (hds 5 36 rfl) (by omega) (depl_of hdep 6 5 (by decide) ho hd)
    exact doesL_run ho (wanted_none hgd) (hpure 6 (by decide) L w' hW) (run_ld _ _ _ hop _ _ (eval_of h0) _ (l6 L w' hW))
  | 7, ho, hL, _ =>
    obtain ⟨hop, hdst, hgd⟩ := tab_at htab ho (show rgr2T[7]? = _ from rfl)
    simp only at hop hgd
    have h0 := frm_at hdis ha 4 35 (hds 4 35 rfl) (by omega) (depl_of hdep 7 4 (by decide) ho hd)
    have h1 := frm_at hdis ha 6 37 (hds 6 37 rfl) (by omega) (depl_of hdep 7 6 (by decide) ho hd)
    exact doesL_run ho (wanted_none hgd) (hpure 7 (by decide) L w' hW) (run_streq _ _ _ _ _ _ hop _ _ (eval_of h0) (eval_of h1) _)
  | 8, ho, hL, _ =>
    obtain ⟨hop, hdst, hgd⟩ := tab_at htab ho (show rgr2T[8]? = _ from rfl)
    simp only at hop hgd
    have h0 := frm_at hdis ha 7 38 (hds 7 38 rfl) (by omega) (depl_of hdep 8 7 (by decide) ho hd)
    exact doesL_run ho (wanted_none hgd) (hpure 8 (by decide) L w' hW) (by rw [run_assign _ _ _ hop]; exact congrArg (fun v => Result.ok (Next.value v) w') (eval_of h0))
  | (i + 9), ho, hL, hi => exact absurd hi (by omega)
end Go.Proofs.YthddilflldkmfaaDoor
