import Derived.Test.YthddilflldkmfaaDoorItmd
namespace Go.Proofs.YthddilflldkmfaaDoor
open Go.RowKit Go.Lib
def rga0T : List (Op × Option Tmp × Option (Nat × Bool)) := [
  (.move (.tmp 2), some 18, none),
  (.load 57 (.tmp 3), some 19, none),
  (.call { callee := .value (.func 71), args := #[(.tmp 19)], argTypes := #[57] }, some 20, none),
  (.move (.tmp 1), some 21, none),
  (.load 57 (.tmp 3), some 22, none),
  (.call { callee := .value (.func 71), args := #[(.tmp 22)], argTypes := #[57] }, some 23, none),
  (.call { callee := .value (.func 25), args := #[(.tmp 21), (.tmp 23)], argTypes := #[43, 3] }, some 24, none),
  (.call { callee := .value (.func 13), args := #[(.tmp 18), (.tmp 20), (.tmp 24)], argTypes := #[25, 3, 3] }, some 25, none)]
def rga0D : List (Nat × Nat) := [(2, 1), (5, 4), (6, 3), (6, 5), (7, 0), (7, 2), (7, 6)]
set_option maxHeartbeats 2000000 in
theorem rga0 {ops : Array Oper} {id : Nat} {Q : Exit → Act → World → Prop} (x : Raw) (b c g : Nat) (V : Int) (htab : ops.toList.map (fun o => (o.op, o.dst, o.guard)) = rga0T) (hdep : deplB rga0D ops = true) (hac : acB ops = true)
    (a0 : Act) (w : World) (hsz : 26 ≤ a0.tmps.size) (o1 : a0.tmps[1]? = some (.pointer (some ⟨b, 0, none⟩))) (o2 : a0.tmps[2]? = some (.pointer (some ⟨c, 0, none⟩))) (o3 : a0.tmps[3]? = some (.pointer (some ⟨g, 0, none⟩)))
    (Wd : (Nat → Bool) → World → Prop) (h0 : Wd (fun _ => false) w.drew) (hpure : ∀ i, i ∉ ([2, 5, 6, 7] : List Nat) → ∀ L W, Wd L W → Wd (upd L i) W)
    (l1 : ∀ L W, Wd L W → Box g x W) (c2 : ∀ L W, Wd L W → L 2 = false → Calls Tryd.prog 71 #[(.agg #[.int .i64 x.k, .int .i64 x.s, .int .i64 x.n, .int .i64 x.m, .string ⟨x.t.toArray⟩])] W fun e w' => e = .returned (.int .i64 (x.size : Int)) ∧ Wd (upd L 2) w')
    (l4 : ∀ L W, Wd L W → Box g x W) (c5 : ∀ L W, Wd L W → L 5 = false → Calls Tryd.prog 71 #[(.agg #[.int .i64 x.k, .int .i64 x.s, .int .i64 x.n, .int .i64 x.m, .string ⟨x.t.toArray⟩])] W fun e w' => e = .returned (.int .i64 (x.size : Int)) ∧ Wd (upd L 5) w')
    (c6 : ∀ L W, Wd L W → L 6 = false → Calls Tryd.prog 25 #[(.pointer (some ⟨b, 0, none⟩)), .int .i64 (x.size : Int)] W fun e w' => e = .returned (.int .i64 V) ∧ Wd (upd L 6) w')
    (c7 : ∀ L W, Wd L W → L 7 = false → L 0 = true → L 2 = true → L 6 = true → Calls Tryd.prog 13 #[(.pointer (some ⟨c, 0, none⟩)), .int .i64 (x.size : Int), .int .i64 V] W fun e w' => e = .returned (.tuple #[]) ∧ Wd (upd L 7) w')
    (hend : ∀ L W, (∀ i, i < 8 → L i = true) → Wd L W → Q .normal ((((((((a0.put (some 18) (.pointer (some ⟨c, 0, none⟩))).put (some 19) (.agg #[.int .i64 x.k, .int .i64 x.s, .int .i64 x.n, .int .i64 x.m, .string ⟨x.t.toArray⟩])).put (some 20) (.int .i64 (x.size : Int))).put (some 21) (.pointer (some ⟨b, 0, none⟩))).put (some 22) (.agg #[.int .i64 x.k, .int .i64 x.s, .int .i64 x.n, .int .i64 x.m, .string ⟨x.t.toArray⟩])).put (some 23) (.int .i64 (x.size : Int))).put (some 24) (.int .i64 V)).put (some 25) (.tuple #[])) W) : (Code.region id ops true).wp Tryd.prog Q a0 w := by
  let val : Nat → Value := fun i => match i with
    | 0 => (.pointer (some ⟨c, 0, none⟩))
    | 1 => (.agg #[.int .i64 x.k, .int .i64 x.s, .int .i64 x.n, .int .i64 x.m, .string ⟨x.t.toArray⟩])
    | 2 => (.int .i64 (x.size : Int))
    | 3 => (.pointer (some ⟨b, 0, none⟩))
    | 4 => (.agg #[.int .i64 x.k, .int .i64 x.s, .int .i64 x.n, .int .i64 x.m, .string ⟨x.t.toArray⟩])
    | 5 => (.int .i64 (x.size : Int))
    | 6 => (.int .i64 V)
    | 7 => (.tuple #[])
    | _ => undef
  have hosz : ops.size = 8 := by
    have := congrArg List.length htab
    simpa [rga0T] using this
  have hds : ∀ i s, (rga0T[i]?).bind (·.2.1) = some s → dstOf ops i = some s := fun i s hi => by rw [tab_dst htab, hi]
  have hdisB : disL rga0T = true := by rfl
  have hdis := disL_of htab hdisB
  have hold : ∀ s, rga0T.all (fun x => !(x.2.1 == some s)) = true → (List.range ops.size).all (fun j => !(dstOf ops j == some s)) = true := fun s h => holdL htab s h
  refine region_detL val Wd (hac_of hac) hdis h0 ?_ ?_
  rotate_left
  · intro L W hall hW
    have := hend L W (by rw [← hosz]; exact hall) hW
    have e : frm ops a0 val (fun _ => true) ops.size = ((((((((a0.put (some 18) (.pointer (some ⟨c, 0, none⟩))).put (some 19) (.agg #[.int .i64 x.k, .int .i64 x.s, .int .i64 x.n, .int .i64 x.m, .string ⟨x.t.toArray⟩])).put (some 20) (.int .i64 (x.size : Int))).put (some 21) (.pointer (some ⟨b, 0, none⟩))).put (some 22) (.agg #[.int .i64 x.k, .int .i64 x.s, .int .i64 x.n, .int .i64 x.m, .string ⟨x.t.toArray⟩])).put (some 23) (.int .i64 (x.size : Int))).put (some 24) (.int .i64 V)).put (some 25) (.tuple #[])) := by
      rw [hosz]
      simp only [frm, if_true]
      rw [tab_dst htab 0, tab_dst htab 1, tab_dst htab 2, tab_dst htab 3, tab_dst htab 4, tab_dst htab 5, tab_dst htab 6, tab_dst htab 7]
      rfl
    rw [e]
    exact this
  intro i o ho L a w' hL hd ha hW
  have hi : i < 8 := by rw [← hosz]; exact (Array.getElem?_eq_some_iff.1 ho).1
  match i, ho, hL, hi with
  | 0, ho, hL, _ =>
    obtain ⟨hop, hdst, hgd⟩ := tab_at htab ho (show rga0T[0]? = _ from rfl)
    simp only at hop hgd
    have h0 := frm_old ha 2 _ (hold 2 rfl) o2
    exact doesL_run ho (wanted_none hgd) (hpure 0 (by decide) L w' hW) (by rw [run_move _ _ _ hop]; exact congrArg (fun v => Result.ok (Next.value v) w') (eval_of h0))
  | 1, ho, hL, _ =>
    obtain ⟨hop, hdst, hgd⟩ := tab_at htab ho (show rga0T[1]? = _ from rfl)
    simp only at hop hgd
    have h0 := frm_old ha 3 _ (hold 3 rfl) o3
    exact doesL_run ho (wanted_none hgd) (hpure 1 (by decide) L w' hW) (run_l57 _ _ _ hop _ (eval_of h0) _ _ _ _ _ _ (l1 L w' hW).c0 (l1 L w' hW).c1 (l1 L w' hW).c2 (l1 L w' hW).c3 (l1 L w' hW).c4)
  | 2, ho, hL, _ =>
    obtain ⟨hop, hdst, hgd⟩ := tab_at htab ho (show rga0T[2]? = _ from rfl)
    simp only at hop hgd
    have h0 := frm_at hdis ha 1 19 (hds 1 19 rfl) (by omega) (depl_of hdep 2 1 (by decide) ho hd)
    refine doesL_call ho (wanted_none hgd) 71 #[(.agg #[.int .i64 x.k, .int .i64 x.s, .int .i64 x.n, .int .i64 x.m, .string ⟨x.t.toArray⟩])] ?_ (c2 L w' hW hL)
    rw [run_calls Tryd.func71 (by kernel_rfl) rfl _ _ _ _ hop rfl]
    simp only [List.map_toArray, List.map_cons, List.map_nil, eval_of h0]
    all_goals rfl
  | 3, ho, hL, _ =>
    obtain ⟨hop, hdst, hgd⟩ := tab_at htab ho (show rga0T[3]? = _ from rfl)
    simp only at hop hgd
    have h0 := frm_old ha 1 _ (hold 1 rfl) o1
    exact doesL_run ho (wanted_none hgd) (hpure 3 (by decide) L w' hW) (by rw [run_move _ _ _ hop]; exact congrArg (fun v => Result.ok (Next.value v) w') (eval_of h0))
  | 4, ho, hL, _ =>
    obtain ⟨hop, hdst, hgd⟩ := tab_at htab ho (show rga0T[4]? = _ from rfl)
    simp only at hop hgd
    have h0 := frm_old ha 3 _ (hold 3 rfl) o3
    exact doesL_run ho (wanted_none hgd) (hpure 4 (by decide) L w' hW) (run_l57 _ _ _ hop _ (eval_of h0) _ _ _ _ _ _ (l4 L w' hW).c0 (l4 L w' hW).c1 (l4 L w' hW).c2 (l4 L w' hW).c3 (l4 L w' hW).c4)
  | 5, ho, hL, _ =>
    obtain ⟨hop, hdst, hgd⟩ := tab_at htab ho (show rga0T[5]? = _ from rfl)
    simp only at hop hgd
    have h0 := frm_at hdis ha 4 22 (hds 4 22 rfl) (by omega) (depl_of hdep 5 4 (by decide) ho hd)
    refine doesL_call ho (wanted_none hgd) 71 #[(.agg #[.int .i64 x.k, .int .i64 x.s, .int .i64 x.n, .int .i64 x.m, .string ⟨x.t.toArray⟩])] ?_ (c5 L w' hW hL)
    rw [run_calls Tryd.func71 (by kernel_rfl) rfl _ _ _ _ hop rfl]
    simp only [List.map_toArray, List.map_cons, List.map_nil, eval_of h0]
    all_goals rfl
  | 6, ho, hL, _ =>
    obtain ⟨hop, hdst, hgd⟩ := tab_at htab ho (show rga0T[6]? = _ from rfl)
    simp only at hop hgd
    have h0 := frm_at hdis ha 3 21 (hds 3 21 rfl) (by omega) (depl_of hdep 6 3 (by decide) ho hd)
    have h1 := frm_at hdis ha 5 23 (hds 5 23 rfl) (by omega) (depl_of hdep 6 5 (by decide) ho hd)
    refine doesL_call ho (wanted_none hgd) 25 #[(.pointer (some ⟨b, 0, none⟩)), .int .i64 (x.size : Int)] ?_ (c6 L w' hW hL)
    rw [run_calls Tryd.func25 (by kernel_rfl) rfl _ _ _ _ hop rfl]
    simp only [List.map_toArray, List.map_cons, List.map_nil, eval_of h0, eval_of h1]
    all_goals rfl
  | 7, ho, hL, _ =>
    obtain ⟨hop, hdst, hgd⟩ := tab_at htab ho (show rga0T[7]? = _ from rfl)
    simp only at hop hgd
    have h0 := frm_at hdis ha 0 18 (hds 0 18 rfl) (by omega) (depl_of hdep 7 0 (by decide) ho hd)
    have h1 := frm_at hdis ha 2 20 (hds 2 20 rfl) (by omega) (depl_of hdep 7 2 (by decide) ho hd)
    have h2 := frm_at hdis ha 6 24 (hds 6 24 rfl) (by omega) (depl_of hdep 7 6 (by decide) ho hd)
    refine doesL_call ho (wanted_none hgd) 13 #[(.pointer (some ⟨c, 0, none⟩)), .int .i64 (x.size : Int), .int .i64 V] ?_ (c7 L w' hW hL (depl_of hdep 7 0 (by decide) ho hd) (depl_of hdep 7 2 (by decide) ho hd) (depl_of hdep 7 6 (by decide) ho hd))
    rw [run_calls Tryd.func13 (by kernel_rfl) rfl _ _ _ _ hop rfl]
    simp only [List.map_toArray, List.map_cons, List.map_nil, eval_of h0, eval_of h1, eval_of h2]
    all_goals rfl
  | (i + 8), ho, hL, hi => exact absurd hi (by omega)
def rga1T : List (Op × Option Tmp × Option (Nat × Bool)) := [
  (.move (.tmp 2), some 28, none),
  (.load 57 (.tmp 3), some 29, none),
  (.call { callee := .value (.func 73), args := #[(.tmp 29)], argTypes := #[57] }, some 30, none),
  (.move (.tmp 1), some 31, none),
  (.load 57 (.tmp 3), some 32, none),
  (.call { callee := .value (.func 73), args := #[(.tmp 32)], argTypes := #[57] }, some 33, none),
  (.call { callee := .value (.func 27), args := #[(.tmp 31), (.tmp 33)], argTypes := #[43, 3] }, some 34, none),
  (.call { callee := .value (.func 15), args := #[(.tmp 28), (.tmp 30), (.tmp 34)], argTypes := #[25, 3, 9] }, some 35, none)]
def rga1D : List (Nat × Nat) := [(2, 1), (5, 4), (6, 3), (6, 5), (7, 0), (7, 2), (7, 6)]
set_option maxHeartbeats 2000000 in
theorem rga1 {ops : Array Oper} {id : Nat} {Q : Exit → Act → World → Prop} (x : Raw) (b c g : Nat) (V : List UInt8) (htab : ops.toList.map (fun o => (o.op, o.dst, o.guard)) = rga1T) (hdep : deplB rga1D ops = true) (hac : acB ops = true)
    (a0 : Act) (w : World) (hsz : 36 ≤ a0.tmps.size) (o1 : a0.tmps[1]? = some (.pointer (some ⟨b, 0, none⟩))) (o2 : a0.tmps[2]? = some (.pointer (some ⟨c, 0, none⟩))) (o3 : a0.tmps[3]? = some (.pointer (some ⟨g, 0, none⟩)))
    (Wd : (Nat → Bool) → World → Prop) (h0 : Wd (fun _ => false) w.drew) (hpure : ∀ i, i ∉ ([2, 5, 6, 7] : List Nat) → ∀ L W, Wd L W → Wd (upd L i) W)
    (l1 : ∀ L W, Wd L W → Box g x W) (c2 : ∀ L W, Wd L W → L 2 = false → Calls Tryd.prog 73 #[(.agg #[.int .i64 x.k, .int .i64 x.s, .int .i64 x.n, .int .i64 x.m, .string ⟨x.t.toArray⟩])] W fun e w' => e = .returned (.int .i64 (x.most : Int)) ∧ Wd (upd L 2) w')
    (l4 : ∀ L W, Wd L W → Box g x W) (c5 : ∀ L W, Wd L W → L 5 = false → Calls Tryd.prog 73 #[(.agg #[.int .i64 x.k, .int .i64 x.s, .int .i64 x.n, .int .i64 x.m, .string ⟨x.t.toArray⟩])] W fun e w' => e = .returned (.int .i64 (x.most : Int)) ∧ Wd (upd L 5) w')
    (c6 : ∀ L W, Wd L W → L 6 = false → Calls Tryd.prog 27 #[(.pointer (some ⟨b, 0, none⟩)), .int .i64 (x.most : Int)] W fun e w' => e = .returned (.string ⟨V.toArray⟩) ∧ Wd (upd L 6) w')
    (c7 : ∀ L W, Wd L W → L 7 = false → L 0 = true → L 2 = true → L 6 = true → Calls Tryd.prog 15 #[(.pointer (some ⟨c, 0, none⟩)), .int .i64 (x.most : Int), .string ⟨V.toArray⟩] W fun e w' => e = .returned (.tuple #[]) ∧ Wd (upd L 7) w')
    (hend : ∀ L W, (∀ i, i < 8 → L i = true) → Wd L W → Q .normal ((((((((a0.put (some 28) (.pointer (some ⟨c, 0, none⟩))).put (some 29) (.agg #[.int .i64 x.k, .int .i64 x.s, .int .i64 x.n, .int .i64 x.m, .string ⟨x.t.toArray⟩])).put (some 30) (.int .i64 (x.most : Int))).put (some 31) (.pointer (some ⟨b, 0, none⟩))).put (some 32) (.agg #[.int .i64 x.k, .int .i64 x.s, .int .i64 x.n, .int .i64 x.m, .string ⟨x.t.toArray⟩])).put (some 33) (.int .i64 (x.most : Int))).put (some 34) (.string ⟨V.toArray⟩)).put (some 35) (.tuple #[])) W) : (Code.region id ops true).wp Tryd.prog Q a0 w := by
  let val : Nat → Value := fun i => match i with
    | 0 => (.pointer (some ⟨c, 0, none⟩))
    | 1 => (.agg #[.int .i64 x.k, .int .i64 x.s, .int .i64 x.n, .int .i64 x.m, .string ⟨x.t.toArray⟩])
    | 2 => (.int .i64 (x.most : Int))
    | 3 => (.pointer (some ⟨b, 0, none⟩))
    | 4 => (.agg #[.int .i64 x.k, .int .i64 x.s, .int .i64 x.n, .int .i64 x.m, .string ⟨x.t.toArray⟩])
    | 5 => (.int .i64 (x.most : Int))
    | 6 => (.string ⟨V.toArray⟩)
    | 7 => (.tuple #[])
    | _ => undef
  have hosz : ops.size = 8 := by
    have := congrArg List.length htab
    simpa [rga1T] using this
  have hds : ∀ i s, (rga1T[i]?).bind (·.2.1) = some s → dstOf ops i = some s := fun i s hi => by rw [tab_dst htab, hi]
  have hdisB : disL rga1T = true := by rfl
  have hdis := disL_of htab hdisB
  have hold : ∀ s, rga1T.all (fun x => !(x.2.1 == some s)) = true → (List.range ops.size).all (fun j => !(dstOf ops j == some s)) = true := fun s h => holdL htab s h
  refine region_detL val Wd (hac_of hac) hdis h0 ?_ ?_
  rotate_left
  · intro L W hall hW
    have := hend L W (by rw [← hosz]; exact hall) hW
    have e : frm ops a0 val (fun _ => true) ops.size = ((((((((a0.put (some 28) (.pointer (some ⟨c, 0, none⟩))).put (some 29) (.agg #[.int .i64 x.k, .int .i64 x.s, .int .i64 x.n, .int .i64 x.m, .string ⟨x.t.toArray⟩])).put (some 30) (.int .i64 (x.most : Int))).put (some 31) (.pointer (some ⟨b, 0, none⟩))).put (some 32) (.agg #[.int .i64 x.k, .int .i64 x.s, .int .i64 x.n, .int .i64 x.m, .string ⟨x.t.toArray⟩])).put (some 33) (.int .i64 (x.most : Int))).put (some 34) (.string ⟨V.toArray⟩)).put (some 35) (.tuple #[])) := by
      rw [hosz]
      simp only [frm, if_true]
      rw [tab_dst htab 0, tab_dst htab 1, tab_dst htab 2, tab_dst htab 3, tab_dst htab 4, tab_dst htab 5, tab_dst htab 6, tab_dst htab 7]
      rfl
    rw [e]
    exact this
  intro i o ho L a w' hL hd ha hW
  have hi : i < 8 := by rw [← hosz]; exact (Array.getElem?_eq_some_iff.1 ho).1
  match i, ho, hL, hi with
  | 0, ho, hL, _ =>
    obtain ⟨hop, hdst, hgd⟩ := tab_at htab ho (show rga1T[0]? = _ from rfl)
    simp only at hop hgd
    have h0 := frm_old ha 2 _ (hold 2 rfl) o2
    exact doesL_run ho (wanted_none hgd) (hpure 0 (by decide) L w' hW) (by rw [run_move _ _ _ hop]; exact congrArg (fun v => Result.ok (Next.value v) w') (eval_of h0))
  | 1, ho, hL, _ =>
    obtain ⟨hop, hdst, hgd⟩ := tab_at htab ho (show rga1T[1]? = _ from rfl)
    simp only at hop hgd
    have h0 := frm_old ha 3 _ (hold 3 rfl) o3
    exact doesL_run ho (wanted_none hgd) (hpure 1 (by decide) L w' hW) (run_l57 _ _ _ hop _ (eval_of h0) _ _ _ _ _ _ (l1 L w' hW).c0 (l1 L w' hW).c1 (l1 L w' hW).c2 (l1 L w' hW).c3 (l1 L w' hW).c4)
  | 2, ho, hL, _ =>
    obtain ⟨hop, hdst, hgd⟩ := tab_at htab ho (show rga1T[2]? = _ from rfl)
    simp only at hop hgd
    have h0 := frm_at hdis ha 1 29 (hds 1 29 rfl) (by omega) (depl_of hdep 2 1 (by decide) ho hd)
    refine doesL_call ho (wanted_none hgd) 73 #[(.agg #[.int .i64 x.k, .int .i64 x.s, .int .i64 x.n, .int .i64 x.m, .string ⟨x.t.toArray⟩])] ?_ (c2 L w' hW hL)
    rw [run_calls Tryd.func73 (by kernel_rfl) rfl _ _ _ _ hop rfl]
    simp only [List.map_toArray, List.map_cons, List.map_nil, eval_of h0]
    all_goals rfl
  | 3, ho, hL, _ =>
    obtain ⟨hop, hdst, hgd⟩ := tab_at htab ho (show rga1T[3]? = _ from rfl)
    simp only at hop hgd
    have h0 := frm_old ha 1 _ (hold 1 rfl) o1
    exact doesL_run ho (wanted_none hgd) (hpure 3 (by decide) L w' hW) (by rw [run_move _ _ _ hop]; exact congrArg (fun v => Result.ok (Next.value v) w') (eval_of h0))
  | 4, ho, hL, _ =>
    obtain ⟨hop, hdst, hgd⟩ := tab_at htab ho (show rga1T[4]? = _ from rfl)
    simp only at hop hgd
    have h0 := frm_old ha 3 _ (hold 3 rfl) o3
    exact doesL_run ho (wanted_none hgd) (hpure 4 (by decide) L w' hW) (run_l57 _ _ _ hop _ (eval_of h0) _ _ _ _ _ _ (l4 L w' hW).c0 (l4 L w' hW).c1 (l4 L w' hW).c2 (l4 L w' hW).c3 (l4 L w' hW).c4)
  | 5, ho, hL, _ =>
    obtain ⟨hop, hdst, hgd⟩ := tab_at htab ho (show rga1T[5]? = _ from rfl)
    simp only at hop hgd
    have h0 := frm_at hdis ha 4 32 (hds 4 32 rfl) (by omega) (depl_of hdep 5 4 (by decide) ho hd)
    refine doesL_call ho (wanted_none hgd) 73 #[(.agg #[.int .i64 x.k, .int .i64 x.s, .int .i64 x.n, .int .i64 x.m, .string ⟨x.t.toArray⟩])] ?_ (c5 L w' hW hL)
    rw [run_calls Tryd.func73 (by kernel_rfl) rfl _ _ _ _ hop rfl]
    simp only [List.map_toArray, List.map_cons, List.map_nil, eval_of h0]
    all_goals rfl
  | 6, ho, hL, _ =>
    obtain ⟨hop, hdst, hgd⟩ := tab_at htab ho (show rga1T[6]? = _ from rfl)
    simp only at hop hgd
    have h0 := frm_at hdis ha 3 31 (hds 3 31 rfl) (by omega) (depl_of hdep 6 3 (by decide) ho hd)
    have h1 := frm_at hdis ha 5 33 (hds 5 33 rfl) (by omega) (depl_of hdep 6 5 (by decide) ho hd)
    refine doesL_call ho (wanted_none hgd) 27 #[(.pointer (some ⟨b, 0, none⟩)), .int .i64 (x.most : Int)] ?_ (c6 L w' hW hL)
    rw [run_calls Tryd.func27 (by kernel_rfl) rfl _ _ _ _ hop rfl]
    simp only [List.map_toArray, List.map_cons, List.map_nil, eval_of h0, eval_of h1]
    all_goals rfl
  | 7, ho, hL, _ =>
    obtain ⟨hop, hdst, hgd⟩ := tab_at htab ho (show rga1T[7]? = _ from rfl)
    simp only at hop hgd
    have h0 := frm_at hdis ha 0 28 (hds 0 28 rfl) (by omega) (depl_of hdep 7 0 (by decide) ho hd)
    have h1 := frm_at hdis ha 2 30 (hds 2 30 rfl) (by omega) (depl_of hdep 7 2 (by decide) ho hd)
    have h2 := frm_at hdis ha 6 34 (hds 6 34 rfl) (by omega) (depl_of hdep 7 6 (by decide) ho hd)
    refine doesL_call ho (wanted_none hgd) 15 #[(.pointer (some ⟨c, 0, none⟩)), .int .i64 (x.most : Int), .string ⟨V.toArray⟩] ?_ (c7 L w' hW hL (depl_of hdep 7 0 (by decide) ho hd) (depl_of hdep 7 2 (by decide) ho hd) (depl_of hdep 7 6 (by decide) ho hd))
    rw [run_calls Tryd.func15 (by kernel_rfl) rfl _ _ _ _ hop rfl]
    simp only [List.map_toArray, List.map_cons, List.map_nil, eval_of h0, eval_of h1, eval_of h2]
    all_goals rfl
  | (i + 8), ho, hL, hi => exact absurd hi (by omega)
end Go.Proofs.YthddilflldkmfaaDoor
