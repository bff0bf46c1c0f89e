import Derived.Test.YthddilflldkmfaaDoorDetl
import Derived.Test.YthddilflldkmfaaDoorItmb
namespace Go.Proofs.YthddilflldkmfaaDoor
open Go.RowKit Go.Lib
def rgw1T : List (Op × Option Tmp × Option (Nat × Bool)) := [
  (.move (.tmp 1), some 21, none),
  (.load 57 (.tmp 2), some 22, none),
  (.call { callee := .value (.func 73), args := #[(.tmp 22)], argTypes := #[57] }, some 23, none),
  (.fieldAddr 57 (.tmp 2) 4, some 24, none),
  (.load 9 (.tmp 24), some 25, none),
  (.fieldAddr 57 (.tmp 2) 4, some 26, none),
  (.load 9 (.tmp 26), some 27, none),
  (.call { callee := .builtin .len, args := #[(.tmp 27)], argTypes := #[9] }, some 28, none),
  (.call { callee := .builtin .min, args := #[(.tmp 28), (.const (.int .i64 65535))], argTypes := #[3, 3] }, some 29, none),
  (.slice 9 (.tmp 25) none (some (.tmp 29)) none, some 30, none),
  (.call { callee := .value (.func 15), args := #[(.tmp 21), (.tmp 23), (.tmp 30)], argTypes := #[25, 3, 9] }, some 31, none)]
def rgw1D : List (Nat × Nat) := [(2, 1), (4, 3), (6, 5), (7, 6), (8, 7), (9, 4), (9, 8), (10, 0), (10, 2), (10, 9)]
set_option maxHeartbeats 2000000 in
theorem rgw1 {ops : Array Oper} {id : Nat} {Q : Exit → Act → World → Prop} (x : Raw) (b g q : Nat) (htab : ops.toList.map (fun o => (o.op, o.dst, o.guard)) = rgw1T) (hdep : deplB rgw1D ops = true) (hac : acB ops = true)
    (a0 : Act) (w : World) (hsz : 32 ≤ a0.tmps.size) (o1 : a0.tmps[1]? = some (.pointer (some ⟨b, 0, none⟩))) (o2 : a0.tmps[2]? = some (.pointer (some ⟨g, 0, none⟩)))
    (Wd : (Nat → Bool) → World → Prop) (h0 : Wd (fun _ => false) w.drew) (hpure : ∀ i, i ∉ ([2, 10] : List Nat) → ∀ L W, Wd L W → Wd (upd L i) W)
    (l1 : ∀ L W, Wd L W → Box g x W) (c2 : ∀ L W, Wd L W → L 2 = false → Calls Tryd.prog 73 #[(.agg #[.int .i64 x.k, .int .i64 x.s, .int .i64 x.n, .int .i64 x.m, .string ⟨x.t.toArray⟩])] W fun e w' => e = .returned (.int .i64 (x.most : Int)) ∧ Wd (upd L 2) w')
    (l4 : ∀ L W, Wd L W → W.cell? ⟨g, 4, none⟩ = some (.string ⟨x.t.toArray⟩)) (l6 : ∀ L W, Wd L W → W.cell? ⟨g, 4, none⟩ = some (.string ⟨x.t.toArray⟩))
    (m8 : Value.int .i64 (if (65535 : Int) < (x.t.length : Int) then 65535 else (x.t.length : Int)) = .int .i64 (q : Int)) (s9 : q ≤ x.t.length ∧ x.t.length ≤ 9223372036854775807)
    (c10 : ∀ L W, Wd L W → L 10 = false → Calls Tryd.prog 15 #[.pointer (some ⟨b, 0, none⟩), .int .i64 (x.most : Int), .string ⟨(x.t.take q).toArray⟩] W fun e w' => e = .returned (.tuple #[]) ∧ Wd (upd L 10) w')
    (hend : ∀ L W, (∀ i, i < 11 → L i = true) → Wd L W → Q .normal (((((((((((a0.put (some 21) (.pointer (some ⟨b, 0, none⟩))).put (some 22) (.agg #[.int .i64 x.k, .int .i64 x.s, .int .i64 x.n, .int .i64 x.m, .string ⟨x.t.toArray⟩])).put (some 23) (.int .i64 (x.most : Int))).put (some 24) (.pointer (some ⟨g, 4, none⟩))).put (some 25) (.string ⟨x.t.toArray⟩)).put (some 26) (.pointer (some ⟨g, 4, none⟩))).put (some 27) (.string ⟨x.t.toArray⟩)).put (some 28) (.int .i64 (x.t.length : Int))).put (some 29) (.int .i64 (q : Int))).put (some 30) (.string ⟨(x.t.take q).toArray⟩)).put (some 31) (.tuple #[])) W) : (Code.region id ops true).wp Tryd.prog Q a0 w := by
  let val : Nat → Value := fun i => match i with
    | 0 => (.pointer (some ⟨b, 0, none⟩))
    | 1 => (.agg #[.int .i64 x.k, .int .i64 x.s, .int .i64 x.n, .int .i64 x.m, .string ⟨x.t.toArray⟩])
    | 2 => (.int .i64 (x.most : Int))
    | 3 => (.pointer (some ⟨g, 4, none⟩))
    | 4 => (.string ⟨x.t.toArray⟩)
    | 5 => (.pointer (some ⟨g, 4, none⟩))
    | 6 => (.string ⟨x.t.toArray⟩)
    | 7 => (.int .i64 (x.t.length : Int))
    | 8 => (.int .i64 (q : Int))
    | 9 => (.string ⟨(x.t.take q).toArray⟩)
    | 10 => (.tuple #[])
    | _ => undef
  have hosz : ops.size = 11 := by
    have := congrArg List.length htab
    simpa [rgw1T] using this
  have hds : ∀ i s, (rgw1T[i]?).bind (·.2.1) = some s → dstOf ops i = some s := fun i s hi => by rw [tab_dst htab, hi]
  have hdisB : disL rgw1T = true := by rfl
  have hdis := disL_of htab hdisB
  have hold : ∀ s, rgw1T.all (fun x => !(x.2.1 == some s)) = true → (List.range ops.size).all (fun j => !(dstOf ops j == some s)) = true := fun s h => holdL htab s h
  refine region_detL val Wd (hac_of hac) hdis h0 ?_ ?_
  rotate_left
  · intro L W hall hW
    have := hend L W (by rw [← hosz]; exact hall) hW
    have e : frm ops a0 val (fun _ => true) ops.size = (((((((((((a0.put (some 21) (.pointer (some ⟨b, 0, none⟩))).put (some 22) (.agg #[.int .i64 x.k, .int .i64 x.s, .int .i64 x.n, .int .i64 x.m, .string ⟨x.t.toArray⟩])).put (some 23) (.int .i64 (x.most : Int))).put (some 24) (.pointer (some ⟨g, 4, none⟩))).put (some 25) (.string ⟨x.t.toArray⟩)).put (some 26) (.pointer (some ⟨g, 4, none⟩))).put (some 27) (.string ⟨x.t.toArray⟩)).put (some 28) (.int .i64 (x.t.length : Int))).put (some 29) (.int .i64 (q : Int))).put (some 30) (.string ⟨(x.t.take q).toArray⟩)).put (some 31) (.tuple #[])) := by
      rw [hosz]
      simp only [frm, if_true]
      rw [tab_dst htab 0, tab_dst htab 1, tab_dst htab 2, tab_dst htab 3, tab_dst htab 4, tab_dst htab 5, tab_dst htab 6, tab_dst htab 7, tab_dst htab 8, tab_dst htab 9, tab_dst htab 10]
      rfl
    rw [e]
    exact this
  intro i o ho L a w' hL hd ha hW
  have hi : i < 11 := by rw [← hosz]; exact (Array.getElem?_eq_some_iff.1 ho).1
  match i, ho, hL, hi with
  | 0, ho, hL, _ =>
    obtain ⟨hop, hdst, hgd⟩ := tab_at htab ho (show rgw1T[0]? = _ from rfl)
    simp only at hop hgd
    have h0 := frm_old ha 1 _ (hold 1 rfl) o1
    exact doesL_run ho (wanted_none hgd) (hpure 0 (by decide) L w' hW) (by rw [run_move _ _ _ hop]; exact congrArg (fun v => Result.ok (Next.value v) w') (eval_of h0))
  | 1, ho, hL, _ =>
    obtain ⟨hop, hdst, hgd⟩ := tab_at htab ho (show rgw1T[1]? = _ from rfl)
    simp only at hop hgd
    have h0 := frm_old ha 2 _ (hold 2 rfl) o2
    exact doesL_run ho (wanted_none hgd) (hpure 1 (by decide) L w' hW) (run_l57 _ _ _ hop _ (eval_of h0) _ _ _ _ _ _ (l1 L w' hW).c0 (l1 L w' hW).c1 (l1 L w' hW).c2 (l1 L w' hW).c3 (l1 L w' hW).c4)
  | 2, ho, hL, _ =>
    obtain ⟨hop, hdst, hgd⟩ := tab_at htab ho (show rgw1T[2]? = _ from rfl)
    simp only at hop hgd
    have h0 := frm_at hdis ha 1 22 (hds 1 22 rfl) (by omega) (depl_of hdep 2 1 (by decide) ho hd)
    refine doesL_call ho (wanted_none hgd) 73 #[(.agg #[.int .i64 x.k, .int .i64 x.s, .int .i64 x.n, .int .i64 x.m, .string ⟨x.t.toArray⟩])] ?_ (c2 L w' hW hL)
    rw [run_calls Tryd.func73 (by kernel_rfl) rfl _ _ _ _ hop rfl]
    simp only [List.map_toArray, List.map_cons, List.map_nil, eval_of h0]
    all_goals rfl
  | 3, ho, hL, _ =>
    obtain ⟨hop, hdst, hgd⟩ := tab_at htab ho (show rgw1T[3]? = _ from rfl)
    simp only at hop hgd
    have h0 := frm_old ha 2 _ (hold 2 rfl) o2
    exact doesL_run ho (wanted_none hgd) (hpure 3 (by decide) L w' hW) (run_f57 _ _ _ 4 (by decide) hop _ (eval_of h0) _)
  | 4, ho, hL, _ =>
    obtain ⟨hop, hdst, hgd⟩ := tab_at htab ho (show rgw1T[4]? = _ from rfl)
    simp only at hop hgd
    have h0 := frm_at hdis ha 3 24 (hds 3 24 rfl) (by omega) (depl_of hdep 4 3 (by decide) ho hd)
    exact doesL_run ho (wanted_none hgd) (hpure 4 (by decide) L w' hW) (run_ld _ _ _ hop _ _ (eval_of h0) _ (l4 L w' hW))
  | 5, ho, hL, _ =>
    obtain ⟨hop, hdst, hgd⟩ := tab_at htab ho (show rgw1T[5]? = _ from rfl)
    simp only at hop hgd
    have h0 := frm_old ha 2 _ (hold 2 rfl) o2
    exact doesL_run ho (wanted_none hgd) (hpure 5 (by decide) L w' hW) (run_f57 _ _ _ 4 (by decide) hop _ (eval_of h0) _)
  | 6, ho, hL, _ =>
    obtain ⟨hop, hdst, hgd⟩ := tab_at htab ho (show rgw1T[6]? = _ from rfl)
    simp only at hop hgd
    have h0 := frm_at hdis ha 5 26 (hds 5 26 rfl) (by omega) (depl_of hdep 6 5 (by decide) ho hd)
    exact doesL_run ho (wanted_none hgd) (hpure 6 (by decide) L w' hW) (run_ld _ _ _ hop _ _ (eval_of h0) _ (l6 L w' hW))
  | 7, ho, hL, _ =>
    obtain ⟨hop, hdst, hgd⟩ := tab_at htab ho (show rgw1T[7]? = _ from rfl)
    simp only at hop hgd
    have h0 := frm_at hdis ha 6 27 (hds 6 27 rfl) (by omega) (depl_of hdep 7 6 (by decide) ho hd)
    exact doesL_run ho (wanted_none hgd) (hpure 7 (by decide) L w' hW) (run_len _ _ _ hop _ (eval_of h0) _)
  | 8, ho, hL, _ =>
    obtain ⟨hop, hdst, hgd⟩ := tab_at htab ho (show rgw1T[8]? = _ from rfl)
    simp only at hop hgd
    have h0 := frm_at hdis ha 7 28 (hds 7 28 rfl) (by omega) (depl_of hdep 8 7 (by decide) ho hd)
    exact doesL_run ho (wanted_none hgd) (hpure 8 (by decide) L w' hW) ((run_min _ _ _ _ _ hop _ _ (eval_of h0) rfl _).trans (congrArg (fun v => Result.ok (Next.value v) w') m8))
  | 9, ho, hL, _ =>
    obtain ⟨hop, hdst, hgd⟩ := tab_at htab ho (show rgw1T[9]? = _ from rfl)
    simp only at hop hgd
    have h0 := frm_at hdis ha 4 25 (hds 4 25 rfl) (by omega) (depl_of hdep 9 4 (by decide) ho hd)
    have h1 := frm_at hdis ha 8 29 (hds 8 29 rfl) (by omega) (depl_of hdep 9 8 (by decide) ho hd)
    exact doesL_run ho (wanted_none hgd) (hpure 9 (by decide) L w' hW) ((run_cut _ _ _ _ hop _ _ (s9).1 (s9).2 (eval_of h0) (eval_of h1) _))
  | 10, ho, hL, _ =>
    obtain ⟨hop, hdst, hgd⟩ := tab_at htab ho (show rgw1T[10]? = _ from rfl)
    simp only at hop hgd
    have h0 := frm_at hdis ha 0 21 (hds 0 21 rfl) (by omega) (depl_of hdep 10 0 (by decide) ho hd)
    have h1 := frm_at hdis ha 2 23 (hds 2 23 rfl) (by omega) (depl_of hdep 10 2 (by decide) ho hd)
    have h2 := frm_at hdis ha 9 30 (hds 9 30 rfl) (by omega) (depl_of hdep 10 9 (by decide) ho hd)
    refine doesL_call ho (wanted_none hgd) 15 #[.pointer (some ⟨b, 0, none⟩), .int .i64 (x.most : Int), .string ⟨(x.t.take q).toArray⟩] ?_ (c10 L w' hW hL)
    rw [run_calls Tryd.func15 (by kernel_rfl) rfl _ _ _ _ hop rfl]
    simp only [List.map_toArray, List.map_cons, List.map_nil, eval_of h0, eval_of h1, eval_of h2]
    all_goals rfl
  | (i + 11), ho, hL, hi => exact absurd hi (by omega)
end Go.Proofs.YthddilflldkmfaaDoor
