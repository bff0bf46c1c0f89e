import Derived.Test.YthlacailhfhjnaaGreatDoorZdetl
import Derived.Test.YthlacailhfhjnaaGreatDoorZwdb
namespace Go.Proofs.YthlacailhfhjnaaGreatDoor
open Go.RowKit Go.Lib
def rprT : List (Op × Option Tmp × Option (Nat × Bool)) := [
  (.fieldAddr 26 (.tmp 1) 0, some 16, none),
  (.load 3 (.tmp 16), some 17, none),
  (.call { callee := .value (.func 67), args := #[(.tmp 17)], argTypes := #[3] }, some 18, none),
  (.binOp .add 9 (.const (.string ⟨#[72, 84, 84, 80, 47, 49, 46, 49, 32]⟩)) (.tmp 18) 9, some 19, none),
  (.binOp .add 9 (.tmp 19) (.const (.string ⟨#[32]⟩)) 9, some 20, none),
  (.fieldAddr 26 (.tmp 1) 0, some 21, none),
  (.load 3 (.tmp 21), some 22, none),
  (.call { callee := .value (.func 68), args := #[(.tmp 22)], argTypes := #[3] }, some 23, none),
  (.binOp .add 9 (.tmp 20) (.tmp 23) 9, some 24, none),
  (.fieldAddr 26 (.tmp 1) 1, some 25, none),
  (.load 22 (.tmp 25), some 26, none),
  (.fieldAddr 26 (.tmp 1) 2, some 27, none),
  (.load 9 (.tmp 27), some 28, none),
  (.call { callee := .value (.func 65), args := #[(.tmp 24), (.tmp 26), (.tmp 28)], argTypes := #[9, 22, 9] }, some 29, none),
  (.assign (.tmp 29), some 2, none),
  (.assign (.const (.int .i64 0)), some 3, none)]
def rprD : List (Nat × Nat) := [(1, 0), (2, 1), (3, 2), (4, 3), (6, 5), (7, 6), (8, 4), (8, 7), (10, 9), (12, 11), (13, 8), (13, 10), (13, 12), (14, 13)]
set_option maxHeartbeats 2000000 in
theorem rpr {ops : Array Oper} {id : Nat} {Q : Exit → Act → World → Prop} (X m ca : Nat) (st : Int) (pa : Option Addr) (D R b Y : Bs) (htab : ops.toList.map (fun o => (o.op, o.dst, o.guard)) = rprT) (hdep : deplB rprD ops = true) (hac : acB ops = true)
    (a0 : Act) (w : World) (hsz : 30 ≤ a0.tmps.size) (o1 : a0.tmps[1]? = some (.pointer (some ⟨X, 0, none⟩)))
    (Wd : (Nat → Bool) → World → Prop) (h0 : Wd (fun _ => false) w.drew) (hpure : ∀ i, i ∉ ([2, 7, 13] : List Nat) → ∀ L W, Wd L W → Wd (upd L i) W)
    (l1 : ∀ L W, Wd L W → W.cell? ⟨X, 0 + 0, none⟩ = some (.int .i64 st)) (l6 : ∀ L W, Wd L W → W.cell? ⟨X, 0 + 0, none⟩ = some (.int .i64 st)) (l10 : ∀ L W, Wd L W → W.cell? ⟨X, 0 + 1, none⟩ = some (.slice pa m ca)) (l12 : ∀ L W, Wd L W → W.cell? ⟨X, 0 + 2, none⟩ = some (S b))
    (a3 : [72, 84, 84, 80, 47, 49, 46, 49, 32].length + D.length ≤ 1000000000000) (a4 : ([72, 84, 84, 80, 47, 49, 46, 49, 32] ++ D).length + [32].length ≤ 1000000000000) (a8 : ([72, 84, 84, 80, 47, 49, 46, 49, 32] ++ D ++ [32]).length + R.length ≤ 1000000000000)
    (c2 : ∀ L W, Wd L W → L 2 = false → Calls Tryz.prog 67 #[.int .i64 st] W fun e w' => e = .returned (S D) ∧ Wd (upd L 2) w')
    (c7 : ∀ L W, Wd L W → L 7 = false → Calls Tryz.prog 68 #[.int .i64 st] W fun e w' => e = .returned (S R) ∧ Wd (upd L 7) w')
    (c13 : ∀ L W, Wd L W → L 13 = false → Calls Tryz.prog 65 #[S ([72, 84, 84, 80, 47, 49, 46, 49, 32] ++ D ++ [32] ++ R), .slice pa m ca, S b] W fun e w' => e = .returned (S Y) ∧ Wd (upd L 13) w')
    (hend : ∀ L W, (∀ i, i < 16 → L i = true) → Wd L W → Q .normal ((((((((((((((((a0.put (some 16) (.pointer (some ⟨X, 0 + 0, none⟩))).put (some 17) (.int .i64 st)).put (some 18) (S D)).put (some 19) (S ([72, 84, 84, 80, 47, 49, 46, 49, 32] ++ D))).put (some 20) (S ([72, 84, 84, 80, 47, 49, 46, 49, 32] ++ D ++ [32]))).put (some 21) (.pointer (some ⟨X, 0 + 0, none⟩))).put (some 22) (.int .i64 st)).put (some 23) (S R)).put (some 24) (S ([72, 84, 84, 80, 47, 49, 46, 49, 32] ++ D ++ [32] ++ R))).put (some 25) (.pointer (some ⟨X, 0 + 1, none⟩))).put (some 26) (.slice pa m ca)).put (some 27) (.pointer (some ⟨X, 0 + 2, none⟩))).put (some 28) (S b)).put (some 29) (S Y)).put (some 2) (S Y)).put (some 3) (.int .i64 0)) W) : (Code.region id ops true).wp Tryz.prog Q a0 w := by
  let val : Nat → Value := fun i => match i with
    | 0 => (.pointer (some ⟨X, 0 + 0, none⟩))
    | 1 => (.int .i64 st)
    | 2 => (S D)
    | 3 => (S ([72, 84, 84, 80, 47, 49, 46, 49, 32] ++ D))
    | 4 => (S ([72, 84, 84, 80, 47, 49, 46, 49, 32] ++ D ++ [32]))
    | 5 => (.pointer (some ⟨X, 0 + 0, none⟩))
    | 6 => (.int .i64 st)
    | 7 => (S R)
    | 8 => (S ([72, 84, 84, 80, 47, 49, 46, 49, 32] ++ D ++ [32] ++ R))
    | 9 => (.pointer (some ⟨X, 0 + 1, none⟩))
    | 10 => (.slice pa m ca)
    | 11 => (.pointer (some ⟨X, 0 + 2, none⟩))
    | 12 => (S b)
    | 13 => (S Y)
    | 14 => (S Y)
    | 15 => (.int .i64 0)
    | _ => undef
  have hosz : ops.size = 16 := by
    have := congrArg List.length htab
    simpa [rprT] using this
  have hds : ∀ i s, (rprT[i]?).bind (·.2.1) = some s → dstOf ops i = some s := fun i s hi => by rw [tab_dst htab, hi]
  have hdisB : disL rprT = true := by rfl
  have hdis := disL_of htab hdisB
  have hold : ∀ s, rprT.all (fun x => !(x.2.1 == some s)) = true → (List.range ops.size).all (fun j => !(dstOf ops j == some s)) = true := fun s h => holdL htab s h
  refine region_detL val Wd (hac_of hac) hdis h0 ?_ ?_
  rotate_left
  · intro L W hall hW
    have := hend L W (by rw [← hosz]; exact hall) hW
    have e : frm ops a0 val (fun _ => true) ops.size = ((((((((((((((((a0.put (some 16) (.pointer (some ⟨X, 0 + 0, none⟩))).put (some 17) (.int .i64 st)).put (some 18) (S D)).put (some 19) (S ([72, 84, 84, 80, 47, 49, 46, 49, 32] ++ D))).put (some 20) (S ([72, 84, 84, 80, 47, 49, 46, 49, 32] ++ D ++ [32]))).put (some 21) (.pointer (some ⟨X, 0 + 0, none⟩))).put (some 22) (.int .i64 st)).put (some 23) (S R)).put (some 24) (S ([72, 84, 84, 80, 47, 49, 46, 49, 32] ++ D ++ [32] ++ R))).put (some 25) (.pointer (some ⟨X, 0 + 1, none⟩))).put (some 26) (.slice pa m ca)).put (some 27) (.pointer (some ⟨X, 0 + 2, none⟩))).put (some 28) (S b)).put (some 29) (S Y)).put (some 2) (S Y)).put (some 3) (.int .i64 0)) := by
      rw [hosz]
      simp only [frm, if_true]
      rw [tab_dst htab 0, tab_dst htab 1, tab_dst htab 2, tab_dst htab 3, tab_dst htab 4, tab_dst htab 5, tab_dst htab 6, tab_dst htab 7, tab_dst htab 8, tab_dst htab 9, tab_dst htab 10, tab_dst htab 11, tab_dst htab 12, tab_dst htab 13, tab_dst htab 14, tab_dst htab 15]
      rfl
    rw [e]
    exact this
  intro i o ho L a w' hL hd ha hW
  have hi : i < 16 := by rw [← hosz]; exact (Array.getElem?_eq_some_iff.1 ho).1
  match i, ho, hL, hi with
  | 0, ho, hL, _ =>
    obtain ⟨hop, hdst, hgd⟩ := tab_at htab ho (show rprT[0]? = _ from rfl)
    simp only at hop hgd
    have h0 := frm_old ha 1 _ (hold 1 rfl) o1
    exact doesL_run ho (wanted_none hgd) (hpure 0 (by decide) L w' hW) (run_f26_0 _ _ _ hop _ _ (eval_of h0) _)
  | 1, ho, hL, _ =>
    obtain ⟨hop, hdst, hgd⟩ := tab_at htab ho (show rprT[1]? = _ from rfl)
    simp only at hop hgd
    have h0 := frm_at hdis ha 0 16 (hds 0 16 rfl) (by omega) (depl_of hdep 1 0 (by decide) ho hd)
    exact doesL_run ho (wanted_none hgd) (hpure 1 (by decide) L w' hW) (run_ld3 _ _ _ hop _ _ (eval_of h0) _ (l1 L w' hW))
  | 2, ho, hL, _ =>
    obtain ⟨hop, hdst, hgd⟩ := tab_at htab ho (show rprT[2]? = _ from rfl)
    simp only at hop hgd
    have h0 := frm_at hdis ha 1 17 (hds 1 17 rfl) (by omega) (depl_of hdep 2 1 (by decide) ho hd)
    refine doesL_call ho (wanted_none hgd) 67 #[.int .i64 st] ?_ (c2 L w' hW hL)
    rw [run_calls Tryz.func67 (by kernel_rfl) rfl _ _ _ _ hop rfl]
    simp only [List.map_toArray, List.map_cons, List.map_nil, eval_of h0]
    all_goals rfl
  | 3, ho, hL, _ =>
    obtain ⟨hop, hdst, hgd⟩ := tab_at htab ho (show rprT[3]? = _ from rfl)
    simp only at hop hgd
    have h1 := frm_at hdis ha 2 18 (hds 2 18 rfl) (by omega) (depl_of hdep 3 2 (by decide) ho hd)
    exact doesL_run ho (wanted_none hgd) (hpure 3 (by decide) L w' hW) (run_cat _ _ _ _ hop _ _ a3 rfl (eval_of h1) _)
  | 4, ho, hL, _ =>
    obtain ⟨hop, hdst, hgd⟩ := tab_at htab ho (show rprT[4]? = _ from rfl)
    simp only at hop hgd
    have h0 := frm_at hdis ha 3 19 (hds 3 19 rfl) (by omega) (depl_of hdep 4 3 (by decide) ho hd)
    exact doesL_run ho (wanted_none hgd) (hpure 4 (by decide) L w' hW) (run_cat _ _ _ _ hop _ _ a4 (eval_of h0) rfl _)
  | 5, ho, hL, _ =>
    obtain ⟨hop, hdst, hgd⟩ := tab_at htab ho (show rprT[5]? = _ from rfl)
    simp only at hop hgd
    have h0 := frm_old ha 1 _ (hold 1 rfl) o1
    exact doesL_run ho (wanted_none hgd) (hpure 5 (by decide) L w' hW) (run_f26_0 _ _ _ hop _ _ (eval_of h0) _)
  | 6, ho, hL, _ =>
    obtain ⟨hop, hdst, hgd⟩ := tab_at htab ho (show rprT[6]? = _ from rfl)
    simp only at hop hgd
    have h0 := frm_at hdis ha 5 21 (hds 5 21 rfl) (by omega) (depl_of hdep 6 5 (by decide) ho hd)
    exact doesL_run ho (wanted_none hgd) (hpure 6 (by decide) L w' hW) (run_ld3 _ _ _ hop _ _ (eval_of h0) _ (l6 L w' hW))
  | 7, ho, hL, _ =>
    obtain ⟨hop, hdst, hgd⟩ := tab_at htab ho (show rprT[7]? = _ from rfl)
    simp only at hop hgd
    have h0 := frm_at hdis ha 6 22 (hds 6 22 rfl) (by omega) (depl_of hdep 7 6 (by decide) ho hd)
    refine doesL_call ho (wanted_none hgd) 68 #[.int .i64 st] ?_ (c7 L w' hW hL)
    rw [run_calls Tryz.func68 (by kernel_rfl) rfl _ _ _ _ hop rfl]
    simp only [List.map_toArray, List.map_cons, List.map_nil, eval_of h0]
    all_goals rfl
  | 8, ho, hL, _ =>
    obtain ⟨hop, hdst, hgd⟩ := tab_at htab ho (show rprT[8]? = _ from rfl)
    simp only at hop hgd
    have h0 := frm_at hdis ha 4 20 (hds 4 20 rfl) (by omega) (depl_of hdep 8 4 (by decide) ho hd)
    have h1 := frm_at hdis ha 7 23 (hds 7 23 rfl) (by omega) (depl_of hdep 8 7 (by decide) ho hd)
    exact doesL_run ho (wanted_none hgd) (hpure 8 (by decide) L w' hW) (run_cat _ _ _ _ hop _ _ a8 (eval_of h0) (eval_of h1) _)
  | 9, ho, hL, _ =>
    obtain ⟨hop, hdst, hgd⟩ := tab_at htab ho (show rprT[9]? = _ from rfl)
    simp only at hop hgd
    have h0 := frm_old ha 1 _ (hold 1 rfl) o1
    exact doesL_run ho (wanted_none hgd) (hpure 9 (by decide) L w' hW) (run_f26_1 _ _ _ hop _ _ (eval_of h0) _)
  | 10, ho, hL, _ =>
    obtain ⟨hop, hdst, hgd⟩ := tab_at htab ho (show rprT[10]? = _ from rfl)
    simp only at hop hgd
    have h0 := frm_at hdis ha 9 25 (hds 9 25 rfl) (by omega) (depl_of hdep 10 9 (by decide) ho hd)
    exact doesL_run ho (wanted_none hgd) (hpure 10 (by decide) L w' hW) (run_ld22 _ _ _ hop _ _ (eval_of h0) _ (l10 L w' hW))
  | 11, ho, hL, _ =>
    obtain ⟨hop, hdst, hgd⟩ := tab_at htab ho (show rprT[11]? = _ from rfl)
    simp only at hop hgd
    have h0 := frm_old ha 1 _ (hold 1 rfl) o1
    exact doesL_run ho (wanted_none hgd) (hpure 11 (by decide) L w' hW) (run_f26_2 _ _ _ hop _ _ (eval_of h0) _)
  | 12, ho, hL, _ =>
    obtain ⟨hop, hdst, hgd⟩ := tab_at htab ho (show rprT[12]? = _ from rfl)
    simp only at hop hgd
    have h0 := frm_at hdis ha 11 27 (hds 11 27 rfl) (by omega) (depl_of hdep 12 11 (by decide) ho hd)
    exact doesL_run ho (wanted_none hgd) (hpure 12 (by decide) L w' hW) (run_ld _ _ _ hop _ _ (eval_of h0) _ (l12 L w' hW))
  | 13, ho, hL, _ =>
    obtain ⟨hop, hdst, hgd⟩ := tab_at htab ho (show rprT[13]? = _ from rfl)
    simp only at hop hgd
    have h0 := frm_at hdis ha 8 24 (hds 8 24 rfl) (by omega) (depl_of hdep 13 8 (by decide) ho hd)
    have h1 := frm_at hdis ha 10 26 (hds 10 26 rfl) (by omega) (depl_of hdep 13 10 (by decide) ho hd)
    have h2 := frm_at hdis ha 12 28 (hds 12 28 rfl) (by omega) (depl_of hdep 13 12 (by decide) ho hd)
    refine doesL_call ho (wanted_none hgd) 65 #[S ([72, 84, 84, 80, 47, 49, 46, 49, 32] ++ D ++ [32] ++ R), .slice pa m ca, S b] ?_ (c13 L w' hW hL)
    rw [run_calls Tryz.func65 (by kernel_rfl) rfl _ _ _ _ hop rfl]
    simp only [List.map_toArray, List.map_cons, List.map_nil, eval_of h0, eval_of h1, eval_of h2]
    all_goals rfl
  | 14, ho, hL, _ =>
    obtain ⟨hop, hdst, hgd⟩ := tab_at htab ho (show rprT[14]? = _ from rfl)
    simp only at hop hgd
    have h0 := frm_at hdis ha 13 29 (hds 13 29 rfl) (by omega) (depl_of hdep 14 13 (by decide) ho hd)
    exact doesL_run ho (wanted_none hgd) (hpure 14 (by decide) L w' hW) (by rw [run_assign _ _ _ hop]; exact congrArg (fun v => Result.ok (Next.value v) w') (eval_of h0))
  | 15, ho, hL, _ =>
    obtain ⟨hop, hdst, hgd⟩ := tab_at htab ho (show rprT[15]? = _ from rfl)
    simp only at hop hgd
    exact doesL_run ho (wanted_none hgd) (hpure 15 (by decide) L w' hW) (by rw [run_assign _ _ _ hop]; exact congrArg (fun v => Result.ok (Next.value v) w') rfl)
  | (i + 16), ho, hL, hi => exact absurd hi (by omega)
end Go.Proofs.YthlacailhfhjnaaGreatDoor
