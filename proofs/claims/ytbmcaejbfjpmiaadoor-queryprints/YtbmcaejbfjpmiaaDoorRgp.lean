import Derived.Test.YtbmcaejbfjpmiaaDoorDetl
import Derived.Test.YtbmcaejbfjpmiaaDoorBka
namespace Go.Proofs.YtbmcaejbfjpmiaaDoor
open Go.RowKit Go.Lib
def rgpT : List (Op × Option Tmp × Option (Nat × Bool)) := [
  (.move (.tmp 3), some 15, none),
  (.move (.tmp 0), some 16, none),
  (.move (.tmp 4), some 17, none),
  (.indexAddr 31 (.tmp 16) (.tmp 17), some 18, none),
  (.fieldAddr 44 (.tmp 18) 0, some 19, none),
  (.load 9 (.tmp 19), some 20, none),
  (.call { callee := .value (.func 13), args := #[(.tmp 20)], argTypes := #[9] }, some 21, none),
  (.binOp .add 9 (.tmp 15) (.tmp 21) 9, some 22, none),
  (.binOp .add 9 (.tmp 22) (.const (.string ⟨#[61]⟩)) 9, some 23, none),
  (.move (.tmp 0), some 24, none),
  (.move (.tmp 4), some 25, none),
  (.indexAddr 31 (.tmp 24) (.tmp 25), some 26, none),
  (.fieldAddr 44 (.tmp 26) 1, some 27, none),
  (.load 9 (.tmp 27), some 28, none),
  (.call { callee := .value (.func 13), args := #[(.tmp 28)], argTypes := #[9] }, some 29, none),
  (.binOp .add 9 (.tmp 23) (.tmp 29) 9, some 30, none),
  (.assign (.tmp 30), some 3, none)]
def rgpD : List (Nat × Nat) := [(3, 1), (3, 2), (4, 3), (5, 4), (6, 5), (7, 0), (7, 6), (8, 7), (11, 9), (11, 10), (12, 11), (13, 12), (14, 13), (15, 8), (15, 14), (16, 0), (16, 15)]
set_option maxHeartbeats 2000000 in
theorem rgp {ops : Array Oper} {id : Nat} {Q : Exit → Act → World → Prop} (p q n cap k : Nat) (O fn fv E1 E2 : List UInt8) (htab : ops.toList.map (fun o => (o.op, o.dst, o.guard)) = rgpT) (hdep : deplB rgpD ops = true) (hac : acB ops = true)
    (a0 : Act) (w : World) (hsz : 31 ≤ a0.tmps.size) (o0 : a0.tmps[0]? = some (.slice (some ⟨p, q, none⟩) n cap)) (o3 : a0.tmps[3]? = some (S O)) (o4 : a0.tmps[4]? = some (.int .i64 (k : Int)))
    (Wd : (Nat → Bool) → World → Prop) (h0 : Wd (fun _ => false) w.drew) (hpure : ∀ i, i ∉ ([6, 14, 16] : List Nat) → ∀ L W, Wd L W → Wd (upd L i) W)
    (hcl16 : ∀ L W, Wd L W → L 16 = true → L 0 = true) (hpure16 : ∀ L W, Wd L W → L 0 = true → Wd (upd L 16) W) (i3 : k < n) (i11 : k < n) (l5 : ∀ L W, Wd L W → W.cell? ⟨p, q + k * 2 + 0, none⟩ = some (S fn)) (l13 : ∀ L W, Wd L W → W.cell? ⟨p, q + k * 2 + 1, none⟩ = some (S fv))
    (c6 : ∀ L W, Wd L W → L 6 = false → Calls Tryd.prog 13 #[S fn] W fun e w' => e = .returned (S E1) ∧ Wd (upd L 6) w') (c14 : ∀ L W, Wd L W → L 14 = false → Calls Tryd.prog 13 #[S fv] W fun e w' => e = .returned (S E2) ∧ Wd (upd L 14) w')
    (a7 : O.length + E1.length ≤ 1000000000000) (a8 : (O ++ E1).length + [61].length ≤ 1000000000000) (a15 : (O ++ E1 ++ [61]).length + E2.length ≤ 1000000000000)
    (hend : ∀ L W, (∀ i, i < 17 → L i = true) → Wd L W → Q .normal (((((((((((((((((a0.put (some 15) (S O)).put (some 16) (.slice (some ⟨p, q, none⟩) n cap)).put (some 17) (.int .i64 (k : Int))).put (some 18) (.pointer (some ⟨p, q + k * 2, none⟩))).put (some 19) (.pointer (some ⟨p, q + k * 2 + 0, none⟩))).put (some 20) (S fn)).put (some 21) (S E1)).put (some 22) (S (O ++ E1))).put (some 23) (S (O ++ E1 ++ [61]))).put (some 24) (.slice (some ⟨p, q, none⟩) n cap)).put (some 25) (.int .i64 (k : Int))).put (some 26) (.pointer (some ⟨p, q + k * 2, none⟩))).put (some 27) (.pointer (some ⟨p, q + k * 2 + 1, none⟩))).put (some 28) (S fv)).put (some 29) (S E2)).put (some 30) (S (O ++ E1 ++ [61] ++ E2))).put (some 3) (S (O ++ E1 ++ [61] ++ E2))) W) : (Code.region id ops true).wp Tryd.prog Q a0 w := by
  let val : Nat → Value := fun i => match i with
    | 0 => (S O)
    | 1 => (.slice (some ⟨p, q, none⟩) n cap)
    | 2 => (.int .i64 (k : Int))
    | 3 => (.pointer (some ⟨p, q + k * 2, none⟩))
    | 4 => (.pointer (some ⟨p, q + k * 2 + 0, none⟩))
    | 5 => (S fn)
    | 6 => (S E1)
    | 7 => (S (O ++ E1))
    | 8 => (S (O ++ E1 ++ [61]))
    | 9 => (.slice (some ⟨p, q, none⟩) n cap)
    | 10 => (.int .i64 (k : Int))
    | 11 => (.pointer (some ⟨p, q + k * 2, none⟩))
    | 12 => (.pointer (some ⟨p, q + k * 2 + 1, none⟩))
    | 13 => (S fv)
    | 14 => (S E2)
    | 15 => (S (O ++ E1 ++ [61] ++ E2))
    | 16 => (S (O ++ E1 ++ [61] ++ E2))
    | _ => undef
  have hosz : ops.size = 17 := by
    have := congrArg List.length htab
    simpa [rgpT] using this
  have hds : ∀ i s, (rgpT[i]?).bind (·.2.1) = some s → dstOf ops i = some s := fun i s hi => by rw [tab_dst htab, hi]
  have hdisB : disL rgpT = true := by rfl
  have hdis := disL_of htab hdisB
  have hold : ∀ s, rgpT.all (fun x => !(x.2.1 == some s)) = true → (List.range ops.size).all (fun j => !(dstOf ops j == some s)) = true := fun s h => holdL htab s h
  refine region_detL val Wd (hac_of hac) hdis h0 ?_ ?_
  rotate_left
  · intro L W hall hW
    have := hend L W (by rw [← hosz]; exact hall) hW
    have e : frm ops a0 val (fun _ => true) ops.size = (((((((((((((((((a0.put (some 15) (S O)).put (some 16) (.slice (some ⟨p, q, none⟩) n cap)).put (some 17) (.int .i64 (k : Int))).put (some 18) (.pointer (some ⟨p, q + k * 2, none⟩))).put (some 19) (.pointer (some ⟨p, q + k * 2 + 0, none⟩))).put (some 20) (S fn)).put (some 21) (S E1)).put (some 22) (S (O ++ E1))).put (some 23) (S (O ++ E1 ++ [61]))).put (some 24) (.slice (some ⟨p, q, none⟩) n cap)).put (some 25) (.int .i64 (k : Int))).put (some 26) (.pointer (some ⟨p, q + k * 2, none⟩))).put (some 27) (.pointer (some ⟨p, q + k * 2 + 1, none⟩))).put (some 28) (S fv)).put (some 29) (S E2)).put (some 30) (S (O ++ E1 ++ [61] ++ E2))).put (some 3) (S (O ++ E1 ++ [61] ++ E2))) := by
      rw [hosz]
      simp only [frm, if_true]
      rw [tab_dst htab 0, tab_dst htab 1, tab_dst htab 2, tab_dst htab 3, tab_dst htab 4, tab_dst htab 5, tab_dst htab 6, tab_dst htab 7, tab_dst htab 8, tab_dst htab 9, tab_dst htab 10, tab_dst htab 11, tab_dst htab 12, tab_dst htab 13, tab_dst htab 14, tab_dst htab 15, tab_dst htab 16]
      rfl
    rw [e]
    exact this
  intro i o ho L a w' hL hd ha hW
  have hi : i < 17 := by rw [← hosz]; exact (Array.getElem?_eq_some_iff.1 ho).1
  match i, ho, hL, hi with
  | 0, ho, hL, _ =>
    obtain ⟨hop, hdst, hgd⟩ := tab_at htab ho (show rgpT[0]? = _ from rfl)
    simp only at hop hgd
    have h0 : a.tmps[3]? = some (S O) := by rw [ha, frm_late a0 val L 3 16 (Bool.eq_false_iff.2 (fun h => by have := hcl16 L w' hW h; rw [hL] at this; cases this)) ops.size (late_of htab (by rfl))]; exact o3
    exact doesL_run ho (wanted_none hgd) (hpure 0 (by decide) L w' hW) (by rw [run_move _ _ _ hop]; exact congrArg (fun v => Result.ok (Next.value v) w') (eval_of h0))
  | 1, ho, hL, _ =>
    obtain ⟨hop, hdst, hgd⟩ := tab_at htab ho (show rgpT[1]? = _ from rfl)
    simp only at hop hgd
    have h0 := frm_old ha 0 _ (hold 0 rfl) o0
    exact doesL_run ho (wanted_none hgd) (hpure 1 (by decide) L w' hW) (by rw [run_move _ _ _ hop]; exact congrArg (fun v => Result.ok (Next.value v) w') (eval_of h0))
  | 2, ho, hL, _ =>
    obtain ⟨hop, hdst, hgd⟩ := tab_at htab ho (show rgpT[2]? = _ from rfl)
    simp only at hop hgd
    have h0 := frm_old ha 4 _ (hold 4 rfl) o4
    exact doesL_run ho (wanted_none hgd) (hpure 2 (by decide) L w' hW) (by rw [run_move _ _ _ hop]; exact congrArg (fun v => Result.ok (Next.value v) w') (eval_of h0))
  | 3, ho, hL, _ =>
    obtain ⟨hop, hdst, hgd⟩ := tab_at htab ho (show rgpT[3]? = _ from rfl)
    simp only at hop hgd
    have h0 := frm_at hdis ha 1 16 (hds 1 16 rfl) (by omega) (depl_of hdep 3 1 (by decide) ho hd)
    have h1 := frm_at hdis ha 2 17 (hds 2 17 rfl) (by omega) (depl_of hdep 3 2 (by decide) ho hd)
    exact doesL_run ho (wanted_none hgd) (hpure 3 (by decide) L w' hW) (run_ia31 _ _ _ _ hop _ _ _ _ _ i3 (eval_of h0) (eval_of h1) _)
  | 4, ho, hL, _ =>
    obtain ⟨hop, hdst, hgd⟩ := tab_at htab ho (show rgpT[4]? = _ from rfl)
    simp only at hop hgd
    have h0 := frm_at hdis ha 3 18 (hds 3 18 rfl) (by omega) (depl_of hdep 4 3 (by decide) ho hd)
    exact doesL_run ho (wanted_none hgd) (hpure 4 (by decide) L w' hW) (run_f44 _ _ _ 0 (by decide) hop _ _ (eval_of h0) _)
  | 5, ho, hL, _ =>
    obtain ⟨hop, hdst, hgd⟩ := tab_at htab ho (show rgpT[5]? = _ from rfl)
    simp only at hop hgd
    have h0 := frm_at hdis ha 4 19 (hds 4 19 rfl) (by omega) (depl_of hdep 5 4 (by decide) ho hd)
    exact doesL_run ho (wanted_none hgd) (hpure 5 (by decide) L w' hW) (run_ld _ _ _ hop _ _ (eval_of h0) _ (l5 L w' hW))
  | 6, ho, hL, _ =>
    obtain ⟨hop, hdst, hgd⟩ := tab_at htab ho (show rgpT[6]? = _ from rfl)
    simp only at hop hgd
    have h0 := frm_at hdis ha 5 20 (hds 5 20 rfl) (by omega) (depl_of hdep 6 5 (by decide) ho hd)
    refine doesL_call ho (wanted_none hgd) 13 #[S fn] ?_ (c6 L w' hW hL)
    rw [run_calls Tryd.func13 (by kernel_rfl) rfl _ _ _ _ hop rfl]
    simp only [List.map_toArray, List.map_cons, List.map_nil, eval_of h0]
    all_goals rfl
  | 7, ho, hL, _ =>
    obtain ⟨hop, hdst, hgd⟩ := tab_at htab ho (show rgpT[7]? = _ from rfl)
    simp only at hop hgd
    have h0 := frm_at hdis ha 0 15 (hds 0 15 rfl) (by omega) (depl_of hdep 7 0 (by decide) ho hd)
    have h1 := frm_at hdis ha 6 21 (hds 6 21 rfl) (by omega) (depl_of hdep 7 6 (by decide) ho hd)
    exact doesL_run ho (wanted_none hgd) (hpure 7 (by decide) L w' hW) (run_cat _ _ _ _ hop _ _ a7 (eval_of h0) (eval_of h1) _)
  | 8, ho, hL, _ =>
    obtain ⟨hop, hdst, hgd⟩ := tab_at htab ho (show rgpT[8]? = _ from rfl)
    simp only at hop hgd
    have h0 := frm_at hdis ha 7 22 (hds 7 22 rfl) (by omega) (depl_of hdep 8 7 (by decide) ho hd)
    exact doesL_run ho (wanted_none hgd) (hpure 8 (by decide) L w' hW) (run_cat _ _ _ _ hop _ _ a8 (eval_of h0) rfl _)
  | 9, ho, hL, _ =>
    obtain ⟨hop, hdst, hgd⟩ := tab_at htab ho (show rgpT[9]? = _ from rfl)
    simp only at hop hgd
    have h0 := frm_old ha 0 _ (hold 0 rfl) o0
    exact doesL_run ho (wanted_none hgd) (hpure 9 (by decide) L w' hW) (by rw [run_move _ _ _ hop]; exact congrArg (fun v => Result.ok (Next.value v) w') (eval_of h0))
  | 10, ho, hL, _ =>
    obtain ⟨hop, hdst, hgd⟩ := tab_at htab ho (show rgpT[10]? = _ from rfl)
    simp only at hop hgd
    have h0 := frm_old ha 4 _ (hold 4 rfl) o4
    exact doesL_run ho (wanted_none hgd) (hpure 10 (by decide) L w' hW) (by rw [run_move _ _ _ hop]; exact congrArg (fun v => Result.ok (Next.value v) w') (eval_of h0))
  | 11, ho, hL, _ =>
    obtain ⟨hop, hdst, hgd⟩ := tab_at htab ho (show rgpT[11]? = _ from rfl)
    simp only at hop hgd
    have h0 := frm_at hdis ha 9 24 (hds 9 24 rfl) (by omega) (depl_of hdep 11 9 (by decide) ho hd)
    have h1 := frm_at hdis ha 10 25 (hds 10 25 rfl) (by omega) (depl_of hdep 11 10 (by decide) ho hd)
    exact doesL_run ho (wanted_none hgd) (hpure 11 (by decide) L w' hW) (run_ia31 _ _ _ _ hop _ _ _ _ _ i11 (eval_of h0) (eval_of h1) _)
  | 12, ho, hL, _ =>
    obtain ⟨hop, hdst, hgd⟩ := tab_at htab ho (show rgpT[12]? = _ from rfl)
    simp only at hop hgd
    have h0 := frm_at hdis ha 11 26 (hds 11 26 rfl) (by omega) (depl_of hdep 12 11 (by decide) ho hd)
    exact doesL_run ho (wanted_none hgd) (hpure 12 (by decide) L w' hW) (run_f44 _ _ _ 1 (by decide) hop _ _ (eval_of h0) _)
  | 13, ho, hL, _ =>
    obtain ⟨hop, hdst, hgd⟩ := tab_at htab ho (show rgpT[13]? = _ from rfl)
    simp only at hop hgd
    have h0 := frm_at hdis ha 12 27 (hds 12 27 rfl) (by omega) (depl_of hdep 13 12 (by decide) ho hd)
    exact doesL_run ho (wanted_none hgd) (hpure 13 (by decide) L w' hW) (run_ld _ _ _ hop _ _ (eval_of h0) _ (l13 L w' hW))
  | 14, ho, hL, _ =>
    obtain ⟨hop, hdst, hgd⟩ := tab_at htab ho (show rgpT[14]? = _ from rfl)
    simp only at hop hgd
    have h0 := frm_at hdis ha 13 28 (hds 13 28 rfl) (by omega) (depl_of hdep 14 13 (by decide) ho hd)
    refine doesL_call ho (wanted_none hgd) 13 #[S fv] ?_ (c14 L w' hW hL)
    rw [run_calls Tryd.func13 (by kernel_rfl) rfl _ _ _ _ hop rfl]
    simp only [List.map_toArray, List.map_cons, List.map_nil, eval_of h0]
    all_goals rfl
  | 15, ho, hL, _ =>
    obtain ⟨hop, hdst, hgd⟩ := tab_at htab ho (show rgpT[15]? = _ from rfl)
    simp only at hop hgd
    have h0 := frm_at hdis ha 8 23 (hds 8 23 rfl) (by omega) (depl_of hdep 15 8 (by decide) ho hd)
    have h1 := frm_at hdis ha 14 29 (hds 14 29 rfl) (by omega) (depl_of hdep 15 14 (by decide) ho hd)
    exact doesL_run ho (wanted_none hgd) (hpure 15 (by decide) L w' hW) (run_cat _ _ _ _ hop _ _ a15 (eval_of h0) (eval_of h1) _)
  | 16, ho, hL, _ =>
    obtain ⟨hop, hdst, hgd⟩ := tab_at htab ho (show rgpT[16]? = _ from rfl)
    simp only at hop hgd
    have h0 := frm_at hdis ha 15 30 (hds 15 30 rfl) (by omega) (depl_of hdep 16 15 (by decide) ho hd)
    exact doesL_run ho (wanted_none hgd) (hpure16 L w' hW (depl_of hdep 16 0 (by decide) ho hd)) (by rw [run_assign _ _ _ hop]; exact congrArg (fun v => Result.ok (Next.value v) w') (eval_of h0))
  | (i + 17), ho, hL, hi => exact absurd hi (by omega)
end Go.Proofs.YtbmcaejbfjpmiaaDoor
