import Derived.Test.YtpelmacblglhoaaRgka
namespace Go.Proofs.Ytpelmacblglhoaa
open Go.RowKit
theorem run_f35_1 (ρ : Operand → Value) (o : Oper) (x : Operand) (ho : o.op = .fieldAddr 35 x 1) (g q : Nat) (hx : ρ x = .pointer (some ⟨g, q, none⟩)) (w : World) : (execOp ρ o).run Try.prog w = .ok (.value (.pointer (some ⟨g, q + 1, none⟩))) w := by
  unfold execOp
  simp only [ho, hx]
  kernel_rfl
theorem run_f35_3 (ρ : Operand → Value) (o : Oper) (x : Operand) (ho : o.op = .fieldAddr 35 x 3) (g q : Nat) (hx : ρ x = .pointer (some ⟨g, q, none⟩)) (w : World) : (execOp ρ o).run Try.prog w = .ok (.value (.pointer (some ⟨g, q + 3, none⟩))) w := by
  unfold execOp
  simp only [ho, hx]
  kernel_rfl
def rmkT : List (Op × Option Tmp × Option (Nat × Bool)) := [
  (.move (.tmp 10), some 73, none),
  (.fieldAddr 35 (.tmp 3) 1, some 74, none),
  (.load 3 (.tmp 74), some 75, none),
  (.move (.tmp 10), some 76, none),
  (.call { callee := .builtin .len, args := #[(.tmp 76)], argTypes := #[28] }, some 77, none),
  (.call { callee := .value (.func 8), args := #[(.tmp 75), (.tmp 77)], argTypes := #[3, 3] }, some 78, none),
  (.fieldAddr 35 (.tmp 3) 3, some 79, none),
  (.load 9 (.tmp 79), some 80, none),
  (.indexAddr 28 (.tmp 73) (.tmp 78), some 81, none),
  (.store 9 (.tmp 81) (.tmp 80), none, none)]
def rmkD : List (Nat × Nat) := [(2, 1), (4, 3), (5, 2), (5, 4), (7, 6), (8, 0), (8, 5), (9, 7), (9, 8)]
set_option maxHeartbeats 2000000 in
theorem rmk {ops : Array Oper} {id : Nat} {Q : Exit → Act → World → Prop} (T g k c j : Nat) (on : Int) (str : Bs) (htab : ops.toList.map (fun o => (o.op, o.dst, o.guard)) = rmkT) (hdep : deplB rmkD ops = true) (hac : acB ops = true)
    (a0 : Act) (w : World) (hsz : 82 ≤ a0.tmps.size) (o3 : a0.tmps[3]? = some (.pointer (some ⟨T, 0, none⟩))) (o10 : a0.tmps[10]? = some (.slice (some ⟨g, 0, none⟩) k c))
    (Wd : (Nat → Bool) → World → Prop) (h0 : Wd (fun _ => false) w.drew) (hpure : ∀ i, i ∉ ([5, 9] : List Nat) → ∀ L W, Wd L W → Wd (upd L i) W)
    (i8 : j < k)
    (l2 : ∀ L W, Wd L W → W.cell? ⟨T, 0 + 1, none⟩ = some (.int .i64 on))
    (l7 : ∀ L W, Wd L W → W.cell? ⟨T, 0 + 3, none⟩ = some (S str))
    (c5 : ∀ L W, Wd L W → L 5 = false → Calls Try.prog 8 #[.int .i64 on, .int .i64 (k : Int)] W fun e w' => e = .returned (.int .i64 (j : Int)) ∧ Wd (upd L 5) w')
    (n9 : ∀ L W, Wd L W → L 9 = false → L 7 = true → L 8 = true → Wd (upd L 9) (W.setCell ⟨g, 0 + j, none⟩ (S str)) ∧ (∃ u, W.cell? ⟨g, 0 + j, none⟩ = some u) ∧ W.frozen? ⟨g, 0 + j, none⟩ = false)
    (hend : ∀ L W, (∀ i, i < 10 → L i = true) → Wd L W → Q .normal (((((((((a0.put (some 73) (.slice (some ⟨g, 0, none⟩) k c)).put (some 74) (.pointer (some ⟨T, 0 + 1, none⟩))).put (some 75) (.int .i64 on)).put (some 76) (.slice (some ⟨g, 0, none⟩) k c)).put (some 77) (.int .i64 (k : Int))).put (some 78) (.int .i64 (j : Int))).put (some 79) (.pointer (some ⟨T, 0 + 3, none⟩))).put (some 80) (S str)).put (some 81) (.pointer (some ⟨g, 0 + j, none⟩))) W) : (Code.region id ops true).wp Try.prog Q a0 w := by
  let val : Nat → Value := fun i => match i with
    | 0 => (.slice (some ⟨g, 0, none⟩) k c)
    | 1 => (.pointer (some ⟨T, 0 + 1, none⟩))
    | 2 => (.int .i64 on)
    | 3 => (.slice (some ⟨g, 0, none⟩) k c)
    | 4 => (.int .i64 (k : Int))
    | 5 => (.int .i64 (j : Int))
    | 6 => (.pointer (some ⟨T, 0 + 3, none⟩))
    | 7 => (S str)
    | 8 => (.pointer (some ⟨g, 0 + j, none⟩))
    | 9 => undef
    | _ => undef
  have hosz : ops.size = 10 := by
    have := congrArg List.length htab
    simpa [rmkT] using this
  have hds : ∀ i s, (rmkT[i]?).bind (·.2.1) = some s → dstOf ops i = some s := fun i s hi => by rw [tab_dst htab, hi]
  have hdisB : disL rmkT = true := by rfl
  have hdis := disL_of htab hdisB
  have hold : ∀ s, rmkT.all (fun x => !(x.2.1 == some s)) = true → (List.range ops.size).all (fun j => !(dstOf ops j == some s)) = true := fun s h => holdL htab s h
  refine region_detL val Wd (hac_of hac) hdis h0 ?_ ?_
  rotate_left
  · intro L W hall hW
    have := hend L W (by rw [← hosz]; exact hall) hW
    have e : frm ops a0 val (fun _ => true) ops.size = (((((((((a0.put (some 73) (.slice (some ⟨g, 0, none⟩) k c)).put (some 74) (.pointer (some ⟨T, 0 + 1, none⟩))).put (some 75) (.int .i64 on)).put (some 76) (.slice (some ⟨g, 0, none⟩) k c)).put (some 77) (.int .i64 (k : Int))).put (some 78) (.int .i64 (j : Int))).put (some 79) (.pointer (some ⟨T, 0 + 3, none⟩))).put (some 80) (S str)).put (some 81) (.pointer (some ⟨g, 0 + j, none⟩))) := by
      rw [hosz]
      simp only [frm, if_true]
      rw [tab_dst htab 0, tab_dst htab 1, tab_dst htab 2, tab_dst htab 3, tab_dst htab 4, tab_dst htab 5, tab_dst htab 6, tab_dst htab 7, tab_dst htab 8, (show dstOf ops 9 = none from (tab_dst htab 9).trans rfl), put_none]
      rfl
    rw [e]
    exact this
  intro i o ho L a w' hL hd ha hW
  have hi : i < 10 := by rw [← hosz]; exact (Array.getElem?_eq_some_iff.1 ho).1
  match i, ho, hL, hi with
  | 0, ho, hL, _ =>
    obtain ⟨hop, hdst, hgd⟩ := tab_at htab ho (show rmkT[0]? = _ from rfl)
    simp only at hop hgd
    have h0 := frm_old ha 10 _ (hold 10 rfl) o10
    exact doesL_run ho (wanted_none hgd) (hpure 0 (by decide) L w' hW) (by rw [run_move _ _ _ hop]; exact congrArg (fun v => Result.ok (Next.value v) w') (eval_of h0))
  | 1, ho, hL, _ =>
    obtain ⟨hop, hdst, hgd⟩ := tab_at htab ho (show rmkT[1]? = _ from rfl)
    simp only at hop hgd
    have h0 := frm_old ha 3 _ (hold 3 rfl) o3
    exact doesL_run ho (wanted_none hgd) (hpure 1 (by decide) L w' hW) (run_f35_1 _ _ _ hop _ _ (eval_of h0) _)
  | 2, ho, hL, _ =>
    obtain ⟨hop, hdst, hgd⟩ := tab_at htab ho (show rmkT[2]? = _ from rfl)
    simp only at hop hgd
    have h0 := frm_at hdis ha 1 74 (hds 1 74 rfl) (by omega) (depl_of hdep 2 1 (by decide) ho hd)
    exact doesL_run ho (wanted_none hgd) (hpure 2 (by decide) L w' hW) (run_ld3 _ _ _ hop _ _ (eval_of h0) _ (l2 L w' hW))
  | 3, ho, hL, _ =>
    obtain ⟨hop, hdst, hgd⟩ := tab_at htab ho (show rmkT[3]? = _ from rfl)
    simp only at hop hgd
    have h0 := frm_old ha 10 _ (hold 10 rfl) o10
    exact doesL_run ho (wanted_none hgd) (hpure 3 (by decide) L w' hW) (by rw [run_move _ _ _ hop]; exact congrArg (fun v => Result.ok (Next.value v) w') (eval_of h0))
  | 4, ho, hL, _ =>
    obtain ⟨hop, hdst, hgd⟩ := tab_at htab ho (show rmkT[4]? = _ from rfl)
    simp only at hop hgd
    have h0 := frm_at hdis ha 3 76 (hds 3 76 rfl) (by omega) (depl_of hdep 4 3 (by decide) ho hd)
    exact doesL_run ho (wanted_none hgd) (hpure 4 (by decide) L w' hW) (run_len28 _ _ _ hop _ _ _ (eval_of h0) _)
  | 5, ho, hL, _ =>
    obtain ⟨hop, hdst, hgd⟩ := tab_at htab ho (show rmkT[5]? = _ from rfl)
    simp only at hop hgd
    have h0 := frm_at hdis ha 2 75 (hds 2 75 rfl) (by omega) (depl_of hdep 5 2 (by decide) ho hd)
    have h1 := frm_at hdis ha 4 77 (hds 4 77 rfl) (by omega) (depl_of hdep 5 4 (by decide) ho hd)
    refine doesL_call ho (wanted_none hgd) 8 #[.int .i64 on, .int .i64 (k : Int)] ?_ (c5 L w' hW hL)
    rw [run_calls Try.func8 (by kernel_rfl) rfl _ _ _ _ hop rfl]
    simp only [List.map_toArray, List.map_cons, List.map_nil, eval_of h0, eval_of h1]
    all_goals rfl
  | 6, ho, hL, _ =>
    obtain ⟨hop, hdst, hgd⟩ := tab_at htab ho (show rmkT[6]? = _ from rfl)
    simp only at hop hgd
    have h0 := frm_old ha 3 _ (hold 3 rfl) o3
    exact doesL_run ho (wanted_none hgd) (hpure 6 (by decide) L w' hW) (run_f35_3 _ _ _ hop _ _ (eval_of h0) _)
  | 7, ho, hL, _ =>
    obtain ⟨hop, hdst, hgd⟩ := tab_at htab ho (show rmkT[7]? = _ from rfl)
    simp only at hop hgd
    have h0 := frm_at hdis ha 6 79 (hds 6 79 rfl) (by omega) (depl_of hdep 7 6 (by decide) ho hd)
    exact doesL_run ho (wanted_none hgd) (hpure 7 (by decide) L w' hW) (run_ld _ _ _ hop _ _ (eval_of h0) _ (l7 L w' hW))
  | 8, ho, hL, _ =>
    obtain ⟨hop, hdst, hgd⟩ := tab_at htab ho (show rmkT[8]? = _ from rfl)
    simp only at hop hgd
    have h0 := frm_at hdis ha 0 73 (hds 0 73 rfl) (by omega) (depl_of hdep 8 0 (by decide) ho hd)
    have h1 := frm_at hdis ha 5 78 (hds 5 78 rfl) (by omega) (depl_of hdep 8 5 (by decide) ho hd)
    exact doesL_run ho (wanted_none hgd) (hpure 8 (by decide) L w' hW) (run_ia28 _ _ _ _ hop _ _ _ _ _ i8 (eval_of h0) (eval_of h1) _)
  | 9, ho, hL, _ =>
    obtain ⟨hop, hdst, hgd⟩ := tab_at htab ho (show rmkT[9]? = _ from rfl)
    simp only at hop hgd
    have h0 := frm_at hdis ha 8 81 (hds 8 81 rfl) (by omega) (depl_of hdep 9 8 (by decide) ho hd)
    have h1 := frm_at hdis ha 7 80 (hds 7 80 rfl) (by omega) (depl_of hdep 9 7 (by decide) ho hd)
    obtain ⟨s1, s2, s3⟩ := n9 L w' hW hL (depl_of hdep 9 7 (by decide) ho hd) (depl_of hdep 9 8 (by decide) ho hd)
    exact doesL_skp ho (wanted_none hgd) rfl s1 (run_st9 _ _ _ _ hop _ _ (eval_of h0) (eval_of h1) _ s2 s3)
  | (i + 10), ho, hL, hi => exact absurd hi (by omega)
end Go.Proofs.Ytpelmacblglhoaa
