import Derived.Test.YtpelmacblglhoaaRgcr
namespace Go.Proofs.Ytpelmacblglhoaa
open Go.RowKit
theorem run_f47_0 (ρ : Operand → Value) (o : Oper) (x : Operand) (ho : o.op = .fieldAddr 47 x 0) (g q : Nat) (hx : ρ x = .pointer (some ⟨g, q, none⟩)) (w : World) : (execOp ρ o).run Try.prog w = .ok (.value (.pointer (some ⟨g, q + 0, none⟩))) w := by
  unfold execOp
  simp only [ho, hx]
  kernel_rfl
theorem run_f71_1 (ρ : Operand → Value) (o : Oper) (x : Operand) (ho : o.op = .fieldAddr 71 x 1) (g q : Nat) (hx : ρ x = .pointer (some ⟨g, q, none⟩)) (w : World) : (execOp ρ o).run Try.prog w = .ok (.value (.pointer (some ⟨g, q + 1, none⟩))) w := by
  unfold execOp
  simp only [ho, hx]
  kernel_rfl
theorem run_ia33 (ρ : Operand → Value) (o : Oper) (x y : Operand) (ho : o.op = .indexAddr 33 x y) (g q n cap k : Nat) (hk : k < n) (hx : ρ x = .slice (some ⟨g, q, none⟩) n cap) (hy : ρ y = .int .i64 (k : Int)) (w : World) : (execOp ρ o).run Try.prog w = .ok (.value (.pointer (some ⟨g, q + k * 2, none⟩))) w := by
  unfold execOp
  simp only [ho, hx, hy]
  have h1 : (k : Int) < (n : Int) := by omega
  have u := Try.underlying33
  have z := Try.sizeOf71
  simp [go_sem, u, z, h1]
def rrcT : List (Op × Option Tmp × Option (Nat × Bool)) := [
  (.move (.tmp 0), some 81, none),
  (.nilCheck (.tmp 81), some 82, none),
  (.fieldAddr 47 (.tmp 82) 0, some 83, none),
  (.load 28 (.tmp 83), some 84, none),
  (.fieldAddr 69 (.tmp 9) 0, some 85, none),
  (.load 3 (.tmp 85), some 86, none),
  (.move (.tmp 0), some 87, none),
  (.nilCheck (.tmp 87), some 88, none),
  (.fieldAddr 47 (.tmp 88) 0, some 89, none),
  (.load 28 (.tmp 89), some 90, none),
  (.fieldAddr 69 (.tmp 9) 0, some 91, none),
  (.load 3 (.tmp 91), some 92, none),
  (.indexAddr 28 (.tmp 90) (.tmp 92), some 93, none),
  (.load 9 (.tmp 93), some 94, none),
  (.fieldAddr 69 (.tmp 9) 1, some 95, none),
  (.load 9 (.tmp 95), some 96, none),
  (.move (.tmp 1), some 97, none),
  (.move (.tmp 8), some 98, none),
  (.indexAddr 33 (.tmp 97) (.tmp 98), some 99, none),
  (.fieldAddr 71 (.tmp 99) 1, some 100, none),
  (.load 3 (.tmp 100), some 101, none),
  (.call { callee := .value (.func 71), args := #[(.tmp 94), (.tmp 96), (.tmp 101)], argTypes := #[9, 9, 3] }, some 102, none),
  (.indexAddr 28 (.tmp 84) (.tmp 86), some 103, none),
  (.store 9 (.tmp 103) (.tmp 102), none, none)]
def rrcD : List (Nat × Nat) := [(1, 0), (2, 1), (3, 2), (5, 4), (7, 6), (8, 7), (9, 8), (11, 10), (12, 9), (12, 11), (13, 12), (15, 14), (18, 16), (18, 17), (19, 18), (20, 19), (21, 13), (21, 15), (21, 20), (22, 3), (22, 5), (23, 3), (23, 5), (23, 9), (23, 11), (23, 13), (23, 15), (23, 20), (23, 21), (23, 22)]
set_option maxHeartbeats 2000000 in
theorem rrc {ops : Array Oper} {id : Nat} {Q : Exit → Act → World → Prop} (X g n2 cap2 T gk ok m ck k x1 s9 : Nat) (la x2 tv : Bs) (htab : ops.toList.map (fun o => (o.op, o.dst, o.guard)) = rrcT) (hdep : deplB rrcD ops = true) (hac : acB ops = true)
    (a0 : Act) (w : World) (hsz : 104 ≤ a0.tmps.size) (o0 : a0.tmps[0]? = some (.pointer (some ⟨X, 0, none⟩))) (o1 : a0.tmps[1]? = some (.slice (some ⟨gk, ok, none⟩) m ck)) (o8 : a0.tmps[8]? = some (.int .i64 (k : Int))) (o9 : a0.tmps[9]? = some (.pointer (some ⟨T, 0, none⟩)))
    (Wd : (Nat → Bool) → World → Prop) (h0 : Wd (fun _ => false) w.drew) (hpure : ∀ i, i ∉ ([21, 23] : List Nat) → ∀ L W, Wd L W → Wd (upd L i) W)
    (i12 : x1 < n2) (i18 : k < m) (i22 : x1 < n2)
    (l3 : ∀ L W, Wd L W → L 3 = false → W.cell? ⟨X, 0 + 0, none⟩ = some (.slice (some ⟨g, 0, none⟩) n2 cap2))
    (l5 : ∀ L W, Wd L W → L 5 = false → W.cell? ⟨T, 0 + 0, none⟩ = some (.int .i64 (x1 : Int)))
    (l9 : ∀ L W, Wd L W → L 9 = false → W.cell? ⟨X, 0 + 0, none⟩ = some (.slice (some ⟨g, 0, none⟩) n2 cap2))
    (l11 : ∀ L W, Wd L W → L 11 = false → W.cell? ⟨T, 0 + 0, none⟩ = some (.int .i64 (x1 : Int)))
    (l13 : ∀ L W, Wd L W → L 13 = false → W.cell? ⟨g, 0 + x1, none⟩ = some (S la))
    (l15 : ∀ L W, Wd L W → L 15 = false → W.cell? ⟨T, 0 + 1, none⟩ = some (S x2))
    (l20 : ∀ L W, Wd L W → L 20 = false → W.cell? ⟨gk, ok + k * 2 + 1, none⟩ = some (.int .i64 (s9 : Int)))
    (c21 : ∀ L W, Wd L W → L 21 = false → Calls Try.prog 71 #[S la, S x2, .int .i64 (s9 : Int)] W fun e w' => e = .returned (S tv) ∧ Wd (upd L 21) w')
    (n23 : ∀ L W, Wd L W → L 23 = false → L 21 = true → L 22 = true → L 3 = true → L 5 = true → L 9 = true → L 11 = true → L 13 = true → L 15 = true → L 20 = true → Wd (upd L 23) (W.setCell ⟨g, 0 + x1, none⟩ (S tv)) ∧ (∃ u, W.cell? ⟨g, 0 + x1, none⟩ = some u) ∧ W.frozen? ⟨g, 0 + x1, none⟩ = false)
    (hend : ∀ L W, (∀ i, i < 24 → L i = true) → Wd L W → Q .normal (((((((((((((((((((((((a0.put (some 81) (.pointer (some ⟨X, 0, none⟩))).put (some 82) (.pointer (some ⟨X, 0, none⟩))).put (some 83) (.pointer (some ⟨X, 0 + 0, none⟩))).put (some 84) (.slice (some ⟨g, 0, none⟩) n2 cap2)).put (some 85) (.pointer (some ⟨T, 0 + 0, none⟩))).put (some 86) (.int .i64 (x1 : Int))).put (some 87) (.pointer (some ⟨X, 0, none⟩))).put (some 88) (.pointer (some ⟨X, 0, none⟩))).put (some 89) (.pointer (some ⟨X, 0 + 0, none⟩))).put (some 90) (.slice (some ⟨g, 0, none⟩) n2 cap2)).put (some 91) (.pointer (some ⟨T, 0 + 0, none⟩))).put (some 92) (.int .i64 (x1 : Int))).put (some 93) (.pointer (some ⟨g, 0 + x1, none⟩))).put (some 94) (S la)).put (some 95) (.pointer (some ⟨T, 0 + 1, none⟩))).put (some 96) (S x2)).put (some 97) (.slice (some ⟨gk, ok, none⟩) m ck)).put (some 98) (.int .i64 (k : Int))).put (some 99) (.pointer (some ⟨gk, ok + k * 2, none⟩))).put (some 100) (.pointer (some ⟨gk, ok + k * 2 + 1, none⟩))).put (some 101) (.int .i64 (s9 : Int))).put (some 102) (S tv)).put (some 103) (.pointer (some ⟨g, 0 + x1, none⟩))) W) : (Code.region id ops true).wp Try.prog Q a0 w := by
  let val : Nat → Value := fun i => match i with
    | 0 => (.pointer (some ⟨X, 0, none⟩))
    | 1 => (.pointer (some ⟨X, 0, none⟩))
    | 2 => (.pointer (some ⟨X, 0 + 0, none⟩))
    | 3 => (.slice (some ⟨g, 0, none⟩) n2 cap2)
    | 4 => (.pointer (some ⟨T, 0 + 0, none⟩))
    | 5 => (.int .i64 (x1 : Int))
    | 6 => (.pointer (some ⟨X, 0, none⟩))
    | 7 => (.pointer (some ⟨X, 0, none⟩))
    | 8 => (.pointer (some ⟨X, 0 + 0, none⟩))
    | 9 => (.slice (some ⟨g, 0, none⟩) n2 cap2)
    | 10 => (.pointer (some ⟨T, 0 + 0, none⟩))
    | 11 => (.int .i64 (x1 : Int))
    | 12 => (.pointer (some ⟨g, 0 + x1, none⟩))
    | 13 => (S la)
    | 14 => (.pointer (some ⟨T, 0 + 1, none⟩))
    | 15 => (S x2)
    | 16 => (.slice (some ⟨gk, ok, none⟩) m ck)
    | 17 => (.int .i64 (k : Int))
    | 18 => (.pointer (some ⟨gk, ok + k * 2, none⟩))
    | 19 => (.pointer (some ⟨gk, ok + k * 2 + 1, none⟩))
    | 20 => (.int .i64 (s9 : Int))
    | 21 => (S tv)
    | 22 => (.pointer (some ⟨g, 0 + x1, none⟩))
    | 23 => undef
    | _ => undef
  have hosz : ops.size = 24 := by
    have := congrArg List.length htab
    simpa [rrcT] using this
  have hds : ∀ i s, (rrcT[i]?).bind (·.2.1) = some s → dstOf ops i = some s := fun i s hi => by rw [tab_dst htab, hi]
  have hdisB : disL rrcT = true := by rfl
  have hdis := disL_of htab hdisB
  have hold : ∀ s, rrcT.all (fun x => !(x.2.1 == some s)) = true → (List.range ops.size).all (fun j => !(dstOf ops j == some s)) = true := fun s h => holdL htab s h
  refine region_detL val Wd (hac_of hac) hdis h0 ?_ ?_
  rotate_left
  · intro L W hall hW
    have := hend L W (by rw [← hosz]; exact hall) hW
    have e : frm ops a0 val (fun _ => true) ops.size = (((((((((((((((((((((((a0.put (some 81) (.pointer (some ⟨X, 0, none⟩))).put (some 82) (.pointer (some ⟨X, 0, none⟩))).put (some 83) (.pointer (some ⟨X, 0 + 0, none⟩))).put (some 84) (.slice (some ⟨g, 0, none⟩) n2 cap2)).put (some 85) (.pointer (some ⟨T, 0 + 0, none⟩))).put (some 86) (.int .i64 (x1 : Int))).put (some 87) (.pointer (some ⟨X, 0, none⟩))).put (some 88) (.pointer (some ⟨X, 0, none⟩))).put (some 89) (.pointer (some ⟨X, 0 + 0, none⟩))).put (some 90) (.slice (some ⟨g, 0, none⟩) n2 cap2)).put (some 91) (.pointer (some ⟨T, 0 + 0, none⟩))).put (some 92) (.int .i64 (x1 : Int))).put (some 93) (.pointer (some ⟨g, 0 + x1, none⟩))).put (some 94) (S la)).put (some 95) (.pointer (some ⟨T, 0 + 1, none⟩))).put (some 96) (S x2)).put (some 97) (.slice (some ⟨gk, ok, none⟩) m ck)).put (some 98) (.int .i64 (k : Int))).put (some 99) (.pointer (some ⟨gk, ok + k * 2, none⟩))).put (some 100) (.pointer (some ⟨gk, ok + k * 2 + 1, none⟩))).put (some 101) (.int .i64 (s9 : Int))).put (some 102) (S tv)).put (some 103) (.pointer (some ⟨g, 0 + x1, none⟩))) := by
      rw [hosz]
      simp only [frm, if_true]
      rw [tab_dst htab 0, tab_dst htab 1, tab_dst htab 2, tab_dst htab 3, tab_dst htab 4, tab_dst htab 5, tab_dst htab 6, tab_dst htab 7, tab_dst htab 8, tab_dst htab 9, tab_dst htab 10, tab_dst htab 11, tab_dst htab 12, tab_dst htab 13, tab_dst htab 14, tab_dst htab 15, tab_dst htab 16, tab_dst htab 17, tab_dst htab 18, tab_dst htab 19, tab_dst htab 20, tab_dst htab 21, tab_dst htab 22, (show dstOf ops 23 = none from (tab_dst htab 23).trans rfl), put_none]
      rfl
    rw [e]
    exact this
  intro i o ho L a w' hL hd ha hW
  have hi : i < 24 := by rw [← hosz]; exact (Array.getElem?_eq_some_iff.1 ho).1
  match i, ho, hL, hi with
  | 0, ho, hL, _ =>
    obtain ⟨hop, hdst, hgd⟩ := tab_at htab ho (show rrcT[0]? = _ from rfl)
    simp only at hop hgd
    have h0 := frm_old ha 0 _ (hold 0 rfl) o0
    exact doesL_run ho (wanted_none hgd) (hpure 0 (by decide) L w' hW) (by rw [run_move _ _ _ hop]; exact congrArg (fun v => Result.ok (Next.value v) w') (eval_of h0))
  | 1, ho, hL, _ =>
    obtain ⟨hop, hdst, hgd⟩ := tab_at htab ho (show rrcT[1]? = _ from rfl)
    simp only at hop hgd
    have h0 := frm_at hdis ha 0 81 (hds 0 81 rfl) (by omega) (depl_of hdep 1 0 (by decide) ho hd)
    exact doesL_run ho (wanted_none hgd) (hpure 1 (by decide) L w' hW) (run_nil _ _ _ hop _ (eval_of h0) _)
  | 2, ho, hL, _ =>
    obtain ⟨hop, hdst, hgd⟩ := tab_at htab ho (show rrcT[2]? = _ from rfl)
    simp only at hop hgd
    have h0 := frm_at hdis ha 1 82 (hds 1 82 rfl) (by omega) (depl_of hdep 2 1 (by decide) ho hd)
    exact doesL_run ho (wanted_none hgd) (hpure 2 (by decide) L w' hW) (run_f47_0 _ _ _ hop _ _ (eval_of h0) _)
  | 3, ho, hL, _ =>
    obtain ⟨hop, hdst, hgd⟩ := tab_at htab ho (show rrcT[3]? = _ from rfl)
    simp only at hop hgd
    have h0 := frm_at hdis ha 2 83 (hds 2 83 rfl) (by omega) (depl_of hdep 3 2 (by decide) ho hd)
    exact doesL_run ho (wanted_none hgd) (hpure 3 (by decide) L w' hW) (run_ld28 _ _ _ hop _ _ (eval_of h0) _ (l3 L w' hW hL))
  | 4, ho, hL, _ =>
    obtain ⟨hop, hdst, hgd⟩ := tab_at htab ho (show rrcT[4]? = _ from rfl)
    simp only at hop hgd
    have h0 := frm_old ha 9 _ (hold 9 rfl) o9
    exact doesL_run ho (wanted_none hgd) (hpure 4 (by decide) L w' hW) (run_f69_0 _ _ _ hop _ _ (eval_of h0) _)
  | 5, ho, hL, _ =>
    obtain ⟨hop, hdst, hgd⟩ := tab_at htab ho (show rrcT[5]? = _ from rfl)
    simp only at hop hgd
    have h0 := frm_at hdis ha 4 85 (hds 4 85 rfl) (by omega) (depl_of hdep 5 4 (by decide) ho hd)
    exact doesL_run ho (wanted_none hgd) (hpure 5 (by decide) L w' hW) (run_ld3 _ _ _ hop _ _ (eval_of h0) _ (l5 L w' hW hL))
  | 6, ho, hL, _ =>
    obtain ⟨hop, hdst, hgd⟩ := tab_at htab ho (show rrcT[6]? = _ from rfl)
    simp only at hop hgd
    have h0 := frm_old ha 0 _ (hold 0 rfl) o0
    exact doesL_run ho (wanted_none hgd) (hpure 6 (by decide) L w' hW) (by rw [run_move _ _ _ hop]; exact congrArg (fun v => Result.ok (Next.value v) w') (eval_of h0))
  | 7, ho, hL, _ =>
    obtain ⟨hop, hdst, hgd⟩ := tab_at htab ho (show rrcT[7]? = _ from rfl)
    simp only at hop hgd
    have h0 := frm_at hdis ha 6 87 (hds 6 87 rfl) (by omega) (depl_of hdep 7 6 (by decide) ho hd)
    exact doesL_run ho (wanted_none hgd) (hpure 7 (by decide) L w' hW) (run_nil _ _ _ hop _ (eval_of h0) _)
  | 8, ho, hL, _ =>
    obtain ⟨hop, hdst, hgd⟩ := tab_at htab ho (show rrcT[8]? = _ from rfl)
    simp only at hop hgd
    have h0 := frm_at hdis ha 7 88 (hds 7 88 rfl) (by omega) (depl_of hdep 8 7 (by decide) ho hd)
    exact doesL_run ho (wanted_none hgd) (hpure 8 (by decide) L w' hW) (run_f47_0 _ _ _ hop _ _ (eval_of h0) _)
  | 9, ho, hL, _ =>
    obtain ⟨hop, hdst, hgd⟩ := tab_at htab ho (show rrcT[9]? = _ from rfl)
    simp only at hop hgd
    have h0 := frm_at hdis ha 8 89 (hds 8 89 rfl) (by omega) (depl_of hdep 9 8 (by decide) ho hd)
    exact doesL_run ho (wanted_none hgd) (hpure 9 (by decide) L w' hW) (run_ld28 _ _ _ hop _ _ (eval_of h0) _ (l9 L w' hW hL))
  | 10, ho, hL, _ =>
    obtain ⟨hop, hdst, hgd⟩ := tab_at htab ho (show rrcT[10]? = _ from rfl)
    simp only at hop hgd
    have h0 := frm_old ha 9 _ (hold 9 rfl) o9
    exact doesL_run ho (wanted_none hgd) (hpure 10 (by decide) L w' hW) (run_f69_0 _ _ _ hop _ _ (eval_of h0) _)
  | 11, ho, hL, _ =>
    obtain ⟨hop, hdst, hgd⟩ := tab_at htab ho (show rrcT[11]? = _ from rfl)
    simp only at hop hgd
    have h0 := frm_at hdis ha 10 91 (hds 10 91 rfl) (by omega) (depl_of hdep 11 10 (by decide) ho hd)
    exact doesL_run ho (wanted_none hgd) (hpure 11 (by decide) L w' hW) (run_ld3 _ _ _ hop _ _ (eval_of h0) _ (l11 L w' hW hL))
  | 12, ho, hL, _ =>
    obtain ⟨hop, hdst, hgd⟩ := tab_at htab ho (show rrcT[12]? = _ from rfl)
    simp only at hop hgd
    have h0 := frm_at hdis ha 9 90 (hds 9 90 rfl) (by omega) (depl_of hdep 12 9 (by decide) ho hd)
    have h1 := frm_at hdis ha 11 92 (hds 11 92 rfl) (by omega) (depl_of hdep 12 11 (by decide) ho hd)
    exact doesL_run ho (wanted_none hgd) (hpure 12 (by decide) L w' hW) (run_ia28 _ _ _ _ hop _ _ _ _ _ i12 (eval_of h0) (eval_of h1) _)
  | 13, ho, hL, _ =>
    obtain ⟨hop, hdst, hgd⟩ := tab_at htab ho (show rrcT[13]? = _ from rfl)
    simp only at hop hgd
    have h0 := frm_at hdis ha 12 93 (hds 12 93 rfl) (by omega) (depl_of hdep 13 12 (by decide) ho hd)
    exact doesL_run ho (wanted_none hgd) (hpure 13 (by decide) L w' hW) (run_ld _ _ _ hop _ _ (eval_of h0) _ (l13 L w' hW hL))
  | 14, ho, hL, _ =>
    obtain ⟨hop, hdst, hgd⟩ := tab_at htab ho (show rrcT[14]? = _ from rfl)
    simp only at hop hgd
    have h0 := frm_old ha 9 _ (hold 9 rfl) o9
    exact doesL_run ho (wanted_none hgd) (hpure 14 (by decide) L w' hW) (run_f69_1 _ _ _ hop _ _ (eval_of h0) _)
  | 15, ho, hL, _ =>
    obtain ⟨hop, hdst, hgd⟩ := tab_at htab ho (show rrcT[15]? = _ from rfl)
    simp only at hop hgd
    have h0 := frm_at hdis ha 14 95 (hds 14 95 rfl) (by omega) (depl_of hdep 15 14 (by decide) ho hd)
    exact doesL_run ho (wanted_none hgd) (hpure 15 (by decide) L w' hW) (run_ld _ _ _ hop _ _ (eval_of h0) _ (l15 L w' hW hL))
  | 16, ho, hL, _ =>
    obtain ⟨hop, hdst, hgd⟩ := tab_at htab ho (show rrcT[16]? = _ from rfl)
    simp only at hop hgd
    have h0 := frm_old ha 1 _ (hold 1 rfl) o1
    exact doesL_run ho (wanted_none hgd) (hpure 16 (by decide) L w' hW) (by rw [run_move _ _ _ hop]; exact congrArg (fun v => Result.ok (Next.value v) w') (eval_of h0))
  | 17, ho, hL, _ =>
    obtain ⟨hop, hdst, hgd⟩ := tab_at htab ho (show rrcT[17]? = _ from rfl)
    simp only at hop hgd
    have h0 := frm_old ha 8 _ (hold 8 rfl) o8
    exact doesL_run ho (wanted_none hgd) (hpure 17 (by decide) L w' hW) (by rw [run_move _ _ _ hop]; exact congrArg (fun v => Result.ok (Next.value v) w') (eval_of h0))
  | 18, ho, hL, _ =>
    obtain ⟨hop, hdst, hgd⟩ := tab_at htab ho (show rrcT[18]? = _ from rfl)
    simp only at hop hgd
    have h0 := frm_at hdis ha 16 97 (hds 16 97 rfl) (by omega) (depl_of hdep 18 16 (by decide) ho hd)
    have h1 := frm_at hdis ha 17 98 (hds 17 98 rfl) (by omega) (depl_of hdep 18 17 (by decide) ho hd)
    exact doesL_run ho (wanted_none hgd) (hpure 18 (by decide) L w' hW) (run_ia33 _ _ _ _ hop _ _ _ _ _ i18 (eval_of h0) (eval_of h1) _)
  | 19, ho, hL, _ =>
    obtain ⟨hop, hdst, hgd⟩ := tab_at htab ho (show rrcT[19]? = _ from rfl)
    simp only at hop hgd
    have h0 := frm_at hdis ha 18 99 (hds 18 99 rfl) (by omega) (depl_of hdep 19 18 (by decide) ho hd)
    exact doesL_run ho (wanted_none hgd) (hpure 19 (by decide) L w' hW) (run_f71_1 _ _ _ hop _ _ (eval_of h0) _)
  | 20, ho, hL, _ =>
    obtain ⟨hop, hdst, hgd⟩ := tab_at htab ho (show rrcT[20]? = _ from rfl)
    simp only at hop hgd
    have h0 := frm_at hdis ha 19 100 (hds 19 100 rfl) (by omega) (depl_of hdep 20 19 (by decide) ho hd)
    exact doesL_run ho (wanted_none hgd) (hpure 20 (by decide) L w' hW) (run_ld3 _ _ _ hop _ _ (eval_of h0) _ (l20 L w' hW hL))
  | 21, ho, hL, _ =>
    obtain ⟨hop, hdst, hgd⟩ := tab_at htab ho (show rrcT[21]? = _ from rfl)
    simp only at hop hgd
    have h0 := frm_at hdis ha 13 94 (hds 13 94 rfl) (by omega) (depl_of hdep 21 13 (by decide) ho hd)
    have h1 := frm_at hdis ha 15 96 (hds 15 96 rfl) (by omega) (depl_of hdep 21 15 (by decide) ho hd)
    have h2 := frm_at hdis ha 20 101 (hds 20 101 rfl) (by omega) (depl_of hdep 21 20 (by decide) ho hd)
    refine doesL_call ho (wanted_none hgd) 71 #[S la, S x2, .int .i64 (s9 : Int)] ?_ (c21 L w' hW hL)
    rw [run_calls Try.func71 (by kernel_rfl) rfl _ _ _ _ hop rfl]
    simp only [List.map_toArray, List.map_cons, List.map_nil, eval_of h0, eval_of h1, eval_of h2]
    all_goals rfl
  | 22, ho, hL, _ =>
    obtain ⟨hop, hdst, hgd⟩ := tab_at htab ho (show rrcT[22]? = _ from rfl)
    simp only at hop hgd
    have h0 := frm_at hdis ha 3 84 (hds 3 84 rfl) (by omega) (depl_of hdep 22 3 (by decide) ho hd)
    have h1 := frm_at hdis ha 5 86 (hds 5 86 rfl) (by omega) (depl_of hdep 22 5 (by decide) ho hd)
    exact doesL_run ho (wanted_none hgd) (hpure 22 (by decide) L w' hW) (run_ia28 _ _ _ _ hop _ _ _ _ _ i22 (eval_of h0) (eval_of h1) _)
  | 23, ho, hL, _ =>
    obtain ⟨hop, hdst, hgd⟩ := tab_at htab ho (show rrcT[23]? = _ from rfl)
    simp only at hop hgd
    have h0 := frm_at hdis ha 22 103 (hds 22 103 rfl) (by omega) (depl_of hdep 23 22 (by decide) ho hd)
    have h1 := frm_at hdis ha 21 102 (hds 21 102 rfl) (by omega) (depl_of hdep 23 21 (by decide) ho hd)
    obtain ⟨s1, s2, s3⟩ := n23 L w' hW hL (depl_of hdep 23 21 (by decide) ho hd) (depl_of hdep 23 22 (by decide) ho hd) (depl_of hdep 23 3 (by decide) ho hd) (depl_of hdep 23 5 (by decide) ho hd) (depl_of hdep 23 9 (by decide) ho hd) (depl_of hdep 23 11 (by decide) ho hd) (depl_of hdep 23 13 (by decide) ho hd) (depl_of hdep 23 15 (by decide) ho hd) (depl_of hdep 23 20 (by decide) ho hd)
    exact doesL_skp ho (wanted_none hgd) rfl s1 (run_st9 _ _ _ _ hop _ _ (eval_of h0) (eval_of h1) _ s2 s3)
  | (i + 24), ho, hL, hi => exact absurd hi (by omega)
end Go.Proofs.Ytpelmacblglhoaa
