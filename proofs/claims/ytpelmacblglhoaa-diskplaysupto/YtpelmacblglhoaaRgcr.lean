import Derived.Test.YtpelmacblglhoaaDetl
namespace Go.Proofs.Ytpelmacblglhoaa
open Go.RowKit
theorem run_f87_1 (ρ : Operand → Value) (o : Oper) (x : Operand) (ho : o.op = .fieldAddr 87 x 1) (g q : Nat) (hx : ρ x = .pointer (some ⟨g, q, none⟩)) (w : World) : (execOp ρ o).run Try.prog w = .ok (.value (.pointer (some ⟨g, q + 1, none⟩))) w := by
  unfold execOp
  simp only [ho, hx]
  kernel_rfl
theorem run_f69_0 (ρ : Operand → Value) (o : Oper) (x : Operand) (ho : o.op = .fieldAddr 69 x 0) (g q : Nat) (hx : ρ x = .pointer (some ⟨g, q, none⟩)) (w : World) : (execOp ρ o).run Try.prog w = .ok (.value (.pointer (some ⟨g, q + 0, none⟩))) w := by
  unfold execOp
  simp only [ho, hx]
  kernel_rfl
theorem run_f69_1 (ρ : Operand → Value) (o : Oper) (x : Operand) (ho : o.op = .fieldAddr 69 x 1) (g q : Nat) (hx : ρ x = .pointer (some ⟨g, q, none⟩)) (w : World) : (execOp ρ o).run Try.prog w = .ok (.value (.pointer (some ⟨g, q + 1, none⟩))) w := by
  unfold execOp
  simp only [ho, hx]
  kernel_rfl
theorem run_f87_0 (ρ : Operand → Value) (o : Oper) (x : Operand) (ho : o.op = .fieldAddr 87 x 0) (g q : Nat) (hx : ρ x = .pointer (some ⟨g, q, none⟩)) (w : World) : (execOp ρ o).run Try.prog w = .ok (.value (.pointer (some ⟨g, q + 0, none⟩))) w := by
  unfold execOp
  simp only [ho, hx]
  kernel_rfl
theorem run_ld28 (ρ : Operand → Value) (o : Oper) (x : Operand) (ho : o.op = .load 28 x) (p : Addr) (v : Value) (ha : ρ x = .pointer (some p)) (w : World) (hc : w.cell? p = some v) : (execOp ρ o).run Try.prog w = .ok (.value v) w := by
  unfold execOp
  simp only [ho, ha]
  simp [Instr.loadAt, go_sem, hc, Try.isAgg28]
theorem run_ia28 (ρ : Operand → Value) (o : Oper) (x y : Operand) (ho : o.op = .indexAddr 28 x y) (g q n cap k : Nat) (hk : k < n) (hx : ρ x = .slice (some ⟨g, q, none⟩) n cap) (hy : ρ y = .int .i64 (k : Int)) (w : World) : (execOp ρ o).run Try.prog w = .ok (.value (.pointer (some ⟨g, q + k, none⟩))) w := by
  unfold execOp
  simp only [ho, hx, hy]
  have h1 : (k : Int) < (n : Int) := by omega
  have u := Try.underlying28
  have z := Try.sizeOf9
  simp [go_sem, u, z, h1]
theorem run_ia60 (ρ : Operand → Value) (o : Oper) (x y : Operand) (ho : o.op = .indexAddr 60 x y) (g q n cap k : Nat) (hk : k < n) (hx : ρ x = .slice (some ⟨g, q, none⟩) n cap) (hy : ρ y = .int .i64 (k : Int)) (w : World) : (execOp ρ o).run Try.prog w = .ok (.value (.pointer (some ⟨g, q + k, none⟩))) w := by
  unfold execOp
  simp only [ho, hx, hy]
  have h1 : (k : Int) < (n : Int) := by omega
  have u := Try.underlying60
  have z := Try.sizeOf3
  simp [go_sem, u, z, h1]
theorem run_st9 (ρ : Operand → Value) (o : Oper) (x y : Operand) (ho : o.op = .store 9 x y) (p : Addr) (v : ByteArray) (ha : ρ x = .pointer (some p)) (hy : ρ y = .string v) (w : World) (hc : ∃ u, w.cell? p = some u) (hf : w.frozen? p = false) : (execOp ρ o).run Try.prog w = .ok .skip (w.setCell p (.string v)) := by
  obtain ⟨u, hc⟩ := hc
  have h1 : (Value.string v).oneCell' = true := rfl
  have s0 : (store p (.string v)).run Try.prog w = .ok () (w.setCell p (.string v)) := by
    rw [run_store _ _ _ _ _ h1, hc]
    simp [hf]
  unfold execOp
  simp only [ho, ha, hy]
  simp [go_sem, s0, Result.andThen]
def rcrT : List (Op × Option Tmp × Option (Nat × Bool)) := [
  (.move (.tmp 0), some 29, none),
  (.nilCheck (.tmp 29), some 30, none),
  (.fieldAddr 87 (.tmp 30) 1, some 31, none),
  (.load 28 (.tmp 31), some 32, none),
  (.fieldAddr 69 (.tmp 8) 0, some 33, none),
  (.load 3 (.tmp 33), some 34, none),
  (.move (.tmp 0), some 35, none),
  (.nilCheck (.tmp 35), some 36, none),
  (.fieldAddr 87 (.tmp 36) 1, some 37, none),
  (.load 28 (.tmp 37), some 38, none),
  (.fieldAddr 69 (.tmp 8) 0, some 39, none),
  (.load 3 (.tmp 39), some 40, none),
  (.indexAddr 28 (.tmp 38) (.tmp 40), some 41, none),
  (.load 9 (.tmp 41), some 42, none),
  (.fieldAddr 69 (.tmp 8) 1, some 43, none),
  (.load 9 (.tmp 43), some 44, none),
  (.move (.tmp 5), some 45, none),
  (.move (.tmp 7), some 46, none),
  (.indexAddr 60 (.tmp 45) (.tmp 46), some 47, none),
  (.load 3 (.tmp 47), some 48, none),
  (.call { callee := .value (.func 53), args := #[(.tmp 42), (.tmp 44), (.tmp 48)], argTypes := #[9, 9, 3] }, some 49, none),
  (.indexAddr 28 (.tmp 32) (.tmp 34), some 50, none),
  (.store 9 (.tmp 50) (.tmp 49), none, none)]
def rcrD : List (Nat × Nat) := [(1, 0), (2, 1), (3, 2), (5, 4), (7, 6), (8, 7), (9, 8), (11, 10), (12, 9), (12, 11), (13, 12), (15, 14), (18, 16), (18, 17), (19, 18), (20, 13), (20, 15), (20, 19), (21, 3), (21, 5), (22, 3), (22, 5), (22, 9), (22, 11), (22, 13), (22, 15), (22, 19), (22, 20), (22, 21)]
set_option maxHeartbeats 2000000 in
theorem rcr {ops : Array Oper} {id : Nat} {Q : Exit → Act → World → Prop} (D g n2 cap2 T g1 m k x1 s9 : Nat) (la x2 tv : Bs) (htab : ops.toList.map (fun o => (o.op, o.dst, o.guard)) = rcrT) (hdep : deplB rcrD ops = true) (hac : acB ops = true)
    (a0 : Act) (w : World) (hsz : 51 ≤ a0.tmps.size) (o0 : a0.tmps[0]? = some (.pointer (some ⟨D, 0, none⟩))) (o5 : a0.tmps[5]? = some (.slice (some ⟨g1, 0, none⟩) m m)) (o7 : a0.tmps[7]? = some (.int .i64 (k : Int))) (o8 : a0.tmps[8]? = some (.pointer (some ⟨T, 0, none⟩)))
    (Wd : (Nat → Bool) → World → Prop) (h0 : Wd (fun _ => false) w.drew) (hpure : ∀ i, i ∉ ([20, 22] : List Nat) → ∀ L W, Wd L W → Wd (upd L i) W)
    (i12 : x1 < n2) (i18 : k < m) (i21 : x1 < n2)
    (l3 : ∀ L W, Wd L W → L 3 = false → W.cell? ⟨D, 0 + 1, none⟩ = some (.slice (some ⟨g, 0, none⟩) n2 cap2))
    (l5 : ∀ L W, Wd L W → L 5 = false → W.cell? ⟨T, 0 + 0, none⟩ = some (.int .i64 (x1 : Int)))
    (l9 : ∀ L W, Wd L W → L 9 = false → W.cell? ⟨D, 0 + 1, none⟩ = some (.slice (some ⟨g, 0, none⟩) n2 cap2))
    (l11 : ∀ L W, Wd L W → L 11 = false → W.cell? ⟨T, 0 + 0, none⟩ = some (.int .i64 (x1 : Int)))
    (l13 : ∀ L W, Wd L W → L 13 = false → W.cell? ⟨g, 0 + x1, none⟩ = some (S la))
    (l15 : ∀ L W, Wd L W → L 15 = false → W.cell? ⟨T, 0 + 1, none⟩ = some (S x2))
    (l19 : ∀ L W, Wd L W → L 19 = false → W.cell? ⟨g1, 0 + k, none⟩ = some (.int .i64 (s9 : Int)))
    (c20 : ∀ L W, Wd L W → L 20 = false → Calls Try.prog 53 #[S la, S x2, .int .i64 (s9 : Int)] W fun e w' => e = .returned (S tv) ∧ Wd (upd L 20) w')
    (n22 : ∀ L W, Wd L W → L 22 = false → L 20 = true → L 21 = true → L 3 = true → L 5 = true → L 9 = true → L 11 = true → L 13 = true → L 15 = true → L 19 = true → Wd (upd L 22) (W.setCell ⟨g, 0 + x1, none⟩ (S tv)) ∧ (∃ u, W.cell? ⟨g, 0 + x1, none⟩ = some u) ∧ W.frozen? ⟨g, 0 + x1, none⟩ = false)
    (hend : ∀ L W, (∀ i, i < 23 → L i = true) → Wd L W → Q .normal ((((((((((((((((((((((a0.put (some 29) (.pointer (some ⟨D, 0, none⟩))).put (some 30) (.pointer (some ⟨D, 0, none⟩))).put (some 31) (.pointer (some ⟨D, 0 + 1, none⟩))).put (some 32) (.slice (some ⟨g, 0, none⟩) n2 cap2)).put (some 33) (.pointer (some ⟨T, 0 + 0, none⟩))).put (some 34) (.int .i64 (x1 : Int))).put (some 35) (.pointer (some ⟨D, 0, none⟩))).put (some 36) (.pointer (some ⟨D, 0, none⟩))).put (some 37) (.pointer (some ⟨D, 0 + 1, none⟩))).put (some 38) (.slice (some ⟨g, 0, none⟩) n2 cap2)).put (some 39) (.pointer (some ⟨T, 0 + 0, none⟩))).put (some 40) (.int .i64 (x1 : Int))).put (some 41) (.pointer (some ⟨g, 0 + x1, none⟩))).put (some 42) (S la)).put (some 43) (.pointer (some ⟨T, 0 + 1, none⟩))).put (some 44) (S x2)).put (some 45) (.slice (some ⟨g1, 0, none⟩) m m)).put (some 46) (.int .i64 (k : Int))).put (some 47) (.pointer (some ⟨g1, 0 + k, none⟩))).put (some 48) (.int .i64 (s9 : Int))).put (some 49) (S tv)).put (some 50) (.pointer (some ⟨g, 0 + x1, none⟩))) W) : (Code.region id ops true).wp Try.prog Q a0 w := by
  let val : Nat → Value := fun i => match i with
    | 0 => (.pointer (some ⟨D, 0, none⟩))
    | 1 => (.pointer (some ⟨D, 0, none⟩))
    | 2 => (.pointer (some ⟨D, 0 + 1, none⟩))
    | 3 => (.slice (some ⟨g, 0, none⟩) n2 cap2)
    | 4 => (.pointer (some ⟨T, 0 + 0, none⟩))
    | 5 => (.int .i64 (x1 : Int))
    | 6 => (.pointer (some ⟨D, 0, none⟩))
    | 7 => (.pointer (some ⟨D, 0, none⟩))
    | 8 => (.pointer (some ⟨D, 0 + 1, none⟩))
    | 9 => (.slice (some ⟨g, 0, none⟩) n2 cap2)
    | 10 => (.pointer (some ⟨T, 0 + 0, none⟩))
    | 11 => (.int .i64 (x1 : Int))
    | 12 => (.pointer (some ⟨g, 0 + x1, none⟩))
    | 13 => (S la)
    | 14 => (.pointer (some ⟨T, 0 + 1, none⟩))
    | 15 => (S x2)
    | 16 => (.slice (some ⟨g1, 0, none⟩) m m)
    | 17 => (.int .i64 (k : Int))
    | 18 => (.pointer (some ⟨g1, 0 + k, none⟩))
    | 19 => (.int .i64 (s9 : Int))
    | 20 => (S tv)
    | 21 => (.pointer (some ⟨g, 0 + x1, none⟩))
    | 22 => undef
    | _ => undef
  have hosz : ops.size = 23 := by
    have := congrArg List.length htab
    simpa [rcrT] using this
  have hds : ∀ i s, (rcrT[i]?).bind (·.2.1) = some s → dstOf ops i = some s := fun i s hi => by rw [tab_dst htab, hi]
  have hdisB : disL rcrT = true := by rfl
  have hdis := disL_of htab hdisB
  have hold : ∀ s, rcrT.all (fun x => !(x.2.1 == some s)) = true → (List.range ops.size).all (fun j => !(dstOf ops j == some s)) = true := fun s h => holdL htab s h
  refine region_detL val Wd (hac_of hac) hdis h0 ?_ ?_
  rotate_left
  · intro L W hall hW
    have := hend L W (by rw [← hosz]; exact hall) hW
    have e : frm ops a0 val (fun _ => true) ops.size = ((((((((((((((((((((((a0.put (some 29) (.pointer (some ⟨D, 0, none⟩))).put (some 30) (.pointer (some ⟨D, 0, none⟩))).put (some 31) (.pointer (some ⟨D, 0 + 1, none⟩))).put (some 32) (.slice (some ⟨g, 0, none⟩) n2 cap2)).put (some 33) (.pointer (some ⟨T, 0 + 0, none⟩))).put (some 34) (.int .i64 (x1 : Int))).put (some 35) (.pointer (some ⟨D, 0, none⟩))).put (some 36) (.pointer (some ⟨D, 0, none⟩))).put (some 37) (.pointer (some ⟨D, 0 + 1, none⟩))).put (some 38) (.slice (some ⟨g, 0, none⟩) n2 cap2)).put (some 39) (.pointer (some ⟨T, 0 + 0, none⟩))).put (some 40) (.int .i64 (x1 : Int))).put (some 41) (.pointer (some ⟨g, 0 + x1, none⟩))).put (some 42) (S la)).put (some 43) (.pointer (some ⟨T, 0 + 1, none⟩))).put (some 44) (S x2)).put (some 45) (.slice (some ⟨g1, 0, none⟩) m m)).put (some 46) (.int .i64 (k : Int))).put (some 47) (.pointer (some ⟨g1, 0 + k, none⟩))).put (some 48) (.int .i64 (s9 : Int))).put (some 49) (S tv)).put (some 50) (.pointer (some ⟨g, 0 + x1, none⟩))) := by
      rw [hosz]
      simp only [frm, if_true]
      rw [tab_dst htab 0, tab_dst htab 1, tab_dst htab 2, tab_dst htab 3, tab_dst htab 4, tab_dst htab 5, tab_dst htab 6, tab_dst htab 7, tab_dst htab 8, tab_dst htab 9, tab_dst htab 10, tab_dst htab 11, tab_dst htab 12, tab_dst htab 13, tab_dst htab 14, tab_dst htab 15, tab_dst htab 16, tab_dst htab 17, tab_dst htab 18, tab_dst htab 19, tab_dst htab 20, tab_dst htab 21, (show dstOf ops 22 = none from (tab_dst htab 22).trans rfl), put_none]
      rfl
    rw [e]
    exact this
  intro i o ho L a w' hL hd ha hW
  have hi : i < 23 := by rw [← hosz]; exact (Array.getElem?_eq_some_iff.1 ho).1
  match i, ho, hL, hi with
  | 0, ho, hL, _ =>
    obtain ⟨hop, hdst, hgd⟩ := tab_at htab ho (show rcrT[0]? = _ from rfl)
    simp only at hop hgd
    have h0 := frm_old ha 0 _ (hold 0 rfl) o0
    exact doesL_run ho (wanted_none hgd) (hpure 0 (by decide) L w' hW) (by rw [run_move _ _ _ hop]; exact congrArg (fun v => Result.ok (Next.value v) w') (eval_of h0))
  | 1, ho, hL, _ =>
    obtain ⟨hop, hdst, hgd⟩ := tab_at htab ho (show rcrT[1]? = _ from rfl)
    simp only at hop hgd
    have h0 := frm_at hdis ha 0 29 (hds 0 29 rfl) (by omega) (depl_of hdep 1 0 (by decide) ho hd)
    exact doesL_run ho (wanted_none hgd) (hpure 1 (by decide) L w' hW) (run_nil _ _ _ hop _ (eval_of h0) _)
  | 2, ho, hL, _ =>
    obtain ⟨hop, hdst, hgd⟩ := tab_at htab ho (show rcrT[2]? = _ from rfl)
    simp only at hop hgd
    have h0 := frm_at hdis ha 1 30 (hds 1 30 rfl) (by omega) (depl_of hdep 2 1 (by decide) ho hd)
    exact doesL_run ho (wanted_none hgd) (hpure 2 (by decide) L w' hW) (run_f87_1 _ _ _ hop _ _ (eval_of h0) _)
  | 3, ho, hL, _ =>
    obtain ⟨hop, hdst, hgd⟩ := tab_at htab ho (show rcrT[3]? = _ from rfl)
    simp only at hop hgd
    have h0 := frm_at hdis ha 2 31 (hds 2 31 rfl) (by omega) (depl_of hdep 3 2 (by decide) ho hd)
    exact doesL_run ho (wanted_none hgd) (hpure 3 (by decide) L w' hW) (run_ld28 _ _ _ hop _ _ (eval_of h0) _ (l3 L w' hW hL))
  | 4, ho, hL, _ =>
    obtain ⟨hop, hdst, hgd⟩ := tab_at htab ho (show rcrT[4]? = _ from rfl)
    simp only at hop hgd
    have h0 := frm_old ha 8 _ (hold 8 rfl) o8
    exact doesL_run ho (wanted_none hgd) (hpure 4 (by decide) L w' hW) (run_f69_0 _ _ _ hop _ _ (eval_of h0) _)
  | 5, ho, hL, _ =>
    obtain ⟨hop, hdst, hgd⟩ := tab_at htab ho (show rcrT[5]? = _ from rfl)
    simp only at hop hgd
    have h0 := frm_at hdis ha 4 33 (hds 4 33 rfl) (by omega) (depl_of hdep 5 4 (by decide) ho hd)
    exact doesL_run ho (wanted_none hgd) (hpure 5 (by decide) L w' hW) (run_ld3 _ _ _ hop _ _ (eval_of h0) _ (l5 L w' hW hL))
  | 6, ho, hL, _ =>
    obtain ⟨hop, hdst, hgd⟩ := tab_at htab ho (show rcrT[6]? = _ from rfl)
    simp only at hop hgd
    have h0 := frm_old ha 0 _ (hold 0 rfl) o0
    exact doesL_run ho (wanted_none hgd) (hpure 6 (by decide) L w' hW) (by rw [run_move _ _ _ hop]; exact congrArg (fun v => Result.ok (Next.value v) w') (eval_of h0))
  | 7, ho, hL, _ =>
    obtain ⟨hop, hdst, hgd⟩ := tab_at htab ho (show rcrT[7]? = _ from rfl)
    simp only at hop hgd
    have h0 := frm_at hdis ha 6 35 (hds 6 35 rfl) (by omega) (depl_of hdep 7 6 (by decide) ho hd)
    exact doesL_run ho (wanted_none hgd) (hpure 7 (by decide) L w' hW) (run_nil _ _ _ hop _ (eval_of h0) _)
  | 8, ho, hL, _ =>
    obtain ⟨hop, hdst, hgd⟩ := tab_at htab ho (show rcrT[8]? = _ from rfl)
    simp only at hop hgd
    have h0 := frm_at hdis ha 7 36 (hds 7 36 rfl) (by omega) (depl_of hdep 8 7 (by decide) ho hd)
    exact doesL_run ho (wanted_none hgd) (hpure 8 (by decide) L w' hW) (run_f87_1 _ _ _ hop _ _ (eval_of h0) _)
  | 9, ho, hL, _ =>
    obtain ⟨hop, hdst, hgd⟩ := tab_at htab ho (show rcrT[9]? = _ from rfl)
    simp only at hop hgd
    have h0 := frm_at hdis ha 8 37 (hds 8 37 rfl) (by omega) (depl_of hdep 9 8 (by decide) ho hd)
    exact doesL_run ho (wanted_none hgd) (hpure 9 (by decide) L w' hW) (run_ld28 _ _ _ hop _ _ (eval_of h0) _ (l9 L w' hW hL))
  | 10, ho, hL, _ =>
    obtain ⟨hop, hdst, hgd⟩ := tab_at htab ho (show rcrT[10]? = _ from rfl)
    simp only at hop hgd
    have h0 := frm_old ha 8 _ (hold 8 rfl) o8
    exact doesL_run ho (wanted_none hgd) (hpure 10 (by decide) L w' hW) (run_f69_0 _ _ _ hop _ _ (eval_of h0) _)
  | 11, ho, hL, _ =>
    obtain ⟨hop, hdst, hgd⟩ := tab_at htab ho (show rcrT[11]? = _ from rfl)
    simp only at hop hgd
    have h0 := frm_at hdis ha 10 39 (hds 10 39 rfl) (by omega) (depl_of hdep 11 10 (by decide) ho hd)
    exact doesL_run ho (wanted_none hgd) (hpure 11 (by decide) L w' hW) (run_ld3 _ _ _ hop _ _ (eval_of h0) _ (l11 L w' hW hL))
  | 12, ho, hL, _ =>
    obtain ⟨hop, hdst, hgd⟩ := tab_at htab ho (show rcrT[12]? = _ from rfl)
    simp only at hop hgd
    have h0 := frm_at hdis ha 9 38 (hds 9 38 rfl) (by omega) (depl_of hdep 12 9 (by decide) ho hd)
    have h1 := frm_at hdis ha 11 40 (hds 11 40 rfl) (by omega) (depl_of hdep 12 11 (by decide) ho hd)
    exact doesL_run ho (wanted_none hgd) (hpure 12 (by decide) L w' hW) (run_ia28 _ _ _ _ hop _ _ _ _ _ i12 (eval_of h0) (eval_of h1) _)
  | 13, ho, hL, _ =>
    obtain ⟨hop, hdst, hgd⟩ := tab_at htab ho (show rcrT[13]? = _ from rfl)
    simp only at hop hgd
    have h0 := frm_at hdis ha 12 41 (hds 12 41 rfl) (by omega) (depl_of hdep 13 12 (by decide) ho hd)
    exact doesL_run ho (wanted_none hgd) (hpure 13 (by decide) L w' hW) (run_ld _ _ _ hop _ _ (eval_of h0) _ (l13 L w' hW hL))
  | 14, ho, hL, _ =>
    obtain ⟨hop, hdst, hgd⟩ := tab_at htab ho (show rcrT[14]? = _ from rfl)
    simp only at hop hgd
    have h0 := frm_old ha 8 _ (hold 8 rfl) o8
    exact doesL_run ho (wanted_none hgd) (hpure 14 (by decide) L w' hW) (run_f69_1 _ _ _ hop _ _ (eval_of h0) _)
  | 15, ho, hL, _ =>
    obtain ⟨hop, hdst, hgd⟩ := tab_at htab ho (show rcrT[15]? = _ from rfl)
    simp only at hop hgd
    have h0 := frm_at hdis ha 14 43 (hds 14 43 rfl) (by omega) (depl_of hdep 15 14 (by decide) ho hd)
    exact doesL_run ho (wanted_none hgd) (hpure 15 (by decide) L w' hW) (run_ld _ _ _ hop _ _ (eval_of h0) _ (l15 L w' hW hL))
  | 16, ho, hL, _ =>
    obtain ⟨hop, hdst, hgd⟩ := tab_at htab ho (show rcrT[16]? = _ from rfl)
    simp only at hop hgd
    have h0 := frm_old ha 5 _ (hold 5 rfl) o5
    exact doesL_run ho (wanted_none hgd) (hpure 16 (by decide) L w' hW) (by rw [run_move _ _ _ hop]; exact congrArg (fun v => Result.ok (Next.value v) w') (eval_of h0))
  | 17, ho, hL, _ =>
    obtain ⟨hop, hdst, hgd⟩ := tab_at htab ho (show rcrT[17]? = _ from rfl)
    simp only at hop hgd
    have h0 := frm_old ha 7 _ (hold 7 rfl) o7
    exact doesL_run ho (wanted_none hgd) (hpure 17 (by decide) L w' hW) (by rw [run_move _ _ _ hop]; exact congrArg (fun v => Result.ok (Next.value v) w') (eval_of h0))
  | 18, ho, hL, _ =>
    obtain ⟨hop, hdst, hgd⟩ := tab_at htab ho (show rcrT[18]? = _ from rfl)
    simp only at hop hgd
    have h0 := frm_at hdis ha 16 45 (hds 16 45 rfl) (by omega) (depl_of hdep 18 16 (by decide) ho hd)
    have h1 := frm_at hdis ha 17 46 (hds 17 46 rfl) (by omega) (depl_of hdep 18 17 (by decide) ho hd)
    exact doesL_run ho (wanted_none hgd) (hpure 18 (by decide) L w' hW) (run_ia60 _ _ _ _ hop _ _ _ _ _ i18 (eval_of h0) (eval_of h1) _)
  | 19, ho, hL, _ =>
    obtain ⟨hop, hdst, hgd⟩ := tab_at htab ho (show rcrT[19]? = _ from rfl)
    simp only at hop hgd
    have h0 := frm_at hdis ha 18 47 (hds 18 47 rfl) (by omega) (depl_of hdep 19 18 (by decide) ho hd)
    exact doesL_run ho (wanted_none hgd) (hpure 19 (by decide) L w' hW) (run_ld3 _ _ _ hop _ _ (eval_of h0) _ (l19 L w' hW hL))
  | 20, ho, hL, _ =>
    obtain ⟨hop, hdst, hgd⟩ := tab_at htab ho (show rcrT[20]? = _ from rfl)
    simp only at hop hgd
    have h0 := frm_at hdis ha 13 42 (hds 13 42 rfl) (by omega) (depl_of hdep 20 13 (by decide) ho hd)
    have h1 := frm_at hdis ha 15 44 (hds 15 44 rfl) (by omega) (depl_of hdep 20 15 (by decide) ho hd)
    have h2 := frm_at hdis ha 19 48 (hds 19 48 rfl) (by omega) (depl_of hdep 20 19 (by decide) ho hd)
    refine doesL_call ho (wanted_none hgd) 53 #[S la, S x2, .int .i64 (s9 : Int)] ?_ (c20 L w' hW hL)
    rw [run_calls Try.func53 (by kernel_rfl) rfl _ _ _ _ hop rfl]
    simp only [List.map_toArray, List.map_cons, List.map_nil, eval_of h0, eval_of h1, eval_of h2]
    all_goals rfl
  | 21, ho, hL, _ =>
    obtain ⟨hop, hdst, hgd⟩ := tab_at htab ho (show rcrT[21]? = _ from rfl)
    simp only at hop hgd
    have h0 := frm_at hdis ha 3 32 (hds 3 32 rfl) (by omega) (depl_of hdep 21 3 (by decide) ho hd)
    have h1 := frm_at hdis ha 5 34 (hds 5 34 rfl) (by omega) (depl_of hdep 21 5 (by decide) ho hd)
    exact doesL_run ho (wanted_none hgd) (hpure 21 (by decide) L w' hW) (run_ia28 _ _ _ _ hop _ _ _ _ _ i21 (eval_of h0) (eval_of h1) _)
  | 22, ho, hL, _ =>
    obtain ⟨hop, hdst, hgd⟩ := tab_at htab ho (show rcrT[22]? = _ from rfl)
    simp only at hop hgd
    have h0 := frm_at hdis ha 21 50 (hds 21 50 rfl) (by omega) (depl_of hdep 22 21 (by decide) ho hd)
    have h1 := frm_at hdis ha 20 49 (hds 20 49 rfl) (by omega) (depl_of hdep 22 20 (by decide) ho hd)
    obtain ⟨s1, s2, s3⟩ := n22 L w' hW hL (depl_of hdep 22 20 (by decide) ho hd) (depl_of hdep 22 21 (by decide) ho hd) (depl_of hdep 22 3 (by decide) ho hd) (depl_of hdep 22 5 (by decide) ho hd) (depl_of hdep 22 9 (by decide) ho hd) (depl_of hdep 22 11 (by decide) ho hd) (depl_of hdep 22 13 (by decide) ho hd) (depl_of hdep 22 15 (by decide) ho hd) (depl_of hdep 22 19 (by decide) ho hd)
    exact doesL_skp ho (wanted_none hgd) rfl s1 (run_st9 _ _ _ _ hop _ _ (eval_of h0) (eval_of h1) _ s2 s3)
  | (i + 23), ho, hL, hi => exact absurd hi (by omega)
end Go.Proofs.Ytpelmacblglhoaa
