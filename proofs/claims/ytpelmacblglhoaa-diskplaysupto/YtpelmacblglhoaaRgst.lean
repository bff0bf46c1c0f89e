import Derived.Test.YtpelmacblglhoaaRgka
import Derived.Test.YtpelmacblglhoaaZzbi
namespace Go.Proofs.Ytpelmacblglhoaa
open Go.RowKit
theorem run_f30_1 (ρ : Operand → Value) (o : Oper) (x : Operand) (ho : o.op = .fieldAddr 30 x 1) (g q : Nat) (hx : ρ x = .pointer (some ⟨g, q, none⟩)) (w : World) : (execOp ρ o).run Try.prog w = .ok (.value (.pointer (some ⟨g, q + 1, none⟩))) w := by
  unfold execOp
  simp only [ho, hx]
  kernel_rfl
theorem run_f30_2 (ρ : Operand → Value) (o : Oper) (x : Operand) (ho : o.op = .fieldAddr 30 x 2) (g q : Nat) (hx : ρ x = .pointer (some ⟨g, q, none⟩)) (w : World) : (execOp ρ o).run Try.prog w = .ok (.value (.pointer (some ⟨g, q + 2, none⟩))) w := by
  unfold execOp
  simp only [ho, hx]
  kernel_rfl
theorem run_f30_3 (ρ : Operand → Value) (o : Oper) (x : Operand) (ho : o.op = .fieldAddr 30 x 3) (g q : Nat) (hx : ρ x = .pointer (some ⟨g, q, none⟩)) (w : World) : (execOp ρ o).run Try.prog w = .ok (.value (.pointer (some ⟨g, q + 3, none⟩))) w := by
  unfold execOp
  simp only [ho, hx]
  kernel_rfl
theorem run_f30_4 (ρ : Operand → Value) (o : Oper) (x : Operand) (ho : o.op = .fieldAddr 30 x 4) (g q : Nat) (hx : ρ x = .pointer (some ⟨g, q, none⟩)) (w : World) : (execOp ρ o).run Try.prog w = .ok (.value (.pointer (some ⟨g, q + 4, none⟩))) w := by
  unfold execOp
  simp only [ho, hx]
  kernel_rfl
theorem run_f30_5 (ρ : Operand → Value) (o : Oper) (x : Operand) (ho : o.op = .fieldAddr 30 x 5) (g q : Nat) (hx : ρ x = .pointer (some ⟨g, q, none⟩)) (w : World) : (execOp ρ o).run Try.prog w = .ok (.value (.pointer (some ⟨g, q + 5, none⟩))) w := by
  unfold execOp
  simp only [ho, hx]
  kernel_rfl
theorem run_f30_6 (ρ : Operand → Value) (o : Oper) (x : Operand) (ho : o.op = .fieldAddr 30 x 6) (g q : Nat) (hx : ρ x = .pointer (some ⟨g, q, none⟩)) (w : World) : (execOp ρ o).run Try.prog w = .ok (.value (.pointer (some ⟨g, q + 6, none⟩))) w := by
  unfold execOp
  simp only [ho, hx]
  kernel_rfl
theorem run_ld26 (ρ : Operand → Value) (o : Oper) (x : Operand) (ho : o.op = .load 26 x) (p : Addr) (v : Value) (ha : ρ x = .pointer (some p)) (w : World) (hc : w.cell? p = some v) : (execOp ρ o).run Try.prog w = .ok (.value v) w := by
  unfold execOp
  simp only [ho, ha]
  simp [Instr.loadAt, go_sem, hc, Try.isAgg26]
theorem run_ld27 (ρ : Operand → Value) (o : Oper) (x : Operand) (ho : o.op = .load 27 x) (p : Addr) (v : Value) (ha : ρ x = .pointer (some p)) (w : World) (hc : w.cell? p = some v) : (execOp ρ o).run Try.prog w = .ok (.value v) w := by
  unfold execOp
  simp only [ho, ha]
  simp [Instr.loadAt, go_sem, hc, Try.isAgg27]
theorem run_ld43 (ρ : Operand → Value) (o : Oper) (x : Operand) (ho : o.op = .load 43 x) (p : Addr) (v : Value) (ha : ρ x = .pointer (some p)) (w : World) (hc : w.cell? p = some v) : (execOp ρ o).run Try.prog w = .ok (.value v) w := by
  unfold execOp
  simp only [ho, ha]
  simp [Instr.loadAt, go_sem, hc, Try.isAgg43]
theorem run_ia26 (ρ : Operand → Value) (o : Oper) (x y : Operand) (ho : o.op = .indexAddr 26 x y) (g q n cap k : Nat) (hk : k < n) (hx : ρ x = .slice (some ⟨g, q, none⟩) n cap) (hy : ρ y = .int .i64 (k : Int)) (w : World) : (execOp ρ o).run Try.prog w = .ok (.value (.pointer (some ⟨g, q + k, none⟩))) w := by
  unfold execOp
  simp only [ho, hx, hy]
  have h1 : (k : Int) < (n : Int) := by omega
  have u := Try.underlying26
  have z := Try.sizeOf28
  simp [go_sem, u, z, h1]
theorem run_ia27 (ρ : Operand → Value) (o : Oper) (x y : Operand) (ho : o.op = .indexAddr 27 x y) (g q n cap k : Nat) (hk : k < n) (hx : ρ x = .slice (some ⟨g, q, none⟩) n cap) (hy : ρ y = .int .i64 (k : Int)) (w : World) : (execOp ρ o).run Try.prog w = .ok (.value (.pointer (some ⟨g, q + k, none⟩))) w := by
  unfold execOp
  simp only [ho, hx, hy]
  have h1 : (k : Int) < (n : Int) := by omega
  have u := Try.underlying27
  have z := Try.sizeOf43
  simp [go_sem, u, z, h1]
theorem run_addi (ρ : Operand → Value) (o : Oper) (x y : Operand) (ho : o.op = .binOp .add 3 x y 3) (a b : Int) (hx : ρ x = .int .i64 a) (hy : ρ y = .int .i64 b) (h0 : -9223372036854775808 ≤ a + b) (h1 : a + b ≤ 9223372036854775807) (w : World) : (execOp ρ o).run Try.prog w = .ok (.value (.int .i64 (a + b))) w := by
  unfold execOp
  simp only [ho, hx, hy]
  simp [go_sem]
  rw [IntKind.wrap_i64]
  omega
theorem run_quo12 (ρ : Operand → Value) (o : Oper) (x : Operand) (ho : o.op = .binOp .quo 3 x (.const (.int .i64 12)) 3) (a : Nat) (ha : a ≤ 1000000000000) (hx : ρ x = .int .i64 (a : Int)) (hy : ρ (.const (.int .i64 12)) = .int .i64 12) (w : World) : (execOp ρ o).run Try.prog w = .ok (.value (.int .i64 ((a / 12 : Nat) : Int))) w := by
  unfold execOp
  simp only [ho, hx, hy]
  simp [go_sem]
  rw [IntKind.wrap_i64]
  omega
def rsaT : List (Op × Option Tmp × Option (Nat × Bool)) := [
  (.move (.tmp 0), some 32, none),
  (.nilCheck (.tmp 32), some 33, none),
  (.fieldAddr 30 (.tmp 33) 1, some 34, none),
  (.load 26 (.tmp 34), some 35, none),
  (.move (.tmp 3), some 36, none),
  (.indexAddr 26 (.tmp 35) (.tmp 36), some 37, none),
  (.load 28 (.tmp 37), some 38, none),
  (.move (.tmp 0), some 39, none),
  (.nilCheck (.tmp 39), some 40, none),
  (.fieldAddr 30 (.tmp 40) 2, some 41, none),
  (.load 26 (.tmp 41), some 42, none),
  (.move (.tmp 3), some 43, none),
  (.indexAddr 26 (.tmp 42) (.tmp 43), some 44, none),
  (.load 28 (.tmp 44), some 45, none),
  (.call { callee := .value (.func 10), args := #[(.tmp 38), (.tmp 45)], argTypes := #[28, 28] }, some 46, none),
  (.assign (.tmp 46), some 4, none)]
def rsaD : List (Nat × Nat) := [(1, 0), (2, 1), (3, 2), (5, 3), (5, 4), (6, 5), (8, 7), (9, 8), (10, 9), (12, 10), (12, 11), (13, 12), (14, 6), (14, 13), (15, 14)]
set_option maxHeartbeats 2000000 in
theorem rsa {ops : Array Oper} {id : Nat} {Q : Exit → Act → World → Prop} (Z G n cap H n2 cap2 r : Nat) (V1 V2 : Value) (htab : ops.toList.map (fun o => (o.op, o.dst, o.guard)) = rsaT) (hdep : deplB rsaD ops = true) (hac : acB ops = true)
    (a0 : Act) (w : World) (hsz : 47 ≤ a0.tmps.size) (o0 : a0.tmps[0]? = some (.pointer (some ⟨Z, 0, none⟩))) (o3 : a0.tmps[3]? = some (.int .i64 (r : Int)))
    (Wd : (Nat → Bool) → World → Prop) (h0 : Wd (fun _ => false) w.drew) (hpure : ∀ i, i ∉ ([14] : List Nat) → ∀ L W, Wd L W → Wd (upd L i) W)
    (i5 : r < n) (i12 : r < n2) (l3 : ∀ L W, Wd L W → W.cell? ⟨Z, 0 + 1, none⟩ = some (.slice (some ⟨G, 0, none⟩) n cap))
    (l6 : ∀ L W, Wd L W → W.cell? ⟨G, 0 + r, none⟩ = some V1) (l10 : ∀ L W, Wd L W → W.cell? ⟨Z, 0 + 2, none⟩ = some (.slice (some ⟨H, 0, none⟩) n2 cap2))
    (l13 : ∀ L W, Wd L W → W.cell? ⟨H, 0 + r, none⟩ = some V2)
    (c14 : ∀ L W, Wd L W → L 14 = false → Calls Try.prog 10 #[V1, V2] W fun e w' => e = .returned (.bool true) ∧ Wd (upd L 14) w')
    (hend : ∀ L W, (∀ i, i < 16 → L i = true) → Wd L W → Q .normal ((((((((((((((((a0.put (some 32) (.pointer (some ⟨Z, 0, none⟩))).put (some 33) (.pointer (some ⟨Z, 0, none⟩))).put (some 34) (.pointer (some ⟨Z, 0 + 1, none⟩))).put (some 35) (.slice (some ⟨G, 0, none⟩) n cap)).put (some 36) (.int .i64 (r : Int))).put (some 37) (.pointer (some ⟨G, 0 + r, none⟩))).put (some 38) V1).put (some 39) (.pointer (some ⟨Z, 0, none⟩))).put (some 40) (.pointer (some ⟨Z, 0, none⟩))).put (some 41) (.pointer (some ⟨Z, 0 + 2, none⟩))).put (some 42) (.slice (some ⟨H, 0, none⟩) n2 cap2)).put (some 43) (.int .i64 (r : Int))).put (some 44) (.pointer (some ⟨H, 0 + r, none⟩))).put (some 45) V2).put (some 46) (.bool true)).put (some 4) (.bool true)) W) : (Code.region id ops true).wp Try.prog Q a0 w := by
  let val : Nat → Value := fun i => match i with
    | 0 => (.pointer (some ⟨Z, 0, none⟩))
    | 1 => (.pointer (some ⟨Z, 0, none⟩))
    | 2 => (.pointer (some ⟨Z, 0 + 1, none⟩))
    | 3 => (.slice (some ⟨G, 0, none⟩) n cap)
    | 4 => (.int .i64 (r : Int))
    | 5 => (.pointer (some ⟨G, 0 + r, none⟩))
    | 6 => V1
    | 7 => (.pointer (some ⟨Z, 0, none⟩))
    | 8 => (.pointer (some ⟨Z, 0, none⟩))
    | 9 => (.pointer (some ⟨Z, 0 + 2, none⟩))
    | 10 => (.slice (some ⟨H, 0, none⟩) n2 cap2)
    | 11 => (.int .i64 (r : Int))
    | 12 => (.pointer (some ⟨H, 0 + r, none⟩))
    | 13 => V2
    | 14 => (.bool true)
    | 15 => (.bool true)
    | _ => undef
  have hosz : ops.size = 16 := by
    have := congrArg List.length htab
    simpa [rsaT] using this
  have hds : ∀ i s, (rsaT[i]?).bind (·.2.1) = some s → dstOf ops i = some s := fun i s hi => by rw [tab_dst htab, hi]
  have hdisB : disL rsaT = true := by rfl
  have hdis := disL_of htab hdisB
  have hold : ∀ s, rsaT.all (fun x => !(x.2.1 == some s)) = true → (List.range ops.size).all (fun j => !(dstOf ops j == some s)) = true := fun s h => holdL htab s h
  refine region_detL val Wd (hac_of hac) hdis h0 ?_ ?_
  rotate_left
  · intro L W hall hW
    have := hend L W (by rw [← hosz]; exact hall) hW
    have e : frm ops a0 val (fun _ => true) ops.size = ((((((((((((((((a0.put (some 32) (.pointer (some ⟨Z, 0, none⟩))).put (some 33) (.pointer (some ⟨Z, 0, none⟩))).put (some 34) (.pointer (some ⟨Z, 0 + 1, none⟩))).put (some 35) (.slice (some ⟨G, 0, none⟩) n cap)).put (some 36) (.int .i64 (r : Int))).put (some 37) (.pointer (some ⟨G, 0 + r, none⟩))).put (some 38) V1).put (some 39) (.pointer (some ⟨Z, 0, none⟩))).put (some 40) (.pointer (some ⟨Z, 0, none⟩))).put (some 41) (.pointer (some ⟨Z, 0 + 2, none⟩))).put (some 42) (.slice (some ⟨H, 0, none⟩) n2 cap2)).put (some 43) (.int .i64 (r : Int))).put (some 44) (.pointer (some ⟨H, 0 + r, none⟩))).put (some 45) V2).put (some 46) (.bool true)).put (some 4) (.bool true)) := by
      rw [hosz]
      simp only [frm, if_true]
      rw [tab_dst htab 0, tab_dst htab 1, tab_dst htab 2, tab_dst htab 3, tab_dst htab 4, tab_dst htab 5, tab_dst htab 6, tab_dst htab 7, tab_dst htab 8, tab_dst htab 9, tab_dst htab 10, tab_dst htab 11, tab_dst htab 12, tab_dst htab 13, tab_dst htab 14, tab_dst htab 15]
      rfl
    rw [e]
    exact this
  intro i o ho L a w' hL hd ha hW
  have hi : i < 16 := by rw [← hosz]; exact (Array.getElem?_eq_some_iff.1 ho).1
  match i, ho, hL, hi with
  | 0, ho, hL, _ =>
    obtain ⟨hop, hdst, hgd⟩ := tab_at htab ho (show rsaT[0]? = _ from rfl)
    simp only at hop hgd
    have h0 := frm_old ha 0 _ (hold 0 rfl) o0
    exact doesL_run ho (wanted_none hgd) (hpure 0 (by decide) L w' hW) (by rw [run_move _ _ _ hop]; exact congrArg (fun v => Result.ok (Next.value v) w') (eval_of h0))
  | 1, ho, hL, _ =>
    obtain ⟨hop, hdst, hgd⟩ := tab_at htab ho (show rsaT[1]? = _ from rfl)
    simp only at hop hgd
    have h0 := frm_at hdis ha 0 32 (hds 0 32 rfl) (by omega) (depl_of hdep 1 0 (by decide) ho hd)
    exact doesL_run ho (wanted_none hgd) (hpure 1 (by decide) L w' hW) (run_nil _ _ _ hop _ (eval_of h0) _)
  | 2, ho, hL, _ =>
    obtain ⟨hop, hdst, hgd⟩ := tab_at htab ho (show rsaT[2]? = _ from rfl)
    simp only at hop hgd
    have h0 := frm_at hdis ha 1 33 (hds 1 33 rfl) (by omega) (depl_of hdep 2 1 (by decide) ho hd)
    exact doesL_run ho (wanted_none hgd) (hpure 2 (by decide) L w' hW) (run_f30_1 _ _ _ hop _ _ (eval_of h0) _)
  | 3, ho, hL, _ =>
    obtain ⟨hop, hdst, hgd⟩ := tab_at htab ho (show rsaT[3]? = _ from rfl)
    simp only at hop hgd
    have h0 := frm_at hdis ha 2 34 (hds 2 34 rfl) (by omega) (depl_of hdep 3 2 (by decide) ho hd)
    exact doesL_run ho (wanted_none hgd) (hpure 3 (by decide) L w' hW) (run_ld26 _ _ _ hop _ _ (eval_of h0) _ (l3 L w' hW))
  | 4, ho, hL, _ =>
    obtain ⟨hop, hdst, hgd⟩ := tab_at htab ho (show rsaT[4]? = _ from rfl)
    simp only at hop hgd
    have h0 := frm_old ha 3 _ (hold 3 rfl) o3
    exact doesL_run ho (wanted_none hgd) (hpure 4 (by decide) L w' hW) (by rw [run_move _ _ _ hop]; exact congrArg (fun v => Result.ok (Next.value v) w') (eval_of h0))
  | 5, ho, hL, _ =>
    obtain ⟨hop, hdst, hgd⟩ := tab_at htab ho (show rsaT[5]? = _ from rfl)
    simp only at hop hgd
    have h0 := frm_at hdis ha 3 35 (hds 3 35 rfl) (by omega) (depl_of hdep 5 3 (by decide) ho hd)
    have h1 := frm_at hdis ha 4 36 (hds 4 36 rfl) (by omega) (depl_of hdep 5 4 (by decide) ho hd)
    exact doesL_run ho (wanted_none hgd) (hpure 5 (by decide) L w' hW) (run_ia26 _ _ _ _ hop _ _ _ _ _ i5 (eval_of h0) (eval_of h1) _)
  | 6, ho, hL, _ =>
    obtain ⟨hop, hdst, hgd⟩ := tab_at htab ho (show rsaT[6]? = _ from rfl)
    simp only at hop hgd
    have h0 := frm_at hdis ha 5 37 (hds 5 37 rfl) (by omega) (depl_of hdep 6 5 (by decide) ho hd)
    exact doesL_run ho (wanted_none hgd) (hpure 6 (by decide) L w' hW) (run_ld28 _ _ _ hop _ _ (eval_of h0) _ (l6 L w' hW))
  | 7, ho, hL, _ =>
    obtain ⟨hop, hdst, hgd⟩ := tab_at htab ho (show rsaT[7]? = _ from rfl)
    simp only at hop hgd
    have h0 := frm_old ha 0 _ (hold 0 rfl) o0
    exact doesL_run ho (wanted_none hgd) (hpure 7 (by decide) L w' hW) (by rw [run_move _ _ _ hop]; exact congrArg (fun v => Result.ok (Next.value v) w') (eval_of h0))
  | 8, ho, hL, _ =>
    obtain ⟨hop, hdst, hgd⟩ := tab_at htab ho (show rsaT[8]? = _ from rfl)
    simp only at hop hgd
    have h0 := frm_at hdis ha 7 39 (hds 7 39 rfl) (by omega) (depl_of hdep 8 7 (by decide) ho hd)
    exact doesL_run ho (wanted_none hgd) (hpure 8 (by decide) L w' hW) (run_nil _ _ _ hop _ (eval_of h0) _)
  | 9, ho, hL, _ =>
    obtain ⟨hop, hdst, hgd⟩ := tab_at htab ho (show rsaT[9]? = _ from rfl)
    simp only at hop hgd
    have h0 := frm_at hdis ha 8 40 (hds 8 40 rfl) (by omega) (depl_of hdep 9 8 (by decide) ho hd)
    exact doesL_run ho (wanted_none hgd) (hpure 9 (by decide) L w' hW) (run_f30_2 _ _ _ hop _ _ (eval_of h0) _)
  | 10, ho, hL, _ =>
    obtain ⟨hop, hdst, hgd⟩ := tab_at htab ho (show rsaT[10]? = _ from rfl)
    simp only at hop hgd
    have h0 := frm_at hdis ha 9 41 (hds 9 41 rfl) (by omega) (depl_of hdep 10 9 (by decide) ho hd)
    exact doesL_run ho (wanted_none hgd) (hpure 10 (by decide) L w' hW) (run_ld26 _ _ _ hop _ _ (eval_of h0) _ (l10 L w' hW))
  | 11, ho, hL, _ =>
    obtain ⟨hop, hdst, hgd⟩ := tab_at htab ho (show rsaT[11]? = _ from rfl)
    simp only at hop hgd
    have h0 := frm_old ha 3 _ (hold 3 rfl) o3
    exact doesL_run ho (wanted_none hgd) (hpure 11 (by decide) L w' hW) (by rw [run_move _ _ _ hop]; exact congrArg (fun v => Result.ok (Next.value v) w') (eval_of h0))
  | 12, ho, hL, _ =>
    obtain ⟨hop, hdst, hgd⟩ := tab_at htab ho (show rsaT[12]? = _ from rfl)
    simp only at hop hgd
    have h0 := frm_at hdis ha 10 42 (hds 10 42 rfl) (by omega) (depl_of hdep 12 10 (by decide) ho hd)
    have h1 := frm_at hdis ha 11 43 (hds 11 43 rfl) (by omega) (depl_of hdep 12 11 (by decide) ho hd)
    exact doesL_run ho (wanted_none hgd) (hpure 12 (by decide) L w' hW) (run_ia26 _ _ _ _ hop _ _ _ _ _ i12 (eval_of h0) (eval_of h1) _)
  | 13, ho, hL, _ =>
    obtain ⟨hop, hdst, hgd⟩ := tab_at htab ho (show rsaT[13]? = _ from rfl)
    simp only at hop hgd
    have h0 := frm_at hdis ha 12 44 (hds 12 44 rfl) (by omega) (depl_of hdep 13 12 (by decide) ho hd)
    exact doesL_run ho (wanted_none hgd) (hpure 13 (by decide) L w' hW) (run_ld28 _ _ _ hop _ _ (eval_of h0) _ (l13 L w' hW))
  | 14, ho, hL, _ =>
    obtain ⟨hop, hdst, hgd⟩ := tab_at htab ho (show rsaT[14]? = _ from rfl)
    simp only at hop hgd
    have h0 := frm_at hdis ha 6 38 (hds 6 38 rfl) (by omega) (depl_of hdep 14 6 (by decide) ho hd)
    have h1 := frm_at hdis ha 13 45 (hds 13 45 rfl) (by omega) (depl_of hdep 14 13 (by decide) ho hd)
    refine doesL_call ho (wanted_none hgd) 10 #[V1, V2] ?_ (c14 L w' hW hL)
    rw [run_calls Try.func10 (by kernel_rfl) rfl _ _ _ _ hop rfl]
    simp only [List.map_toArray, List.map_cons, List.map_nil, eval_of h0, eval_of h1]
    all_goals rfl
  | 15, ho, hL, _ =>
    obtain ⟨hop, hdst, hgd⟩ := tab_at htab ho (show rsaT[15]? = _ from rfl)
    simp only at hop hgd
    have h0 := frm_at hdis ha 14 46 (hds 14 46 rfl) (by omega) (depl_of hdep 15 14 (by decide) ho hd)
    exact doesL_run ho (wanted_none hgd) (hpure 15 (by decide) L w' hW) (by rw [run_assign _ _ _ hop]; exact congrArg (fun v => Result.ok (Next.value v) w') (eval_of h0))
  | (i + 16), ho, hL, hi => exact absurd hi (by omega)
def rswT : List (Op × Option Tmp × Option (Nat × Bool)) := [
  (.move (.tmp 0), some 58, none),
  (.nilCheck (.tmp 58), some 59, none),
  (.fieldAddr 30 (.tmp 59) 3, some 60, none),
  (.load 27 (.tmp 60), some 61, none),
  (.move (.tmp 5), some 62, none),
  (.indexAddr 27 (.tmp 61) (.tmp 62), some 63, none),
  (.load 43 (.tmp 63), some 64, none),
  (.move (.tmp 0), some 65, none),
  (.nilCheck (.tmp 65), some 66, none),
  (.fieldAddr 30 (.tmp 66) 4, some 67, none),
  (.load 27 (.tmp 67), some 68, none),
  (.move (.tmp 5), some 69, none),
  (.indexAddr 27 (.tmp 68) (.tmp 69), some 70, none),
  (.load 43 (.tmp 70), some 71, none),
  (.call { callee := .value (.func 13), args := #[(.tmp 64), (.tmp 71)], argTypes := #[43, 43] }, some 72, none),
  (.assign (.tmp 72), some 6, none)]
def rswD : List (Nat × Nat) := [(1, 0), (2, 1), (3, 2), (5, 3), (5, 4), (6, 5), (8, 7), (9, 8), (10, 9), (12, 10), (12, 11), (13, 12), (14, 6), (14, 13), (15, 14)]
set_option maxHeartbeats 2000000 in
theorem rsw {ops : Array Oper} {id : Nat} {Q : Exit → Act → World → Prop} (Z G n cap H n2 cap2 r : Nat) (V1 V2 : Value) (htab : ops.toList.map (fun o => (o.op, o.dst, o.guard)) = rswT) (hdep : deplB rswD ops = true) (hac : acB ops = true)
    (a0 : Act) (w : World) (hsz : 73 ≤ a0.tmps.size) (o0 : a0.tmps[0]? = some (.pointer (some ⟨Z, 0, none⟩))) (o5 : a0.tmps[5]? = some (.int .i64 (r : Int)))
    (Wd : (Nat → Bool) → World → Prop) (h0 : Wd (fun _ => false) w.drew) (hpure : ∀ i, i ∉ ([14] : List Nat) → ∀ L W, Wd L W → Wd (upd L i) W)
    (i5 : r < n) (i12 : r < n2) (l3 : ∀ L W, Wd L W → W.cell? ⟨Z, 0 + 3, none⟩ = some (.slice (some ⟨G, 0, none⟩) n cap))
    (l6 : ∀ L W, Wd L W → W.cell? ⟨G, 0 + r, none⟩ = some V1) (l10 : ∀ L W, Wd L W → W.cell? ⟨Z, 0 + 4, none⟩ = some (.slice (some ⟨H, 0, none⟩) n2 cap2))
    (l13 : ∀ L W, Wd L W → W.cell? ⟨H, 0 + r, none⟩ = some V2)
    (c14 : ∀ L W, Wd L W → L 14 = false → Calls Try.prog 13 #[V1, V2] W fun e w' => e = .returned (.bool true) ∧ Wd (upd L 14) w')
    (hend : ∀ L W, (∀ i, i < 16 → L i = true) → Wd L W → Q .normal ((((((((((((((((a0.put (some 58) (.pointer (some ⟨Z, 0, none⟩))).put (some 59) (.pointer (some ⟨Z, 0, none⟩))).put (some 60) (.pointer (some ⟨Z, 0 + 3, none⟩))).put (some 61) (.slice (some ⟨G, 0, none⟩) n cap)).put (some 62) (.int .i64 (r : Int))).put (some 63) (.pointer (some ⟨G, 0 + r, none⟩))).put (some 64) V1).put (some 65) (.pointer (some ⟨Z, 0, none⟩))).put (some 66) (.pointer (some ⟨Z, 0, none⟩))).put (some 67) (.pointer (some ⟨Z, 0 + 4, none⟩))).put (some 68) (.slice (some ⟨H, 0, none⟩) n2 cap2)).put (some 69) (.int .i64 (r : Int))).put (some 70) (.pointer (some ⟨H, 0 + r, none⟩))).put (some 71) V2).put (some 72) (.bool true)).put (some 6) (.bool true)) W) : (Code.region id ops true).wp Try.prog Q a0 w := by
  let val : Nat → Value := fun i => match i with
    | 0 => (.pointer (some ⟨Z, 0, none⟩))
    | 1 => (.pointer (some ⟨Z, 0, none⟩))
    | 2 => (.pointer (some ⟨Z, 0 + 3, none⟩))
    | 3 => (.slice (some ⟨G, 0, none⟩) n cap)
    | 4 => (.int .i64 (r : Int))
    | 5 => (.pointer (some ⟨G, 0 + r, none⟩))
    | 6 => V1
    | 7 => (.pointer (some ⟨Z, 0, none⟩))
    | 8 => (.pointer (some ⟨Z, 0, none⟩))
    | 9 => (.pointer (some ⟨Z, 0 + 4, none⟩))
    | 10 => (.slice (some ⟨H, 0, none⟩) n2 cap2)
    | 11 => (.int .i64 (r : Int))
    | 12 => (.pointer (some ⟨H, 0 + r, none⟩))
    | 13 => V2
    | 14 => (.bool true)
    | 15 => (.bool true)
    | _ => undef
  have hosz : ops.size = 16 := by
    have := congrArg List.length htab
    simpa [rswT] using this
  have hds : ∀ i s, (rswT[i]?).bind (·.2.1) = some s → dstOf ops i = some s := fun i s hi => by rw [tab_dst htab, hi]
  have hdisB : disL rswT = true := by rfl
  have hdis := disL_of htab hdisB
  have hold : ∀ s, rswT.all (fun x => !(x.2.1 == some s)) = true → (List.range ops.size).all (fun j => !(dstOf ops j == some s)) = true := fun s h => holdL htab s h
  refine region_detL val Wd (hac_of hac) hdis h0 ?_ ?_
  rotate_left
  · intro L W hall hW
    have := hend L W (by rw [← hosz]; exact hall) hW
    have e : frm ops a0 val (fun _ => true) ops.size = ((((((((((((((((a0.put (some 58) (.pointer (some ⟨Z, 0, none⟩))).put (some 59) (.pointer (some ⟨Z, 0, none⟩))).put (some 60) (.pointer (some ⟨Z, 0 + 3, none⟩))).put (some 61) (.slice (some ⟨G, 0, none⟩) n cap)).put (some 62) (.int .i64 (r : Int))).put (some 63) (.pointer (some ⟨G, 0 + r, none⟩))).put (some 64) V1).put (some 65) (.pointer (some ⟨Z, 0, none⟩))).put (some 66) (.pointer (some ⟨Z, 0, none⟩))).put (some 67) (.pointer (some ⟨Z, 0 + 4, none⟩))).put (some 68) (.slice (some ⟨H, 0, none⟩) n2 cap2)).put (some 69) (.int .i64 (r : Int))).put (some 70) (.pointer (some ⟨H, 0 + r, none⟩))).put (some 71) V2).put (some 72) (.bool true)).put (some 6) (.bool true)) := by
      rw [hosz]
      simp only [frm, if_true]
      rw [tab_dst htab 0, tab_dst htab 1, tab_dst htab 2, tab_dst htab 3, tab_dst htab 4, tab_dst htab 5, tab_dst htab 6, tab_dst htab 7, tab_dst htab 8, tab_dst htab 9, tab_dst htab 10, tab_dst htab 11, tab_dst htab 12, tab_dst htab 13, tab_dst htab 14, tab_dst htab 15]
      rfl
    rw [e]
    exact this
  intro i o ho L a w' hL hd ha hW
  have hi : i < 16 := by rw [← hosz]; exact (Array.getElem?_eq_some_iff.1 ho).1
  match i, ho, hL, hi with
  | 0, ho, hL, _ =>
    obtain ⟨hop, hdst, hgd⟩ := tab_at htab ho (show rswT[0]? = _ from rfl)
    simp only at hop hgd
    have h0 := frm_old ha 0 _ (hold 0 rfl) o0
    exact doesL_run ho (wanted_none hgd) (hpure 0 (by decide) L w' hW) (by rw [run_move _ _ _ hop]; exact congrArg (fun v => Result.ok (Next.value v) w') (eval_of h0))
  | 1, ho, hL, _ =>
    obtain ⟨hop, hdst, hgd⟩ := tab_at htab ho (show rswT[1]? = _ from rfl)
    simp only at hop hgd
    have h0 := frm_at hdis ha 0 58 (hds 0 58 rfl) (by omega) (depl_of hdep 1 0 (by decide) ho hd)
    exact doesL_run ho (wanted_none hgd) (hpure 1 (by decide) L w' hW) (run_nil _ _ _ hop _ (eval_of h0) _)
  | 2, ho, hL, _ =>
    obtain ⟨hop, hdst, hgd⟩ := tab_at htab ho (show rswT[2]? = _ from rfl)
    simp only at hop hgd
    have h0 := frm_at hdis ha 1 59 (hds 1 59 rfl) (by omega) (depl_of hdep 2 1 (by decide) ho hd)
    exact doesL_run ho (wanted_none hgd) (hpure 2 (by decide) L w' hW) (run_f30_3 _ _ _ hop _ _ (eval_of h0) _)
  | 3, ho, hL, _ =>
    obtain ⟨hop, hdst, hgd⟩ := tab_at htab ho (show rswT[3]? = _ from rfl)
    simp only at hop hgd
    have h0 := frm_at hdis ha 2 60 (hds 2 60 rfl) (by omega) (depl_of hdep 3 2 (by decide) ho hd)
    exact doesL_run ho (wanted_none hgd) (hpure 3 (by decide) L w' hW) (run_ld27 _ _ _ hop _ _ (eval_of h0) _ (l3 L w' hW))
  | 4, ho, hL, _ =>
    obtain ⟨hop, hdst, hgd⟩ := tab_at htab ho (show rswT[4]? = _ from rfl)
    simp only at hop hgd
    have h0 := frm_old ha 5 _ (hold 5 rfl) o5
    exact doesL_run ho (wanted_none hgd) (hpure 4 (by decide) L w' hW) (by rw [run_move _ _ _ hop]; exact congrArg (fun v => Result.ok (Next.value v) w') (eval_of h0))
  | 5, ho, hL, _ =>
    obtain ⟨hop, hdst, hgd⟩ := tab_at htab ho (show rswT[5]? = _ from rfl)
    simp only at hop hgd
    have h0 := frm_at hdis ha 3 61 (hds 3 61 rfl) (by omega) (depl_of hdep 5 3 (by decide) ho hd)
    have h1 := frm_at hdis ha 4 62 (hds 4 62 rfl) (by omega) (depl_of hdep 5 4 (by decide) ho hd)
    exact doesL_run ho (wanted_none hgd) (hpure 5 (by decide) L w' hW) (run_ia27 _ _ _ _ hop _ _ _ _ _ i5 (eval_of h0) (eval_of h1) _)
  | 6, ho, hL, _ =>
    obtain ⟨hop, hdst, hgd⟩ := tab_at htab ho (show rswT[6]? = _ from rfl)
    simp only at hop hgd
    have h0 := frm_at hdis ha 5 63 (hds 5 63 rfl) (by omega) (depl_of hdep 6 5 (by decide) ho hd)
    exact doesL_run ho (wanted_none hgd) (hpure 6 (by decide) L w' hW) (run_ld43 _ _ _ hop _ _ (eval_of h0) _ (l6 L w' hW))
  | 7, ho, hL, _ =>
    obtain ⟨hop, hdst, hgd⟩ := tab_at htab ho (show rswT[7]? = _ from rfl)
    simp only at hop hgd
    have h0 := frm_old ha 0 _ (hold 0 rfl) o0
    exact doesL_run ho (wanted_none hgd) (hpure 7 (by decide) L w' hW) (by rw [run_move _ _ _ hop]; exact congrArg (fun v => Result.ok (Next.value v) w') (eval_of h0))
  | 8, ho, hL, _ =>
    obtain ⟨hop, hdst, hgd⟩ := tab_at htab ho (show rswT[8]? = _ from rfl)
    simp only at hop hgd
    have h0 := frm_at hdis ha 7 65 (hds 7 65 rfl) (by omega) (depl_of hdep 8 7 (by decide) ho hd)
    exact doesL_run ho (wanted_none hgd) (hpure 8 (by decide) L w' hW) (run_nil _ _ _ hop _ (eval_of h0) _)
  | 9, ho, hL, _ =>
    obtain ⟨hop, hdst, hgd⟩ := tab_at htab ho (show rswT[9]? = _ from rfl)
    simp only at hop hgd
    have h0 := frm_at hdis ha 8 66 (hds 8 66 rfl) (by omega) (depl_of hdep 9 8 (by decide) ho hd)
    exact doesL_run ho (wanted_none hgd) (hpure 9 (by decide) L w' hW) (run_f30_4 _ _ _ hop _ _ (eval_of h0) _)
  | 10, ho, hL, _ =>
    obtain ⟨hop, hdst, hgd⟩ := tab_at htab ho (show rswT[10]? = _ from rfl)
    simp only at hop hgd
    have h0 := frm_at hdis ha 9 67 (hds 9 67 rfl) (by omega) (depl_of hdep 10 9 (by decide) ho hd)
    exact doesL_run ho (wanted_none hgd) (hpure 10 (by decide) L w' hW) (run_ld27 _ _ _ hop _ _ (eval_of h0) _ (l10 L w' hW))
  | 11, ho, hL, _ =>
    obtain ⟨hop, hdst, hgd⟩ := tab_at htab ho (show rswT[11]? = _ from rfl)
    simp only at hop hgd
    have h0 := frm_old ha 5 _ (hold 5 rfl) o5
    exact doesL_run ho (wanted_none hgd) (hpure 11 (by decide) L w' hW) (by rw [run_move _ _ _ hop]; exact congrArg (fun v => Result.ok (Next.value v) w') (eval_of h0))
  | 12, ho, hL, _ =>
    obtain ⟨hop, hdst, hgd⟩ := tab_at htab ho (show rswT[12]? = _ from rfl)
    simp only at hop hgd
    have h0 := frm_at hdis ha 10 68 (hds 10 68 rfl) (by omega) (depl_of hdep 12 10 (by decide) ho hd)
    have h1 := frm_at hdis ha 11 69 (hds 11 69 rfl) (by omega) (depl_of hdep 12 11 (by decide) ho hd)
    exact doesL_run ho (wanted_none hgd) (hpure 12 (by decide) L w' hW) (run_ia27 _ _ _ _ hop _ _ _ _ _ i12 (eval_of h0) (eval_of h1) _)
  | 13, ho, hL, _ =>
    obtain ⟨hop, hdst, hgd⟩ := tab_at htab ho (show rswT[13]? = _ from rfl)
    simp only at hop hgd
    have h0 := frm_at hdis ha 12 70 (hds 12 70 rfl) (by omega) (depl_of hdep 13 12 (by decide) ho hd)
    exact doesL_run ho (wanted_none hgd) (hpure 13 (by decide) L w' hW) (run_ld43 _ _ _ hop _ _ (eval_of h0) _ (l13 L w' hW))
  | 14, ho, hL, _ =>
    obtain ⟨hop, hdst, hgd⟩ := tab_at htab ho (show rswT[14]? = _ from rfl)
    simp only at hop hgd
    have h0 := frm_at hdis ha 6 64 (hds 6 64 rfl) (by omega) (depl_of hdep 14 6 (by decide) ho hd)
    have h1 := frm_at hdis ha 13 71 (hds 13 71 rfl) (by omega) (depl_of hdep 14 13 (by decide) ho hd)
    refine doesL_call ho (wanted_none hgd) 13 #[V1, V2] ?_ (c14 L w' hW hL)
    rw [run_calls Try.func13 (by kernel_rfl) rfl _ _ _ _ hop rfl]
    simp only [List.map_toArray, List.map_cons, List.map_nil, eval_of h0, eval_of h1]
    all_goals rfl
  | 15, ho, hL, _ =>
    obtain ⟨hop, hdst, hgd⟩ := tab_at htab ho (show rswT[15]? = _ from rfl)
    simp only at hop hgd
    have h0 := frm_at hdis ha 14 72 (hds 14 72 rfl) (by omega) (depl_of hdep 15 14 (by decide) ho hd)
    exact doesL_run ho (wanted_none hgd) (hpure 15 (by decide) L w' hW) (by rw [run_assign _ _ _ hop]; exact congrArg (fun v => Result.ok (Next.value v) w') (eval_of h0))
  | (i + 16), ho, hL, hi => exact absurd hi (by omega)
def rsmT : List (Op × Option Tmp × Option (Nat × Bool)) := [
  (.move (.tmp 0), some 102, none),
  (.nilCheck (.tmp 102), some 103, none),
  (.fieldAddr 30 (.tmp 103) 1, some 104, none),
  (.load 26 (.tmp 104), some 105, none),
  (.move (.tmp 8), some 106, none),
  (.indexAddr 26 (.tmp 105) (.tmp 106), some 107, none),
  (.load 28 (.tmp 107), some 108, none),
  (.move (.tmp 9), some 109, none),
  (.move (.tmp 7), some 110, none),
  (.move (.tmp 8), some 111, none),
  (.binOp .add 3 (.tmp 110) (.tmp 111) 3, some 112, none),
  (.call { callee := .value (.func 40), args := #[(.tmp 112)], argTypes := #[3] }, some 113, none),
  (.indexAddr 28 (.tmp 108) (.tmp 109), some 114, none),
  (.store 9 (.tmp 114) (.tmp 113), none, none)]
def rsmD : List (Nat × Nat) := [(1, 0), (2, 1), (3, 2), (5, 3), (5, 4), (6, 5), (10, 8), (10, 9), (11, 10), (12, 6), (12, 7), (13, 11), (13, 12)]
set_option maxHeartbeats 2000000 in
theorem rsm {ops : Array Oper} {id : Nat} {Q : Exit → Act → World → Prop} (Z G n cap g m c r k f : Nat) (mv : Bs) (htab : ops.toList.map (fun o => (o.op, o.dst, o.guard)) = rsmT) (hdep : deplB rsmD ops = true) (hac : acB ops = true)
    (a0 : Act) (w : World) (hsz : 115 ≤ a0.tmps.size) (o0 : a0.tmps[0]? = some (.pointer (some ⟨Z, 0, none⟩))) (o7 : a0.tmps[7]? = some (.int .i64 (f : Int))) (o8 : a0.tmps[8]? = some (.int .i64 (r : Int))) (o9 : a0.tmps[9]? = some (.int .i64 (k : Int)))
    (Wd : (Nat → Bool) → World → Prop) (h0 : Wd (fun _ => false) w.drew) (hpure : ∀ i, i ∉ ([11, 13] : List Nat) → ∀ L W, Wd L W → Wd (upd L i) W)
    (i5 : r < n) (i12 : k < m) (a10 : -9223372036854775808 ≤ (f : Int) + (r : Int) ∧ (f : Int) + (r : Int) ≤ 9223372036854775807) (l3 : ∀ L W, Wd L W → W.cell? ⟨Z, 0 + 1, none⟩ = some (.slice (some ⟨G, 0, none⟩) n cap))
    (l6 : ∀ L W, Wd L W → W.cell? ⟨G, 0 + r, none⟩ = some (.slice (some ⟨g, 0, none⟩) m c))
    (c11 : ∀ L W, Wd L W → L 11 = false → Calls Try.prog 40 #[.int .i64 ((f : Int) + (r : Int))] W fun e w' => e = .returned (S mv) ∧ Wd (upd L 11) w')
    (n13 : ∀ L W, Wd L W → L 13 = false → L 11 = true → L 12 = true → Wd (upd L 13) (W.setCell ⟨g, 0 + k, none⟩ (S mv)) ∧ (∃ u, W.cell? ⟨g, 0 + k, none⟩ = some u) ∧ W.frozen? ⟨g, 0 + k, none⟩ = false)
    (hend : ∀ L W, (∀ i, i < 14 → L i = true) → Wd L W → Q .normal (((((((((((((a0.put (some 102) (.pointer (some ⟨Z, 0, none⟩))).put (some 103) (.pointer (some ⟨Z, 0, none⟩))).put (some 104) (.pointer (some ⟨Z, 0 + 1, none⟩))).put (some 105) (.slice (some ⟨G, 0, none⟩) n cap)).put (some 106) (.int .i64 (r : Int))).put (some 107) (.pointer (some ⟨G, 0 + r, none⟩))).put (some 108) (.slice (some ⟨g, 0, none⟩) m c)).put (some 109) (.int .i64 (k : Int))).put (some 110) (.int .i64 (f : Int))).put (some 111) (.int .i64 (r : Int))).put (some 112) (.int .i64 ((f : Int) + (r : Int)))).put (some 113) (S mv)).put (some 114) (.pointer (some ⟨g, 0 + k, none⟩))) W) : (Code.region id ops true).wp Try.prog Q a0 w := by
  let val : Nat → Value := fun i => match i with
    | 0 => (.pointer (some ⟨Z, 0, none⟩))
    | 1 => (.pointer (some ⟨Z, 0, none⟩))
    | 2 => (.pointer (some ⟨Z, 0 + 1, none⟩))
    | 3 => (.slice (some ⟨G, 0, none⟩) n cap)
    | 4 => (.int .i64 (r : Int))
    | 5 => (.pointer (some ⟨G, 0 + r, none⟩))
    | 6 => (.slice (some ⟨g, 0, none⟩) m c)
    | 7 => (.int .i64 (k : Int))
    | 8 => (.int .i64 (f : Int))
    | 9 => (.int .i64 (r : Int))
    | 10 => (.int .i64 ((f : Int) + (r : Int)))
    | 11 => (S mv)
    | 12 => (.pointer (some ⟨g, 0 + k, none⟩))
    | 13 => undef
    | _ => undef
  have hosz : ops.size = 14 := by
    have := congrArg List.length htab
    simpa [rsmT] using this
  have hds : ∀ i s, (rsmT[i]?).bind (·.2.1) = some s → dstOf ops i = some s := fun i s hi => by rw [tab_dst htab, hi]
  have hdisB : disL rsmT = true := by rfl
  have hdis := disL_of htab hdisB
  have hold : ∀ s, rsmT.all (fun x => !(x.2.1 == some s)) = true → (List.range ops.size).all (fun j => !(dstOf ops j == some s)) = true := fun s h => holdL htab s h
  refine region_detL val Wd (hac_of hac) hdis h0 ?_ ?_
  rotate_left
  · intro L W hall hW
    have := hend L W (by rw [← hosz]; exact hall) hW
    have e : frm ops a0 val (fun _ => true) ops.size = (((((((((((((a0.put (some 102) (.pointer (some ⟨Z, 0, none⟩))).put (some 103) (.pointer (some ⟨Z, 0, none⟩))).put (some 104) (.pointer (some ⟨Z, 0 + 1, none⟩))).put (some 105) (.slice (some ⟨G, 0, none⟩) n cap)).put (some 106) (.int .i64 (r : Int))).put (some 107) (.pointer (some ⟨G, 0 + r, none⟩))).put (some 108) (.slice (some ⟨g, 0, none⟩) m c)).put (some 109) (.int .i64 (k : Int))).put (some 110) (.int .i64 (f : Int))).put (some 111) (.int .i64 (r : Int))).put (some 112) (.int .i64 ((f : Int) + (r : Int)))).put (some 113) (S mv)).put (some 114) (.pointer (some ⟨g, 0 + k, none⟩))) := by
      rw [hosz]
      simp only [frm, if_true]
      rw [tab_dst htab 0, tab_dst htab 1, tab_dst htab 2, tab_dst htab 3, tab_dst htab 4, tab_dst htab 5, tab_dst htab 6, tab_dst htab 7, tab_dst htab 8, tab_dst htab 9, tab_dst htab 10, tab_dst htab 11, tab_dst htab 12, (show dstOf ops 13 = none from (tab_dst htab 13).trans rfl), put_none]
      rfl
    rw [e]
    exact this
  intro i o ho L a w' hL hd ha hW
  have hi : i < 14 := by rw [← hosz]; exact (Array.getElem?_eq_some_iff.1 ho).1
  match i, ho, hL, hi with
  | 0, ho, hL, _ =>
    obtain ⟨hop, hdst, hgd⟩ := tab_at htab ho (show rsmT[0]? = _ from rfl)
    simp only at hop hgd
    have h0 := frm_old ha 0 _ (hold 0 rfl) o0
    exact doesL_run ho (wanted_none hgd) (hpure 0 (by decide) L w' hW) (by rw [run_move _ _ _ hop]; exact congrArg (fun v => Result.ok (Next.value v) w') (eval_of h0))
  | 1, ho, hL, _ =>
    obtain ⟨hop, hdst, hgd⟩ := tab_at htab ho (show rsmT[1]? = _ from rfl)
    simp only at hop hgd
    have h0 := frm_at hdis ha 0 102 (hds 0 102 rfl) (by omega) (depl_of hdep 1 0 (by decide) ho hd)
    exact doesL_run ho (wanted_none hgd) (hpure 1 (by decide) L w' hW) (run_nil _ _ _ hop _ (eval_of h0) _)
  | 2, ho, hL, _ =>
    obtain ⟨hop, hdst, hgd⟩ := tab_at htab ho (show rsmT[2]? = _ from rfl)
    simp only at hop hgd
    have h0 := frm_at hdis ha 1 103 (hds 1 103 rfl) (by omega) (depl_of hdep 2 1 (by decide) ho hd)
    exact doesL_run ho (wanted_none hgd) (hpure 2 (by decide) L w' hW) (run_f30_1 _ _ _ hop _ _ (eval_of h0) _)
  | 3, ho, hL, _ =>
    obtain ⟨hop, hdst, hgd⟩ := tab_at htab ho (show rsmT[3]? = _ from rfl)
    simp only at hop hgd
    have h0 := frm_at hdis ha 2 104 (hds 2 104 rfl) (by omega) (depl_of hdep 3 2 (by decide) ho hd)
    exact doesL_run ho (wanted_none hgd) (hpure 3 (by decide) L w' hW) (run_ld26 _ _ _ hop _ _ (eval_of h0) _ (l3 L w' hW))
  | 4, ho, hL, _ =>
    obtain ⟨hop, hdst, hgd⟩ := tab_at htab ho (show rsmT[4]? = _ from rfl)
    simp only at hop hgd
    have h0 := frm_old ha 8 _ (hold 8 rfl) o8
    exact doesL_run ho (wanted_none hgd) (hpure 4 (by decide) L w' hW) (by rw [run_move _ _ _ hop]; exact congrArg (fun v => Result.ok (Next.value v) w') (eval_of h0))
  | 5, ho, hL, _ =>
    obtain ⟨hop, hdst, hgd⟩ := tab_at htab ho (show rsmT[5]? = _ from rfl)
    simp only at hop hgd
    have h0 := frm_at hdis ha 3 105 (hds 3 105 rfl) (by omega) (depl_of hdep 5 3 (by decide) ho hd)
    have h1 := frm_at hdis ha 4 106 (hds 4 106 rfl) (by omega) (depl_of hdep 5 4 (by decide) ho hd)
    exact doesL_run ho (wanted_none hgd) (hpure 5 (by decide) L w' hW) (run_ia26 _ _ _ _ hop _ _ _ _ _ i5 (eval_of h0) (eval_of h1) _)
  | 6, ho, hL, _ =>
    obtain ⟨hop, hdst, hgd⟩ := tab_at htab ho (show rsmT[6]? = _ from rfl)
    simp only at hop hgd
    have h0 := frm_at hdis ha 5 107 (hds 5 107 rfl) (by omega) (depl_of hdep 6 5 (by decide) ho hd)
    exact doesL_run ho (wanted_none hgd) (hpure 6 (by decide) L w' hW) (run_ld28 _ _ _ hop _ _ (eval_of h0) _ (l6 L w' hW))
  | 7, ho, hL, _ =>
    obtain ⟨hop, hdst, hgd⟩ := tab_at htab ho (show rsmT[7]? = _ from rfl)
    simp only at hop hgd
    have h0 := frm_old ha 9 _ (hold 9 rfl) o9
    exact doesL_run ho (wanted_none hgd) (hpure 7 (by decide) L w' hW) (by rw [run_move _ _ _ hop]; exact congrArg (fun v => Result.ok (Next.value v) w') (eval_of h0))
  | 8, ho, hL, _ =>
    obtain ⟨hop, hdst, hgd⟩ := tab_at htab ho (show rsmT[8]? = _ from rfl)
    simp only at hop hgd
    have h0 := frm_old ha 7 _ (hold 7 rfl) o7
    exact doesL_run ho (wanted_none hgd) (hpure 8 (by decide) L w' hW) (by rw [run_move _ _ _ hop]; exact congrArg (fun v => Result.ok (Next.value v) w') (eval_of h0))
  | 9, ho, hL, _ =>
    obtain ⟨hop, hdst, hgd⟩ := tab_at htab ho (show rsmT[9]? = _ from rfl)
    simp only at hop hgd
    have h0 := frm_old ha 8 _ (hold 8 rfl) o8
    exact doesL_run ho (wanted_none hgd) (hpure 9 (by decide) L w' hW) (by rw [run_move _ _ _ hop]; exact congrArg (fun v => Result.ok (Next.value v) w') (eval_of h0))
  | 10, ho, hL, _ =>
    obtain ⟨hop, hdst, hgd⟩ := tab_at htab ho (show rsmT[10]? = _ from rfl)
    simp only at hop hgd
    have h0 := frm_at hdis ha 8 110 (hds 8 110 rfl) (by omega) (depl_of hdep 10 8 (by decide) ho hd)
    have h1 := frm_at hdis ha 9 111 (hds 9 111 rfl) (by omega) (depl_of hdep 10 9 (by decide) ho hd)
    exact doesL_run ho (wanted_none hgd) (hpure 10 (by decide) L w' hW) (run_addi _ _ _ _ hop _ _ (eval_of h0) (eval_of h1) (a10).1 (a10).2 _)
  | 11, ho, hL, _ =>
    obtain ⟨hop, hdst, hgd⟩ := tab_at htab ho (show rsmT[11]? = _ from rfl)
    simp only at hop hgd
    have h0 := frm_at hdis ha 10 112 (hds 10 112 rfl) (by omega) (depl_of hdep 11 10 (by decide) ho hd)
    refine doesL_call ho (wanted_none hgd) 40 #[.int .i64 ((f : Int) + (r : Int))] ?_ (c11 L w' hW hL)
    rw [run_calls Try.func40 (by kernel_rfl) rfl _ _ _ _ hop rfl]
    simp only [List.map_toArray, List.map_cons, List.map_nil, eval_of h0]
    all_goals rfl
  | 12, ho, hL, _ =>
    obtain ⟨hop, hdst, hgd⟩ := tab_at htab ho (show rsmT[12]? = _ from rfl)
    simp only at hop hgd
    have h0 := frm_at hdis ha 6 108 (hds 6 108 rfl) (by omega) (depl_of hdep 12 6 (by decide) ho hd)
    have h1 := frm_at hdis ha 7 109 (hds 7 109 rfl) (by omega) (depl_of hdep 12 7 (by decide) ho hd)
    exact doesL_run ho (wanted_none hgd) (hpure 12 (by decide) L w' hW) (run_ia28 _ _ _ _ hop _ _ _ _ _ i12 (eval_of h0) (eval_of h1) _)
  | 13, ho, hL, _ =>
    obtain ⟨hop, hdst, hgd⟩ := tab_at htab ho (show rsmT[13]? = _ from rfl)
    simp only at hop hgd
    have h0 := frm_at hdis ha 12 114 (hds 12 114 rfl) (by omega) (depl_of hdep 13 12 (by decide) ho hd)
    have h1 := frm_at hdis ha 11 113 (hds 11 113 rfl) (by omega) (depl_of hdep 13 11 (by decide) ho hd)
    obtain ⟨s1, s2, s3⟩ := n13 L w' hW hL (depl_of hdep 13 11 (by decide) ho hd) (depl_of hdep 13 12 (by decide) ho hd)
    exact doesL_skp ho (wanted_none hgd) rfl s1 (run_st9 _ _ _ _ hop _ _ (eval_of h0) (eval_of h1) _ s2 s3)
  | (i + 14), ho, hL, hi => exact absurd hi (by omega)
def rskT : List (Op × Option Tmp × Option (Nat × Bool)) := [
  (.move (.tmp 0), some 264, none),
  (.nilCheck (.tmp 264), some 265, none),
  (.fieldAddr 30 (.tmp 265) 5, some 266, none),
  (.load 26 (.tmp 266), some 267, none),
  (.move (.tmp 19), some 268, none),
  (.indexAddr 26 (.tmp 267) (.tmp 268), some 269, none),
  (.load 28 (.tmp 269), some 270, none),
  (.move (.tmp 20), some 271, none),
  (.indexAddr 28 (.tmp 270) (.tmp 271), some 272, none),
  (.load 9 (.tmp 272), some 273, none),
  (.move (.tmp 19), some 274, none),
  (.binOp .quo 3 (.tmp 274) (.const (.int .i64 12)) 3, some 275, none),
  (.call { callee := .value (.func 40), args := #[(.tmp 275)], argTypes := #[3] }, some 276, none),
  (.binOp .neq 9 (.tmp 273) (.tmp 276) 9, some 277, none)]
def rskD : List (Nat × Nat) := [(1, 0), (2, 1), (3, 2), (5, 3), (5, 4), (6, 5), (8, 6), (8, 7), (9, 8), (11, 10), (12, 11), (13, 9), (13, 12)]
set_option maxHeartbeats 2000000 in
theorem rsk {ops : Array Oper} {id : Nat} {Q : Exit → Act → World → Prop} (Z G n cap g m c r k : Nat) (mv : Bs) (htab : ops.toList.map (fun o => (o.op, o.dst, o.guard)) = rskT) (hdep : deplB rskD ops = true) (hac : acB ops = true)
    (a0 : Act) (w : World) (hsz : 278 ≤ a0.tmps.size) (o0 : a0.tmps[0]? = some (.pointer (some ⟨Z, 0, none⟩))) (o19 : a0.tmps[19]? = some (.int .i64 (r : Int))) (o20 : a0.tmps[20]? = some (.int .i64 (k : Int)))
    (Wd : (Nat → Bool) → World → Prop) (h0 : Wd (fun _ => false) w.drew) (hpure : ∀ i, i ∉ ([12] : List Nat) → ∀ L W, Wd L W → Wd (upd L i) W)
    (i5 : r < n) (i8 : k < m) (q11 : r ≤ 1000000000000) (l3 : ∀ L W, Wd L W → W.cell? ⟨Z, 0 + 5, none⟩ = some (.slice (some ⟨G, 0, none⟩) n cap))
    (l6 : ∀ L W, Wd L W → W.cell? ⟨G, 0 + r, none⟩ = some (.slice (some ⟨g, 0, none⟩) m c)) (l9 : ∀ L W, Wd L W → W.cell? ⟨g, 0 + k, none⟩ = some (S mv))
    (c12 : ∀ L W, Wd L W → L 12 = false → Calls Try.prog 40 #[.int .i64 ((r / 12 : Nat) : Int)] W fun e w' => e = .returned (S mv) ∧ Wd (upd L 12) w')
    (hend : ∀ L W, (∀ i, i < 14 → L i = true) → Wd L W → Q .normal ((((((((((((((a0.put (some 264) (.pointer (some ⟨Z, 0, none⟩))).put (some 265) (.pointer (some ⟨Z, 0, none⟩))).put (some 266) (.pointer (some ⟨Z, 0 + 5, none⟩))).put (some 267) (.slice (some ⟨G, 0, none⟩) n cap)).put (some 268) (.int .i64 (r : Int))).put (some 269) (.pointer (some ⟨G, 0 + r, none⟩))).put (some 270) (.slice (some ⟨g, 0, none⟩) m c)).put (some 271) (.int .i64 (k : Int))).put (some 272) (.pointer (some ⟨g, 0 + k, none⟩))).put (some 273) (S mv)).put (some 274) (.int .i64 (r : Int))).put (some 275) (.int .i64 ((r / 12 : Nat) : Int))).put (some 276) (S mv)).put (some 277) (.bool false)) W) : (Code.region id ops true).wp Try.prog Q a0 w := by
  let val : Nat → Value := fun i => match i with
    | 0 => (.pointer (some ⟨Z, 0, none⟩))
    | 1 => (.pointer (some ⟨Z, 0, none⟩))
    | 2 => (.pointer (some ⟨Z, 0 + 5, none⟩))
    | 3 => (.slice (some ⟨G, 0, none⟩) n cap)
    | 4 => (.int .i64 (r : Int))
    | 5 => (.pointer (some ⟨G, 0 + r, none⟩))
    | 6 => (.slice (some ⟨g, 0, none⟩) m c)
    | 7 => (.int .i64 (k : Int))
    | 8 => (.pointer (some ⟨g, 0 + k, none⟩))
    | 9 => (S mv)
    | 10 => (.int .i64 (r : Int))
    | 11 => (.int .i64 ((r / 12 : Nat) : Int))
    | 12 => (S mv)
    | 13 => (.bool false)
    | _ => undef
  have hosz : ops.size = 14 := by
    have := congrArg List.length htab
    simpa [rskT] using this
  have hds : ∀ i s, (rskT[i]?).bind (·.2.1) = some s → dstOf ops i = some s := fun i s hi => by rw [tab_dst htab, hi]
  have hdisB : disL rskT = true := by rfl
  have hdis := disL_of htab hdisB
  have hold : ∀ s, rskT.all (fun x => !(x.2.1 == some s)) = true → (List.range ops.size).all (fun j => !(dstOf ops j == some s)) = true := fun s h => holdL htab s h
  refine region_detL val Wd (hac_of hac) hdis h0 ?_ ?_
  rotate_left
  · intro L W hall hW
    have := hend L W (by rw [← hosz]; exact hall) hW
    have e : frm ops a0 val (fun _ => true) ops.size = ((((((((((((((a0.put (some 264) (.pointer (some ⟨Z, 0, none⟩))).put (some 265) (.pointer (some ⟨Z, 0, none⟩))).put (some 266) (.pointer (some ⟨Z, 0 + 5, none⟩))).put (some 267) (.slice (some ⟨G, 0, none⟩) n cap)).put (some 268) (.int .i64 (r : Int))).put (some 269) (.pointer (some ⟨G, 0 + r, none⟩))).put (some 270) (.slice (some ⟨g, 0, none⟩) m c)).put (some 271) (.int .i64 (k : Int))).put (some 272) (.pointer (some ⟨g, 0 + k, none⟩))).put (some 273) (S mv)).put (some 274) (.int .i64 (r : Int))).put (some 275) (.int .i64 ((r / 12 : Nat) : Int))).put (some 276) (S mv)).put (some 277) (.bool false)) := by
      rw [hosz]
      simp only [frm, if_true]
      rw [tab_dst htab 0, tab_dst htab 1, tab_dst htab 2, tab_dst htab 3, tab_dst htab 4, tab_dst htab 5, tab_dst htab 6, tab_dst htab 7, tab_dst htab 8, tab_dst htab 9, tab_dst htab 10, tab_dst htab 11, tab_dst htab 12, tab_dst htab 13]
      rfl
    rw [e]
    exact this
  intro i o ho L a w' hL hd ha hW
  have hi : i < 14 := by rw [← hosz]; exact (Array.getElem?_eq_some_iff.1 ho).1
  match i, ho, hL, hi with
  | 0, ho, hL, _ =>
    obtain ⟨hop, hdst, hgd⟩ := tab_at htab ho (show rskT[0]? = _ from rfl)
    simp only at hop hgd
    have h0 := frm_old ha 0 _ (hold 0 rfl) o0
    exact doesL_run ho (wanted_none hgd) (hpure 0 (by decide) L w' hW) (by rw [run_move _ _ _ hop]; exact congrArg (fun v => Result.ok (Next.value v) w') (eval_of h0))
  | 1, ho, hL, _ =>
    obtain ⟨hop, hdst, hgd⟩ := tab_at htab ho (show rskT[1]? = _ from rfl)
    simp only at hop hgd
    have h0 := frm_at hdis ha 0 264 (hds 0 264 rfl) (by omega) (depl_of hdep 1 0 (by decide) ho hd)
    exact doesL_run ho (wanted_none hgd) (hpure 1 (by decide) L w' hW) (run_nil _ _ _ hop _ (eval_of h0) _)
  | 2, ho, hL, _ =>
    obtain ⟨hop, hdst, hgd⟩ := tab_at htab ho (show rskT[2]? = _ from rfl)
    simp only at hop hgd
    have h0 := frm_at hdis ha 1 265 (hds 1 265 rfl) (by omega) (depl_of hdep 2 1 (by decide) ho hd)
    exact doesL_run ho (wanted_none hgd) (hpure 2 (by decide) L w' hW) (run_f30_5 _ _ _ hop _ _ (eval_of h0) _)
  | 3, ho, hL, _ =>
    obtain ⟨hop, hdst, hgd⟩ := tab_at htab ho (show rskT[3]? = _ from rfl)
    simp only at hop hgd
    have h0 := frm_at hdis ha 2 266 (hds 2 266 rfl) (by omega) (depl_of hdep 3 2 (by decide) ho hd)
    exact doesL_run ho (wanted_none hgd) (hpure 3 (by decide) L w' hW) (run_ld26 _ _ _ hop _ _ (eval_of h0) _ (l3 L w' hW))
  | 4, ho, hL, _ =>
    obtain ⟨hop, hdst, hgd⟩ := tab_at htab ho (show rskT[4]? = _ from rfl)
    simp only at hop hgd
    have h0 := frm_old ha 19 _ (hold 19 rfl) o19
    exact doesL_run ho (wanted_none hgd) (hpure 4 (by decide) L w' hW) (by rw [run_move _ _ _ hop]; exact congrArg (fun v => Result.ok (Next.value v) w') (eval_of h0))
  | 5, ho, hL, _ =>
    obtain ⟨hop, hdst, hgd⟩ := tab_at htab ho (show rskT[5]? = _ from rfl)
    simp only at hop hgd
    have h0 := frm_at hdis ha 3 267 (hds 3 267 rfl) (by omega) (depl_of hdep 5 3 (by decide) ho hd)
    have h1 := frm_at hdis ha 4 268 (hds 4 268 rfl) (by omega) (depl_of hdep 5 4 (by decide) ho hd)
    exact doesL_run ho (wanted_none hgd) (hpure 5 (by decide) L w' hW) (run_ia26 _ _ _ _ hop _ _ _ _ _ i5 (eval_of h0) (eval_of h1) _)
  | 6, ho, hL, _ =>
    obtain ⟨hop, hdst, hgd⟩ := tab_at htab ho (show rskT[6]? = _ from rfl)
    simp only at hop hgd
    have h0 := frm_at hdis ha 5 269 (hds 5 269 rfl) (by omega) (depl_of hdep 6 5 (by decide) ho hd)
    exact doesL_run ho (wanted_none hgd) (hpure 6 (by decide) L w' hW) (run_ld28 _ _ _ hop _ _ (eval_of h0) _ (l6 L w' hW))
  | 7, ho, hL, _ =>
    obtain ⟨hop, hdst, hgd⟩ := tab_at htab ho (show rskT[7]? = _ from rfl)
    simp only at hop hgd
    have h0 := frm_old ha 20 _ (hold 20 rfl) o20
    exact doesL_run ho (wanted_none hgd) (hpure 7 (by decide) L w' hW) (by rw [run_move _ _ _ hop]; exact congrArg (fun v => Result.ok (Next.value v) w') (eval_of h0))
  | 8, ho, hL, _ =>
    obtain ⟨hop, hdst, hgd⟩ := tab_at htab ho (show rskT[8]? = _ from rfl)
    simp only at hop hgd
    have h0 := frm_at hdis ha 6 270 (hds 6 270 rfl) (by omega) (depl_of hdep 8 6 (by decide) ho hd)
    have h1 := frm_at hdis ha 7 271 (hds 7 271 rfl) (by omega) (depl_of hdep 8 7 (by decide) ho hd)
    exact doesL_run ho (wanted_none hgd) (hpure 8 (by decide) L w' hW) (run_ia28 _ _ _ _ hop _ _ _ _ _ i8 (eval_of h0) (eval_of h1) _)
  | 9, ho, hL, _ =>
    obtain ⟨hop, hdst, hgd⟩ := tab_at htab ho (show rskT[9]? = _ from rfl)
    simp only at hop hgd
    have h0 := frm_at hdis ha 8 272 (hds 8 272 rfl) (by omega) (depl_of hdep 9 8 (by decide) ho hd)
    exact doesL_run ho (wanted_none hgd) (hpure 9 (by decide) L w' hW) (run_ld _ _ _ hop _ _ (eval_of h0) _ (l9 L w' hW))
  | 10, ho, hL, _ =>
    obtain ⟨hop, hdst, hgd⟩ := tab_at htab ho (show rskT[10]? = _ from rfl)
    simp only at hop hgd
    have h0 := frm_old ha 19 _ (hold 19 rfl) o19
    exact doesL_run ho (wanted_none hgd) (hpure 10 (by decide) L w' hW) (by rw [run_move _ _ _ hop]; exact congrArg (fun v => Result.ok (Next.value v) w') (eval_of h0))
  | 11, ho, hL, _ =>
    obtain ⟨hop, hdst, hgd⟩ := tab_at htab ho (show rskT[11]? = _ from rfl)
    simp only at hop hgd
    have h0 := frm_at hdis ha 10 274 (hds 10 274 rfl) (by omega) (depl_of hdep 11 10 (by decide) ho hd)
    exact doesL_run ho (wanted_none hgd) (hpure 11 (by decide) L w' hW) (run_quo12 _ _ _ hop _ q11 (eval_of h0) rfl _)
  | 12, ho, hL, _ =>
    obtain ⟨hop, hdst, hgd⟩ := tab_at htab ho (show rskT[12]? = _ from rfl)
    simp only at hop hgd
    have h0 := frm_at hdis ha 11 275 (hds 11 275 rfl) (by omega) (depl_of hdep 12 11 (by decide) ho hd)
    refine doesL_call ho (wanted_none hgd) 40 #[.int .i64 ((r / 12 : Nat) : Int)] ?_ (c12 L w' hW hL)
    rw [run_calls Try.func40 (by kernel_rfl) rfl _ _ _ _ hop rfl]
    simp only [List.map_toArray, List.map_cons, List.map_nil, eval_of h0]
    all_goals rfl
  | 13, ho, hL, _ =>
    obtain ⟨hop, hdst, hgd⟩ := tab_at htab ho (show rskT[13]? = _ from rfl)
    simp only at hop hgd
    have h0 := frm_at hdis ha 9 273 (hds 9 273 rfl) (by omega) (depl_of hdep 13 9 (by decide) ho hd)
    have h1 := frm_at hdis ha 12 276 (hds 12 276 rfl) (by omega) (depl_of hdep 13 12 (by decide) ho hd)
    exact doesL_run ho (wanted_none hgd) (hpure 13 (by decide) L w' hW) (run_neqS _ _ _ _ _ _ hop _ (eval_of h0) (eval_of h1) _)
  | (i + 14), ho, hL, hi => exact absurd hi (by omega)
end Go.Proofs.Ytpelmacblglhoaa
