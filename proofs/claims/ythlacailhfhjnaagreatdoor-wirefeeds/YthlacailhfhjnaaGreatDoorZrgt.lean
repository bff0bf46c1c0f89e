import Derived.Test.YthlacailhfhjnaaGreatDoorZrgp
import Derived.Test.YthlacailhfhjnaaGreatDoorWih
import Derived.Test.YthlacailhfhjnaaGreatDoorWcp
namespace Go.Proofs.YthlacailhfhjnaaGreatDoor
open Go.RowKit Go.Lib
theorem run_f53_0 (ρ : Operand → Value) (o : Oper) (x : Operand) (ho : o.op = .fieldAddr 53 x 0) (g q : Nat) (hx : ρ x = .pointer (some ⟨g, q, none⟩)) (w : World) : (execOp ρ o).run Tryz.prog w = .ok (.value (.pointer (some ⟨g, q + 0, none⟩))) w := by
  unfold execOp
  simp only [ho, hx]
  kernel_rfl
theorem run_ld49 (ρ : Operand → Value) (o : Oper) (x : Operand) (ho : o.op = .load 49 x) (p : Addr) (v : Value) (ha : ρ x = .pointer (some p)) (w : World) (hc : w.cell? p = some v) : (execOp ρ o).run Tryz.prog w = .ok (.value v) w := by
  unfold execOp
  simp only [ho, ha]
  simp [Instr.loadAt, go_sem, hc, Tryz.isAgg49]
theorem run_ia49 (ρ : Operand → Value) (o : Oper) (x y : Operand) (ho : o.op = .indexAddr 49 x y) (g q n cap k : Nat) (hk : k < n) (hx : ρ x = .slice (some ⟨g, q, none⟩) n cap) (hy : ρ y = .int .i64 (k : Int)) (w : World) : (execOp ρ o).run Tryz.prog w = .ok (.value (.pointer (some ⟨g, q + k, none⟩))) w := by
  unfold execOp
  simp only [ho, hx, hy]
  have h1 : (k : Int) < (n : Int) := by omega
  have u := Tryz.underlying49
  have z := Tryz.sizeOf22
  simp [go_sem, u, z, h1]
theorem run_f53_1 (ρ : Operand → Value) (o : Oper) (x : Operand) (ho : o.op = .fieldAddr 53 x 1) (g q : Nat) (hx : ρ x = .pointer (some ⟨g, q, none⟩)) (w : World) : (execOp ρ o).run Tryz.prog w = .ok (.value (.pointer (some ⟨g, q + 1, none⟩))) w := by
  unfold execOp
  simp only [ho, hx]
  kernel_rfl
theorem run_f53_3 (ρ : Operand → Value) (o : Oper) (x : Operand) (ho : o.op = .fieldAddr 53 x 3) (g q : Nat) (hx : ρ x = .pointer (some ⟨g, q, none⟩)) (w : World) : (execOp ρ o).run Tryz.prog w = .ok (.value (.pointer (some ⟨g, q + 3, none⟩))) w := by
  unfold execOp
  simp only [ho, hx]
  kernel_rfl
theorem run_f53_4 (ρ : Operand → Value) (o : Oper) (x : Operand) (ho : o.op = .fieldAddr 53 x 4) (g q : Nat) (hx : ρ x = .pointer (some ⟨g, q, none⟩)) (w : World) : (execOp ρ o).run Tryz.prog w = .ok (.value (.pointer (some ⟨g, q + 4, none⟩))) w := by
  unfold execOp
  simp only [ho, hx]
  kernel_rfl
theorem run_ld50 (ρ : Operand → Value) (o : Oper) (x : Operand) (ho : o.op = .load 50 x) (p : Addr) (v : Value) (ha : ρ x = .pointer (some p)) (w : World) (hc : w.cell? p = some v) : (execOp ρ o).run Tryz.prog w = .ok (.value v) w := by
  unfold execOp
  simp only [ho, ha]
  simp [Instr.loadAt, go_sem, hc, Tryz.isAgg50]
theorem run_ia50 (ρ : Operand → Value) (o : Oper) (x y : Operand) (ho : o.op = .indexAddr 50 x y) (g q n cap k : Nat) (hk : k < n) (hx : ρ x = .slice (some ⟨g, q, none⟩) n cap) (hy : ρ y = .int .i64 (k : Int)) (w : World) : (execOp ρ o).run Tryz.prog w = .ok (.value (.pointer (some ⟨g, q + k, none⟩))) w := by
  unfold execOp
  simp only [ho, hx, hy]
  have h1 : (k : Int) < (n : Int) := by omega
  have u := Tryz.underlying50
  have z := Tryz.sizeOf3
  simp [go_sem, u, z, h1]
def rstT : List (Op × Option Tmp × Option (Nat × Bool)) := [
  (.move (.tmp 0), some 66, none),
  (.nilCheck (.tmp 66), some 67, none),
  (.fieldAddr 53 (.tmp 67) 0, some 68, none),
  (.load 49 (.tmp 68), some 69, none),
  (.move (.tmp 6), some 70, none),
  (.indexAddr 49 (.tmp 69) (.tmp 70), some 71, none),
  (.load 22 (.tmp 71), some 72, none),
  (.move (.tmp 7), some 73, none),
  (.move (.tmp 6), some 74, none),
  (.call { callee := .value (.func 55), args := #[(.tmp 74)], argTypes := #[3] }, some 75, none),
  (.indexAddr 22 (.tmp 72) (.tmp 73), some 76, none),
  (.store 35 (.tmp 76) (.tmp 75), none, none)]
def rstD : List (Nat × Nat) := [(1, 0), (2, 1), (3, 2), (5, 3), (5, 4), (6, 5), (9, 8), (10, 6), (10, 7), (11, 9), (11, 10)]
set_option maxHeartbeats 2000000 in
theorem rst {ops : Array Oper} {id : Nat} {Q : Exit → Act → World → Prop} (Z G n cap g m c r k : Nat) (cs : Array Value) (htab : ops.toList.map (fun o => (o.op, o.dst, o.guard)) = rstT) (hdep : deplB rstD ops = true) (hac : acB ops = true)
    (a0 : Act) (w : World) (hsz : 77 ≤ a0.tmps.size) (o0 : a0.tmps[0]? = some (.pointer (some ⟨Z, 0, none⟩))) (o6 : a0.tmps[6]? = some (.int .i64 (r : Int))) (o7 : a0.tmps[7]? = some (.int .i64 (k : Int)))
    (Wd : (Nat → Bool) → World → Prop) (h0 : Wd (fun _ => false) w.drew) (hpure : ∀ i, i ∉ ([9, 11] : List Nat) → ∀ L W, Wd L W → Wd (upd L i) W)
    (i5 : r < n) (i10 : k < m) (l3 : ∀ L W, Wd L W → W.cell? ⟨Z, 0 + 0, none⟩ = some (.slice (some ⟨G, 0, none⟩) n cap))
    (l6 : ∀ L W, Wd L W → W.cell? ⟨G, 0 + r, none⟩ = some (.slice (some ⟨g, 0, none⟩) m c))
    (c9 : ∀ L W, Wd L W → L 9 = false → Calls Tryz.prog 55 #[.int .i64 (r : Int)] W fun e w' => e = .returned (.agg #[S (mk r).1, S (mk r).2]) ∧ Wd (upd L 9) w')
    (n11 : ∀ L W, Wd L W → L 11 = false → L 9 = true → L 10 = true → Wd (upd L 11) ((W.setCell ⟨g, 0 + k * 2, none⟩ (S (mk r).1)).setCell ⟨g, 0 + k * 2 + 1, none⟩ (S (mk r).2)) ∧ W.heap[g]? = some (.cells cs 35 (0, 0)) ∧ 0 + k * 2 + 1 < cs.size)
    (hend : ∀ L W, (∀ i, i < 12 → L i = true) → Wd L W → Q .normal (((((((((((a0.put (some 66) (.pointer (some ⟨Z, 0, none⟩))).put (some 67) (.pointer (some ⟨Z, 0, none⟩))).put (some 68) (.pointer (some ⟨Z, 0 + 0, none⟩))).put (some 69) (.slice (some ⟨G, 0, none⟩) n cap)).put (some 70) (.int .i64 (r : Int))).put (some 71) (.pointer (some ⟨G, 0 + r, none⟩))).put (some 72) (.slice (some ⟨g, 0, none⟩) m c)).put (some 73) (.int .i64 (k : Int))).put (some 74) (.int .i64 (r : Int))).put (some 75) (.agg #[S (mk r).1, S (mk r).2])).put (some 76) (.pointer (some ⟨g, 0 + k * 2, none⟩))) W) : (Code.region id ops true).wp Tryz.prog Q a0 w := by
  let val : Nat → Value := fun i => match i with
    | 0 => (.pointer (some ⟨Z, 0, none⟩))
    | 1 => (.pointer (some ⟨Z, 0, none⟩))
    | 2 => (.pointer (some ⟨Z, 0 + 0, none⟩))
    | 3 => (.slice (some ⟨G, 0, none⟩) n cap)
    | 4 => (.int .i64 (r : Int))
    | 5 => (.pointer (some ⟨G, 0 + r, none⟩))
    | 6 => (.slice (some ⟨g, 0, none⟩) m c)
    | 7 => (.int .i64 (k : Int))
    | 8 => (.int .i64 (r : Int))
    | 9 => (.agg #[S (mk r).1, S (mk r).2])
    | 10 => (.pointer (some ⟨g, 0 + k * 2, none⟩))
    | 11 => undef
    | _ => undef
  have hosz : ops.size = 12 := by
    have := congrArg List.length htab
    simpa [rstT] using this
  have hds : ∀ i s, (rstT[i]?).bind (·.2.1) = some s → dstOf ops i = some s := fun i s hi => by rw [tab_dst htab, hi]
  have hdisB : disL rstT = true := by rfl
  have hdis := disL_of htab hdisB
  have hold : ∀ s, rstT.all (fun x => !(x.2.1 == some s)) = true → (List.range ops.size).all (fun j => !(dstOf ops j == some s)) = true := fun s h => holdL htab s h
  refine region_detL val Wd (hac_of hac) hdis h0 ?_ ?_
  rotate_left
  · intro L W hall hW
    have := hend L W (by rw [← hosz]; exact hall) hW
    have e : frm ops a0 val (fun _ => true) ops.size = (((((((((((a0.put (some 66) (.pointer (some ⟨Z, 0, none⟩))).put (some 67) (.pointer (some ⟨Z, 0, none⟩))).put (some 68) (.pointer (some ⟨Z, 0 + 0, none⟩))).put (some 69) (.slice (some ⟨G, 0, none⟩) n cap)).put (some 70) (.int .i64 (r : Int))).put (some 71) (.pointer (some ⟨G, 0 + r, none⟩))).put (some 72) (.slice (some ⟨g, 0, none⟩) m c)).put (some 73) (.int .i64 (k : Int))).put (some 74) (.int .i64 (r : Int))).put (some 75) (.agg #[S (mk r).1, S (mk r).2])).put (some 76) (.pointer (some ⟨g, 0 + k * 2, none⟩))) := by
      rw [hosz]
      simp only [frm, if_true]
      rw [tab_dst htab 0, tab_dst htab 1, tab_dst htab 2, tab_dst htab 3, tab_dst htab 4, tab_dst htab 5, tab_dst htab 6, tab_dst htab 7, tab_dst htab 8, tab_dst htab 9, tab_dst htab 10, (show dstOf ops 11 = none from (tab_dst htab 11).trans rfl), put_none]
      rfl
    rw [e]
    exact this
  intro i o ho L a w' hL hd ha hW
  have hi : i < 12 := by rw [← hosz]; exact (Array.getElem?_eq_some_iff.1 ho).1
  match i, ho, hL, hi with
  | 0, ho, hL, _ =>
    obtain ⟨hop, hdst, hgd⟩ := tab_at htab ho (show rstT[0]? = _ from rfl)
    simp only at hop hgd
    have h0 := frm_old ha 0 _ (hold 0 rfl) o0
    exact doesL_run ho (wanted_none hgd) (hpure 0 (by decide) L w' hW) (by rw [run_move _ _ _ hop]; exact congrArg (fun v => Result.ok (Next.value v) w') (eval_of h0))
  | 1, ho, hL, _ =>
    obtain ⟨hop, hdst, hgd⟩ := tab_at htab ho (show rstT[1]? = _ from rfl)
    simp only at hop hgd
    have h0 := frm_at hdis ha 0 66 (hds 0 66 rfl) (by omega) (depl_of hdep 1 0 (by decide) ho hd)
    exact doesL_run ho (wanted_none hgd) (hpure 1 (by decide) L w' hW) (run_nil _ _ _ hop _ (eval_of h0) _)
  | 2, ho, hL, _ =>
    obtain ⟨hop, hdst, hgd⟩ := tab_at htab ho (show rstT[2]? = _ from rfl)
    simp only at hop hgd
    have h0 := frm_at hdis ha 1 67 (hds 1 67 rfl) (by omega) (depl_of hdep 2 1 (by decide) ho hd)
    exact doesL_run ho (wanted_none hgd) (hpure 2 (by decide) L w' hW) (run_f53_0 _ _ _ hop _ _ (eval_of h0) _)
  | 3, ho, hL, _ =>
    obtain ⟨hop, hdst, hgd⟩ := tab_at htab ho (show rstT[3]? = _ from rfl)
    simp only at hop hgd
    have h0 := frm_at hdis ha 2 68 (hds 2 68 rfl) (by omega) (depl_of hdep 3 2 (by decide) ho hd)
    exact doesL_run ho (wanted_none hgd) (hpure 3 (by decide) L w' hW) (run_ld49 _ _ _ hop _ _ (eval_of h0) _ (l3 L w' hW))
  | 4, ho, hL, _ =>
    obtain ⟨hop, hdst, hgd⟩ := tab_at htab ho (show rstT[4]? = _ from rfl)
    simp only at hop hgd
    have h0 := frm_old ha 6 _ (hold 6 rfl) o6
    exact doesL_run ho (wanted_none hgd) (hpure 4 (by decide) L w' hW) (by rw [run_move _ _ _ hop]; exact congrArg (fun v => Result.ok (Next.value v) w') (eval_of h0))
  | 5, ho, hL, _ =>
    obtain ⟨hop, hdst, hgd⟩ := tab_at htab ho (show rstT[5]? = _ from rfl)
    simp only at hop hgd
    have h0 := frm_at hdis ha 3 69 (hds 3 69 rfl) (by omega) (depl_of hdep 5 3 (by decide) ho hd)
    have h1 := frm_at hdis ha 4 70 (hds 4 70 rfl) (by omega) (depl_of hdep 5 4 (by decide) ho hd)
    exact doesL_run ho (wanted_none hgd) (hpure 5 (by decide) L w' hW) (run_ia49 _ _ _ _ hop _ _ _ _ _ i5 (eval_of h0) (eval_of h1) _)
  | 6, ho, hL, _ =>
    obtain ⟨hop, hdst, hgd⟩ := tab_at htab ho (show rstT[6]? = _ from rfl)
    simp only at hop hgd
    have h0 := frm_at hdis ha 5 71 (hds 5 71 rfl) (by omega) (depl_of hdep 6 5 (by decide) ho hd)
    exact doesL_run ho (wanted_none hgd) (hpure 6 (by decide) L w' hW) (run_ld22 _ _ _ hop _ _ (eval_of h0) _ (l6 L w' hW))
  | 7, ho, hL, _ =>
    obtain ⟨hop, hdst, hgd⟩ := tab_at htab ho (show rstT[7]? = _ from rfl)
    simp only at hop hgd
    have h0 := frm_old ha 7 _ (hold 7 rfl) o7
    exact doesL_run ho (wanted_none hgd) (hpure 7 (by decide) L w' hW) (by rw [run_move _ _ _ hop]; exact congrArg (fun v => Result.ok (Next.value v) w') (eval_of h0))
  | 8, ho, hL, _ =>
    obtain ⟨hop, hdst, hgd⟩ := tab_at htab ho (show rstT[8]? = _ from rfl)
    simp only at hop hgd
    have h0 := frm_old ha 6 _ (hold 6 rfl) o6
    exact doesL_run ho (wanted_none hgd) (hpure 8 (by decide) L w' hW) (by rw [run_move _ _ _ hop]; exact congrArg (fun v => Result.ok (Next.value v) w') (eval_of h0))
  | 9, ho, hL, _ =>
    obtain ⟨hop, hdst, hgd⟩ := tab_at htab ho (show rstT[9]? = _ from rfl)
    simp only at hop hgd
    have h0 := frm_at hdis ha 8 74 (hds 8 74 rfl) (by omega) (depl_of hdep 9 8 (by decide) ho hd)
    refine doesL_call ho (wanted_none hgd) 55 #[.int .i64 (r : Int)] ?_ (c9 L w' hW hL)
    rw [run_calls Tryz.func55 (by kernel_rfl) rfl _ _ _ _ hop rfl]
    simp only [List.map_toArray, List.map_cons, List.map_nil, eval_of h0]
    all_goals rfl
  | 10, ho, hL, _ =>
    obtain ⟨hop, hdst, hgd⟩ := tab_at htab ho (show rstT[10]? = _ from rfl)
    simp only at hop hgd
    have h0 := frm_at hdis ha 6 72 (hds 6 72 rfl) (by omega) (depl_of hdep 10 6 (by decide) ho hd)
    have h1 := frm_at hdis ha 7 73 (hds 7 73 rfl) (by omega) (depl_of hdep 10 7 (by decide) ho hd)
    exact doesL_run ho (wanted_none hgd) (hpure 10 (by decide) L w' hW) (run_ia22 _ _ _ _ hop _ _ _ _ _ i10 (eval_of h0) (eval_of h1) _)
  | 11, ho, hL, _ =>
    obtain ⟨hop, hdst, hgd⟩ := tab_at htab ho (show rstT[11]? = _ from rfl)
    simp only at hop hgd
    have h0 := frm_at hdis ha 10 76 (hds 10 76 rfl) (by omega) (depl_of hdep 11 10 (by decide) ho hd)
    have h1 := frm_at hdis ha 9 75 (hds 9 75 rfl) (by omega) (depl_of hdep 11 9 (by decide) ho hd)
    obtain ⟨s1, s2⟩ := n11 L w' hW hL (depl_of hdep 11 9 (by decide) ho hd) (depl_of hdep 11 10 (by decide) ho hd)
    exact doesL_skp ho (wanted_none hgd) rfl s1 (run_st35 _ _ _ _ hop _ _ _ _ (eval_of h0) (eval_of h1) _ _ s2 ⟨rfl, rfl⟩)
  | (i + 12), ho, hL, hi => exact absurd hi (by omega)
def rsaT : List (Op × Option Tmp × Option (Nat × Bool)) := [
  (.move (.tmp 0), some 28, none),
  (.nilCheck (.tmp 28), some 29, none),
  (.fieldAddr 53 (.tmp 29) 0, some 30, none),
  (.load 49 (.tmp 30), some 31, none),
  (.move (.tmp 4), some 32, none),
  (.indexAddr 49 (.tmp 31) (.tmp 32), some 33, none),
  (.load 22 (.tmp 33), some 34, none),
  (.move (.tmp 0), some 35, none),
  (.nilCheck (.tmp 35), some 36, none),
  (.fieldAddr 53 (.tmp 36) 1, some 37, none),
  (.load 49 (.tmp 37), some 38, none),
  (.move (.tmp 4), some 39, none),
  (.indexAddr 49 (.tmp 38) (.tmp 39), some 40, none),
  (.load 22 (.tmp 40), some 41, none),
  (.call { callee := .value (.func 54), args := #[(.tmp 34), (.tmp 41)], argTypes := #[22, 22] }, some 42, none),
  (.assign (.tmp 42), some 5, none)]
def rsaD : List (Nat × Nat) := [(1, 0), (2, 1), (3, 2), (5, 3), (5, 4), (6, 5), (8, 7), (9, 8), (10, 9), (12, 10), (12, 11), (13, 12), (14, 6), (14, 13), (15, 14)]
set_option maxHeartbeats 2000000 in
theorem rsa {ops : Array Oper} {id : Nat} {Q : Exit → Act → World → Prop} (Z G n cap H n2 cap2 r : Nat) (V1 V2 : Value) (htab : ops.toList.map (fun o => (o.op, o.dst, o.guard)) = rsaT) (hdep : deplB rsaD ops = true) (hac : acB ops = true)
    (a0 : Act) (w : World) (hsz : 43 ≤ a0.tmps.size) (o0 : a0.tmps[0]? = some (.pointer (some ⟨Z, 0, none⟩))) (o4 : a0.tmps[4]? = some (.int .i64 (r : Int)))
    (Wd : (Nat → Bool) → World → Prop) (h0 : Wd (fun _ => false) w.drew) (hpure : ∀ i, i ∉ ([14] : List Nat) → ∀ L W, Wd L W → Wd (upd L i) W)
    (i5 : r < n) (i12 : r < n2) (l3 : ∀ L W, Wd L W → W.cell? ⟨Z, 0 + 0, none⟩ = some (.slice (some ⟨G, 0, none⟩) n cap))
    (l6 : ∀ L W, Wd L W → W.cell? ⟨G, 0 + r, none⟩ = some V1) (l10 : ∀ L W, Wd L W → W.cell? ⟨Z, 0 + 1, none⟩ = some (.slice (some ⟨H, 0, none⟩) n2 cap2))
    (l13 : ∀ L W, Wd L W → W.cell? ⟨H, 0 + r, none⟩ = some V2)
    (c14 : ∀ L W, Wd L W → L 14 = false → Calls Tryz.prog 54 #[V1, V2] W fun e w' => e = .returned (.bool true) ∧ Wd (upd L 14) w')
    (hend : ∀ L W, (∀ i, i < 16 → L i = true) → Wd L W → Q .normal ((((((((((((((((a0.put (some 28) (.pointer (some ⟨Z, 0, none⟩))).put (some 29) (.pointer (some ⟨Z, 0, none⟩))).put (some 30) (.pointer (some ⟨Z, 0 + 0, none⟩))).put (some 31) (.slice (some ⟨G, 0, none⟩) n cap)).put (some 32) (.int .i64 (r : Int))).put (some 33) (.pointer (some ⟨G, 0 + r, none⟩))).put (some 34) V1).put (some 35) (.pointer (some ⟨Z, 0, none⟩))).put (some 36) (.pointer (some ⟨Z, 0, none⟩))).put (some 37) (.pointer (some ⟨Z, 0 + 1, none⟩))).put (some 38) (.slice (some ⟨H, 0, none⟩) n2 cap2)).put (some 39) (.int .i64 (r : Int))).put (some 40) (.pointer (some ⟨H, 0 + r, none⟩))).put (some 41) V2).put (some 42) (.bool true)).put (some 5) (.bool true)) W) : (Code.region id ops true).wp Tryz.prog Q a0 w := by
  let val : Nat → Value := fun i => match i with
    | 0 => (.pointer (some ⟨Z, 0, none⟩))
    | 1 => (.pointer (some ⟨Z, 0, none⟩))
    | 2 => (.pointer (some ⟨Z, 0 + 0, none⟩))
    | 3 => (.slice (some ⟨G, 0, none⟩) n cap)
    | 4 => (.int .i64 (r : Int))
    | 5 => (.pointer (some ⟨G, 0 + r, none⟩))
    | 6 => V1
    | 7 => (.pointer (some ⟨Z, 0, none⟩))
    | 8 => (.pointer (some ⟨Z, 0, none⟩))
    | 9 => (.pointer (some ⟨Z, 0 + 1, none⟩))
    | 10 => (.slice (some ⟨H, 0, none⟩) n2 cap2)
    | 11 => (.int .i64 (r : Int))
    | 12 => (.pointer (some ⟨H, 0 + r, none⟩))
    | 13 => V2
    | 14 => (.bool true)
    | 15 => (.bool true)
    | _ => undef
  have hosz : ops.size = 16 := by
    have := congrArg List.length htab
    simpa [rsaT] using this
  have hds : ∀ i s, (rsaT[i]?).bind (·.2.1) = some s → dstOf ops i = some s := fun i s hi => by rw [tab_dst htab, hi]
  have hdisB : disL rsaT = true := by rfl
  have hdis := disL_of htab hdisB
  have hold : ∀ s, rsaT.all (fun x => !(x.2.1 == some s)) = true → (List.range ops.size).all (fun j => !(dstOf ops j == some s)) = true := fun s h => holdL htab s h
  refine region_detL val Wd (hac_of hac) hdis h0 ?_ ?_
  rotate_left
  · intro L W hall hW
    have := hend L W (by rw [← hosz]; exact hall) hW
    have e : frm ops a0 val (fun _ => true) ops.size = ((((((((((((((((a0.put (some 28) (.pointer (some ⟨Z, 0, none⟩))).put (some 29) (.pointer (some ⟨Z, 0, none⟩))).put (some 30) (.pointer (some ⟨Z, 0 + 0, none⟩))).put (some 31) (.slice (some ⟨G, 0, none⟩) n cap)).put (some 32) (.int .i64 (r : Int))).put (some 33) (.pointer (some ⟨G, 0 + r, none⟩))).put (some 34) V1).put (some 35) (.pointer (some ⟨Z, 0, none⟩))).put (some 36) (.pointer (some ⟨Z, 0, none⟩))).put (some 37) (.pointer (some ⟨Z, 0 + 1, none⟩))).put (some 38) (.slice (some ⟨H, 0, none⟩) n2 cap2)).put (some 39) (.int .i64 (r : Int))).put (some 40) (.pointer (some ⟨H, 0 + r, none⟩))).put (some 41) V2).put (some 42) (.bool true)).put (some 5) (.bool true)) := by
      rw [hosz]
      simp only [frm, if_true]
      rw [tab_dst htab 0, tab_dst htab 1, tab_dst htab 2, tab_dst htab 3, tab_dst htab 4, tab_dst htab 5, tab_dst htab 6, tab_dst htab 7, tab_dst htab 8, tab_dst htab 9, tab_dst htab 10, tab_dst htab 11, tab_dst htab 12, tab_dst htab 13, tab_dst htab 14, tab_dst htab 15]
      rfl
    rw [e]
    exact this
  intro i o ho L a w' hL hd ha hW
  have hi : i < 16 := by rw [← hosz]; exact (Array.getElem?_eq_some_iff.1 ho).1
  match i, ho, hL, hi with
  | 0, ho, hL, _ =>
    obtain ⟨hop, hdst, hgd⟩ := tab_at htab ho (show rsaT[0]? = _ from rfl)
    simp only at hop hgd
    have h0 := frm_old ha 0 _ (hold 0 rfl) o0
    exact doesL_run ho (wanted_none hgd) (hpure 0 (by decide) L w' hW) (by rw [run_move _ _ _ hop]; exact congrArg (fun v => Result.ok (Next.value v) w') (eval_of h0))
  | 1, ho, hL, _ =>
    obtain ⟨hop, hdst, hgd⟩ := tab_at htab ho (show rsaT[1]? = _ from rfl)
    simp only at hop hgd
    have h0 := frm_at hdis ha 0 28 (hds 0 28 rfl) (by omega) (depl_of hdep 1 0 (by decide) ho hd)
    exact doesL_run ho (wanted_none hgd) (hpure 1 (by decide) L w' hW) (run_nil _ _ _ hop _ (eval_of h0) _)
  | 2, ho, hL, _ =>
    obtain ⟨hop, hdst, hgd⟩ := tab_at htab ho (show rsaT[2]? = _ from rfl)
    simp only at hop hgd
    have h0 := frm_at hdis ha 1 29 (hds 1 29 rfl) (by omega) (depl_of hdep 2 1 (by decide) ho hd)
    exact doesL_run ho (wanted_none hgd) (hpure 2 (by decide) L w' hW) (run_f53_0 _ _ _ hop _ _ (eval_of h0) _)
  | 3, ho, hL, _ =>
    obtain ⟨hop, hdst, hgd⟩ := tab_at htab ho (show rsaT[3]? = _ from rfl)
    simp only at hop hgd
    have h0 := frm_at hdis ha 2 30 (hds 2 30 rfl) (by omega) (depl_of hdep 3 2 (by decide) ho hd)
    exact doesL_run ho (wanted_none hgd) (hpure 3 (by decide) L w' hW) (run_ld49 _ _ _ hop _ _ (eval_of h0) _ (l3 L w' hW))
  | 4, ho, hL, _ =>
    obtain ⟨hop, hdst, hgd⟩ := tab_at htab ho (show rsaT[4]? = _ from rfl)
    simp only at hop hgd
    have h0 := frm_old ha 4 _ (hold 4 rfl) o4
    exact doesL_run ho (wanted_none hgd) (hpure 4 (by decide) L w' hW) (by rw [run_move _ _ _ hop]; exact congrArg (fun v => Result.ok (Next.value v) w') (eval_of h0))
  | 5, ho, hL, _ =>
    obtain ⟨hop, hdst, hgd⟩ := tab_at htab ho (show rsaT[5]? = _ from rfl)
    simp only at hop hgd
    have h0 := frm_at hdis ha 3 31 (hds 3 31 rfl) (by omega) (depl_of hdep 5 3 (by decide) ho hd)
    have h1 := frm_at hdis ha 4 32 (hds 4 32 rfl) (by omega) (depl_of hdep 5 4 (by decide) ho hd)
    exact doesL_run ho (wanted_none hgd) (hpure 5 (by decide) L w' hW) (run_ia49 _ _ _ _ hop _ _ _ _ _ i5 (eval_of h0) (eval_of h1) _)
  | 6, ho, hL, _ =>
    obtain ⟨hop, hdst, hgd⟩ := tab_at htab ho (show rsaT[6]? = _ from rfl)
    simp only at hop hgd
    have h0 := frm_at hdis ha 5 33 (hds 5 33 rfl) (by omega) (depl_of hdep 6 5 (by decide) ho hd)
    exact doesL_run ho (wanted_none hgd) (hpure 6 (by decide) L w' hW) (run_ld22 _ _ _ hop _ _ (eval_of h0) _ (l6 L w' hW))
  | 7, ho, hL, _ =>
    obtain ⟨hop, hdst, hgd⟩ := tab_at htab ho (show rsaT[7]? = _ from rfl)
    simp only at hop hgd
    have h0 := frm_old ha 0 _ (hold 0 rfl) o0
    exact doesL_run ho (wanted_none hgd) (hpure 7 (by decide) L w' hW) (by rw [run_move _ _ _ hop]; exact congrArg (fun v => Result.ok (Next.value v) w') (eval_of h0))
  | 8, ho, hL, _ =>
    obtain ⟨hop, hdst, hgd⟩ := tab_at htab ho (show rsaT[8]? = _ from rfl)
    simp only at hop hgd
    have h0 := frm_at hdis ha 7 35 (hds 7 35 rfl) (by omega) (depl_of hdep 8 7 (by decide) ho hd)
    exact doesL_run ho (wanted_none hgd) (hpure 8 (by decide) L w' hW) (run_nil _ _ _ hop _ (eval_of h0) _)
  | 9, ho, hL, _ =>
    obtain ⟨hop, hdst, hgd⟩ := tab_at htab ho (show rsaT[9]? = _ from rfl)
    simp only at hop hgd
    have h0 := frm_at hdis ha 8 36 (hds 8 36 rfl) (by omega) (depl_of hdep 9 8 (by decide) ho hd)
    exact doesL_run ho (wanted_none hgd) (hpure 9 (by decide) L w' hW) (run_f53_1 _ _ _ hop _ _ (eval_of h0) _)
  | 10, ho, hL, _ =>
    obtain ⟨hop, hdst, hgd⟩ := tab_at htab ho (show rsaT[10]? = _ from rfl)
    simp only at hop hgd
    have h0 := frm_at hdis ha 9 37 (hds 9 37 rfl) (by omega) (depl_of hdep 10 9 (by decide) ho hd)
    exact doesL_run ho (wanted_none hgd) (hpure 10 (by decide) L w' hW) (run_ld49 _ _ _ hop _ _ (eval_of h0) _ (l10 L w' hW))
  | 11, ho, hL, _ =>
    obtain ⟨hop, hdst, hgd⟩ := tab_at htab ho (show rsaT[11]? = _ from rfl)
    simp only at hop hgd
    have h0 := frm_old ha 4 _ (hold 4 rfl) o4
    exact doesL_run ho (wanted_none hgd) (hpure 11 (by decide) L w' hW) (by rw [run_move _ _ _ hop]; exact congrArg (fun v => Result.ok (Next.value v) w') (eval_of h0))
  | 12, ho, hL, _ =>
    obtain ⟨hop, hdst, hgd⟩ := tab_at htab ho (show rsaT[12]? = _ from rfl)
    simp only at hop hgd
    have h0 := frm_at hdis ha 10 38 (hds 10 38 rfl) (by omega) (depl_of hdep 12 10 (by decide) ho hd)
    have h1 := frm_at hdis ha 11 39 (hds 11 39 rfl) (by omega) (depl_of hdep 12 11 (by decide) ho hd)
    exact doesL_run ho (wanted_none hgd) (hpure 12 (by decide) L w' hW) (run_ia49 _ _ _ _ hop _ _ _ _ _ i12 (eval_of h0) (eval_of h1) _)
  | 13, ho, hL, _ =>
    obtain ⟨hop, hdst, hgd⟩ := tab_at htab ho (show rsaT[13]? = _ from rfl)
    simp only at hop hgd
    have h0 := frm_at hdis ha 12 40 (hds 12 40 rfl) (by omega) (depl_of hdep 13 12 (by decide) ho hd)
    exact doesL_run ho (wanted_none hgd) (hpure 13 (by decide) L w' hW) (run_ld22 _ _ _ hop _ _ (eval_of h0) _ (l13 L w' hW))
  | 14, ho, hL, _ =>
    obtain ⟨hop, hdst, hgd⟩ := tab_at htab ho (show rsaT[14]? = _ from rfl)
    simp only at hop hgd
    have h0 := frm_at hdis ha 6 34 (hds 6 34 rfl) (by omega) (depl_of hdep 14 6 (by decide) ho hd)
    have h1 := frm_at hdis ha 13 41 (hds 13 41 rfl) (by omega) (depl_of hdep 14 13 (by decide) ho hd)
    refine doesL_call ho (wanted_none hgd) 54 #[V1, V2] ?_ (c14 L w' hW hL)
    rw [run_calls Tryz.func54 (by kernel_rfl) rfl _ _ _ _ hop rfl]
    simp only [List.map_toArray, List.map_cons, List.map_nil, eval_of h0, eval_of h1]
    all_goals rfl
  | 15, ho, hL, _ =>
    obtain ⟨hop, hdst, hgd⟩ := tab_at htab ho (show rsaT[15]? = _ from rfl)
    simp only at hop hgd
    have h0 := frm_at hdis ha 14 42 (hds 14 42 rfl) (by omega) (depl_of hdep 15 14 (by decide) ho hd)
    exact doesL_run ho (wanted_none hgd) (hpure 15 (by decide) L w' hW) (by rw [run_assign _ _ _ hop]; exact congrArg (fun v => Result.ok (Next.value v) w') (eval_of h0))
  | (i + 16), ho, hL, hi => exact absurd hi (by omega)
def rsbT : List (Op × Option Tmp × Option (Nat × Bool)) := [
  (.move (.tmp 0), some 131, none),
  (.nilCheck (.tmp 131), some 132, none),
  (.fieldAddr 53 (.tmp 132) 0, some 133, none),
  (.load 49 (.tmp 133), some 134, none),
  (.move (.tmp 11), some 135, none),
  (.indexAddr 49 (.tmp 134) (.tmp 135), some 136, none),
  (.load 22 (.tmp 136), some 137, none),
  (.move (.tmp 11), some 138, none),
  (.call { callee := .value (.func 55), args := #[(.tmp 138)], argTypes := #[3] }, some 139, none),
  (.call { callee := .value (.func 56), args := #[(.tmp 137), (.tmp 139)], argTypes := #[22, 35] }, some 140, none),
  (.assign (.tmp 140), some 12, none)]
def rsbD : List (Nat × Nat) := [(1, 0), (2, 1), (3, 2), (5, 3), (5, 4), (6, 5), (8, 7), (9, 6), (9, 8), (10, 9)]
set_option maxHeartbeats 2000000 in
theorem rsb {ops : Array Oper} {id : Nat} {Q : Exit → Act → World → Prop} (Z G n cap r : Nat) (V1 : Value) (htab : ops.toList.map (fun o => (o.op, o.dst, o.guard)) = rsbT) (hdep : deplB rsbD ops = true) (hac : acB ops = true)
    (a0 : Act) (w : World) (hsz : 141 ≤ a0.tmps.size) (o0 : a0.tmps[0]? = some (.pointer (some ⟨Z, 0, none⟩))) (o11 : a0.tmps[11]? = some (.int .i64 (r : Int)))
    (Wd : (Nat → Bool) → World → Prop) (h0 : Wd (fun _ => false) w.drew) (hpure : ∀ i, i ∉ ([8, 9] : List Nat) → ∀ L W, Wd L W → Wd (upd L i) W)
    (i5 : r < n) (l3 : ∀ L W, Wd L W → W.cell? ⟨Z, 0 + 0, none⟩ = some (.slice (some ⟨G, 0, none⟩) n cap))
    (l6 : ∀ L W, Wd L W → W.cell? ⟨G, 0 + r, none⟩ = some V1)
    (c8 : ∀ L W, Wd L W → L 8 = false → Calls Tryz.prog 55 #[.int .i64 (r : Int)] W fun e w' => e = .returned (.agg #[S (mk r).1, S (mk r).2]) ∧ Wd (upd L 8) w')
    (c9 : ∀ L W, Wd L W → L 9 = false → Calls Tryz.prog 56 #[V1, .agg #[S (mk r).1, S (mk r).2]] W fun e w' => e = .returned (.bool true) ∧ Wd (upd L 9) w')
    (hend : ∀ L W, (∀ i, i < 11 → L i = true) → Wd L W → Q .normal (((((((((((a0.put (some 131) (.pointer (some ⟨Z, 0, none⟩))).put (some 132) (.pointer (some ⟨Z, 0, none⟩))).put (some 133) (.pointer (some ⟨Z, 0 + 0, none⟩))).put (some 134) (.slice (some ⟨G, 0, none⟩) n cap)).put (some 135) (.int .i64 (r : Int))).put (some 136) (.pointer (some ⟨G, 0 + r, none⟩))).put (some 137) V1).put (some 138) (.int .i64 (r : Int))).put (some 139) (.agg #[S (mk r).1, S (mk r).2])).put (some 140) (.bool true)).put (some 12) (.bool true)) W) : (Code.region id ops true).wp Tryz.prog Q a0 w := by
  let val : Nat → Value := fun i => match i with
    | 0 => (.pointer (some ⟨Z, 0, none⟩))
    | 1 => (.pointer (some ⟨Z, 0, none⟩))
    | 2 => (.pointer (some ⟨Z, 0 + 0, none⟩))
    | 3 => (.slice (some ⟨G, 0, none⟩) n cap)
    | 4 => (.int .i64 (r : Int))
    | 5 => (.pointer (some ⟨G, 0 + r, none⟩))
    | 6 => V1
    | 7 => (.int .i64 (r : Int))
    | 8 => (.agg #[S (mk r).1, S (mk r).2])
    | 9 => (.bool true)
    | 10 => (.bool true)
    | _ => undef
  have hosz : ops.size = 11 := by
    have := congrArg List.length htab
    simpa [rsbT] using this
  have hds : ∀ i s, (rsbT[i]?).bind (·.2.1) = some s → dstOf ops i = some s := fun i s hi => by rw [tab_dst htab, hi]
  have hdisB : disL rsbT = true := by rfl
  have hdis := disL_of htab hdisB
  have hold : ∀ s, rsbT.all (fun x => !(x.2.1 == some s)) = true → (List.range ops.size).all (fun j => !(dstOf ops j == some s)) = true := fun s h => holdL htab s h
  refine region_detL val Wd (hac_of hac) hdis h0 ?_ ?_
  rotate_left
  · intro L W hall hW
    have := hend L W (by rw [← hosz]; exact hall) hW
    have e : frm ops a0 val (fun _ => true) ops.size = (((((((((((a0.put (some 131) (.pointer (some ⟨Z, 0, none⟩))).put (some 132) (.pointer (some ⟨Z, 0, none⟩))).put (some 133) (.pointer (some ⟨Z, 0 + 0, none⟩))).put (some 134) (.slice (some ⟨G, 0, none⟩) n cap)).put (some 135) (.int .i64 (r : Int))).put (some 136) (.pointer (some ⟨G, 0 + r, none⟩))).put (some 137) V1).put (some 138) (.int .i64 (r : Int))).put (some 139) (.agg #[S (mk r).1, S (mk r).2])).put (some 140) (.bool true)).put (some 12) (.bool true)) := by
      rw [hosz]
      simp only [frm, if_true]
      rw [tab_dst htab 0, tab_dst htab 1, tab_dst htab 2, tab_dst htab 3, tab_dst htab 4, tab_dst htab 5, tab_dst htab 6, tab_dst htab 7, tab_dst htab 8, tab_dst htab 9, tab_dst htab 10]
      rfl
    rw [e]
    exact this
  intro i o ho L a w' hL hd ha hW
  have hi : i < 11 := by rw [← hosz]; exact (Array.getElem?_eq_some_iff.1 ho).1
  match i, ho, hL, hi with
  | 0, ho, hL, _ =>
    obtain ⟨hop, hdst, hgd⟩ := tab_at htab ho (show rsbT[0]? = _ from rfl)
    simp only at hop hgd
    have h0 := frm_old ha 0 _ (hold 0 rfl) o0
    exact doesL_run ho (wanted_none hgd) (hpure 0 (by decide) L w' hW) (by rw [run_move _ _ _ hop]; exact congrArg (fun v => Result.ok (Next.value v) w') (eval_of h0))
  | 1, ho, hL, _ =>
    obtain ⟨hop, hdst, hgd⟩ := tab_at htab ho (show rsbT[1]? = _ from rfl)
    simp only at hop hgd
    have h0 := frm_at hdis ha 0 131 (hds 0 131 rfl) (by omega) (depl_of hdep 1 0 (by decide) ho hd)
    exact doesL_run ho (wanted_none hgd) (hpure 1 (by decide) L w' hW) (run_nil _ _ _ hop _ (eval_of h0) _)
  | 2, ho, hL, _ =>
    obtain ⟨hop, hdst, hgd⟩ := tab_at htab ho (show rsbT[2]? = _ from rfl)
    simp only at hop hgd
    have h0 := frm_at hdis ha 1 132 (hds 1 132 rfl) (by omega) (depl_of hdep 2 1 (by decide) ho hd)
    exact doesL_run ho (wanted_none hgd) (hpure 2 (by decide) L w' hW) (run_f53_0 _ _ _ hop _ _ (eval_of h0) _)
  | 3, ho, hL, _ =>
    obtain ⟨hop, hdst, hgd⟩ := tab_at htab ho (show rsbT[3]? = _ from rfl)
    simp only at hop hgd
    have h0 := frm_at hdis ha 2 133 (hds 2 133 rfl) (by omega) (depl_of hdep 3 2 (by decide) ho hd)
    exact doesL_run ho (wanted_none hgd) (hpure 3 (by decide) L w' hW) (run_ld49 _ _ _ hop _ _ (eval_of h0) _ (l3 L w' hW))
  | 4, ho, hL, _ =>
    obtain ⟨hop, hdst, hgd⟩ := tab_at htab ho (show rsbT[4]? = _ from rfl)
    simp only at hop hgd
    have h0 := frm_old ha 11 _ (hold 11 rfl) o11
    exact doesL_run ho (wanted_none hgd) (hpure 4 (by decide) L w' hW) (by rw [run_move _ _ _ hop]; exact congrArg (fun v => Result.ok (Next.value v) w') (eval_of h0))
  | 5, ho, hL, _ =>
    obtain ⟨hop, hdst, hgd⟩ := tab_at htab ho (show rsbT[5]? = _ from rfl)
    simp only at hop hgd
    have h0 := frm_at hdis ha 3 134 (hds 3 134 rfl) (by omega) (depl_of hdep 5 3 (by decide) ho hd)
    have h1 := frm_at hdis ha 4 135 (hds 4 135 rfl) (by omega) (depl_of hdep 5 4 (by decide) ho hd)
    exact doesL_run ho (wanted_none hgd) (hpure 5 (by decide) L w' hW) (run_ia49 _ _ _ _ hop _ _ _ _ _ i5 (eval_of h0) (eval_of h1) _)
  | 6, ho, hL, _ =>
    obtain ⟨hop, hdst, hgd⟩ := tab_at htab ho (show rsbT[6]? = _ from rfl)
    simp only at hop hgd
    have h0 := frm_at hdis ha 5 136 (hds 5 136 rfl) (by omega) (depl_of hdep 6 5 (by decide) ho hd)
    exact doesL_run ho (wanted_none hgd) (hpure 6 (by decide) L w' hW) (run_ld22 _ _ _ hop _ _ (eval_of h0) _ (l6 L w' hW))
  | 7, ho, hL, _ =>
    obtain ⟨hop, hdst, hgd⟩ := tab_at htab ho (show rsbT[7]? = _ from rfl)
    simp only at hop hgd
    have h0 := frm_old ha 11 _ (hold 11 rfl) o11
    exact doesL_run ho (wanted_none hgd) (hpure 7 (by decide) L w' hW) (by rw [run_move _ _ _ hop]; exact congrArg (fun v => Result.ok (Next.value v) w') (eval_of h0))
  | 8, ho, hL, _ =>
    obtain ⟨hop, hdst, hgd⟩ := tab_at htab ho (show rsbT[8]? = _ from rfl)
    simp only at hop hgd
    have h0 := frm_at hdis ha 7 138 (hds 7 138 rfl) (by omega) (depl_of hdep 8 7 (by decide) ho hd)
    refine doesL_call ho (wanted_none hgd) 55 #[.int .i64 (r : Int)] ?_ (c8 L w' hW hL)
    rw [run_calls Tryz.func55 (by kernel_rfl) rfl _ _ _ _ hop rfl]
    simp only [List.map_toArray, List.map_cons, List.map_nil, eval_of h0]
    all_goals rfl
  | 9, ho, hL, _ =>
    obtain ⟨hop, hdst, hgd⟩ := tab_at htab ho (show rsbT[9]? = _ from rfl)
    simp only at hop hgd
    have h0 := frm_at hdis ha 6 137 (hds 6 137 rfl) (by omega) (depl_of hdep 9 6 (by decide) ho hd)
    have h1 := frm_at hdis ha 8 139 (hds 8 139 rfl) (by omega) (depl_of hdep 9 8 (by decide) ho hd)
    refine doesL_call ho (wanted_none hgd) 56 #[V1, .agg #[S (mk r).1, S (mk r).2]] ?_ (c9 L w' hW hL)
    rw [run_calls Tryz.func56 (by kernel_rfl) rfl _ _ _ _ hop rfl]
    simp only [List.map_toArray, List.map_cons, List.map_nil, eval_of h0, eval_of h1]
    all_goals rfl
  | 10, ho, hL, _ =>
    obtain ⟨hop, hdst, hgd⟩ := tab_at htab ho (show rsbT[10]? = _ from rfl)
    simp only at hop hgd
    have h0 := frm_at hdis ha 9 140 (hds 9 140 rfl) (by omega) (depl_of hdep 10 9 (by decide) ho hd)
    exact doesL_run ho (wanted_none hgd) (hpure 10 (by decide) L w' hW) (by rw [run_assign _ _ _ hop]; exact congrArg (fun v => Result.ok (Next.value v) w') (eval_of h0))
  | (i + 11), ho, hL, hi => exact absurd hi (by omega)
def rscT : List (Op × Option Tmp × Option (Nat × Bool)) := [
  (.move (.tmp 0), some 152, none),
  (.nilCheck (.tmp 152), some 153, none),
  (.fieldAddr 53 (.tmp 153) 3, some 154, none),
  (.load 49 (.tmp 154), some 155, none),
  (.move (.tmp 13), some 156, none),
  (.indexAddr 49 (.tmp 155) (.tmp 156), some 157, none),
  (.load 22 (.tmp 157), some 158, none),
  (.move (.tmp 0), some 159, none),
  (.nilCheck (.tmp 159), some 160, none),
  (.fieldAddr 53 (.tmp 160) 4, some 161, none),
  (.load 50 (.tmp 161), some 162, none),
  (.move (.tmp 13), some 163, none),
  (.indexAddr 50 (.tmp 162) (.tmp 163), some 164, none),
  (.load 3 (.tmp 164), some 165, none),
  (.call { callee := .value (.func 55), args := #[(.tmp 165)], argTypes := #[3] }, some 166, none),
  (.call { callee := .value (.func 56), args := #[(.tmp 158), (.tmp 166)], argTypes := #[22, 35] }, some 167, none),
  (.assign (.tmp 167), some 14, none)]
def rscD : List (Nat × Nat) := [(1, 0), (2, 1), (3, 2), (5, 3), (5, 4), (6, 5), (8, 7), (9, 8), (10, 9), (12, 10), (12, 11), (13, 12), (14, 13), (15, 6), (15, 14), (16, 15)]
set_option maxHeartbeats 2000000 in
theorem rsc {ops : Array Oper} {id : Nat} {Q : Exit → Act → World → Prop} (Z G n cap H n2 cap2 r q : Nat) (V1 : Value) (htab : ops.toList.map (fun o => (o.op, o.dst, o.guard)) = rscT) (hdep : deplB rscD ops = true) (hac : acB ops = true)
    (a0 : Act) (w : World) (hsz : 168 ≤ a0.tmps.size) (o0 : a0.tmps[0]? = some (.pointer (some ⟨Z, 0, none⟩))) (o13 : a0.tmps[13]? = some (.int .i64 (r : Int)))
    (Wd : (Nat → Bool) → World → Prop) (h0 : Wd (fun _ => false) w.drew) (hpure : ∀ i, i ∉ ([14, 15] : List Nat) → ∀ L W, Wd L W → Wd (upd L i) W)
    (i5 : r < n) (i12 : r < n2) (l3 : ∀ L W, Wd L W → W.cell? ⟨Z, 0 + 3, none⟩ = some (.slice (some ⟨G, 0, none⟩) n cap))
    (l6 : ∀ L W, Wd L W → W.cell? ⟨G, 0 + r, none⟩ = some V1) (l10 : ∀ L W, Wd L W → W.cell? ⟨Z, 0 + 4, none⟩ = some (.slice (some ⟨H, 0, none⟩) n2 cap2))
    (l13 : ∀ L W, Wd L W → W.cell? ⟨H, 0 + r, none⟩ = some (.int .i64 (q : Int)))
    (c14 : ∀ L W, Wd L W → L 14 = false → Calls Tryz.prog 55 #[.int .i64 (q : Int)] W fun e w' => e = .returned (.agg #[S (mk q).1, S (mk q).2]) ∧ Wd (upd L 14) w')
    (c15 : ∀ L W, Wd L W → L 15 = false → Calls Tryz.prog 56 #[V1, .agg #[S (mk q).1, S (mk q).2]] W fun e w' => e = .returned (.bool true) ∧ Wd (upd L 15) w')
    (hend : ∀ L W, (∀ i, i < 17 → L i = true) → Wd L W → Q .normal (((((((((((((((((a0.put (some 152) (.pointer (some ⟨Z, 0, none⟩))).put (some 153) (.pointer (some ⟨Z, 0, none⟩))).put (some 154) (.pointer (some ⟨Z, 0 + 3, none⟩))).put (some 155) (.slice (some ⟨G, 0, none⟩) n cap)).put (some 156) (.int .i64 (r : Int))).put (some 157) (.pointer (some ⟨G, 0 + r, none⟩))).put (some 158) V1).put (some 159) (.pointer (some ⟨Z, 0, none⟩))).put (some 160) (.pointer (some ⟨Z, 0, none⟩))).put (some 161) (.pointer (some ⟨Z, 0 + 4, none⟩))).put (some 162) (.slice (some ⟨H, 0, none⟩) n2 cap2)).put (some 163) (.int .i64 (r : Int))).put (some 164) (.pointer (some ⟨H, 0 + r, none⟩))).put (some 165) (.int .i64 (q : Int))).put (some 166) (.agg #[S (mk q).1, S (mk q).2])).put (some 167) (.bool true)).put (some 14) (.bool true)) W) : (Code.region id ops true).wp Tryz.prog Q a0 w := by
  let val : Nat → Value := fun i => match i with
    | 0 => (.pointer (some ⟨Z, 0, none⟩))
    | 1 => (.pointer (some ⟨Z, 0, none⟩))
    | 2 => (.pointer (some ⟨Z, 0 + 3, none⟩))
    | 3 => (.slice (some ⟨G, 0, none⟩) n cap)
    | 4 => (.int .i64 (r : Int))
    | 5 => (.pointer (some ⟨G, 0 + r, none⟩))
    | 6 => V1
    | 7 => (.pointer (some ⟨Z, 0, none⟩))
    | 8 => (.pointer (some ⟨Z, 0, none⟩))
    | 9 => (.pointer (some ⟨Z, 0 + 4, none⟩))
    | 10 => (.slice (some ⟨H, 0, none⟩) n2 cap2)
    | 11 => (.int .i64 (r : Int))
    | 12 => (.pointer (some ⟨H, 0 + r, none⟩))
    | 13 => (.int .i64 (q : Int))
    | 14 => (.agg #[S (mk q).1, S (mk q).2])
    | 15 => (.bool true)
    | 16 => (.bool true)
    | _ => undef
  have hosz : ops.size = 17 := by
    have := congrArg List.length htab
    simpa [rscT] using this
  have hds : ∀ i s, (rscT[i]?).bind (·.2.1) = some s → dstOf ops i = some s := fun i s hi => by rw [tab_dst htab, hi]
  have hdisB : disL rscT = true := by rfl
  have hdis := disL_of htab hdisB
  have hold : ∀ s, rscT.all (fun x => !(x.2.1 == some s)) = true → (List.range ops.size).all (fun j => !(dstOf ops j == some s)) = true := fun s h => holdL htab s h
  refine region_detL val Wd (hac_of hac) hdis h0 ?_ ?_
  rotate_left
  · intro L W hall hW
    have := hend L W (by rw [← hosz]; exact hall) hW
    have e : frm ops a0 val (fun _ => true) ops.size = (((((((((((((((((a0.put (some 152) (.pointer (some ⟨Z, 0, none⟩))).put (some 153) (.pointer (some ⟨Z, 0, none⟩))).put (some 154) (.pointer (some ⟨Z, 0 + 3, none⟩))).put (some 155) (.slice (some ⟨G, 0, none⟩) n cap)).put (some 156) (.int .i64 (r : Int))).put (some 157) (.pointer (some ⟨G, 0 + r, none⟩))).put (some 158) V1).put (some 159) (.pointer (some ⟨Z, 0, none⟩))).put (some 160) (.pointer (some ⟨Z, 0, none⟩))).put (some 161) (.pointer (some ⟨Z, 0 + 4, none⟩))).put (some 162) (.slice (some ⟨H, 0, none⟩) n2 cap2)).put (some 163) (.int .i64 (r : Int))).put (some 164) (.pointer (some ⟨H, 0 + r, none⟩))).put (some 165) (.int .i64 (q : Int))).put (some 166) (.agg #[S (mk q).1, S (mk q).2])).put (some 167) (.bool true)).put (some 14) (.bool true)) := by
      rw [hosz]
      simp only [frm, if_true]
      rw [tab_dst htab 0, tab_dst htab 1, tab_dst htab 2, tab_dst htab 3, tab_dst htab 4, tab_dst htab 5, tab_dst htab 6, tab_dst htab 7, tab_dst htab 8, tab_dst htab 9, tab_dst htab 10, tab_dst htab 11, tab_dst htab 12, tab_dst htab 13, tab_dst htab 14, tab_dst htab 15, tab_dst htab 16]
      rfl
    rw [e]
    exact this
  intro i o ho L a w' hL hd ha hW
  have hi : i < 17 := by rw [← hosz]; exact (Array.getElem?_eq_some_iff.1 ho).1
  match i, ho, hL, hi with
  | 0, ho, hL, _ =>
    obtain ⟨hop, hdst, hgd⟩ := tab_at htab ho (show rscT[0]? = _ from rfl)
    simp only at hop hgd
    have h0 := frm_old ha 0 _ (hold 0 rfl) o0
    exact doesL_run ho (wanted_none hgd) (hpure 0 (by decide) L w' hW) (by rw [run_move _ _ _ hop]; exact congrArg (fun v => Result.ok (Next.value v) w') (eval_of h0))
  | 1, ho, hL, _ =>
    obtain ⟨hop, hdst, hgd⟩ := tab_at htab ho (show rscT[1]? = _ from rfl)
    simp only at hop hgd
    have h0 := frm_at hdis ha 0 152 (hds 0 152 rfl) (by omega) (depl_of hdep 1 0 (by decide) ho hd)
    exact doesL_run ho (wanted_none hgd) (hpure 1 (by decide) L w' hW) (run_nil _ _ _ hop _ (eval_of h0) _)
  | 2, ho, hL, _ =>
    obtain ⟨hop, hdst, hgd⟩ := tab_at htab ho (show rscT[2]? = _ from rfl)
    simp only at hop hgd
    have h0 := frm_at hdis ha 1 153 (hds 1 153 rfl) (by omega) (depl_of hdep 2 1 (by decide) ho hd)
    exact doesL_run ho (wanted_none hgd) (hpure 2 (by decide) L w' hW) (run_f53_3 _ _ _ hop _ _ (eval_of h0) _)
  | 3, ho, hL, _ =>
    obtain ⟨hop, hdst, hgd⟩ := tab_at htab ho (show rscT[3]? = _ from rfl)
    simp only at hop hgd
    have h0 := frm_at hdis ha 2 154 (hds 2 154 rfl) (by omega) (depl_of hdep 3 2 (by decide) ho hd)
    exact doesL_run ho (wanted_none hgd) (hpure 3 (by decide) L w' hW) (run_ld49 _ _ _ hop _ _ (eval_of h0) _ (l3 L w' hW))
  | 4, ho, hL, _ =>
    obtain ⟨hop, hdst, hgd⟩ := tab_at htab ho (show rscT[4]? = _ from rfl)
    simp only at hop hgd
    have h0 := frm_old ha 13 _ (hold 13 rfl) o13
    exact doesL_run ho (wanted_none hgd) (hpure 4 (by decide) L w' hW) (by rw [run_move _ _ _ hop]; exact congrArg (fun v => Result.ok (Next.value v) w') (eval_of h0))
  | 5, ho, hL, _ =>
    obtain ⟨hop, hdst, hgd⟩ := tab_at htab ho (show rscT[5]? = _ from rfl)
    simp only at hop hgd
    have h0 := frm_at hdis ha 3 155 (hds 3 155 rfl) (by omega) (depl_of hdep 5 3 (by decide) ho hd)
    have h1 := frm_at hdis ha 4 156 (hds 4 156 rfl) (by omega) (depl_of hdep 5 4 (by decide) ho hd)
    exact doesL_run ho (wanted_none hgd) (hpure 5 (by decide) L w' hW) (run_ia49 _ _ _ _ hop _ _ _ _ _ i5 (eval_of h0) (eval_of h1) _)
  | 6, ho, hL, _ =>
    obtain ⟨hop, hdst, hgd⟩ := tab_at htab ho (show rscT[6]? = _ from rfl)
    simp only at hop hgd
    have h0 := frm_at hdis ha 5 157 (hds 5 157 rfl) (by omega) (depl_of hdep 6 5 (by decide) ho hd)
    exact doesL_run ho (wanted_none hgd) (hpure 6 (by decide) L w' hW) (run_ld22 _ _ _ hop _ _ (eval_of h0) _ (l6 L w' hW))
  | 7, ho, hL, _ =>
    obtain ⟨hop, hdst, hgd⟩ := tab_at htab ho (show rscT[7]? = _ from rfl)
    simp only at hop hgd
    have h0 := frm_old ha 0 _ (hold 0 rfl) o0
    exact doesL_run ho (wanted_none hgd) (hpure 7 (by decide) L w' hW) (by rw [run_move _ _ _ hop]; exact congrArg (fun v => Result.ok (Next.value v) w') (eval_of h0))
  | 8, ho, hL, _ =>
    obtain ⟨hop, hdst, hgd⟩ := tab_at htab ho (show rscT[8]? = _ from rfl)
    simp only at hop hgd
    have h0 := frm_at hdis ha 7 159 (hds 7 159 rfl) (by omega) (depl_of hdep 8 7 (by decide) ho hd)
    exact doesL_run ho (wanted_none hgd) (hpure 8 (by decide) L w' hW) (run_nil _ _ _ hop _ (eval_of h0) _)
  | 9, ho, hL, _ =>
    obtain ⟨hop, hdst, hgd⟩ := tab_at htab ho (show rscT[9]? = _ from rfl)
    simp only at hop hgd
    have h0 := frm_at hdis ha 8 160 (hds 8 160 rfl) (by omega) (depl_of hdep 9 8 (by decide) ho hd)
    exact doesL_run ho (wanted_none hgd) (hpure 9 (by decide) L w' hW) (run_f53_4 _ _ _ hop _ _ (eval_of h0) _)
  | 10, ho, hL, _ =>
    obtain ⟨hop, hdst, hgd⟩ := tab_at htab ho (show rscT[10]? = _ from rfl)
    simp only at hop hgd
    have h0 := frm_at hdis ha 9 161 (hds 9 161 rfl) (by omega) (depl_of hdep 10 9 (by decide) ho hd)
    exact doesL_run ho (wanted_none hgd) (hpure 10 (by decide) L w' hW) (run_ld50 _ _ _ hop _ _ (eval_of h0) _ (l10 L w' hW))
  | 11, ho, hL, _ =>
    obtain ⟨hop, hdst, hgd⟩ := tab_at htab ho (show rscT[11]? = _ from rfl)
    simp only at hop hgd
    have h0 := frm_old ha 13 _ (hold 13 rfl) o13
    exact doesL_run ho (wanted_none hgd) (hpure 11 (by decide) L w' hW) (by rw [run_move _ _ _ hop]; exact congrArg (fun v => Result.ok (Next.value v) w') (eval_of h0))
  | 12, ho, hL, _ =>
    obtain ⟨hop, hdst, hgd⟩ := tab_at htab ho (show rscT[12]? = _ from rfl)
    simp only at hop hgd
    have h0 := frm_at hdis ha 10 162 (hds 10 162 rfl) (by omega) (depl_of hdep 12 10 (by decide) ho hd)
    have h1 := frm_at hdis ha 11 163 (hds 11 163 rfl) (by omega) (depl_of hdep 12 11 (by decide) ho hd)
    exact doesL_run ho (wanted_none hgd) (hpure 12 (by decide) L w' hW) (run_ia50 _ _ _ _ hop _ _ _ _ _ i12 (eval_of h0) (eval_of h1) _)
  | 13, ho, hL, _ =>
    obtain ⟨hop, hdst, hgd⟩ := tab_at htab ho (show rscT[13]? = _ from rfl)
    simp only at hop hgd
    have h0 := frm_at hdis ha 12 164 (hds 12 164 rfl) (by omega) (depl_of hdep 13 12 (by decide) ho hd)
    exact doesL_run ho (wanted_none hgd) (hpure 13 (by decide) L w' hW) (run_ld3 _ _ _ hop _ _ (eval_of h0) _ (l13 L w' hW))
  | 14, ho, hL, _ =>
    obtain ⟨hop, hdst, hgd⟩ := tab_at htab ho (show rscT[14]? = _ from rfl)
    simp only at hop hgd
    have h0 := frm_at hdis ha 13 165 (hds 13 165 rfl) (by omega) (depl_of hdep 14 13 (by decide) ho hd)
    refine doesL_call ho (wanted_none hgd) 55 #[.int .i64 (q : Int)] ?_ (c14 L w' hW hL)
    rw [run_calls Tryz.func55 (by kernel_rfl) rfl _ _ _ _ hop rfl]
    simp only [List.map_toArray, List.map_cons, List.map_nil, eval_of h0]
    all_goals rfl
  | 15, ho, hL, _ =>
    obtain ⟨hop, hdst, hgd⟩ := tab_at htab ho (show rscT[15]? = _ from rfl)
    simp only at hop hgd
    have h0 := frm_at hdis ha 6 158 (hds 6 158 rfl) (by omega) (depl_of hdep 15 6 (by decide) ho hd)
    have h1 := frm_at hdis ha 14 166 (hds 14 166 rfl) (by omega) (depl_of hdep 15 14 (by decide) ho hd)
    refine doesL_call ho (wanted_none hgd) 56 #[V1, .agg #[S (mk q).1, S (mk q).2]] ?_ (c15 L w' hW hL)
    rw [run_calls Tryz.func56 (by kernel_rfl) rfl _ _ _ _ hop rfl]
    simp only [List.map_toArray, List.map_cons, List.map_nil, eval_of h0, eval_of h1]
    all_goals rfl
  | 16, ho, hL, _ =>
    obtain ⟨hop, hdst, hgd⟩ := tab_at htab ho (show rscT[16]? = _ from rfl)
    simp only at hop hgd
    have h0 := frm_at hdis ha 15 167 (hds 15 167 rfl) (by omega) (depl_of hdep 16 15 (by decide) ho hd)
    exact doesL_run ho (wanted_none hgd) (hpure 16 (by decide) L w' hW) (by rw [run_assign _ _ _ hop]; exact congrArg (fun v => Result.ok (Next.value v) w') (eval_of h0))
  | (i + 17), ho, hL, hi => exact absurd hi (by omega)
end Go.Proofs.YthlacailhfhjnaaGreatDoor
namespace Go.Proofs.YthlacailhfhjnaaGreatDoor
open Go.RowKit Go.Lib
/-- What holds of the world while a mark is laid. -/
def WdK (wr : World) (g k i : Nat) (L : Nat → Bool) (W : World) : Prop :=
  (L 11 = false ∧ Below wr.heap.size wr W) ∨ (L 11 = true ∧ L 9 = true ∧ ∃ W0, Below wr.heap.size wr W0 ∧ W = (W0.setCell ⟨g, k * 2, none⟩ (S (mk i).1)).setCell ⟨g, k * 2 + 1, none⟩ (S (mk i).2))
theorem upd_of {L : Nat → Bool} {i j : Nat} (h : L j = true) : upd L i j = true := by by_cases e : j = i <;> simp [upd, e, h]
theorem WdK.pure {wr : World} {g k i : Nat} {L : Nat → Bool} {W : World} (h : WdK wr g k i L W) (x : Nat) (h8 : x ≠ 11) : WdK wr g k i (upd L x) W := by
  rcases h with ⟨h1, h2⟩ | ⟨h1, h2, h3⟩
  · exact .inl ⟨(upd_ne (Ne.symm h8)).trans h1, h2⟩
  · exact .inr ⟨upd_of h1, upd_of h2, h3⟩
theorem WdK.block {wr : World} {g k i : Nat} {L : Nat → Bool} {W : World} (h : WdK wr g k i L W) (G : Nat) (hG : G < wr.heap.size) (hne : G ≠ g) : W.heap[G]? = wr.heap[G]? := by
  rcases h with ⟨h1, h2⟩ | ⟨h1, h2, W0, h3, rfl⟩
  · exact h2.block G hG
  · rw [setCells_other hne]
    exact h3.block G hG
section
variable {B b G n : Nat} {vs : Nat → Value} {m : Nat → Nat} {w0 : World} {lo i : Nat} {U V V2 : List Vw} {x al wh : Value} {len : Nat} {w w' : World} {Z : Nat} {fr wa : Value}
theorem Vst.ltG' (h : Vst B G n vs m lo i V x len w) : G < w.heap.size := by
  obtain ⟨c, hc⟩ := h.kind
  exact lt_heap hc
end
end Go.Proofs.YthlacailhfhjnaaGreatDoor
