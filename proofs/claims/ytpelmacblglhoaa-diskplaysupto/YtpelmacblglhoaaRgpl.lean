import Derived.Test.YtpelmacblglhoaaRgka
import Derived.Test.YtpelmacblglhoaaRgmk
namespace Go.Proofs.Ytpelmacblglhoaa
open Go.RowKit
theorem run_f30_0 (ρ : Operand → Value) (o : Oper) (x : Operand) (ho : o.op = .fieldAddr 30 x 0) (g q : Nat) (hx : ρ x = .pointer (some ⟨g, q, none⟩)) (w : World) : (execOp ρ o).run Try.prog w = .ok (.value (.pointer (some ⟨g, q + 0, none⟩))) w := by
  unfold execOp
  simp only [ho, hx]
  kernel_rfl
theorem run_ld25 (ρ : Operand → Value) (o : Oper) (x : Operand) (ho : o.op = .load 25 x) (p : Addr) (v : Value) (ha : ρ x = .pointer (some p)) (w : World) (hc : w.cell? p = some v) : (execOp ρ o).run Try.prog w = .ok (.value v) w := by
  unfold execOp
  simp only [ho, ha]
  simp [Instr.loadAt, go_sem, hc, Try.isAgg25]
theorem run_ia25 (ρ : Operand → Value) (o : Oper) (x y : Operand) (ho : o.op = .indexAddr 25 x y) (g q n cap k : Nat) (hk : k < n) (hx : ρ x = .slice (some ⟨g, q, none⟩) n cap) (hy : ρ y = .int .i64 (k : Int)) (w : World) : (execOp ρ o).run Try.prog w = .ok (.value (.pointer (some ⟨g, q + k * 2, none⟩))) w := by
  unfold execOp
  simp only [ho, hx, hy]
  have h1 : (k : Int) < (n : Int) := by omega
  have u := Try.underlying25
  have z := Try.sizeOf40
  simp [go_sem, u, z, h1]
theorem run_len25 (ρ : Operand → Value) (o : Oper) (x : Operand) (ho : o.op = .call { callee := .builtin .len, args := #[x], argTypes := #[25] }) (p : Option Addr) (n c : Nat) (hx : ρ x = .slice p n c) (w : World) : (execOp ρ o).run Try.prog w = .ok (.value (.int .i64 (n : Int))) w := by
  unfold execOp
  simp only [ho]
  simp [resolve, invoke, builtin, hx, go_sem]
theorem run_ld40 (ρ : Operand → Value) (o : Oper) (x : Operand) (ho : o.op = .load 40 x) (g j a b : Nat) (ha : ρ x = .pointer (some ⟨g, j, none⟩)) (w : World) (h0 : w.cell? ⟨g, j, none⟩ = some (.pointer (some ⟨a, 0, none⟩))) (h1 : w.cell? ⟨g, j + 1, none⟩ = some (.pointer (some ⟨b, 0, none⟩))) : (execOp ρ o).run Try.prog w = .ok (.value (.agg #[.pointer (some ⟨a, 0, none⟩), .pointer (some ⟨b, 0, none⟩)])) w := by
  unfold execOp
  simp only [ho, ha]
  simp [Instr.loadAt, go_sem, h0, h1]
theorem run_al40 (ρ : Operand → Value) (o : Oper) (ho : o.op = .alloc 40) (w : World) : (execOp ρ o).run Try.prog w = .ok (.value (.pointer (some ⟨w.heap.size, 0, none⟩))) (w.alloc (.cells #[.pointer none, .pointer none] 40)) := by
  unfold execOp
  simp only [ho]
  simp [go_sem, Try.zeroValue40]
theorem run_st40 (ρ : Operand → Value) (o : Oper) (x y : Operand) (ho : o.op = .store 40 x y) (g : Nat) (a b : Value) (ha : ρ x = .pointer (some ⟨g, 0, none⟩)) (hy : ρ y = .agg #[a, b]) (w : World) (cs : Array Value) (h : w.heap[g]? = some (.cells cs 40 (0, 0)) ∧ 1 < cs.size) (h1 : a.oneCell' = true ∧ b.oneCell' = true) : (execOp ρ o).run Try.prog w = .ok .skip ((w.setCell ⟨g, 0, none⟩ a).setCell ⟨g, 1, none⟩ b) := by
  obtain ⟨h, hj⟩ := h
  have q0 := heap_setCell_same w g 0 _ 40 a h
  have s0 : (store ⟨g, 0, none⟩ a).run Try.prog w = .ok () (w.setCell ⟨g, 0, none⟩ a) := by
    rw [run_store _ _ _ _ _ h1.1, cell_of_row w g 0 _ 40 (0, 0) h, Array.getElem?_eq_getElem (by omega)]
    simp [frozen_of_row w g 0 _ 40 h]
  have s1 : (store ⟨g, 1, none⟩ b).run Try.prog (w.setCell ⟨g, 0, none⟩ a) = .ok () ((w.setCell ⟨g, 0, none⟩ a).setCell ⟨g, 1, none⟩ b) := by
    rw [run_store _ _ _ _ _ h1.2, cell_of_row _ g 1 _ 40 (0, 0) q0, Array.getElem?_eq_getElem (by simp; omega)]
    simp [frozen_of_row _ g 1 _ 40 q0]
  unfold execOp
  simp only [ho, ha, hy]
  simp [go_sem, s0, s1, Result.andThen]
def rplT : List (Op × Option Tmp × Option (Nat × Bool)) := [
  (.move (.tmp 0), some 33, none),
  (.nilCheck (.tmp 33), some 34, none),
  (.fieldAddr 30 (.tmp 34) 0, some 35, none),
  (.load 25 (.tmp 35), some 36, none),
  (.fieldAddr 35 (.tmp 3) 1, some 37, none),
  (.load 3 (.tmp 37), some 38, none),
  (.move (.tmp 0), some 39, none),
  (.nilCheck (.tmp 39), some 40, none),
  (.fieldAddr 30 (.tmp 40) 0, some 41, none),
  (.load 25 (.tmp 41), some 42, none),
  (.call { callee := .builtin .len, args := #[(.tmp 42)], argTypes := #[25] }, some 43, none),
  (.call { callee := .value (.func 8), args := #[(.tmp 38), (.tmp 43)], argTypes := #[3, 3] }, some 44, none),
  (.indexAddr 25 (.tmp 36) (.tmp 44), some 45, none),
  (.load 40 (.tmp 45), some 46, none),
  (.alloc 40, some 7, none),
  (.store 40 (.tmp 7) (.tmp 46), none, none)]
def rplD : List (Nat × Nat) := [(1, 0), (2, 1), (3, 2), (5, 4), (7, 6), (8, 7), (9, 8), (10, 9), (11, 5), (11, 10), (12, 3), (12, 11), (13, 12), (15, 13), (15, 14)]
set_option maxHeartbeats 2000000 in
theorem rpl {ops : Array Oper} {id : Nat} {Q : Exit → Act → World → Prop} (Z g n c T j D X F : Nat) (on : Int) (htab : ops.toList.map (fun o => (o.op, o.dst, o.guard)) = rplT) (hdep : deplB rplD ops = true) (hac : acB ops = true)
    (a0 : Act) (w : World) (hsz : 47 ≤ a0.tmps.size) (o0 : a0.tmps[0]? = some (.pointer (some ⟨Z, 0, none⟩))) (o3 : a0.tmps[3]? = some (.pointer (some ⟨T, 0, none⟩)))
    (Wd : (Nat → Bool) → World → Prop) (h0 : Wd (fun _ => false) w.drew) (hpure : ∀ i, i ∉ ([11, 14, 15] : List Nat) → ∀ L W, Wd L W → Wd (upd L i) W)
    (i12 : j < n)
    (l3 : ∀ L W, Wd L W → W.cell? ⟨Z, 0 + 0, none⟩ = some (.slice (some ⟨g, 0, none⟩) n c))
    (l5 : ∀ L W, Wd L W → W.cell? ⟨T, 0 + 1, none⟩ = some (.int .i64 on))
    (l9 : ∀ L W, Wd L W → W.cell? ⟨Z, 0 + 0, none⟩ = some (.slice (some ⟨g, 0, none⟩) n c))
    (l13 : ∀ L W, Wd L W → W.cell? ⟨g, 0 + j * 2, none⟩ = some (.pointer (some ⟨D, 0, none⟩)) ∧ W.cell? ⟨g, 0 + j * 2 + 1, none⟩ = some (.pointer (some ⟨X, 0, none⟩)))
    (c11 : ∀ L W, Wd L W → L 11 = false → Calls Try.prog 8 #[.int .i64 on, .int .i64 (n : Int)] W fun e w' => e = .returned (.int .i64 (j : Int)) ∧ Wd (upd L 11) w')
    (n14 : ∀ L W, Wd L W → L 14 = false → Wd (upd L 14) (W.alloc (.cells #[.pointer none, .pointer none] 40)) ∧ W.heap.size = F)
    (n15 : ∀ L W, Wd L W → L 15 = false → L 13 = true → L 14 = true → Wd (upd L 15) ((W.setCell ⟨F, 0, none⟩ (.pointer (some ⟨D, 0, none⟩))).setCell ⟨F, 1, none⟩ (.pointer (some ⟨X, 0, none⟩))) ∧ (W.heap[F]? = some (.cells #[.pointer none, .pointer none] 40 (0, 0)) ∧ 1 < (#[Value.pointer none, Value.pointer none] : Array Value).size))
    (hend : ∀ L W, (∀ i, i < 16 → L i = true) → Wd L W → Q .normal (((((((((((((((a0.put (some 33) (.pointer (some ⟨Z, 0, none⟩))).put (some 34) (.pointer (some ⟨Z, 0, none⟩))).put (some 35) (.pointer (some ⟨Z, 0 + 0, none⟩))).put (some 36) (.slice (some ⟨g, 0, none⟩) n c)).put (some 37) (.pointer (some ⟨T, 0 + 1, none⟩))).put (some 38) (.int .i64 on)).put (some 39) (.pointer (some ⟨Z, 0, none⟩))).put (some 40) (.pointer (some ⟨Z, 0, none⟩))).put (some 41) (.pointer (some ⟨Z, 0 + 0, none⟩))).put (some 42) (.slice (some ⟨g, 0, none⟩) n c)).put (some 43) (.int .i64 (n : Int))).put (some 44) (.int .i64 (j : Int))).put (some 45) (.pointer (some ⟨g, 0 + j * 2, none⟩))).put (some 46) (.agg #[.pointer (some ⟨D, 0, none⟩), .pointer (some ⟨X, 0, none⟩)])).put (some 7) (.pointer (some ⟨F, 0, none⟩))) W) : (Code.region id ops true).wp Try.prog Q a0 w := by
  let val : Nat → Value := fun i => match i with
    | 0 => (.pointer (some ⟨Z, 0, none⟩))
    | 1 => (.pointer (some ⟨Z, 0, none⟩))
    | 2 => (.pointer (some ⟨Z, 0 + 0, none⟩))
    | 3 => (.slice (some ⟨g, 0, none⟩) n c)
    | 4 => (.pointer (some ⟨T, 0 + 1, none⟩))
    | 5 => (.int .i64 on)
    | 6 => (.pointer (some ⟨Z, 0, none⟩))
    | 7 => (.pointer (some ⟨Z, 0, none⟩))
    | 8 => (.pointer (some ⟨Z, 0 + 0, none⟩))
    | 9 => (.slice (some ⟨g, 0, none⟩) n c)
    | 10 => (.int .i64 (n : Int))
    | 11 => (.int .i64 (j : Int))
    | 12 => (.pointer (some ⟨g, 0 + j * 2, none⟩))
    | 13 => (.agg #[.pointer (some ⟨D, 0, none⟩), .pointer (some ⟨X, 0, none⟩)])
    | 14 => (.pointer (some ⟨F, 0, none⟩))
    | 15 => undef
    | _ => undef
  have hosz : ops.size = 16 := by
    have := congrArg List.length htab
    simpa [rplT] using this
  have hds : ∀ i s, (rplT[i]?).bind (·.2.1) = some s → dstOf ops i = some s := fun i s hi => by rw [tab_dst htab, hi]
  have hdisB : disL rplT = true := by rfl
  have hdis := disL_of htab hdisB
  have hold : ∀ s, rplT.all (fun x => !(x.2.1 == some s)) = true → (List.range ops.size).all (fun j => !(dstOf ops j == some s)) = true := fun s h => holdL htab s h
  refine region_detL val Wd (hac_of hac) hdis h0 ?_ ?_
  rotate_left
  · intro L W hall hW
    have := hend L W (by rw [← hosz]; exact hall) hW
    have e : frm ops a0 val (fun _ => true) ops.size = (((((((((((((((a0.put (some 33) (.pointer (some ⟨Z, 0, none⟩))).put (some 34) (.pointer (some ⟨Z, 0, none⟩))).put (some 35) (.pointer (some ⟨Z, 0 + 0, none⟩))).put (some 36) (.slice (some ⟨g, 0, none⟩) n c)).put (some 37) (.pointer (some ⟨T, 0 + 1, none⟩))).put (some 38) (.int .i64 on)).put (some 39) (.pointer (some ⟨Z, 0, none⟩))).put (some 40) (.pointer (some ⟨Z, 0, none⟩))).put (some 41) (.pointer (some ⟨Z, 0 + 0, none⟩))).put (some 42) (.slice (some ⟨g, 0, none⟩) n c)).put (some 43) (.int .i64 (n : Int))).put (some 44) (.int .i64 (j : Int))).put (some 45) (.pointer (some ⟨g, 0 + j * 2, none⟩))).put (some 46) (.agg #[.pointer (some ⟨D, 0, none⟩), .pointer (some ⟨X, 0, none⟩)])).put (some 7) (.pointer (some ⟨F, 0, none⟩))) := by
      rw [hosz]
      simp only [frm, if_true]
      rw [tab_dst htab 0, tab_dst htab 1, tab_dst htab 2, tab_dst htab 3, tab_dst htab 4, tab_dst htab 5, tab_dst htab 6, tab_dst htab 7, tab_dst htab 8, tab_dst htab 9, tab_dst htab 10, tab_dst htab 11, tab_dst htab 12, tab_dst htab 13, tab_dst htab 14, (show dstOf ops 15 = none from (tab_dst htab 15).trans rfl), put_none]
      rfl
    rw [e]
    exact this
  intro i o ho L a w' hL hd ha hW
  have hi : i < 16 := by rw [← hosz]; exact (Array.getElem?_eq_some_iff.1 ho).1
  match i, ho, hL, hi with
  | 0, ho, hL, _ =>
    obtain ⟨hop, hdst, hgd⟩ := tab_at htab ho (show rplT[0]? = _ from rfl)
    simp only at hop hgd
    have h0 := frm_old ha 0 _ (hold 0 rfl) o0
    exact doesL_run ho (wanted_none hgd) (hpure 0 (by decide) L w' hW) (by rw [run_move _ _ _ hop]; exact congrArg (fun v => Result.ok (Next.value v) w') (eval_of h0))
  | 1, ho, hL, _ =>
    obtain ⟨hop, hdst, hgd⟩ := tab_at htab ho (show rplT[1]? = _ from rfl)
    simp only at hop hgd
    have h0 := frm_at hdis ha 0 33 (hds 0 33 rfl) (by omega) (depl_of hdep 1 0 (by decide) ho hd)
    exact doesL_run ho (wanted_none hgd) (hpure 1 (by decide) L w' hW) (run_nil _ _ _ hop _ (eval_of h0) _)
  | 2, ho, hL, _ =>
    obtain ⟨hop, hdst, hgd⟩ := tab_at htab ho (show rplT[2]? = _ from rfl)
    simp only at hop hgd
    have h0 := frm_at hdis ha 1 34 (hds 1 34 rfl) (by omega) (depl_of hdep 2 1 (by decide) ho hd)
    exact doesL_run ho (wanted_none hgd) (hpure 2 (by decide) L w' hW) (run_f30_0 _ _ _ hop _ _ (eval_of h0) _)
  | 3, ho, hL, _ =>
    obtain ⟨hop, hdst, hgd⟩ := tab_at htab ho (show rplT[3]? = _ from rfl)
    simp only at hop hgd
    have h0 := frm_at hdis ha 2 35 (hds 2 35 rfl) (by omega) (depl_of hdep 3 2 (by decide) ho hd)
    exact doesL_run ho (wanted_none hgd) (hpure 3 (by decide) L w' hW) (run_ld25 _ _ _ hop _ _ (eval_of h0) _ (l3 L w' hW))
  | 4, ho, hL, _ =>
    obtain ⟨hop, hdst, hgd⟩ := tab_at htab ho (show rplT[4]? = _ from rfl)
    simp only at hop hgd
    have h0 := frm_old ha 3 _ (hold 3 rfl) o3
    exact doesL_run ho (wanted_none hgd) (hpure 4 (by decide) L w' hW) (run_f35_1 _ _ _ hop _ _ (eval_of h0) _)
  | 5, ho, hL, _ =>
    obtain ⟨hop, hdst, hgd⟩ := tab_at htab ho (show rplT[5]? = _ from rfl)
    simp only at hop hgd
    have h0 := frm_at hdis ha 4 37 (hds 4 37 rfl) (by omega) (depl_of hdep 5 4 (by decide) ho hd)
    exact doesL_run ho (wanted_none hgd) (hpure 5 (by decide) L w' hW) (run_ld3 _ _ _ hop _ _ (eval_of h0) _ (l5 L w' hW))
  | 6, ho, hL, _ =>
    obtain ⟨hop, hdst, hgd⟩ := tab_at htab ho (show rplT[6]? = _ from rfl)
    simp only at hop hgd
    have h0 := frm_old ha 0 _ (hold 0 rfl) o0
    exact doesL_run ho (wanted_none hgd) (hpure 6 (by decide) L w' hW) (by rw [run_move _ _ _ hop]; exact congrArg (fun v => Result.ok (Next.value v) w') (eval_of h0))
  | 7, ho, hL, _ =>
    obtain ⟨hop, hdst, hgd⟩ := tab_at htab ho (show rplT[7]? = _ from rfl)
    simp only at hop hgd
    have h0 := frm_at hdis ha 6 39 (hds 6 39 rfl) (by omega) (depl_of hdep 7 6 (by decide) ho hd)
    exact doesL_run ho (wanted_none hgd) (hpure 7 (by decide) L w' hW) (run_nil _ _ _ hop _ (eval_of h0) _)
  | 8, ho, hL, _ =>
    obtain ⟨hop, hdst, hgd⟩ := tab_at htab ho (show rplT[8]? = _ from rfl)
    simp only at hop hgd
    have h0 := frm_at hdis ha 7 40 (hds 7 40 rfl) (by omega) (depl_of hdep 8 7 (by decide) ho hd)
    exact doesL_run ho (wanted_none hgd) (hpure 8 (by decide) L w' hW) (run_f30_0 _ _ _ hop _ _ (eval_of h0) _)
  | 9, ho, hL, _ =>
    obtain ⟨hop, hdst, hgd⟩ := tab_at htab ho (show rplT[9]? = _ from rfl)
    simp only at hop hgd
    have h0 := frm_at hdis ha 8 41 (hds 8 41 rfl) (by omega) (depl_of hdep 9 8 (by decide) ho hd)
    exact doesL_run ho (wanted_none hgd) (hpure 9 (by decide) L w' hW) (run_ld25 _ _ _ hop _ _ (eval_of h0) _ (l9 L w' hW))
  | 10, ho, hL, _ =>
    obtain ⟨hop, hdst, hgd⟩ := tab_at htab ho (show rplT[10]? = _ from rfl)
    simp only at hop hgd
    have h0 := frm_at hdis ha 9 42 (hds 9 42 rfl) (by omega) (depl_of hdep 10 9 (by decide) ho hd)
    exact doesL_run ho (wanted_none hgd) (hpure 10 (by decide) L w' hW) (run_len25 _ _ _ hop _ _ _ (eval_of h0) _)
  | 11, ho, hL, _ =>
    obtain ⟨hop, hdst, hgd⟩ := tab_at htab ho (show rplT[11]? = _ from rfl)
    simp only at hop hgd
    have h0 := frm_at hdis ha 5 38 (hds 5 38 rfl) (by omega) (depl_of hdep 11 5 (by decide) ho hd)
    have h1 := frm_at hdis ha 10 43 (hds 10 43 rfl) (by omega) (depl_of hdep 11 10 (by decide) ho hd)
    refine doesL_call ho (wanted_none hgd) 8 #[.int .i64 on, .int .i64 (n : Int)] ?_ (c11 L w' hW hL)
    rw [run_calls Try.func8 (by kernel_rfl) rfl _ _ _ _ hop rfl]
    simp only [List.map_toArray, List.map_cons, List.map_nil, eval_of h0, eval_of h1]
    all_goals rfl
  | 12, ho, hL, _ =>
    obtain ⟨hop, hdst, hgd⟩ := tab_at htab ho (show rplT[12]? = _ from rfl)
    simp only at hop hgd
    have h0 := frm_at hdis ha 3 36 (hds 3 36 rfl) (by omega) (depl_of hdep 12 3 (by decide) ho hd)
    have h1 := frm_at hdis ha 11 44 (hds 11 44 rfl) (by omega) (depl_of hdep 12 11 (by decide) ho hd)
    exact doesL_run ho (wanted_none hgd) (hpure 12 (by decide) L w' hW) (run_ia25 _ _ _ _ hop _ _ _ _ _ i12 (eval_of h0) (eval_of h1) _)
  | 13, ho, hL, _ =>
    obtain ⟨hop, hdst, hgd⟩ := tab_at htab ho (show rplT[13]? = _ from rfl)
    simp only at hop hgd
    have h0 := frm_at hdis ha 12 45 (hds 12 45 rfl) (by omega) (depl_of hdep 13 12 (by decide) ho hd)
    exact doesL_run ho (wanted_none hgd) (hpure 13 (by decide) L w' hW) (run_ld40 _ _ _ hop _ _ _ _ (eval_of h0) _ (l13 L w' hW).1 (l13 L w' hW).2)
  | 14, ho, hL, _ =>
    obtain ⟨hop, hdst, hgd⟩ := tab_at htab ho (show rplT[14]? = _ from rfl)
    simp only at hop hgd
    exact doesL_runw ho (wanted_none hgd) (n14 L w' hW hL).1 ((run_al40 _ _ hop _).trans (by rw [(n14 L w' hW hL).2]; rfl))
  | 15, ho, hL, _ =>
    obtain ⟨hop, hdst, hgd⟩ := tab_at htab ho (show rplT[15]? = _ from rfl)
    simp only at hop hgd
    have h0 := frm_at hdis ha 14 7 (hds 14 7 rfl) (by omega) (depl_of hdep 15 14 (by decide) ho hd)
    have h1 := frm_at hdis ha 13 46 (hds 13 46 rfl) (by omega) (depl_of hdep 15 13 (by decide) ho hd)
    obtain ⟨s1, s2⟩ := n15 L w' hW hL (depl_of hdep 15 13 (by decide) ho hd) (depl_of hdep 15 14 (by decide) ho hd)
    exact doesL_skp ho (wanted_none hgd) rfl s1 (run_st40 _ _ _ _ hop _ _ _ (eval_of h0) (eval_of h1) _ _ s2 ⟨rfl, rfl⟩)
  | (i + 16), ho, hL, hi => exact absurd hi (by omega)
end Go.Proofs.Ytpelmacblglhoaa
