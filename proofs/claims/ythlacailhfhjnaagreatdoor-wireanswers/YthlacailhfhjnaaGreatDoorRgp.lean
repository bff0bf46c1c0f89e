import Derived.Test.YthlacailhfhjnaaGreatDoorRgh
namespace Go.Proofs.YthlacailhfhjnaaGreatDoor
open Go.RowKit Go.Lib
theorem run_ia22 (ρ : Operand → Value) (o : Oper) (x y : Operand) (ho : o.op = .indexAddr 22 x y) (g q n cap k : Nat) (hk : k < n) (hx : ρ x = .slice (some ⟨g, q, none⟩) n cap) (hy : ρ y = .int .i64 (k : Int)) (w : World) : (execOp ρ o).run Tryz.prog w = .ok (.value (.pointer (some ⟨g, q + k * 2, none⟩))) w := by
  unfold execOp
  simp only [ho, hx, hy]
  have h1 : (k : Int) < (n : Int) := by omega
  have u := Tryz.underlying22
  have z := Tryz.sizeOf35
  simp [go_sem, u, z, h1]
theorem run_ld35 (ρ : Operand → Value) (o : Oper) (x : Operand) (ho : o.op = .load 35 x) (g q : Nat) (a b : Value) (ha : ρ x = .pointer (some ⟨g, q, none⟩)) (w : World) (h0 : w.cell? ⟨g, q, none⟩ = some a) (h1 : w.cell? ⟨g, q + 1, none⟩ = some b) : (execOp ρ o).run Tryz.prog w = .ok (.value (.agg #[a, b])) w := by
  unfold execOp
  simp only [ho, ha]
  simp [Instr.loadAt, go_sem, h0, h1, Tryz.isAgg35]
theorem run_st35 (ρ : Operand → Value) (o : Oper) (x y : Operand) (ho : o.op = .store 35 x y) (g j : Nat) (a b : Value) (ha : ρ x = .pointer (some ⟨g, j, none⟩)) (hy : ρ y = .agg #[a, b]) (w : World) (cs : Array Value) (h : w.heap[g]? = some (.cells cs 35 (0, 0)) ∧ j + 1 < cs.size) (h1 : a.oneCell' = true ∧ b.oneCell' = true) : (execOp ρ o).run Tryz.prog w = .ok .skip ((w.setCell ⟨g, j, none⟩ a).setCell ⟨g, j + 1, none⟩ b) := by
  obtain ⟨h, hj⟩ := h
  have q0 := heap_setCell_same w g j _ 35 a h
  have s0 : (store ⟨g, j, none⟩ a).run Tryz.prog w = .ok () (w.setCell ⟨g, j, none⟩ a) := by
    rw [run_store _ _ _ _ _ h1.1, cell_of_row w g j _ 35 (0, 0) h, Array.getElem?_eq_getElem (by omega)]
    simp [frozen_of_row w g j _ 35 h]
  have s1 : (store ⟨g, j + 1, none⟩ b).run Tryz.prog (w.setCell ⟨g, j, none⟩ a) = .ok () ((w.setCell ⟨g, j, none⟩ a).setCell ⟨g, j + 1, none⟩ b) := by
    rw [run_store _ _ _ _ _ h1.2, cell_of_row _ g (j + 1) _ 35 (0, 0) q0, Array.getElem?_eq_getElem (by simp; omega)]
    simp [frozen_of_row _ g (j + 1) _ 35 q0]
  unfold execOp
  simp only [ho, ha, hy]
  simp [go_sem, s0, s1, Result.andThen]
theorem run_st22 (ρ : Operand → Value) (o : Oper) (x y : Operand) (ho : o.op = .store 22 x y) (p : Addr) (v : Value) (ha : ρ x = .pointer (some p)) (hy : ρ y = v) (w : World) (hv : ∃ a n k, v = .slice a n k) (hc : ∃ u, w.cell? p = some u) (hf : w.frozen? p = false) : (execOp ρ o).run Tryz.prog w = .ok .skip (w.setCell p v) := by
  obtain ⟨u, hc⟩ := hc
  obtain ⟨a, n, k, rfl⟩ := hv
  have h1 : (Value.slice a n k).oneCell' = true := rfl
  have s0 : (store p (.slice a n k)).run Tryz.prog w = .ok () (w.setCell p (.slice a n k)) := by
    rw [run_store _ _ _ _ _ h1, hc]
    simp [hf]
  unfold execOp
  simp only [ho, ha, hy]
  simp [go_sem, s0, Result.andThen]
theorem doesX_runw {C : Type} {ops : Array Oper} {Q : Exit → Act → World → Prop} {Wd : C → (Nat → Bool) → World → Prop} {val : C → Nat → Value} {i : Nat} {L : Nat → Bool} {c : C} {o : Oper} {a : Act} {w w' : World} (ho : ops[i]? = some o) (hw : Region.wanted o (yielded ops a.tmps) = true) (c' : C) (hv : ∀ j, L j = true → val c' j = val c j) (hW : Wd c' (upd L i) w')
    (hr : (execOp a.eval o).run Tryz.prog w = .ok (.value (val c' i)) w') : DoesX ops Q Wd val i L c a w := by
  have h := doesL_runw (Q := Q) (val := val c') (Wd := Wd c') ho hw hW hr
  unfold DoesL at h
  unfold DoesX
  refine wpOp_mono ?_ h
  rintro a' w2 ⟨rfl, h2⟩
  exact ⟨c', hv, rfl, h2⟩
def rw1T : List (Op × Option Tmp × Option (Nat × Bool)) := [
  (.load 24 (.tmp 4), some 26, none),
  (.call { callee := .value (.func 9), args := #[(.tmp 26)], argTypes := #[24] }, some 27, none),
  (.load 26 (.tmp 5), some 28, none),
  (.call { callee := .value (.func 10), args := #[(.tmp 28)], argTypes := #[26] }, some 29, none),
  (.call { callee := .value (.func 8), args := #[(.tmp 27), (.tmp 29)], argTypes := #[3, 3] }, some 30, none),
  (.load 24 (.tmp 4), some 31, none),
  (.call { callee := .value (.func 9), args := #[(.tmp 31)], argTypes := #[24] }, some 32, none),
  (.load 26 (.tmp 5), some 33, none),
  (.call { callee := .value (.func 10), args := #[(.tmp 33)], argTypes := #[26] }, some 34, none),
  (.call { callee := .value (.func 8), args := #[(.tmp 32), (.tmp 34)], argTypes := #[3, 3] }, some 35, none),
  (.move (.tmp 3), some 36, none),
  (.call { callee := .builtin .len, args := #[(.tmp 36)], argTypes := #[9] }, some 37, none),
  (.call { callee := .value (.func 8), args := #[(.tmp 35), (.tmp 37)], argTypes := #[3, 3] }, some 38, none),
  (.call { callee := .value (.func 8), args := #[(.tmp 30), (.tmp 38)], argTypes := #[3, 3] }, some 39, none),
  (.binOp .gtr 3 (.tmp 39) (.const (.int .i64 2147483647)) 3, some 40, none)]
def rw1D : List (Nat × Nat) := [(1, 0), (3, 2), (4, 1), (4, 3), (6, 5), (8, 7), (9, 6), (9, 8), (11, 10), (12, 9), (12, 11), (13, 4), (13, 12), (14, 13)]
set_option maxHeartbeats 2000000 in
theorem rw1 {ops : Array Oper} {id : Nat} {Q : Exit → Act → World → Prop} (x y n1 k1 n2 k2 : Nat) (p1 p2 : Option Addr) (st T Z A D K : Int) (m p b1 b2 ee : Bs) (htab : ops.toList.map (fun o => (o.op, o.dst, o.guard)) = rw1T) (hdep : deplB rw1D ops = true) (hac : acB ops = true)
    (a0 : Act) (w : World) (hsz : 41 ≤ a0.tmps.size) (o3 : a0.tmps[3]? = some (S ee)) (o4 : a0.tmps[4]? = some (.pointer (some ⟨y, 0, none⟩))) (o5 : a0.tmps[5]? = some (.pointer (some ⟨x, 0, none⟩)))
    (Wd : (Nat → Bool) → World → Prop) (h0 : Wd (fun _ => false) w.drew) (hpure : ∀ i, i ∉ ([1, 3, 4, 6, 8, 9, 12, 13] : List Nat) → ∀ L W, Wd L W → Wd (upd L i) W)
    (l0 : ∀ L W, Wd L W → W.cell? ⟨y, 0, none⟩ = some (S m) ∧ W.cell? ⟨y, 0 + 1, none⟩ = some (S p) ∧ W.cell? ⟨y, 0 + 2, none⟩ = some (.slice p2 n2 k2) ∧ W.cell? ⟨y, 0 + 3, none⟩ = some (S b2))
    (c1 : ∀ L W, Wd L W → L 1 = false → Calls Tryz.prog 9 #[.agg #[S m, S p, .slice p2 n2 k2, S b2]] W fun e w' => e = .returned (.int .i64 Z) ∧ Wd (upd L 1) w')
    (l2 : ∀ L W, Wd L W → W.cell? ⟨x, 0, none⟩ = some (.int .i64 st) ∧ W.cell? ⟨x, 1, none⟩ = some (.slice p1 n1 k1) ∧ W.cell? ⟨x, 2, none⟩ = some (S b1))
    (c3 : ∀ L W, Wd L W → L 3 = false → Calls Tryz.prog 10 #[.agg #[.int .i64 st, .slice p1 n1 k1, S b1]] W fun e w' => e = .returned (.int .i64 T) ∧ Wd (upd L 3) w')
    (c4 : ∀ L W, Wd L W → L 4 = false → Calls Tryz.prog 8 #[.int .i64 Z, .int .i64 T] W fun e w' => e = .returned (.int .i64 A) ∧ Wd (upd L 4) w')
    (l5 : ∀ L W, Wd L W → W.cell? ⟨y, 0, none⟩ = some (S m) ∧ W.cell? ⟨y, 0 + 1, none⟩ = some (S p) ∧ W.cell? ⟨y, 0 + 2, none⟩ = some (.slice p2 n2 k2) ∧ W.cell? ⟨y, 0 + 3, none⟩ = some (S b2))
    (c6 : ∀ L W, Wd L W → L 6 = false → Calls Tryz.prog 9 #[.agg #[S m, S p, .slice p2 n2 k2, S b2]] W fun e w' => e = .returned (.int .i64 Z) ∧ Wd (upd L 6) w')
    (l7 : ∀ L W, Wd L W → W.cell? ⟨x, 0, none⟩ = some (.int .i64 st) ∧ W.cell? ⟨x, 1, none⟩ = some (.slice p1 n1 k1) ∧ W.cell? ⟨x, 2, none⟩ = some (S b1))
    (c8 : ∀ L W, Wd L W → L 8 = false → Calls Tryz.prog 10 #[.agg #[.int .i64 st, .slice p1 n1 k1, S b1]] W fun e w' => e = .returned (.int .i64 T) ∧ Wd (upd L 8) w')
    (c9 : ∀ L W, Wd L W → L 9 = false → Calls Tryz.prog 8 #[.int .i64 Z, .int .i64 T] W fun e w' => e = .returned (.int .i64 A) ∧ Wd (upd L 9) w')
    (c12 : ∀ L W, Wd L W → L 12 = false → Calls Tryz.prog 8 #[.int .i64 A, .int .i64 (ee.length : Int)] W fun e w' => e = .returned (.int .i64 D) ∧ Wd (upd L 12) w')
    (c13 : ∀ L W, Wd L W → L 13 = false → Calls Tryz.prog 8 #[.int .i64 A, .int .i64 D] W fun e w' => e = .returned (.int .i64 K) ∧ Wd (upd L 13) w')
    (hend : ∀ L W, (∀ i, i < 15 → L i = true) → Wd L W → Q .normal (((((((((((((((a0.put (some 26) (.agg #[S m, S p, .slice p2 n2 k2, S b2])).put (some 27) (.int .i64 Z)).put (some 28) (.agg #[.int .i64 st, .slice p1 n1 k1, S b1])).put (some 29) (.int .i64 T)).put (some 30) (.int .i64 A)).put (some 31) (.agg #[S m, S p, .slice p2 n2 k2, S b2])).put (some 32) (.int .i64 Z)).put (some 33) (.agg #[.int .i64 st, .slice p1 n1 k1, S b1])).put (some 34) (.int .i64 T)).put (some 35) (.int .i64 A)).put (some 36) (S ee)).put (some 37) (.int .i64 (ee.length : Int))).put (some 38) (.int .i64 D)).put (some 39) (.int .i64 K)).put (some 40) (.bool (decide ((2147483647 : Int) < K)))) W) : (Code.region id ops true).wp Tryz.prog Q a0 w := by
  let val : Nat → Value := fun i => match i with
    | 0 => (.agg #[S m, S p, .slice p2 n2 k2, S b2])
    | 1 => (.int .i64 Z)
    | 2 => (.agg #[.int .i64 st, .slice p1 n1 k1, S b1])
    | 3 => (.int .i64 T)
    | 4 => (.int .i64 A)
    | 5 => (.agg #[S m, S p, .slice p2 n2 k2, S b2])
    | 6 => (.int .i64 Z)
    | 7 => (.agg #[.int .i64 st, .slice p1 n1 k1, S b1])
    | 8 => (.int .i64 T)
    | 9 => (.int .i64 A)
    | 10 => (S ee)
    | 11 => (.int .i64 (ee.length : Int))
    | 12 => (.int .i64 D)
    | 13 => (.int .i64 K)
    | 14 => (.bool (decide ((2147483647 : Int) < K)))
    | _ => undef
  have hosz : ops.size = 15 := by
    have := congrArg List.length htab
    simpa [rw1T] using this
  have hds : ∀ i s, (rw1T[i]?).bind (·.2.1) = some s → dstOf ops i = some s := fun i s hi => by rw [tab_dst htab, hi]
  have hdisB : disL rw1T = true := by rfl
  have hdis := disL_of htab hdisB
  have hold : ∀ s, rw1T.all (fun x => !(x.2.1 == some s)) = true → (List.range ops.size).all (fun j => !(dstOf ops j == some s)) = true := fun s h => holdL htab s h
  refine region_detL val Wd (hac_of hac) hdis h0 ?_ ?_
  rotate_left
  · intro L W hall hW
    have := hend L W (by rw [← hosz]; exact hall) hW
    have e : frm ops a0 val (fun _ => true) ops.size = (((((((((((((((a0.put (some 26) (.agg #[S m, S p, .slice p2 n2 k2, S b2])).put (some 27) (.int .i64 Z)).put (some 28) (.agg #[.int .i64 st, .slice p1 n1 k1, S b1])).put (some 29) (.int .i64 T)).put (some 30) (.int .i64 A)).put (some 31) (.agg #[S m, S p, .slice p2 n2 k2, S b2])).put (some 32) (.int .i64 Z)).put (some 33) (.agg #[.int .i64 st, .slice p1 n1 k1, S b1])).put (some 34) (.int .i64 T)).put (some 35) (.int .i64 A)).put (some 36) (S ee)).put (some 37) (.int .i64 (ee.length : Int))).put (some 38) (.int .i64 D)).put (some 39) (.int .i64 K)).put (some 40) (.bool (decide ((2147483647 : Int) < K)))) := by
      rw [hosz]
      simp only [frm, if_true]
      rw [tab_dst htab 0, tab_dst htab 1, tab_dst htab 2, tab_dst htab 3, tab_dst htab 4, tab_dst htab 5, tab_dst htab 6, tab_dst htab 7, tab_dst htab 8, tab_dst htab 9, tab_dst htab 10, tab_dst htab 11, tab_dst htab 12, tab_dst htab 13, tab_dst htab 14]
      rfl
    rw [e]
    exact this
  intro i o ho L a w' hL hd ha hW
  have hi : i < 15 := by rw [← hosz]; exact (Array.getElem?_eq_some_iff.1 ho).1
  match i, ho, hL, hi with
  | 0, ho, hL, _ =>
    obtain ⟨hop, hdst, hgd⟩ := tab_at htab ho (show rw1T[0]? = _ from rfl)
    simp only at hop hgd
    have h0 := frm_old ha 4 _ (hold 4 rfl) o4
    exact doesL_run ho (wanted_none hgd) (hpure 0 (by decide) L w' hW) (run_ld24 _ _ _ hop _ _ _ _ _ _ (eval_of h0) _ (l0 L w' hW).1 (l0 L w' hW).2.1 (l0 L w' hW).2.2.1 (l0 L w' hW).2.2.2)
  | 1, ho, hL, _ =>
    obtain ⟨hop, hdst, hgd⟩ := tab_at htab ho (show rw1T[1]? = _ from rfl)
    simp only at hop hgd
    have h0 := frm_at hdis ha 0 26 (hds 0 26 rfl) (by omega) (depl_of hdep 1 0 (by decide) ho hd)
    refine doesL_call ho (wanted_none hgd) 9 #[.agg #[S m, S p, .slice p2 n2 k2, S b2]] ?_ (c1 L w' hW hL)
    rw [run_calls Tryz.func9 (by kernel_rfl) rfl _ _ _ _ hop rfl]
    simp only [List.map_toArray, List.map_cons, List.map_nil, eval_of h0]
    all_goals rfl
  | 2, ho, hL, _ =>
    obtain ⟨hop, hdst, hgd⟩ := tab_at htab ho (show rw1T[2]? = _ from rfl)
    simp only at hop hgd
    have h0 := frm_old ha 5 _ (hold 5 rfl) o5
    exact doesL_run ho (wanted_none hgd) (hpure 2 (by decide) L w' hW) (run_ld26 _ _ _ hop _ _ _ _ (eval_of h0) _ (l2 L w' hW).1 (l2 L w' hW).2.1 (l2 L w' hW).2.2)
  | 3, ho, hL, _ =>
    obtain ⟨hop, hdst, hgd⟩ := tab_at htab ho (show rw1T[3]? = _ from rfl)
    simp only at hop hgd
    have h0 := frm_at hdis ha 2 28 (hds 2 28 rfl) (by omega) (depl_of hdep 3 2 (by decide) ho hd)
    refine doesL_call ho (wanted_none hgd) 10 #[.agg #[.int .i64 st, .slice p1 n1 k1, S b1]] ?_ (c3 L w' hW hL)
    rw [run_calls Tryz.func10 (by kernel_rfl) rfl _ _ _ _ hop rfl]
    simp only [List.map_toArray, List.map_cons, List.map_nil, eval_of h0]
    all_goals rfl
  | 4, ho, hL, _ =>
    obtain ⟨hop, hdst, hgd⟩ := tab_at htab ho (show rw1T[4]? = _ from rfl)
    simp only at hop hgd
    have h0 := frm_at hdis ha 1 27 (hds 1 27 rfl) (by omega) (depl_of hdep 4 1 (by decide) ho hd)
    have h1 := frm_at hdis ha 3 29 (hds 3 29 rfl) (by omega) (depl_of hdep 4 3 (by decide) ho hd)
    refine doesL_call ho (wanted_none hgd) 8 #[.int .i64 Z, .int .i64 T] ?_ (c4 L w' hW hL)
    rw [run_calls Tryz.func8 (by kernel_rfl) rfl _ _ _ _ hop rfl]
    simp only [List.map_toArray, List.map_cons, List.map_nil, eval_of h0, eval_of h1]
    all_goals rfl
  | 5, ho, hL, _ =>
    obtain ⟨hop, hdst, hgd⟩ := tab_at htab ho (show rw1T[5]? = _ from rfl)
    simp only at hop hgd
    have h0 := frm_old ha 4 _ (hold 4 rfl) o4
    exact doesL_run ho (wanted_none hgd) (hpure 5 (by decide) L w' hW) (run_ld24 _ _ _ hop _ _ _ _ _ _ (eval_of h0) _ (l5 L w' hW).1 (l5 L w' hW).2.1 (l5 L w' hW).2.2.1 (l5 L w' hW).2.2.2)
  | 6, ho, hL, _ =>
    obtain ⟨hop, hdst, hgd⟩ := tab_at htab ho (show rw1T[6]? = _ from rfl)
    simp only at hop hgd
    have h0 := frm_at hdis ha 5 31 (hds 5 31 rfl) (by omega) (depl_of hdep 6 5 (by decide) ho hd)
    refine doesL_call ho (wanted_none hgd) 9 #[.agg #[S m, S p, .slice p2 n2 k2, S b2]] ?_ (c6 L w' hW hL)
    rw [run_calls Tryz.func9 (by kernel_rfl) rfl _ _ _ _ hop rfl]
    simp only [List.map_toArray, List.map_cons, List.map_nil, eval_of h0]
    all_goals rfl
  | 7, ho, hL, _ =>
    obtain ⟨hop, hdst, hgd⟩ := tab_at htab ho (show rw1T[7]? = _ from rfl)
    simp only at hop hgd
    have h0 := frm_old ha 5 _ (hold 5 rfl) o5
    exact doesL_run ho (wanted_none hgd) (hpure 7 (by decide) L w' hW) (run_ld26 _ _ _ hop _ _ _ _ (eval_of h0) _ (l7 L w' hW).1 (l7 L w' hW).2.1 (l7 L w' hW).2.2)
  | 8, ho, hL, _ =>
    obtain ⟨hop, hdst, hgd⟩ := tab_at htab ho (show rw1T[8]? = _ from rfl)
    simp only at hop hgd
    have h0 := frm_at hdis ha 7 33 (hds 7 33 rfl) (by omega) (depl_of hdep 8 7 (by decide) ho hd)
    refine doesL_call ho (wanted_none hgd) 10 #[.agg #[.int .i64 st, .slice p1 n1 k1, S b1]] ?_ (c8 L w' hW hL)
    rw [run_calls Tryz.func10 (by kernel_rfl) rfl _ _ _ _ hop rfl]
    simp only [List.map_toArray, List.map_cons, List.map_nil, eval_of h0]
    all_goals rfl
  | 9, ho, hL, _ =>
    obtain ⟨hop, hdst, hgd⟩ := tab_at htab ho (show rw1T[9]? = _ from rfl)
    simp only at hop hgd
    have h0 := frm_at hdis ha 6 32 (hds 6 32 rfl) (by omega) (depl_of hdep 9 6 (by decide) ho hd)
    have h1 := frm_at hdis ha 8 34 (hds 8 34 rfl) (by omega) (depl_of hdep 9 8 (by decide) ho hd)
    refine doesL_call ho (wanted_none hgd) 8 #[.int .i64 Z, .int .i64 T] ?_ (c9 L w' hW hL)
    rw [run_calls Tryz.func8 (by kernel_rfl) rfl _ _ _ _ hop rfl]
    simp only [List.map_toArray, List.map_cons, List.map_nil, eval_of h0, eval_of h1]
    all_goals rfl
  | 10, ho, hL, _ =>
    obtain ⟨hop, hdst, hgd⟩ := tab_at htab ho (show rw1T[10]? = _ from rfl)
    simp only at hop hgd
    have h0 := frm_old ha 3 _ (hold 3 rfl) o3
    exact doesL_run ho (wanted_none hgd) (hpure 10 (by decide) L w' hW) (by rw [run_move _ _ _ hop]; exact congrArg (fun v => Result.ok (Next.value v) w') (eval_of h0))
  | 11, ho, hL, _ =>
    obtain ⟨hop, hdst, hgd⟩ := tab_at htab ho (show rw1T[11]? = _ from rfl)
    simp only at hop hgd
    have h0 := frm_at hdis ha 10 36 (hds 10 36 rfl) (by omega) (depl_of hdep 11 10 (by decide) ho hd)
    exact doesL_run ho (wanted_none hgd) (hpure 11 (by decide) L w' hW) (run_len _ _ _ hop _ (eval_of h0) _)
  | 12, ho, hL, _ =>
    obtain ⟨hop, hdst, hgd⟩ := tab_at htab ho (show rw1T[12]? = _ from rfl)
    simp only at hop hgd
    have h0 := frm_at hdis ha 9 35 (hds 9 35 rfl) (by omega) (depl_of hdep 12 9 (by decide) ho hd)
    have h1 := frm_at hdis ha 11 37 (hds 11 37 rfl) (by omega) (depl_of hdep 12 11 (by decide) ho hd)
    refine doesL_call ho (wanted_none hgd) 8 #[.int .i64 A, .int .i64 (ee.length : Int)] ?_ (c12 L w' hW hL)
    rw [run_calls Tryz.func8 (by kernel_rfl) rfl _ _ _ _ hop rfl]
    simp only [List.map_toArray, List.map_cons, List.map_nil, eval_of h0, eval_of h1]
    all_goals rfl
  | 13, ho, hL, _ =>
    obtain ⟨hop, hdst, hgd⟩ := tab_at htab ho (show rw1T[13]? = _ from rfl)
    simp only at hop hgd
    have h0 := frm_at hdis ha 4 30 (hds 4 30 rfl) (by omega) (depl_of hdep 13 4 (by decide) ho hd)
    have h1 := frm_at hdis ha 12 38 (hds 12 38 rfl) (by omega) (depl_of hdep 13 12 (by decide) ho hd)
    refine doesL_call ho (wanted_none hgd) 8 #[.int .i64 A, .int .i64 D] ?_ (c13 L w' hW hL)
    rw [run_calls Tryz.func8 (by kernel_rfl) rfl _ _ _ _ hop rfl]
    simp only [List.map_toArray, List.map_cons, List.map_nil, eval_of h0, eval_of h1]
    all_goals rfl
  | 14, ho, hL, _ =>
    obtain ⟨hop, hdst, hgd⟩ := tab_at htab ho (show rw1T[14]? = _ from rfl)
    simp only at hop hgd
    have h0 := frm_at hdis ha 13 39 (hds 13 39 rfl) (by omega) (depl_of hdep 14 13 (by decide) ho hd)
    exact doesL_run ho (wanted_none hgd) (hpure 14 (by decide) L w' hW) (run_gtr _ _ _ _ hop _ _ (eval_of h0) rfl _)
  | (i + 15), ho, hL, hi => exact absurd hi (by omega)
def rw24T : List (Op × Option Tmp × Option (Nat × Bool)) := [
  (.fieldAddr 24 (.tmp 14) 2, some 105, none),
  (.load 22 (.tmp 105), some 106, none),
  (.move (.tmp 16), some 107, none),
  (.fieldAddr 24 (.tmp 4) 2, some 108, none),
  (.load 22 (.tmp 108), some 109, none),
  (.move (.tmp 16), some 110, none),
  (.indexAddr 22 (.tmp 109) (.tmp 110), some 111, none),
  (.load 35 (.tmp 111), some 112, none),
  (.indexAddr 22 (.tmp 106) (.tmp 107), some 113, none),
  (.store 35 (.tmp 113) (.tmp 112), none, none)]
def rw24D : List (Nat × Nat) := [(1, 0), (4, 3), (6, 4), (6, 5), (7, 6), (8, 1), (8, 2), (9, 7), (9, 8)]
set_option maxHeartbeats 2000000 in
theorem rw24 {ops : Array Oper} {id : Nat} {Q : Exit → Act → World → Prop} (X P G n c p o n' c' k : Nat) (f1 f2 : Bs) (cs : Array Value) (htab : ops.toList.map (fun o => (o.op, o.dst, o.guard)) = rw24T) (hdep : deplB rw24D ops = true) (hac : acB ops = true)
    (a0 : Act) (w : World) (hsz : 114 ≤ a0.tmps.size) (o4 : a0.tmps[4]? = some (.pointer (some ⟨P, 0, none⟩))) (o14 : a0.tmps[14]? = some (.pointer (some ⟨X, 0, none⟩))) (o16 : a0.tmps[16]? = some (.int .i64 (k : Int)))
    (Wd : (Nat → Bool) → World → Prop) (h0 : Wd (fun _ => false) w.drew) (hpure : ∀ i, i ∉ ([9] : List Nat) → ∀ L W, Wd L W → Wd (upd L i) W)
    (l1 : ∀ L W, Wd L W → W.cell? ⟨X, 0 + 2, none⟩ = some (.slice (some ⟨G, 0, none⟩) n c)) (l4 : ∀ L W, Wd L W → W.cell? ⟨P, 0 + 2, none⟩ = some (.slice (some ⟨p, o, none⟩) n' c')) (i6 : k < n') (i8 : k < n) (l7 : ∀ L W, Wd L W → W.cell? ⟨p, o + k * 2, none⟩ = some (S f1) ∧ W.cell? ⟨p, o + k * 2 + 1, none⟩ = some (S f2))
    (n9 : ∀ L W, Wd L W → L 9 = false → L 7 = true → L 8 = true → Wd (upd L 9) ((W.setCell ⟨G, 0 + k * 2, none⟩ (S f1)).setCell ⟨G, 0 + k * 2 + 1, none⟩ (S f2)) ∧ W.heap[G]? = some (.cells cs 35 (0, 0)) ∧ 0 + k * 2 + 1 < cs.size)
    (hend : ∀ L W, (∀ i, i < 10 → L i = true) → Wd L W → Q .normal (((((((((a0.put (some 105) (.pointer (some ⟨X, 0 + 2, none⟩))).put (some 106) (.slice (some ⟨G, 0, none⟩) n c)).put (some 107) (.int .i64 (k : Int))).put (some 108) (.pointer (some ⟨P, 0 + 2, none⟩))).put (some 109) (.slice (some ⟨p, o, none⟩) n' c')).put (some 110) (.int .i64 (k : Int))).put (some 111) (.pointer (some ⟨p, o + k * 2, none⟩))).put (some 112) (.agg #[S f1, S f2])).put (some 113) (.pointer (some ⟨G, 0 + k * 2, none⟩))) W) : (Code.region id ops true).wp Tryz.prog Q a0 w := by
  let val : Nat → Value := fun i => match i with
    | 0 => (.pointer (some ⟨X, 0 + 2, none⟩))
    | 1 => (.slice (some ⟨G, 0, none⟩) n c)
    | 2 => (.int .i64 (k : Int))
    | 3 => (.pointer (some ⟨P, 0 + 2, none⟩))
    | 4 => (.slice (some ⟨p, o, none⟩) n' c')
    | 5 => (.int .i64 (k : Int))
    | 6 => (.pointer (some ⟨p, o + k * 2, none⟩))
    | 7 => (.agg #[S f1, S f2])
    | 8 => (.pointer (some ⟨G, 0 + k * 2, none⟩))
    | 9 => undef
    | _ => undef
  have hosz : ops.size = 10 := by
    have := congrArg List.length htab
    simpa [rw24T] using this
  have hds : ∀ i s, (rw24T[i]?).bind (·.2.1) = some s → dstOf ops i = some s := fun i s hi => by rw [tab_dst htab, hi]
  have hdisB : disL rw24T = true := by rfl
  have hdis := disL_of htab hdisB
  have hold : ∀ s, rw24T.all (fun x => !(x.2.1 == some s)) = true → (List.range ops.size).all (fun j => !(dstOf ops j == some s)) = true := fun s h => holdL htab s h
  refine region_detL val Wd (hac_of hac) hdis h0 ?_ ?_
  rotate_left
  · intro L W hall hW
    have := hend L W (by rw [← hosz]; exact hall) hW
    have e : frm ops a0 val (fun _ => true) ops.size = (((((((((a0.put (some 105) (.pointer (some ⟨X, 0 + 2, none⟩))).put (some 106) (.slice (some ⟨G, 0, none⟩) n c)).put (some 107) (.int .i64 (k : Int))).put (some 108) (.pointer (some ⟨P, 0 + 2, none⟩))).put (some 109) (.slice (some ⟨p, o, none⟩) n' c')).put (some 110) (.int .i64 (k : Int))).put (some 111) (.pointer (some ⟨p, o + k * 2, none⟩))).put (some 112) (.agg #[S f1, S f2])).put (some 113) (.pointer (some ⟨G, 0 + k * 2, none⟩))) := by
      rw [hosz]
      simp only [frm, if_true]
      rw [tab_dst htab 0, tab_dst htab 1, tab_dst htab 2, tab_dst htab 3, tab_dst htab 4, tab_dst htab 5, tab_dst htab 6, tab_dst htab 7, tab_dst htab 8, (show dstOf ops 9 = none from (tab_dst htab 9).trans rfl), put_none]
      rfl
    rw [e]
    exact this
  intro i o ho L a w' hL hd ha hW
  have hi : i < 10 := by rw [← hosz]; exact (Array.getElem?_eq_some_iff.1 ho).1
  match i, ho, hL, hi with
  | 0, ho, hL, _ =>
    obtain ⟨hop, hdst, hgd⟩ := tab_at htab ho (show rw24T[0]? = _ from rfl)
    simp only at hop hgd
    have h0 := frm_old ha 14 _ (hold 14 rfl) o14
    exact doesL_run ho (wanted_none hgd) (hpure 0 (by decide) L w' hW) (run_f24_2 _ _ _ hop _ _ (eval_of h0) _)
  | 1, ho, hL, _ =>
    obtain ⟨hop, hdst, hgd⟩ := tab_at htab ho (show rw24T[1]? = _ from rfl)
    simp only at hop hgd
    have h0 := frm_at hdis ha 0 105 (hds 0 105 rfl) (by omega) (depl_of hdep 1 0 (by decide) ho hd)
    exact doesL_run ho (wanted_none hgd) (hpure 1 (by decide) L w' hW) (run_ld22 _ _ _ hop _ _ (eval_of h0) _ (l1 L w' hW))
  | 2, ho, hL, _ =>
    obtain ⟨hop, hdst, hgd⟩ := tab_at htab ho (show rw24T[2]? = _ from rfl)
    simp only at hop hgd
    have h0 := frm_old ha 16 _ (hold 16 rfl) o16
    exact doesL_run ho (wanted_none hgd) (hpure 2 (by decide) L w' hW) (by rw [run_move _ _ _ hop]; exact congrArg (fun v => Result.ok (Next.value v) w') (eval_of h0))
  | 3, ho, hL, _ =>
    obtain ⟨hop, hdst, hgd⟩ := tab_at htab ho (show rw24T[3]? = _ from rfl)
    simp only at hop hgd
    have h0 := frm_old ha 4 _ (hold 4 rfl) o4
    exact doesL_run ho (wanted_none hgd) (hpure 3 (by decide) L w' hW) (run_f24_2 _ _ _ hop _ _ (eval_of h0) _)
  | 4, ho, hL, _ =>
    obtain ⟨hop, hdst, hgd⟩ := tab_at htab ho (show rw24T[4]? = _ from rfl)
    simp only at hop hgd
    have h0 := frm_at hdis ha 3 108 (hds 3 108 rfl) (by omega) (depl_of hdep 4 3 (by decide) ho hd)
    exact doesL_run ho (wanted_none hgd) (hpure 4 (by decide) L w' hW) (run_ld22 _ _ _ hop _ _ (eval_of h0) _ (l4 L w' hW))
  | 5, ho, hL, _ =>
    obtain ⟨hop, hdst, hgd⟩ := tab_at htab ho (show rw24T[5]? = _ from rfl)
    simp only at hop hgd
    have h0 := frm_old ha 16 _ (hold 16 rfl) o16
    exact doesL_run ho (wanted_none hgd) (hpure 5 (by decide) L w' hW) (by rw [run_move _ _ _ hop]; exact congrArg (fun v => Result.ok (Next.value v) w') (eval_of h0))
  | 6, ho, hL, _ =>
    obtain ⟨hop, hdst, hgd⟩ := tab_at htab ho (show rw24T[6]? = _ from rfl)
    simp only at hop hgd
    have h0 := frm_at hdis ha 4 109 (hds 4 109 rfl) (by omega) (depl_of hdep 6 4 (by decide) ho hd)
    have h1 := frm_at hdis ha 5 110 (hds 5 110 rfl) (by omega) (depl_of hdep 6 5 (by decide) ho hd)
    exact doesL_run ho (wanted_none hgd) (hpure 6 (by decide) L w' hW) (run_ia22 _ _ _ _ hop _ _ _ _ _ i6 (eval_of h0) (eval_of h1) _)
  | 7, ho, hL, _ =>
    obtain ⟨hop, hdst, hgd⟩ := tab_at htab ho (show rw24T[7]? = _ from rfl)
    simp only at hop hgd
    have h0 := frm_at hdis ha 6 111 (hds 6 111 rfl) (by omega) (depl_of hdep 7 6 (by decide) ho hd)
    exact doesL_run ho (wanted_none hgd) (hpure 7 (by decide) L w' hW) (run_ld35 _ _ _ hop _ _ _ _ (eval_of h0) _ (l7 L w' hW).1 (l7 L w' hW).2)
  | 8, ho, hL, _ =>
    obtain ⟨hop, hdst, hgd⟩ := tab_at htab ho (show rw24T[8]? = _ from rfl)
    simp only at hop hgd
    have h0 := frm_at hdis ha 1 106 (hds 1 106 rfl) (by omega) (depl_of hdep 8 1 (by decide) ho hd)
    have h1 := frm_at hdis ha 2 107 (hds 2 107 rfl) (by omega) (depl_of hdep 8 2 (by decide) ho hd)
    exact doesL_run ho (wanted_none hgd) (hpure 8 (by decide) L w' hW) (run_ia22 _ _ _ _ hop _ _ _ _ _ i8 (eval_of h0) (eval_of h1) _)
  | 9, ho, hL, _ =>
    obtain ⟨hop, hdst, hgd⟩ := tab_at htab ho (show rw24T[9]? = _ from rfl)
    simp only at hop hgd
    have h0 := frm_at hdis ha 8 113 (hds 8 113 rfl) (by omega) (depl_of hdep 9 8 (by decide) ho hd)
    have h1 := frm_at hdis ha 7 112 (hds 7 112 rfl) (by omega) (depl_of hdep 9 7 (by decide) ho hd)
    obtain ⟨s1, s2⟩ := n9 L w' hW hL (depl_of hdep 9 7 (by decide) ho hd) (depl_of hdep 9 8 (by decide) ho hd)
    exact doesL_skp ho (wanted_none hgd) rfl s1 (run_st35 _ _ _ _ hop _ _ _ _ (eval_of h0) (eval_of h1) _ _ s2 ⟨rfl, rfl⟩)
  | (i + 10), ho, hL, hi => exact absurd hi (by omega)
def v11 (X1 Y1 Z1 : Nat) (VX VY : Value) (c : Value × Value) (i : Nat) : Value := match i with
  | 0 => (.pointer (some ⟨X1, 0 + 2, none⟩))
  | 1 => VX
  | 2 => c.1
  | 3 => (.pointer (some ⟨Y1, 0 + 1, none⟩))
  | 4 => VY
  | 5 => c.2
  | 6 => (.pointer (some ⟨Z1, 0 + 2, none⟩))
  | 7 => undef
  | _ => undef
def rw11T : List (Op × Option Tmp × Option (Nat × Bool)) := [
  (.fieldAddr 24 (.tmp 11) 2, some 56, none),
  (.load 22 (.tmp 56), some 57, none),
  (.call { callee := .builtin .append, args := #[(.const (.slice none 0 0)), (.tmp 57)], argTypes := #[22, 22] }, some 58, none),
  (.fieldAddr 26 (.tmp 12) 1, some 59, none),
  (.load 22 (.tmp 59), some 60, none),
  (.call { callee := .builtin .append, args := #[(.tmp 58), (.tmp 60)], argTypes := #[22, 22] }, some 61, none),
  (.fieldAddr 24 (.tmp 14) 2, some 62, none),
  (.store 22 (.tmp 62) (.tmp 61), none, none)]
def rw11D : List (Nat × Nat) := [(1, 0), (2, 1), (4, 3), (5, 2), (5, 4), (7, 5), (7, 6)]
set_option maxHeartbeats 2000000 in
theorem rw11 {ops : Array Oper} {id : Nat} {Q : Exit → Act → World → Prop} (X1 Y1 Z1 : Nat) (VX VY : Value) (htab : ops.toList.map (fun o => (o.op, o.dst, o.guard)) = rw11T) (hdep : deplB rw11D ops = true) (hac : acB ops = true)
    (a0 : Act) (w : World) (hsz : 63 ≤ a0.tmps.size) (o11 : a0.tmps[11]? = some (.pointer (some ⟨X1, 0, none⟩))) (o12 : a0.tmps[12]? = some (.pointer (some ⟨Y1, 0, none⟩))) (o14 : a0.tmps[14]? = some (.pointer (some ⟨Z1, 0, none⟩)))
    (Wd : Value × Value → (Nat → Bool) → World → Prop) (h0 : ∃ c, Wd c (fun _ => false) w.drew) (hpure : ∀ i, i ∉ ([2, 5, 7] : List Nat) → ∀ c L W, Wd c L W → Wd c (upd L i) W)
    (l1 : ∀ c L W, Wd c L W → W.cell? ⟨X1, 0 + 2, none⟩ = some VX) (l4 : ∀ c L W, Wd c L W → W.cell? ⟨Y1, 0 + 1, none⟩ = some VY)
    (n2 : ∀ tt c L W, Wd c L W → L 2 = false → L 1 = true → ∃ (c' : Value × Value) (W' : World), (∀ j, L j = true → v11 X1 Y1 Z1 VX VY c' j = v11 X1 Y1 Z1 VX VY c j) ∧ (Builtin.append_ #[22, 22] tt #[.slice none 0 0, VX]).run Tryz.prog W = .ok c'.1 W' ∧ Wd c' (upd L 2) W')
    (n5 : ∀ tt c L W, Wd c L W → L 5 = false → L 2 = true → L 4 = true → ∃ (c' : Value × Value) (W' : World), (∀ j, L j = true → v11 X1 Y1 Z1 VX VY c' j = v11 X1 Y1 Z1 VX VY c j) ∧ (Builtin.append_ #[22, 22] tt #[c.1, VY]).run Tryz.prog W = .ok c'.2 W' ∧ Wd c' (upd L 5) W')
    (n7 : ∀ c L W, Wd c L W → L 7 = false → L 5 = true → L 6 = true → Wd c (upd L 7) (W.setCell ⟨Z1, 0 + 2, none⟩ c.2) ∧ (∃ a n k, c.2 = .slice a n k) ∧ (∃ u, W.cell? ⟨Z1, 0 + 2, none⟩ = some u) ∧ W.frozen? ⟨Z1, 0 + 2, none⟩ = false)
    (hend : ∀ c L W, (∀ i, i < 8 → L i = true) → Wd c L W → Q .normal (((((((a0.put (some 56) (.pointer (some ⟨X1, 0 + 2, none⟩))).put (some 57) VX).put (some 58) c.1).put (some 59) (.pointer (some ⟨Y1, 0 + 1, none⟩))).put (some 60) VY).put (some 61) c.2).put (some 62) (.pointer (some ⟨Z1, 0 + 2, none⟩))) W) : (Code.region id ops true).wp Tryz.prog Q a0 w := by
  let val : Value × Value → Nat → Value := v11 X1 Y1 Z1 VX VY
  have hosz : ops.size = 8 := by
    have := congrArg List.length htab
    simpa [rw11T] using this
  have hds : ∀ i s, (rw11T[i]?).bind (·.2.1) = some s → dstOf ops i = some s := fun i s hi => by rw [tab_dst htab, hi]
  have hdisB : disL rw11T = true := by rfl
  have hdis := disL_of htab hdisB
  have hold : ∀ s, rw11T.all (fun x => !(x.2.1 == some s)) = true → (List.range ops.size).all (fun j => !(dstOf ops j == some s)) = true := fun s h => holdL htab s h
  refine region_detX val Wd (hac_of hac) hdis h0 ?_ ?_
  rotate_left
  · intro c L W hall hW
    have := hend c L W (by rw [← hosz]; exact hall) hW
    have e : frm ops a0 (val c) (fun _ => true) ops.size = (((((((a0.put (some 56) (.pointer (some ⟨X1, 0 + 2, none⟩))).put (some 57) VX).put (some 58) c.1).put (some 59) (.pointer (some ⟨Y1, 0 + 1, none⟩))).put (some 60) VY).put (some 61) c.2).put (some 62) (.pointer (some ⟨Z1, 0 + 2, none⟩))) := by
      rw [hosz]
      simp only [frm, if_true]
      rw [tab_dst htab 0, tab_dst htab 1, tab_dst htab 2, tab_dst htab 3, tab_dst htab 4, tab_dst htab 5, tab_dst htab 6, (show dstOf ops 7 = none from (tab_dst htab 7).trans rfl), put_none]
      rfl
    rw [e]
    exact this
  intro i o ho c L a w' hL hd ha hW
  have hi : i < 8 := by rw [← hosz]; exact (Array.getElem?_eq_some_iff.1 ho).1
  match i, ho, hL, hi with
  | 0, ho, hL, _ =>
    obtain ⟨hop, hdst, hgd⟩ := tab_at htab ho (show rw11T[0]? = _ from rfl)
    simp only at hop hgd
    have h0 := frm_old (val := val c) ha 11 _ (hold 11 rfl) o11
    exact doesX_of (doesL_run ho (wanted_none hgd) (hpure 0 (by decide) c L w' hW) (run_f24_2 _ _ _ hop _ _ (eval_of h0) _))
  | 1, ho, hL, _ =>
    obtain ⟨hop, hdst, hgd⟩ := tab_at htab ho (show rw11T[1]? = _ from rfl)
    simp only at hop hgd
    have h0 := frm_at (val := val c) hdis ha 0 56 (hds 0 56 rfl) (by omega) (depl_of hdep 1 0 (by decide) ho hd)
    exact doesX_of (doesL_run ho (wanted_none hgd) (hpure 1 (by decide) c L w' hW) (run_ld22 _ _ _ hop _ _ (eval_of h0) _ (l1 c L w' hW)))
  | 2, ho, hL, _ =>
    obtain ⟨hop, hdst, hgd⟩ := tab_at htab ho (show rw11T[2]? = _ from rfl)
    simp only at hop hgd
    have h1 := frm_at (val := val c) hdis ha 1 57 (hds 1 57 rfl) (by omega) (depl_of hdep 2 1 (by decide) ho hd)
    obtain ⟨c', W', q0, q1, q2⟩ := n2 o.type c L w' hW hL (depl_of hdep 2 1 (by decide) ho hd)
    refine doesX_runw ho (wanted_none hgd) c' q0 q2 (run_app _ _ _ _ _ hop _ _ _ rfl (eval_of h1) _ _ q1)
  | 3, ho, hL, _ =>
    obtain ⟨hop, hdst, hgd⟩ := tab_at htab ho (show rw11T[3]? = _ from rfl)
    simp only at hop hgd
    have h0 := frm_old (val := val c) ha 12 _ (hold 12 rfl) o12
    exact doesX_of (doesL_run ho (wanted_none hgd) (hpure 3 (by decide) c L w' hW) (run_f26_1 _ _ _ hop _ _ (eval_of h0) _))
  | 4, ho, hL, _ =>
    obtain ⟨hop, hdst, hgd⟩ := tab_at htab ho (show rw11T[4]? = _ from rfl)
    simp only at hop hgd
    have h0 := frm_at (val := val c) hdis ha 3 59 (hds 3 59 rfl) (by omega) (depl_of hdep 4 3 (by decide) ho hd)
    exact doesX_of (doesL_run ho (wanted_none hgd) (hpure 4 (by decide) c L w' hW) (run_ld22 _ _ _ hop _ _ (eval_of h0) _ (l4 c L w' hW)))
  | 5, ho, hL, _ =>
    obtain ⟨hop, hdst, hgd⟩ := tab_at htab ho (show rw11T[5]? = _ from rfl)
    simp only at hop hgd
    have h0 := frm_at (val := val c) hdis ha 2 58 (hds 2 58 rfl) (by omega) (depl_of hdep 5 2 (by decide) ho hd)
    have h1 := frm_at (val := val c) hdis ha 4 60 (hds 4 60 rfl) (by omega) (depl_of hdep 5 4 (by decide) ho hd)
    obtain ⟨c', W', q0, q1, q2⟩ := n5 o.type c L w' hW hL (depl_of hdep 5 2 (by decide) ho hd) (depl_of hdep 5 4 (by decide) ho hd)
    refine doesX_runw ho (wanted_none hgd) c' q0 q2 (run_app _ _ _ _ _ hop _ _ _ (eval_of h0) (eval_of h1) _ _ q1)
  | 6, ho, hL, _ =>
    obtain ⟨hop, hdst, hgd⟩ := tab_at htab ho (show rw11T[6]? = _ from rfl)
    simp only at hop hgd
    have h0 := frm_old (val := val c) ha 14 _ (hold 14 rfl) o14
    exact doesX_of (doesL_run ho (wanted_none hgd) (hpure 6 (by decide) c L w' hW) (run_f24_2 _ _ _ hop _ _ (eval_of h0) _))
  | 7, ho, hL, _ =>
    obtain ⟨hop, hdst, hgd⟩ := tab_at htab ho (show rw11T[7]? = _ from rfl)
    simp only at hop hgd
    have h0 := frm_at (val := val c) hdis ha 6 62 (hds 6 62 rfl) (by omega) (depl_of hdep 7 6 (by decide) ho hd)
    have h1 := frm_at (val := val c) hdis ha 5 61 (hds 5 61 rfl) (by omega) (depl_of hdep 7 5 (by decide) ho hd)
    obtain ⟨s1, s2, s3, s4⟩ := n7 c L w' hW hL (depl_of hdep 7 5 (by decide) ho hd) (depl_of hdep 7 6 (by decide) ho hd)
    exact doesX_of (doesL_skp ho (wanted_none hgd) rfl s1 (run_st22 _ _ _ _ hop _ _ (eval_of h0) (eval_of h1) _ s2 s3 s4))
  | (i + 8), ho, hL, hi => exact absurd hi (by omega)
end Go.Proofs.YthlacailhfhjnaaGreatDoor
