import Derived.Test.YthlacailhfhjnaaGreatDoorZzai
import Derived.Test.YthlacailhfhjnaaGreatDoorZzaj
import Derived.Test.YthlacailhfhjnaaGreatDoorDetl
namespace Go.Proofs.YthlacailhfhjnaaGreatDoor
open Go.RowKit Go.Lib
theorem run_gtr (ρ : Operand → Value) (o : Oper) (x y : Operand) (ho : o.op = .binOp .gtr 3 x y 3) (a b : Int) (hx : ρ x = .int .i64 a) (hy : ρ y = .int .i64 b) (w : World) : (execOp ρ o).run Tryz.prog w = .ok (.value (.bool (decide (b < a)))) w := by
  unfold execOp
  simp only [ho, hx, hy]
  simp [go_sem]
def rbkT : List (Op × Option Tmp × Option (Nat × Bool)) := [
  (.load 26 (.tmp 4), some 31, none),
  (.call { callee := .value (.func 10), args := #[(.tmp 31)], argTypes := #[26] }, some 32, none),
  (.load 24 (.tmp 5), some 33, none),
  (.call { callee := .value (.func 9), args := #[(.tmp 33)], argTypes := #[24] }, some 34, none),
  (.call { callee := .value (.func 8), args := #[(.tmp 32), (.tmp 34)], argTypes := #[3, 3] }, some 35, none),
  (.load 26 (.tmp 4), some 36, none),
  (.call { callee := .value (.func 10), args := #[(.tmp 36)], argTypes := #[26] }, some 37, none),
  (.load 24 (.tmp 5), some 38, none),
  (.call { callee := .value (.func 9), args := #[(.tmp 38)], argTypes := #[24] }, some 39, none),
  (.call { callee := .value (.func 8), args := #[(.tmp 37), (.tmp 39)], argTypes := #[3, 3] }, some 40, none),
  (.move (.tmp 2), some 41, none),
  (.call { callee := .builtin .len, args := #[(.tmp 41)], argTypes := #[9] }, some 42, none),
  (.move (.tmp 2), some 43, none),
  (.call { callee := .builtin .len, args := #[(.tmp 43)], argTypes := #[9] }, some 44, none),
  (.call { callee := .value (.func 8), args := #[(.tmp 42), (.tmp 44)], argTypes := #[3, 3] }, some 45, none),
  (.call { callee := .value (.func 8), args := #[(.tmp 40), (.tmp 45)], argTypes := #[3, 3] }, some 46, none),
  (.call { callee := .value (.func 8), args := #[(.tmp 35), (.tmp 46)], argTypes := #[3, 3] }, some 47, none),
  (.binOp .gtr 3 (.tmp 47) (.const (.int .i64 2147483647)) 3, some 48, none)]
def rbkD : List (Nat × Nat) := [(1, 0), (3, 2), (4, 1), (4, 3), (6, 5), (8, 7), (9, 6), (9, 8), (11, 10), (13, 12), (14, 11), (14, 13), (15, 9), (15, 14), (16, 4), (16, 15), (17, 16)]
set_option maxHeartbeats 2000000 in
theorem rbk {ops : Array Oper} {id : Nat} {Q : Exit → Act → World → Prop} (x y n1 k1 n2 k2 : Nat) (p1 p2 : Option Addr) (st T Z A D G K : Int) (m p b1 b2 ee : Bs) (htab : ops.toList.map (fun o => (o.op, o.dst, o.guard)) = rbkT) (hdep : deplB rbkD ops = true) (hac : acB ops = true)
    (a0 : Act) (w : World) (hsz : 49 ≤ a0.tmps.size) (o2 : a0.tmps[2]? = some (S ee)) (o4 : a0.tmps[4]? = some (.pointer (some ⟨x, 0, none⟩))) (o5 : a0.tmps[5]? = some (.pointer (some ⟨y, 0, none⟩)))
    (Wd : (Nat → Bool) → World → Prop) (h0 : Wd (fun _ => false) w.drew) (hpure : ∀ i, i ∉ ([1, 3, 4, 6, 8, 9, 14, 15, 16] : List Nat) → ∀ L W, Wd L W → Wd (upd L i) W)
    (l0 : ∀ L W, Wd L W → W.cell? ⟨x, 0, none⟩ = some (.int .i64 st) ∧ W.cell? ⟨x, 1, none⟩ = some (.slice p1 n1 k1) ∧ W.cell? ⟨x, 2, none⟩ = some (S b1))
    (c1 : ∀ L W, Wd L W → L 1 = false → Calls Tryz.prog 10 #[.agg #[.int .i64 st, .slice p1 n1 k1, S b1]] W fun e w' => e = .returned (.int .i64 T) ∧ Wd (upd L 1) w')
    (l2 : ∀ L W, Wd L W → W.cell? ⟨y, 0, none⟩ = some (S m) ∧ W.cell? ⟨y, 0 + 1, none⟩ = some (S p) ∧ W.cell? ⟨y, 0 + 2, none⟩ = some (.slice p2 n2 k2) ∧ W.cell? ⟨y, 0 + 3, none⟩ = some (S b2))
    (c3 : ∀ L W, Wd L W → L 3 = false → Calls Tryz.prog 9 #[.agg #[S m, S p, .slice p2 n2 k2, S b2]] W fun e w' => e = .returned (.int .i64 Z) ∧ Wd (upd L 3) w')
    (c4 : ∀ L W, Wd L W → L 4 = false → Calls Tryz.prog 8 #[.int .i64 T, .int .i64 Z] W fun e w' => e = .returned (.int .i64 A) ∧ Wd (upd L 4) w')
    (l5 : ∀ L W, Wd L W → W.cell? ⟨x, 0, none⟩ = some (.int .i64 st) ∧ W.cell? ⟨x, 1, none⟩ = some (.slice p1 n1 k1) ∧ W.cell? ⟨x, 2, none⟩ = some (S b1))
    (c6 : ∀ L W, Wd L W → L 6 = false → Calls Tryz.prog 10 #[.agg #[.int .i64 st, .slice p1 n1 k1, S b1]] W fun e w' => e = .returned (.int .i64 T) ∧ Wd (upd L 6) w')
    (l7 : ∀ L W, Wd L W → W.cell? ⟨y, 0, none⟩ = some (S m) ∧ W.cell? ⟨y, 0 + 1, none⟩ = some (S p) ∧ W.cell? ⟨y, 0 + 2, none⟩ = some (.slice p2 n2 k2) ∧ W.cell? ⟨y, 0 + 3, none⟩ = some (S b2))
    (c8 : ∀ L W, Wd L W → L 8 = false → Calls Tryz.prog 9 #[.agg #[S m, S p, .slice p2 n2 k2, S b2]] W fun e w' => e = .returned (.int .i64 Z) ∧ Wd (upd L 8) w')
    (c9 : ∀ L W, Wd L W → L 9 = false → Calls Tryz.prog 8 #[.int .i64 T, .int .i64 Z] W fun e w' => e = .returned (.int .i64 A) ∧ Wd (upd L 9) w')
    (c14 : ∀ L W, Wd L W → L 14 = false → Calls Tryz.prog 8 #[.int .i64 (ee.length : Int), .int .i64 (ee.length : Int)] W fun e w' => e = .returned (.int .i64 D) ∧ Wd (upd L 14) w')
    (c15 : ∀ L W, Wd L W → L 15 = false → Calls Tryz.prog 8 #[.int .i64 A, .int .i64 D] W fun e w' => e = .returned (.int .i64 G) ∧ Wd (upd L 15) w')
    (c16 : ∀ L W, Wd L W → L 16 = false → Calls Tryz.prog 8 #[.int .i64 A, .int .i64 G] W fun e w' => e = .returned (.int .i64 K) ∧ Wd (upd L 16) w')
    (hend : ∀ L W, (∀ i, i < 18 → L i = true) → Wd L W → Q .normal ((((((((((((((((((a0.put (some 31) (.agg #[.int .i64 st, .slice p1 n1 k1, S b1])).put (some 32) (.int .i64 T)).put (some 33) (.agg #[S m, S p, .slice p2 n2 k2, S b2])).put (some 34) (.int .i64 Z)).put (some 35) (.int .i64 A)).put (some 36) (.agg #[.int .i64 st, .slice p1 n1 k1, S b1])).put (some 37) (.int .i64 T)).put (some 38) (.agg #[S m, S p, .slice p2 n2 k2, S b2])).put (some 39) (.int .i64 Z)).put (some 40) (.int .i64 A)).put (some 41) (S ee)).put (some 42) (.int .i64 (ee.length : Int))).put (some 43) (S ee)).put (some 44) (.int .i64 (ee.length : Int))).put (some 45) (.int .i64 D)).put (some 46) (.int .i64 G)).put (some 47) (.int .i64 K)).put (some 48) (.bool (decide ((2147483647 : Int) < K)))) W) : (Code.region id ops true).wp Tryz.prog Q a0 w := by
  let val : Nat → Value := fun i => match i with
    | 0 => (.agg #[.int .i64 st, .slice p1 n1 k1, S b1])
    | 1 => (.int .i64 T)
    | 2 => (.agg #[S m, S p, .slice p2 n2 k2, S b2])
    | 3 => (.int .i64 Z)
    | 4 => (.int .i64 A)
    | 5 => (.agg #[.int .i64 st, .slice p1 n1 k1, S b1])
    | 6 => (.int .i64 T)
    | 7 => (.agg #[S m, S p, .slice p2 n2 k2, S b2])
    | 8 => (.int .i64 Z)
    | 9 => (.int .i64 A)
    | 10 => (S ee)
    | 11 => (.int .i64 (ee.length : Int))
    | 12 => (S ee)
    | 13 => (.int .i64 (ee.length : Int))
    | 14 => (.int .i64 D)
    | 15 => (.int .i64 G)
    | 16 => (.int .i64 K)
    | 17 => (.bool (decide ((2147483647 : Int) < K)))
    | _ => undef
  have hosz : ops.size = 18 := by
    have := congrArg List.length htab
    simpa [rbkT] using this
  have hds : ∀ i s, (rbkT[i]?).bind (·.2.1) = some s → dstOf ops i = some s := fun i s hi => by rw [tab_dst htab, hi]
  have hdisB : disL rbkT = true := by rfl
  have hdis := disL_of htab hdisB
  have hold : ∀ s, rbkT.all (fun x => !(x.2.1 == some s)) = true → (List.range ops.size).all (fun j => !(dstOf ops j == some s)) = true := fun s h => holdL htab s h
  refine region_detL val Wd (hac_of hac) hdis h0 ?_ ?_
  rotate_left
  · intro L W hall hW
    have := hend L W (by rw [← hosz]; exact hall) hW
    have e : frm ops a0 val (fun _ => true) ops.size = ((((((((((((((((((a0.put (some 31) (.agg #[.int .i64 st, .slice p1 n1 k1, S b1])).put (some 32) (.int .i64 T)).put (some 33) (.agg #[S m, S p, .slice p2 n2 k2, S b2])).put (some 34) (.int .i64 Z)).put (some 35) (.int .i64 A)).put (some 36) (.agg #[.int .i64 st, .slice p1 n1 k1, S b1])).put (some 37) (.int .i64 T)).put (some 38) (.agg #[S m, S p, .slice p2 n2 k2, S b2])).put (some 39) (.int .i64 Z)).put (some 40) (.int .i64 A)).put (some 41) (S ee)).put (some 42) (.int .i64 (ee.length : Int))).put (some 43) (S ee)).put (some 44) (.int .i64 (ee.length : Int))).put (some 45) (.int .i64 D)).put (some 46) (.int .i64 G)).put (some 47) (.int .i64 K)).put (some 48) (.bool (decide ((2147483647 : Int) < K)))) := by
      rw [hosz]
      simp only [frm, if_true]
      rw [tab_dst htab 0, tab_dst htab 1, tab_dst htab 2, tab_dst htab 3, tab_dst htab 4, tab_dst htab 5, tab_dst htab 6, tab_dst htab 7, tab_dst htab 8, tab_dst htab 9, tab_dst htab 10, tab_dst htab 11, tab_dst htab 12, tab_dst htab 13, tab_dst htab 14, tab_dst htab 15, tab_dst htab 16, tab_dst htab 17]
      rfl
    rw [e]
    exact this
  intro i o ho L a w' hL hd ha hW
  have hi : i < 18 := by rw [← hosz]; exact (Array.getElem?_eq_some_iff.1 ho).1
  match i, ho, hL, hi with
  | 0, ho, hL, _ =>
    obtain ⟨hop, hdst, hgd⟩ := tab_at htab ho (show rbkT[0]? = _ from rfl)
    simp only at hop hgd
    have h0 := frm_old ha 4 _ (hold 4 rfl) o4
    exact doesL_run ho (wanted_none hgd) (hpure 0 (by decide) L w' hW) (run_ld26 _ _ _ hop _ _ _ _ (eval_of h0) _ (l0 L w' hW).1 (l0 L w' hW).2.1 (l0 L w' hW).2.2)
  | 1, ho, hL, _ =>
    obtain ⟨hop, hdst, hgd⟩ := tab_at htab ho (show rbkT[1]? = _ from rfl)
    simp only at hop hgd
    have h0 := frm_at hdis ha 0 31 (hds 0 31 rfl) (by omega) (depl_of hdep 1 0 (by decide) ho hd)
    refine doesL_call ho (wanted_none hgd) 10 #[.agg #[.int .i64 st, .slice p1 n1 k1, S b1]] ?_ (c1 L w' hW hL)
    rw [run_calls Tryz.func10 (by kernel_rfl) rfl _ _ _ _ hop rfl]
    simp only [List.map_toArray, List.map_cons, List.map_nil, eval_of h0]
    all_goals rfl
  | 2, ho, hL, _ =>
    obtain ⟨hop, hdst, hgd⟩ := tab_at htab ho (show rbkT[2]? = _ from rfl)
    simp only at hop hgd
    have h0 := frm_old ha 5 _ (hold 5 rfl) o5
    exact doesL_run ho (wanted_none hgd) (hpure 2 (by decide) L w' hW) (run_ld24 _ _ _ hop _ _ _ _ _ _ (eval_of h0) _ (l2 L w' hW).1 (l2 L w' hW).2.1 (l2 L w' hW).2.2.1 (l2 L w' hW).2.2.2)
  | 3, ho, hL, _ =>
    obtain ⟨hop, hdst, hgd⟩ := tab_at htab ho (show rbkT[3]? = _ from rfl)
    simp only at hop hgd
    have h0 := frm_at hdis ha 2 33 (hds 2 33 rfl) (by omega) (depl_of hdep 3 2 (by decide) ho hd)
    refine doesL_call ho (wanted_none hgd) 9 #[.agg #[S m, S p, .slice p2 n2 k2, S b2]] ?_ (c3 L w' hW hL)
    rw [run_calls Tryz.func9 (by kernel_rfl) rfl _ _ _ _ hop rfl]
    simp only [List.map_toArray, List.map_cons, List.map_nil, eval_of h0]
    all_goals rfl
  | 4, ho, hL, _ =>
    obtain ⟨hop, hdst, hgd⟩ := tab_at htab ho (show rbkT[4]? = _ from rfl)
    simp only at hop hgd
    have h0 := frm_at hdis ha 1 32 (hds 1 32 rfl) (by omega) (depl_of hdep 4 1 (by decide) ho hd)
    have h1 := frm_at hdis ha 3 34 (hds 3 34 rfl) (by omega) (depl_of hdep 4 3 (by decide) ho hd)
    refine doesL_call ho (wanted_none hgd) 8 #[.int .i64 T, .int .i64 Z] ?_ (c4 L w' hW hL)
    rw [run_calls Tryz.func8 (by kernel_rfl) rfl _ _ _ _ hop rfl]
    simp only [List.map_toArray, List.map_cons, List.map_nil, eval_of h0, eval_of h1]
    all_goals rfl
  | 5, ho, hL, _ =>
    obtain ⟨hop, hdst, hgd⟩ := tab_at htab ho (show rbkT[5]? = _ from rfl)
    simp only at hop hgd
    have h0 := frm_old ha 4 _ (hold 4 rfl) o4
    exact doesL_run ho (wanted_none hgd) (hpure 5 (by decide) L w' hW) (run_ld26 _ _ _ hop _ _ _ _ (eval_of h0) _ (l5 L w' hW).1 (l5 L w' hW).2.1 (l5 L w' hW).2.2)
  | 6, ho, hL, _ =>
    obtain ⟨hop, hdst, hgd⟩ := tab_at htab ho (show rbkT[6]? = _ from rfl)
    simp only at hop hgd
    have h0 := frm_at hdis ha 5 36 (hds 5 36 rfl) (by omega) (depl_of hdep 6 5 (by decide) ho hd)
    refine doesL_call ho (wanted_none hgd) 10 #[.agg #[.int .i64 st, .slice p1 n1 k1, S b1]] ?_ (c6 L w' hW hL)
    rw [run_calls Tryz.func10 (by kernel_rfl) rfl _ _ _ _ hop rfl]
    simp only [List.map_toArray, List.map_cons, List.map_nil, eval_of h0]
    all_goals rfl
  | 7, ho, hL, _ =>
    obtain ⟨hop, hdst, hgd⟩ := tab_at htab ho (show rbkT[7]? = _ from rfl)
    simp only at hop hgd
    have h0 := frm_old ha 5 _ (hold 5 rfl) o5
    exact doesL_run ho (wanted_none hgd) (hpure 7 (by decide) L w' hW) (run_ld24 _ _ _ hop _ _ _ _ _ _ (eval_of h0) _ (l7 L w' hW).1 (l7 L w' hW).2.1 (l7 L w' hW).2.2.1 (l7 L w' hW).2.2.2)
  | 8, ho, hL, _ =>
    obtain ⟨hop, hdst, hgd⟩ := tab_at htab ho (show rbkT[8]? = _ from rfl)
    simp only at hop hgd
    have h0 := frm_at hdis ha 7 38 (hds 7 38 rfl) (by omega) (depl_of hdep 8 7 (by decide) ho hd)
    refine doesL_call ho (wanted_none hgd) 9 #[.agg #[S m, S p, .slice p2 n2 k2, S b2]] ?_ (c8 L w' hW hL)
    rw [run_calls Tryz.func9 (by kernel_rfl) rfl _ _ _ _ hop rfl]
    simp only [List.map_toArray, List.map_cons, List.map_nil, eval_of h0]
    all_goals rfl
  | 9, ho, hL, _ =>
    obtain ⟨hop, hdst, hgd⟩ := tab_at htab ho (show rbkT[9]? = _ from rfl)
    simp only at hop hgd
    have h0 := frm_at hdis ha 6 37 (hds 6 37 rfl) (by omega) (depl_of hdep 9 6 (by decide) ho hd)
    have h1 := frm_at hdis ha 8 39 (hds 8 39 rfl) (by omega) (depl_of hdep 9 8 (by decide) ho hd)
    refine doesL_call ho (wanted_none hgd) 8 #[.int .i64 T, .int .i64 Z] ?_ (c9 L w' hW hL)
    rw [run_calls Tryz.func8 (by kernel_rfl) rfl _ _ _ _ hop rfl]
    simp only [List.map_toArray, List.map_cons, List.map_nil, eval_of h0, eval_of h1]
    all_goals rfl
  | 10, ho, hL, _ =>
    obtain ⟨hop, hdst, hgd⟩ := tab_at htab ho (show rbkT[10]? = _ from rfl)
    simp only at hop hgd
    have h0 := frm_old ha 2 _ (hold 2 rfl) o2
    exact doesL_run ho (wanted_none hgd) (hpure 10 (by decide) L w' hW) (by rw [run_move _ _ _ hop]; exact congrArg (fun v => Result.ok (Next.value v) w') (eval_of h0))
  | 11, ho, hL, _ =>
    obtain ⟨hop, hdst, hgd⟩ := tab_at htab ho (show rbkT[11]? = _ from rfl)
    simp only at hop hgd
    have h0 := frm_at hdis ha 10 41 (hds 10 41 rfl) (by omega) (depl_of hdep 11 10 (by decide) ho hd)
    exact doesL_run ho (wanted_none hgd) (hpure 11 (by decide) L w' hW) (run_len _ _ _ hop _ (eval_of h0) _)
  | 12, ho, hL, _ =>
    obtain ⟨hop, hdst, hgd⟩ := tab_at htab ho (show rbkT[12]? = _ from rfl)
    simp only at hop hgd
    have h0 := frm_old ha 2 _ (hold 2 rfl) o2
    exact doesL_run ho (wanted_none hgd) (hpure 12 (by decide) L w' hW) (by rw [run_move _ _ _ hop]; exact congrArg (fun v => Result.ok (Next.value v) w') (eval_of h0))
  | 13, ho, hL, _ =>
    obtain ⟨hop, hdst, hgd⟩ := tab_at htab ho (show rbkT[13]? = _ from rfl)
    simp only at hop hgd
    have h0 := frm_at hdis ha 12 43 (hds 12 43 rfl) (by omega) (depl_of hdep 13 12 (by decide) ho hd)
    exact doesL_run ho (wanted_none hgd) (hpure 13 (by decide) L w' hW) (run_len _ _ _ hop _ (eval_of h0) _)
  | 14, ho, hL, _ =>
    obtain ⟨hop, hdst, hgd⟩ := tab_at htab ho (show rbkT[14]? = _ from rfl)
    simp only at hop hgd
    have h0 := frm_at hdis ha 11 42 (hds 11 42 rfl) (by omega) (depl_of hdep 14 11 (by decide) ho hd)
    have h1 := frm_at hdis ha 13 44 (hds 13 44 rfl) (by omega) (depl_of hdep 14 13 (by decide) ho hd)
    refine doesL_call ho (wanted_none hgd) 8 #[.int .i64 (ee.length : Int), .int .i64 (ee.length : Int)] ?_ (c14 L w' hW hL)
    rw [run_calls Tryz.func8 (by kernel_rfl) rfl _ _ _ _ hop rfl]
    simp only [List.map_toArray, List.map_cons, List.map_nil, eval_of h0, eval_of h1]
    all_goals rfl
  | 15, ho, hL, _ =>
    obtain ⟨hop, hdst, hgd⟩ := tab_at htab ho (show rbkT[15]? = _ from rfl)
    simp only at hop hgd
    have h0 := frm_at hdis ha 9 40 (hds 9 40 rfl) (by omega) (depl_of hdep 15 9 (by decide) ho hd)
    have h1 := frm_at hdis ha 14 45 (hds 14 45 rfl) (by omega) (depl_of hdep 15 14 (by decide) ho hd)
    refine doesL_call ho (wanted_none hgd) 8 #[.int .i64 A, .int .i64 D] ?_ (c15 L w' hW hL)
    rw [run_calls Tryz.func8 (by kernel_rfl) rfl _ _ _ _ hop rfl]
    simp only [List.map_toArray, List.map_cons, List.map_nil, eval_of h0, eval_of h1]
    all_goals rfl
  | 16, ho, hL, _ =>
    obtain ⟨hop, hdst, hgd⟩ := tab_at htab ho (show rbkT[16]? = _ from rfl)
    simp only at hop hgd
    have h0 := frm_at hdis ha 4 35 (hds 4 35 rfl) (by omega) (depl_of hdep 16 4 (by decide) ho hd)
    have h1 := frm_at hdis ha 15 46 (hds 15 46 rfl) (by omega) (depl_of hdep 16 15 (by decide) ho hd)
    refine doesL_call ho (wanted_none hgd) 8 #[.int .i64 A, .int .i64 G] ?_ (c16 L w' hW hL)
    rw [run_calls Tryz.func8 (by kernel_rfl) rfl _ _ _ _ hop rfl]
    simp only [List.map_toArray, List.map_cons, List.map_nil, eval_of h0, eval_of h1]
    all_goals rfl
  | 17, ho, hL, _ =>
    obtain ⟨hop, hdst, hgd⟩ := tab_at htab ho (show rbkT[17]? = _ from rfl)
    simp only at hop hgd
    have h0 := frm_at hdis ha 16 47 (hds 16 47 rfl) (by omega) (depl_of hdep 17 16 (by decide) ho hd)
    exact doesL_run ho (wanted_none hgd) (hpure 17 (by decide) L w' hW) (run_gtr _ _ _ _ hop _ _ (eval_of h0) rfl _)
  | (i + 18), ho, hL, hi => exact absurd hi (by omega)
end Go.Proofs.YthlacailhfhjnaaGreatDoor
/- A region that draws its order, some of whose values come up only as it goes: what is chosen so far is carried. -/
namespace Go.Proofs.YthlacailhfhjnaaGreatDoor
open Go.RowKit Go.Lib
variable {C : Type} {ops : Array Oper} {Q : Exit → Act → World → Prop}
def DoesX (ops : Array Oper) (Q : Exit → Act → World → Prop) (Wd : C → (Nat → Bool) → World → Prop) (val : C → Nat → Value) (i : Nat) (L : Nat → Bool) (c : C) (a : Act) (w : World) : Prop :=
  wpOp Tryz.prog ops Q i (fun a' w' => ∃ c', (∀ j, L j = true → val c' j = val c j) ∧ a' = a.put (dstOf ops i) (val c' i) ∧ Wd c' (upd L i) w') a w
theorem doesX_of {Wd : C → (Nat → Bool) → World → Prop} {val : C → Nat → Value} {i : Nat} {L : Nat → Bool} {c : C} {a : Act} {w : World} (h : DoesL ops Q (Wd c) (val c) i L a w) : DoesX ops Q Wd val i L c a w := by
  unfold DoesX
  refine wpOp_mono ?_ h
  rintro a' w' ⟨rfl, hw⟩
  exact ⟨c, fun _ _ => rfl, rfl, hw⟩
theorem doesX_call {Wd : C → (Nat → Bool) → World → Prop} {val : C → Nat → Value} {i : Nat} {L : Nat → Bool} {c : C} {o : Oper} {a : Act} {w : World} (ho : ops[i]? = some o) (hw : Region.wanted o (yielded ops a.tmps) = true) (f : FuncId) (args : Array Value)
    (hr : (execOp a.eval o).run Tryz.prog w = .ok (.enter f args) w) (hc : Calls Tryz.prog f args w fun e w' => ∃ c', (∀ j, L j = true → val c' j = val c j) ∧ e = .returned (val c' i) ∧ Wd c' (upd L i) w') : DoesX ops Q Wd val i L c a w := by
  unfold DoesX wpOp
  simp only [ho]
  rw [if_pos hw]
  left
  unfold Oper.wp
  rw [hr, Oper.upon_enter]
  refine hc.mono ?_
  rintro e w' ⟨c', h1, rfl, hW⟩
  refine ⟨c', h1, ?_, hW⟩
  simp [dstOf, ho]
theorem frm_congr {a0 : Act} {v v' : Nat → Value} {L : Nat → Bool} (h : ∀ j, L j = true → v' j = v j) : ∀ n, frm ops a0 v' L n = frm ops a0 v L n := by
  intro n
  induction n with
  | zero => rfl
  | succ n ih =>
    simp only [frm]
    split
    · rename_i hn
      rw [ih, h n hn]
    · exact ih
theorem region_detX {id : Nat} {a0 : Act} {w : World} (val : C → Nat → Value) (Wd : C → (Nat → Bool) → World → Prop)
    (hac : ∀ i o, ops[i]? = some o → ∀ e ∈ o.after, Region.binds .any e = true → e.on < i)
    (hdis : ∀ i j, j ≠ i → dstOf ops j ≠ dstOf ops i ∨ dstOf ops j = none)
    (h0 : ∃ c, Wd c (fun _ => false) w.drew)
    (hstep : ∀ i o, ops[i]? = some o → ∀ c L a w, L i = false → (∀ e ∈ o.after, Region.binds .any e = true → L e.on = true) → a = frm ops a0 (val c) L ops.size → Wd c L w → DoesX ops Q Wd val i L c a w)
    (hend : ∀ c L w, (∀ i, i < ops.size → L i = true) → Wd c L w → Q .normal (frm ops a0 (val c) (fun _ => true) ops.size) w) : (Code.region id ops true).wp Tryz.prog Q a0 w := by
  refine region_inv (by kernel_rfl) (fun L a w => ∃ c, a = frm ops a0 (val c) L ops.size ∧ Wd c L w) hac ?_ ?_ ?_
  · obtain ⟨c, h0⟩ := h0
    refine ⟨c, ?_, h0⟩
    have : ∀ n, frm ops a0 (val c) (fun _ => false) n = a0 := by
      intro n
      induction n with
      | zero => rfl
      | succ n ih => simpa [frm] using ih
    exact (this _).symm
  · intro L a w i o ho hL hdep ⟨c, ha, hw⟩
    refine wpOp_mono ?_ (hstep i o ho c L a w hL hdep ha hw)
    rintro a' w' ⟨c', h1, rfl, hw'⟩
    refine ⟨c', ?_, hw'⟩
    rw [frm_upd a0 (val c') L i hL (fun j hj => hdis i j hj), if_pos (Array.getElem?_eq_some_iff.1 ho).1, ha, frm_congr h1]
  · intro L a w hall ⟨c, ha, hw⟩
    have : ∀ n, n ≤ ops.size → frm ops a0 (val c) L n = frm ops a0 (val c) (fun _ => true) n := by
      intro n
      induction n with
      | zero => intro _; rfl
      | succ n ih => intro h; simp only [frm]; rw [hall n (by omega), ih (by omega)]; simp
    rw [ha, this _ (Nat.le_refl _)]
    exact hend c L w hall hw
end Go.Proofs.YthlacailhfhjnaaGreatDoor
