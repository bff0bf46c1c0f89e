import Derived.Test.YthlacailhfhjnaaGreatDoorZzak
import Derived.Test.YthlacailhfhjnaaGreatDoorZzaj
import Derived.Test.YthlacailhfhjnaaGreatDoorZzai
import Derived.Test.YthlacailhfhjnaaGreatDoorZzbl
import Derived.Test.YthlacailhfhjnaaGreatDoorWcq
namespace Go.Proofs.YthlacailhfhjnaaGreatDoor
open Go.RowKit Go.Lib
theorem run_st24 (ρ : Operand → Value) (o : Oper) (x y : Operand) (ho : o.op = .store 24 x y) (g : Nat) (a b c d : Value) (ha : ρ x = .pointer (some ⟨g, 0, none⟩)) (hy : ρ y = .agg #[a, b, c, d]) (w : World) (a0 b0 c0 d0 : Value) (h : w.heap[g]? = some (.cells #[a0, b0, c0, d0] 24 (0, 0))) (h1 : a.oneCell' = true ∧ b.oneCell' = true ∧ c.oneCell' = true ∧ d.oneCell' = true) : (execOp ρ o).run Tryz.prog w = .ok .skip ((((w.setCell ⟨g, 0, none⟩ a).setCell ⟨g, 1, none⟩ b).setCell ⟨g, 2, none⟩ c).setCell ⟨g, 3, none⟩ d) := by
  have q0 := heap_setCell_same w g 0 _ 24 a h
  have q1 := heap_setCell_same _ g 1 _ 24 b q0
  have q2 := heap_setCell_same _ g 2 _ 24 c q1
  have s0 : (store ⟨g, 0, none⟩ a).run Tryz.prog w = .ok () (w.setCell ⟨g, 0, none⟩ a) := by
    rw [run_store _ _ _ _ _ h1.1, cell_of_row w g 0 _ 24 (0, 0) h]
    simp [frozen_of_row w g 0 _ 24 h]
  have s1 : (store ⟨g, 1, none⟩ b).run Tryz.prog (w.setCell ⟨g, 0, none⟩ a) = .ok () ((w.setCell ⟨g, 0, none⟩ a).setCell ⟨g, 1, none⟩ b) := by
    rw [run_store _ _ _ _ _ h1.2.1, cell_of_row _ g 1 _ 24 (0, 0) q0]
    simp [frozen_of_row _ g 1 _ 24 q0]
  have s2 : (store ⟨g, 2, none⟩ c).run Tryz.prog ((w.setCell ⟨g, 0, none⟩ a).setCell ⟨g, 1, none⟩ b) = .ok () (((w.setCell ⟨g, 0, none⟩ a).setCell ⟨g, 1, none⟩ b).setCell ⟨g, 2, none⟩ c) := by
    rw [run_store _ _ _ _ _ h1.2.2.1, cell_of_row _ g 2 _ 24 (0, 0) q1]
    simp [frozen_of_row _ g 2 _ 24 q1]
  have s3 : (store ⟨g, 3, none⟩ d).run Tryz.prog (((w.setCell ⟨g, 0, none⟩ a).setCell ⟨g, 1, none⟩ b).setCell ⟨g, 2, none⟩ c) = .ok () ((((w.setCell ⟨g, 0, none⟩ a).setCell ⟨g, 1, none⟩ b).setCell ⟨g, 2, none⟩ c).setCell ⟨g, 3, none⟩ d) := by
    rw [run_store _ _ _ _ _ h1.2.2.2, cell_of_row _ g 3 _ 24 (0, 0) q2]
    simp [frozen_of_row _ g 3 _ 24 q2]
  unfold execOp
  simp only [ho, ha, hy]
  simp [go_sem, s0, s1, s2, s3, Result.andThen]
/-- What comes up as a message is made: its method, its path, its headers' slice. -/
structure ChM where
  m : List UInt8
  p : List UInt8
  a : Option Addr
  n : Nat
  k : Nat
def vmg (X : Nat) (pa : Option Addr) (nn cc : Nat) (m0 p0 b : Bs) (c : ChM) (i : Nat) : Value := match i with
  | 0 => (.pointer (some ⟨X, 0 + 0, none⟩))
  | 1 => (S m0)
  | 2 => (S c.m)
  | 3 => (.pointer (some ⟨X, 0 + 1, none⟩))
  | 4 => (S p0)
  | 5 => (S c.p)
  | 6 => (S ([47] ++ c.p))
  | 7 => (.pointer (some ⟨X, 0 + 2, none⟩))
  | 8 => (.slice pa nn cc)
  | 9 => (.slice c.a c.n c.k)
  | 10 => (.pointer (some ⟨X, 0 + 3, none⟩))
  | 11 => (S b)
  | 12 => (S (b.take 4000))
  | 13 => (.agg #[S c.m, S ([47] ++ c.p), .slice c.a c.n c.k, S (b.take 4000)])
  | 14 => undef
  | _ => undef
def rmgT : List (Op × Option Tmp × Option (Nat × Bool)) := [
  (.fieldAddr 24 (.tmp 1) 0, some 3, none),
  (.load 9 (.tmp 3), some 4, none),
  (.call { callee := .value (.func 38), args := #[(.tmp 4), (.const (.string ⟨#[65, 66, 67, 68, 69, 70, 71, 72, 73, 74, 75, 76, 77, 78, 79, 80, 81, 82, 83, 84, 85, 86, 87, 88, 89, 90]⟩)), (.const (.int .i64 1)), (.const (.int .i64 16))], argTypes := #[9, 9, 3, 3] }, some 5, none),
  (.fieldAddr 24 (.tmp 1) 1, some 6, none),
  (.load 9 (.tmp 6), some 7, none),
  (.call { callee := .value (.func 39), args := #[(.tmp 7), (.const (.int .i64 33)), (.const (.int .i64 199))], argTypes := #[9, 3, 3] }, some 8, none),
  (.binOp .add 9 (.const (.string ⟨#[47]⟩)) (.tmp 8) 9, some 9, none),
  (.fieldAddr 24 (.tmp 1) 2, some 10, none),
  (.load 22 (.tmp 10), some 11, none),
  (.call { callee := .value (.func 40), args := #[(.tmp 11)], argTypes := #[22] }, some 12, none),
  (.fieldAddr 24 (.tmp 1) 3, some 13, none),
  (.load 9 (.tmp 13), some 14, none),
  (.call { callee := .value (.func 41), args := #[(.tmp 14), (.const (.int .i64 4000))], argTypes := #[9, 3] }, some 15, none),
  (.build 24 #[(0, (.tmp 5)), (1, (.tmp 9)), (2, (.tmp 12)), (3, (.tmp 15))], some 16, none),
  (.store 24 (.tmp 2) (.tmp 16), none, none)]
def rmgD : List (Nat × Nat) := [(1, 0), (2, 1), (4, 3), (5, 4), (6, 5), (8, 7), (9, 8), (11, 10), (12, 11), (13, 2), (13, 6), (13, 9), (13, 12), (14, 13)]
set_option maxHeartbeats 2000000 in
theorem rmg {ops : Array Oper} {id : Nat} {Q : Exit → Act → World → Prop} (X A nn cc : Nat) (pa : Option Addr) (m0 p0 b : Bs) (htab : ops.toList.map (fun o => (o.op, o.dst, o.guard)) = rmgT) (hdep : deplB rmgD ops = true) (hac : acB ops = true)
    (a0 : Act) (w : World) (hsz : 17 ≤ a0.tmps.size) (o1 : a0.tmps[1]? = some (.pointer (some ⟨X, 0, none⟩))) (o2 : a0.tmps[2]? = some (.pointer (some ⟨A, 0, none⟩)))
    (Wd : ChM → (Nat → Bool) → World → Prop) (h0 : ∃ c, Wd c (fun _ => false) w.drew) (hpure : ∀ i, i ∉ ([2, 5, 9, 12, 14, 6, 13] : List Nat) → ∀ c L W, Wd c L W → Wd c (upd L i) W)
    (l1 : ∀ c L W, Wd c L W → W.cell? ⟨X, 0 + 0, none⟩ = some (S m0)) (l4 : ∀ c L W, Wd c L W → W.cell? ⟨X, 0 + 1, none⟩ = some (S p0)) (l8 : ∀ c L W, Wd c L W → W.cell? ⟨X, 0 + 2, none⟩ = some (.slice pa nn cc)) (l11 : ∀ c L W, Wd c L W → W.cell? ⟨X, 0 + 3, none⟩ = some (S b))
    (a6 : ∀ c L W, Wd c L W → L 5 = true → [47].length + c.p.length ≤ 1000000000000) (hpure6 : ∀ c L W, Wd c L W → L 5 = true → Wd c (upd L 6) W) (hpure13 : ∀ c L W, Wd c L W → L 2 = true → L 6 = true → L 9 = true → Wd c (upd L 13) W)
    (c2 : ∀ c L W, Wd c L W → L 2 = false → Calls Tryz.prog 38 #[S m0, S [65, 66, 67, 68, 69, 70, 71, 72, 73, 74, 75, 76, 77, 78, 79, 80, 81, 82, 83, 84, 85, 86, 87, 88, 89, 90], .int .i64 1, .int .i64 16] W fun e w' => ∃ c' : ChM, (∀ j, L j = true → vmg X pa nn cc m0 p0 b c' j = vmg X pa nn cc m0 p0 b c j) ∧ e = .returned (S c'.m) ∧ Wd c' (upd L 2) w')
    (c5 : ∀ c L W, Wd c L W → L 5 = false → Calls Tryz.prog 39 #[S p0, .int .i64 33, .int .i64 199] W fun e w' => ∃ c' : ChM, (∀ j, L j = true → vmg X pa nn cc m0 p0 b c' j = vmg X pa nn cc m0 p0 b c j) ∧ e = .returned (S c'.p) ∧ Wd c' (upd L 5) w')
    (c9 : ∀ c L W, Wd c L W → L 9 = false → Calls Tryz.prog 40 #[.slice pa nn cc] W fun e w' => ∃ c' : ChM, (∀ j, L j = true → vmg X pa nn cc m0 p0 b c' j = vmg X pa nn cc m0 p0 b c j) ∧ e = .returned (.slice c'.a c'.n c'.k) ∧ Wd c' (upd L 9) w')
    (c12 : ∀ c L W, Wd c L W → L 12 = false → Calls Tryz.prog 41 #[S b, .int .i64 4000] W fun e w' => e = .returned (S (b.take 4000)) ∧ Wd c (upd L 12) w')
    (n14 : ∀ c L W, Wd c L W → L 14 = false → L 13 = true → Wd c (upd L 14) ((((W.setCell ⟨A, 0, none⟩ (S c.m)).setCell ⟨A, 1, none⟩ (S ([47] ++ c.p))).setCell ⟨A, 2, none⟩ (.slice c.a c.n c.k)).setCell ⟨A, 3, none⟩ (S (b.take 4000))) ∧ W.heap[A]? = some (.cells #[S [], S [], .slice none 0 0, S []] 24 (0, 0)))
    (hend : ∀ c L W, (∀ i, i < 15 → L i = true) → Wd c L W → Q .normal ((((((((((((((a0.put (some 3) (.pointer (some ⟨X, 0 + 0, none⟩))).put (some 4) (S m0)).put (some 5) (S c.m)).put (some 6) (.pointer (some ⟨X, 0 + 1, none⟩))).put (some 7) (S p0)).put (some 8) (S c.p)).put (some 9) (S ([47] ++ c.p))).put (some 10) (.pointer (some ⟨X, 0 + 2, none⟩))).put (some 11) (.slice pa nn cc)).put (some 12) (.slice c.a c.n c.k)).put (some 13) (.pointer (some ⟨X, 0 + 3, none⟩))).put (some 14) (S b)).put (some 15) (S (b.take 4000))).put (some 16) (.agg #[S c.m, S ([47] ++ c.p), .slice c.a c.n c.k, S (b.take 4000)])) W) : (Code.region id ops true).wp Tryz.prog Q a0 w := by
  let val : ChM → Nat → Value := vmg X pa nn cc m0 p0 b
  have hosz : ops.size = 15 := by
    have := congrArg List.length htab
    simpa [rmgT] using this
  have hds : ∀ i s, (rmgT[i]?).bind (·.2.1) = some s → dstOf ops i = some s := fun i s hi => by rw [tab_dst htab, hi]
  have hdisB : disL rmgT = true := by rfl
  have hdis := disL_of htab hdisB
  have hold : ∀ s, rmgT.all (fun x => !(x.2.1 == some s)) = true → (List.range ops.size).all (fun j => !(dstOf ops j == some s)) = true := fun s h => holdL htab s h
  refine region_detX val Wd (hac_of hac) hdis h0 ?_ ?_
  rotate_left
  · intro c L W hall hW
    have := hend c L W (by rw [← hosz]; exact hall) hW
    have e : frm ops a0 (val c) (fun _ => true) ops.size = ((((((((((((((a0.put (some 3) (.pointer (some ⟨X, 0 + 0, none⟩))).put (some 4) (S m0)).put (some 5) (S c.m)).put (some 6) (.pointer (some ⟨X, 0 + 1, none⟩))).put (some 7) (S p0)).put (some 8) (S c.p)).put (some 9) (S ([47] ++ c.p))).put (some 10) (.pointer (some ⟨X, 0 + 2, none⟩))).put (some 11) (.slice pa nn cc)).put (some 12) (.slice c.a c.n c.k)).put (some 13) (.pointer (some ⟨X, 0 + 3, none⟩))).put (some 14) (S b)).put (some 15) (S (b.take 4000))).put (some 16) (.agg #[S c.m, S ([47] ++ c.p), .slice c.a c.n c.k, S (b.take 4000)])) := by
      rw [hosz]
      simp only [frm, if_true]
      rw [tab_dst htab 0, tab_dst htab 1, tab_dst htab 2, tab_dst htab 3, tab_dst htab 4, tab_dst htab 5, tab_dst htab 6, tab_dst htab 7, tab_dst htab 8, tab_dst htab 9, tab_dst htab 10, tab_dst htab 11, tab_dst htab 12, tab_dst htab 13, (show dstOf ops 14 = none from (tab_dst htab 14).trans rfl), put_none]
      rfl
    rw [e]
    exact this
  intro i o ho c L a w' hL hd ha hW
  have hi : i < 15 := by rw [← hosz]; exact (Array.getElem?_eq_some_iff.1 ho).1
  match i, ho, hL, hi with
  | 0, ho, hL, _ =>
    obtain ⟨hop, hdst, hgd⟩ := tab_at htab ho (show rmgT[0]? = _ from rfl)
    simp only at hop hgd
    have h0 := frm_old (val := val c) ha 1 _ (hold 1 rfl) o1
    exact doesX_of (doesL_run ho (wanted_none hgd) (hpure 0 (by decide) c L w' hW) (run_f24_0 _ _ _ hop _ _ (eval_of h0) _))
  | 1, ho, hL, _ =>
    obtain ⟨hop, hdst, hgd⟩ := tab_at htab ho (show rmgT[1]? = _ from rfl)
    simp only at hop hgd
    have h0 := frm_at (val := val c) hdis ha 0 3 (hds 0 3 rfl) (by omega) (depl_of hdep 1 0 (by decide) ho hd)
    exact doesX_of (doesL_run ho (wanted_none hgd) (hpure 1 (by decide) c L w' hW) (run_ld _ _ _ hop _ _ (eval_of h0) _ (l1 c L w' hW)))
  | 2, ho, hL, _ =>
    obtain ⟨hop, hdst, hgd⟩ := tab_at htab ho (show rmgT[2]? = _ from rfl)
    simp only at hop hgd
    have h0 := frm_at (val := val c) hdis ha 1 4 (hds 1 4 rfl) (by omega) (depl_of hdep 2 1 (by decide) ho hd)
    refine doesX_call ho (wanted_none hgd) 38 #[S m0, S [65, 66, 67, 68, 69, 70, 71, 72, 73, 74, 75, 76, 77, 78, 79, 80, 81, 82, 83, 84, 85, 86, 87, 88, 89, 90], .int .i64 1, .int .i64 16] ?_ (c2 c L w' hW hL)
    rw [run_calls Tryz.func38 (by kernel_rfl) rfl _ _ _ _ hop rfl]
    simp only [List.map_toArray, List.map_cons, List.map_nil, eval_of h0]
    all_goals rfl
  | 3, ho, hL, _ =>
    obtain ⟨hop, hdst, hgd⟩ := tab_at htab ho (show rmgT[3]? = _ from rfl)
    simp only at hop hgd
    have h0 := frm_old (val := val c) ha 1 _ (hold 1 rfl) o1
    exact doesX_of (doesL_run ho (wanted_none hgd) (hpure 3 (by decide) c L w' hW) (run_f24_1 _ _ _ hop _ _ (eval_of h0) _))
  | 4, ho, hL, _ =>
    obtain ⟨hop, hdst, hgd⟩ := tab_at htab ho (show rmgT[4]? = _ from rfl)
    simp only at hop hgd
    have h0 := frm_at (val := val c) hdis ha 3 6 (hds 3 6 rfl) (by omega) (depl_of hdep 4 3 (by decide) ho hd)
    exact doesX_of (doesL_run ho (wanted_none hgd) (hpure 4 (by decide) c L w' hW) (run_ld _ _ _ hop _ _ (eval_of h0) _ (l4 c L w' hW)))
  | 5, ho, hL, _ =>
    obtain ⟨hop, hdst, hgd⟩ := tab_at htab ho (show rmgT[5]? = _ from rfl)
    simp only at hop hgd
    have h0 := frm_at (val := val c) hdis ha 4 7 (hds 4 7 rfl) (by omega) (depl_of hdep 5 4 (by decide) ho hd)
    refine doesX_call ho (wanted_none hgd) 39 #[S p0, .int .i64 33, .int .i64 199] ?_ (c5 c L w' hW hL)
    rw [run_calls Tryz.func39 (by kernel_rfl) rfl _ _ _ _ hop rfl]
    simp only [List.map_toArray, List.map_cons, List.map_nil, eval_of h0]
    all_goals rfl
  | 6, ho, hL, _ =>
    obtain ⟨hop, hdst, hgd⟩ := tab_at htab ho (show rmgT[6]? = _ from rfl)
    simp only at hop hgd
    have h1 := frm_at (val := val c) hdis ha 5 8 (hds 5 8 rfl) (by omega) (depl_of hdep 6 5 (by decide) ho hd)
    exact doesX_of (doesL_run ho (wanted_none hgd) (hpure6 c L w' hW (depl_of hdep 6 5 (by decide) ho hd)) (run_cat _ _ _ _ hop _ _ (a6 c L w' hW (depl_of hdep 6 5 (by decide) ho hd)) rfl (eval_of h1) _))
  | 7, ho, hL, _ =>
    obtain ⟨hop, hdst, hgd⟩ := tab_at htab ho (show rmgT[7]? = _ from rfl)
    simp only at hop hgd
    have h0 := frm_old (val := val c) ha 1 _ (hold 1 rfl) o1
    exact doesX_of (doesL_run ho (wanted_none hgd) (hpure 7 (by decide) c L w' hW) (run_f24_2 _ _ _ hop _ _ (eval_of h0) _))
  | 8, ho, hL, _ =>
    obtain ⟨hop, hdst, hgd⟩ := tab_at htab ho (show rmgT[8]? = _ from rfl)
    simp only at hop hgd
    have h0 := frm_at (val := val c) hdis ha 7 10 (hds 7 10 rfl) (by omega) (depl_of hdep 8 7 (by decide) ho hd)
    exact doesX_of (doesL_run ho (wanted_none hgd) (hpure 8 (by decide) c L w' hW) (run_ld22 _ _ _ hop _ _ (eval_of h0) _ (l8 c L w' hW)))
  | 9, ho, hL, _ =>
    obtain ⟨hop, hdst, hgd⟩ := tab_at htab ho (show rmgT[9]? = _ from rfl)
    simp only at hop hgd
    have h0 := frm_at (val := val c) hdis ha 8 11 (hds 8 11 rfl) (by omega) (depl_of hdep 9 8 (by decide) ho hd)
    refine doesX_call ho (wanted_none hgd) 40 #[.slice pa nn cc] ?_ (c9 c L w' hW hL)
    rw [run_calls Tryz.func40 (by kernel_rfl) rfl _ _ _ _ hop rfl]
    simp only [List.map_toArray, List.map_cons, List.map_nil, eval_of h0]
    all_goals rfl
  | 10, ho, hL, _ =>
    obtain ⟨hop, hdst, hgd⟩ := tab_at htab ho (show rmgT[10]? = _ from rfl)
    simp only at hop hgd
    have h0 := frm_old (val := val c) ha 1 _ (hold 1 rfl) o1
    exact doesX_of (doesL_run ho (wanted_none hgd) (hpure 10 (by decide) c L w' hW) (run_f24_3 _ _ _ hop _ _ (eval_of h0) _))
  | 11, ho, hL, _ =>
    obtain ⟨hop, hdst, hgd⟩ := tab_at htab ho (show rmgT[11]? = _ from rfl)
    simp only at hop hgd
    have h0 := frm_at (val := val c) hdis ha 10 13 (hds 10 13 rfl) (by omega) (depl_of hdep 11 10 (by decide) ho hd)
    exact doesX_of (doesL_run ho (wanted_none hgd) (hpure 11 (by decide) c L w' hW) (run_ld _ _ _ hop _ _ (eval_of h0) _ (l11 c L w' hW)))
  | 12, ho, hL, _ =>
    obtain ⟨hop, hdst, hgd⟩ := tab_at htab ho (show rmgT[12]? = _ from rfl)
    simp only at hop hgd
    have h0 := frm_at (val := val c) hdis ha 11 14 (hds 11 14 rfl) (by omega) (depl_of hdep 12 11 (by decide) ho hd)
    refine doesX_of (doesL_call ho (wanted_none hgd) 41 #[S b, .int .i64 4000] ?_ (c12 c L w' hW hL))
    rw [run_calls Tryz.func41 (by kernel_rfl) rfl _ _ _ _ hop rfl]
    simp only [List.map_toArray, List.map_cons, List.map_nil, eval_of h0]
    all_goals rfl
  | 13, ho, hL, _ =>
    obtain ⟨hop, hdst, hgd⟩ := tab_at htab ho (show rmgT[13]? = _ from rfl)
    simp only at hop hgd
    have h0 := frm_at (val := val c) hdis ha 2 5 (hds 2 5 rfl) (by omega) (depl_of hdep 13 2 (by decide) ho hd)
    have h1 := frm_at (val := val c) hdis ha 6 9 (hds 6 9 rfl) (by omega) (depl_of hdep 13 6 (by decide) ho hd)
    have h2 := frm_at (val := val c) hdis ha 9 12 (hds 9 12 rfl) (by omega) (depl_of hdep 13 9 (by decide) ho hd)
    have h3 := frm_at (val := val c) hdis ha 12 15 (hds 12 15 rfl) (by omega) (depl_of hdep 13 12 (by decide) ho hd)
    exact doesX_of (doesL_run ho (wanted_none hgd) (hpure13 c L w' hW (depl_of hdep 13 2 (by decide) ho hd) (depl_of hdep 13 6 (by decide) ho hd) (depl_of hdep 13 9 (by decide) ho hd)) (run_build24 _ _ _ _ _ _ hop _ _ _ _ _ _ (eval_of h0) (eval_of h1) (eval_of h2) (eval_of h3) _))
  | 14, ho, hL, _ =>
    obtain ⟨hop, hdst, hgd⟩ := tab_at htab ho (show rmgT[14]? = _ from rfl)
    simp only at hop hgd
    have h0 := frm_old (val := val c) ha 2 _ (hold 2 rfl) o2
    have h1 := frm_at (val := val c) hdis ha 13 16 (hds 13 16 rfl) (by omega) (depl_of hdep 14 13 (by decide) ho hd)
    obtain ⟨s1, s2⟩ := n14 c L w' hW hL (depl_of hdep 14 13 (by decide) ho hd)
    exact doesX_of (doesL_skp ho (wanted_none hgd) rfl s1 (run_st24 _ _ _ _ hop _ _ _ _ _ (eval_of h0) (eval_of h1) _ _ _ _ _ s2 ⟨rfl, rfl, rfl, rfl⟩))
  | (i + 15), ho, hL, hi => exact absurd hi (by omega)
end Go.Proofs.YthlacailhfhjnaaGreatDoor
namespace Go.Proofs.YthlacailhfhjnaaGreatDoor
open Go.RowKit Go.Lib
def CAP : Bs := [65, 66, 67, 68, 69, 70, 71, 72, 73, 74, 75, 76, 77, 78, 79, 80, 81, 82, 83, 84, 85, 86, 87, 88, 89, 90]
theorem vmg_m (X : Nat) (pa : Option Addr) (nn cc : Nat) (m0 p0 b : Bs) (c c' : ChM) (e : c.p = c'.p ∧ c.a = c'.a ∧ c.n = c'.n ∧ c.k = c'.k) : ∀ (j : Nat) (_ : j ≠ 2) (_ : j ≠ 13), vmg X pa nn cc m0 p0 b c' j = vmg X pa nn cc m0 p0 b c j := by
  obtain ⟨m, p, a, n, k⟩ := c
  obtain ⟨m', p', a', n', k'⟩ := c'
  simp only at e
  obtain ⟨rfl, rfl, rfl, rfl⟩ := e
  intro j h2 h13
  match j, h2, h13 with
  | 0, _, _ => rfl
  | 1, _, _ => rfl
  | 2, h2, _ => exact absurd rfl h2
  | 3, _, _ => rfl
  | 4, _, _ => rfl
  | 5, _, _ => rfl
  | 6, _, _ => rfl
  | 7, _, _ => rfl
  | 8, _, _ => rfl
  | 9, _, _ => rfl
  | 10, _, _ => rfl
  | 11, _, _ => rfl
  | 12, _, _ => rfl
  | 13, _, h13 => exact absurd rfl h13
  | 14, _, _ => rfl
  | (n + 15), _, _ => rfl
theorem vmg_p (X : Nat) (pa : Option Addr) (nn cc : Nat) (m0 p0 b : Bs) (c c' : ChM) (e : c.m = c'.m ∧ c.a = c'.a ∧ c.n = c'.n ∧ c.k = c'.k) : ∀ (j : Nat) (_ : j ≠ 5) (_ : j ≠ 6) (_ : j ≠ 13), vmg X pa nn cc m0 p0 b c' j = vmg X pa nn cc m0 p0 b c j := by
  obtain ⟨m, p, a, n, k⟩ := c
  obtain ⟨m', p', a', n', k'⟩ := c'
  simp only at e
  obtain ⟨rfl, rfl, rfl, rfl⟩ := e
  intro j h5 h6 h13
  match j, h5, h6, h13 with
  | 0, _, _, _ => rfl
  | 1, _, _, _ => rfl
  | 2, _, _, _ => rfl
  | 3, _, _, _ => rfl
  | 4, _, _, _ => rfl
  | 5, h5, _, _ => exact absurd rfl h5
  | 6, _, h6, _ => exact absurd rfl h6
  | 7, _, _, _ => rfl
  | 8, _, _, _ => rfl
  | 9, _, _, _ => rfl
  | 10, _, _, _ => rfl
  | 11, _, _, _ => rfl
  | 12, _, _, _ => rfl
  | 13, _, _, h13 => exact absurd rfl h13
  | 14, _, _, _ => rfl
  | (n + 15), _, _, _ => rfl
theorem vmg_h (X : Nat) (pa : Option Addr) (nn cc : Nat) (m0 p0 b : Bs) (c c' : ChM) (e : c.m = c'.m ∧ c.p = c'.p) : ∀ (j : Nat) (_ : j ≠ 9) (_ : j ≠ 13), vmg X pa nn cc m0 p0 b c' j = vmg X pa nn cc m0 p0 b c j := by
  obtain ⟨m, p, a, n, k⟩ := c
  obtain ⟨m', p', a', n', k'⟩ := c'
  simp only at e
  obtain ⟨rfl, rfl⟩ := e
  intro j h9 h13
  match j, h9, h13 with
  | 0, _, _ => rfl
  | 1, _, _ => rfl
  | 2, _, _ => rfl
  | 3, _, _ => rfl
  | 4, _, _ => rfl
  | 5, _, _ => rfl
  | 6, _, _ => rfl
  | 7, _, _ => rfl
  | 8, _, _ => rfl
  | 9, h9, _ => exact absurd rfl h9
  | 10, _, _ => rfl
  | 11, _, _ => rfl
  | 12, _, _ => rfl
  | 13, _, h13 => exact absurd rfl h13
  | 14, _, _ => rfl
  | (n + 15), _, _ => rfl
def set4 (W : World) (A : Nat) (c : ChM) (b : Bs) : World := (((W.setCell ⟨A, 0, none⟩ (S c.m)).setCell ⟨A, 1, none⟩ (S ([47] ++ c.p))).setCell ⟨A, 2, none⟩ (.slice c.a c.n c.k)).setCell ⟨A, 3, none⟩ (S (b.take 4000))
/-- What holds as a message is made. -/
structure WdM (W0 : World) (A : Nat) (b : Bs) (c : ChM) (L : Nat → Bool) (W : World) : Prop where
  d14 : L 14 = true → L 13 = true
  d13 : L 13 = true → L 2 = true ∧ L 6 = true ∧ L 9 = true
  d6 : L 6 = true → L 5 = true
  nm : L 2 = true → 1 ≤ c.m.length ∧ c.m.length ≤ 16 ∧ ∀ x ∈ c.m, x ∈ CAP
  pt : L 5 = true → c.p.length ≤ 199 ∧ ∀ x ∈ c.p, 33 ≤ x.toNat ∧ x.toNat ≤ 126
  hd : L 9 = true → ∃ hs, c.n = hs.length ∧ W.ownsRow 0 35 2 (.slice c.a c.n c.k) hs.length (cellsF hs) ∧ (∀ k, (Value.slice c.a c.n c.k).ownBlock = some k → W0.heap.size ≤ k) ∧ hs.length ≤ 32 ∧ hs.all hdr = true
  wd0 : L 14 = false → Below W0.heap.size W0 W
  wd1 : L 14 = true → ∃ Wp, Below W0.heap.size W0 Wp ∧ W = set4 Wp A c b
theorem set4_other (W : World) (A : Nat) (c : ChM) (b : Bs) (j : Nat) (h : j ≠ A) : (set4 W A c b).heap[j]? = W.heap[j]? := by
  unfold set4
  rw [heap_setCell_other _ _ _ _ h, heap_setCell_other _ _ _ _ h, heap_setCell_other _ _ _ _ h, heap_setCell_other _ _ _ _ h]
variable {W0 : World} {A : Nat} {b : Bs} {c : ChM} {L : Nat → Bool} {W : World}
theorem WdM.old (h : WdM W0 A b c L W) {j : Nat} (hj : j < W0.heap.size) (hA : j ≠ A) : W.heap[j]? = W0.heap[j]? := by
  cases e : L 14 with
  | false => exact (h.wd0 e).block j hj
  | true =>
    obtain ⟨Wp, h1, rfl⟩ := h.wd1 e
    rw [set4_other _ _ _ _ _ hA]
    exact h1.block j hj
theorem WdM.pure (h : WdM W0 A b c L W) (i : Nat) (hi : i ≠ 2 ∧ i ≠ 5 ∧ i ≠ 6 ∧ i ≠ 9 ∧ i ≠ 13 ∧ i ≠ 14) : WdM W0 A b c (upd L i) W := by
  refine ⟨?_, ?_, ?_, ?_, ?_, ?_, ?_, ?_⟩
  · rw [upd_ne (j := 14) (by omega), upd_ne (j := 13) (by omega)]; exact h.d14
  · rw [upd_ne (j := 13) (by omega), upd_ne (j := 2) (by omega), upd_ne (j := 6) (by omega), upd_ne (j := 9) (by omega)]; exact h.d13
  · rw [upd_ne (j := 6) (by omega), upd_ne (j := 5) (by omega)]; exact h.d6
  · rw [upd_ne (j := 2) (by omega)]; exact h.nm
  · rw [upd_ne (j := 5) (by omega)]; exact h.pt
  · rw [upd_ne (j := 9) (by omega)]; exact h.hd
  · rw [upd_ne (j := 14) (by omega)]; exact h.wd0
  · rw [upd_ne (j := 14) (by omega)]; exact h.wd1
theorem WdM.no14 (h : WdM W0 A b c L W) (hz : L 2 = false ∨ L 5 = false ∨ L 9 = false) : L 13 = false ∧ L 14 = false := by
  have h13 : L 13 = false := by
    cases e : L 13 with
    | false => rfl
    | true =>
      obtain ⟨q1, q2, q3⟩ := h.d13 e
      have q4 := h.d6 q2
      rcases hz with z | z | z
      · rw [z] at q1; cases q1
      · rw [z] at q4; cases q4
      · rw [z] at q3; cases q3
  refine ⟨h13, ?_⟩
  cases e : L 14 with
  | false => rfl
  | true => rw [h.d14 e] at h13; cases h13
theorem WdM.first (h : WdM W0 A b c L W) (h2 : L 2 = false) {l : Bs} {W' : World} (hb : Below W.heap.size W W') (g : 1 ≤ l.length ∧ l.length ≤ 16 ∧ ∀ x ∈ l, x ∈ CAP) : WdM W0 A b { c with m := l } (upd L 2) W' := by
  have hn := h.no14 (.inl h2)
  have hb0 := h.wd0 hn.2
  refine ⟨?_, ?_, ?_, fun _ => g, ?_, ?_, ?_, ?_⟩
  · rw [upd_ne (j := 14) (by omega), hn.2]; intro q; cases q
  · rw [upd_ne (j := 13) (by omega), hn.1]; intro q; cases q
  · rw [upd_ne (j := 6) (by omega), upd_ne (j := 5) (by omega)]; exact h.d6
  · rw [upd_ne (j := 5) (by omega)]; exact h.pt
  · rw [upd_ne (j := 9) (by omega)]
    intro q
    obtain ⟨hs, e, r, s⟩ := h.hd q
    exact ⟨hs, e, owns_same r (fun k hk => by obtain ⟨cs, z⟩ := owns_lt r k hk; exact hb.block k (lt_of_row z)), s⟩
  · intro _; exact hb0.trans (hb.mono hb0.size)
  · rw [upd_ne (j := 14) (by omega), hn.2]; intro q; cases q
theorem WdM.second (h : WdM W0 A b c L W) (h5 : L 5 = false) {l : Bs} {W' : World} (hb : Below W.heap.size W W') (g : l.length ≤ 199 ∧ ∀ x ∈ l, 33 ≤ x.toNat ∧ x.toNat ≤ 126) : WdM W0 A b { c with p := l } (upd L 5) W' := by
  have hn := h.no14 (.inr (.inl h5))
  have hb0 := h.wd0 hn.2
  refine ⟨?_, ?_, ?_, ?_, fun _ => g, ?_, ?_, ?_⟩
  · rw [upd_ne (j := 14) (by omega), hn.2]; intro q; cases q
  · rw [upd_ne (j := 13) (by omega), hn.1]; intro q; cases q
  · intro _; exact upd_eq
  · rw [upd_ne (j := 2) (by omega)]; exact h.nm
  · rw [upd_ne (j := 9) (by omega)]
    intro q
    obtain ⟨hs, e, r, s⟩ := h.hd q
    exact ⟨hs, e, owns_same r (fun k hk => by obtain ⟨cs, z⟩ := owns_lt r k hk; exact hb.block k (lt_of_row z)), s⟩
  · intro _; exact hb0.trans (hb.mono hb0.size)
  · rw [upd_ne (j := 14) (by omega), hn.2]; intro q; cases q
theorem WdM.third (h : WdM W0 A b c L W) (h9 : L 9 = false) {a : Option Addr} {k : Nat} {hs : List Fl} {W' : World} (g : Hds (.slice a hs.length k) hs W W') : WdM W0 A b { c with a := a, n := hs.length, k := k } (upd L 9) W' := by
  have hn := h.no14 (.inr (.inr h9))
  have hb0 := h.wd0 hn.2
  refine ⟨?_, ?_, ?_, ?_, ?_, fun _ => ⟨hs, rfl, g.row, fun j hj => Nat.le_trans hb0.size (g.new j hj), g.few, g.all⟩, ?_, ?_⟩
  · rw [upd_ne (j := 14) (by omega), hn.2]; intro q; cases q
  · rw [upd_ne (j := 13) (by omega), hn.1]; intro q; cases q
  · rw [upd_ne (j := 6) (by omega), upd_ne (j := 5) (by omega)]; exact h.d6
  · rw [upd_ne (j := 2) (by omega)]; exact h.nm
  · rw [upd_ne (j := 5) (by omega)]; exact h.pt
  · intro _; exact hb0.trans (g.bel.mono hb0.size)
  · rw [upd_ne (j := 14) (by omega), hn.2]; intro q; cases q
theorem WdM.six (h : WdM W0 A b c L W) (h5 : L 5 = true) : WdM W0 A b c (upd L 6) W := by
  refine ⟨?_, ?_, ?_, ?_, ?_, ?_, ?_, ?_⟩
  · rw [upd_ne (j := 14) (by omega), upd_ne (j := 13) (by omega)]; exact h.d14
  · rw [upd_ne (j := 13) (by omega), upd_ne (j := 2) (by omega), upd_eq, upd_ne (j := 9) (by omega)]; exact fun q => ⟨(h.d13 q).1, rfl, (h.d13 q).2.2⟩
  · intro _; rw [upd_ne (j := 5) (by omega)]; exact h5
  · rw [upd_ne (j := 2) (by omega)]; exact h.nm
  · rw [upd_ne (j := 5) (by omega)]; exact h.pt
  · rw [upd_ne (j := 9) (by omega)]; exact h.hd
  · rw [upd_ne (j := 14) (by omega)]; exact h.wd0
  · rw [upd_ne (j := 14) (by omega)]; exact h.wd1
theorem WdM.built (h : WdM W0 A b c L W) (h2 : L 2 = true) (h6 : L 6 = true) (h9 : L 9 = true) : WdM W0 A b c (upd L 13) W := by
  refine ⟨?_, ?_, ?_, ?_, ?_, ?_, ?_, ?_⟩
  · intro _; exact upd_eq
  · intro _; rw [upd_ne (j := 2) (by omega), upd_ne (j := 6) (by omega), upd_ne (j := 9) (by omega)]; exact ⟨h2, h6, h9⟩
  · rw [upd_ne (j := 6) (by omega), upd_ne (j := 5) (by omega)]; exact h.d6
  · rw [upd_ne (j := 2) (by omega)]; exact h.nm
  · rw [upd_ne (j := 5) (by omega)]; exact h.pt
  · rw [upd_ne (j := 9) (by omega)]; exact h.hd
  · rw [upd_ne (j := 14) (by omega)]; exact h.wd0
  · rw [upd_ne (j := 14) (by omega)]; exact h.wd1
theorem WdM.stored (h : WdM W0 A b c L W) (h14 : L 14 = false) (h13 : L 13 = true) (hA : W.heap[A]? = some (.cells #[S [], S [], .slice none 0 0, S []] 24 (0, 0))) : WdM W0 A b c (upd L 14) (set4 W A c b) := by
  refine ⟨?_, ?_, ?_, ?_, ?_, ?_, ?_, ?_⟩
  · intro _; rw [upd_ne (j := 13) (by omega)]; exact h13
  · rw [upd_ne (j := 13) (by omega), upd_ne (j := 2) (by omega), upd_ne (j := 6) (by omega), upd_ne (j := 9) (by omega)]; exact h.d13
  · rw [upd_ne (j := 6) (by omega), upd_ne (j := 5) (by omega)]; exact h.d6
  · rw [upd_ne (j := 2) (by omega)]; exact h.nm
  · rw [upd_ne (j := 5) (by omega)]; exact h.pt
  · rw [upd_ne (j := 9) (by omega)]
    intro q
    obtain ⟨hs, e, r, s⟩ := h.hd q
    exact ⟨hs, e, owns_same r (fun k hk => set4_other _ _ _ _ _ (fun z => by
      obtain ⟨cs, z2⟩ := owns_lt r k hk
      rw [z, hA] at z2
      simp at z2)), s⟩
  · rw [upd_eq]; intro q; cases q
  · intro _; exact ⟨W, h.wd0 h14, rfl⟩
theorem WdM.cut (h : WdM W0 A b c L W) : WdM W0 A b c (upd L 12) W := h.pure 12 (by omega)
end Go.Proofs.YthlacailhfhjnaaGreatDoor
