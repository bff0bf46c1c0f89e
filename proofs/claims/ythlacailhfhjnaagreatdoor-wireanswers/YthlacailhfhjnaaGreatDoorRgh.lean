import Derived.Test.YthlacailhfhjnaaGreatDoorZzak
import Derived.Test.YthlacailhfhjnaaGreatDoorZzaj
namespace Go.Proofs.YthlacailhfhjnaaGreatDoor
open Go.RowKit Go.Lib
theorem run_len22 (ρ : Operand → Value) (o : Oper) (x : Operand) (ho : o.op = .call { callee := .builtin .len, args := #[x], argTypes := #[22] }) (a : Option Addr) (n c : Nat) (hx : ρ x = .slice a n c) (w : World) : (execOp ρ o).run Tryz.prog w = .ok (.value (.int .i64 (n : Int))) w := by
  unfold execOp
  simp only [ho]
  simp [resolve, invoke, builtin, hx, Builtin.len_, Builtin.lenOf, go_sem]
theorem run_cut22 (ρ : Operand → Value) (o : Oper) (x y : Operand) (ho : o.op = .slice 22 x none (some y) none) (g k n c : Nat) (hk : k ≤ c) (hx : ρ x = .slice (some ⟨g, 0, none⟩) n c) (hy : ρ y = .int .i64 (k : Int)) (w : World) : (execOp ρ o).run Tryz.prog w = .ok (.value (.slice (some ⟨g, 0, none⟩) k c)) w := by
  unfold execOp
  simp only [ho, hx, Option.map_some, Option.map_none, hy]
  have h1 : (k : Int) ≤ (c : Int) := by omega
  have u := Tryz.underlying22
  have z := Tryz.sizeOf35
  simp [Instr.sliceAt, go_sem, u, z, h1]
def rh3T : List (Op × Option Tmp × Option (Nat × Bool)) := [
  (.fieldAddr 24 (.tmp 2) 0, some 15, none),
  (.load 9 (.tmp 15), some 16, none),
  (.fieldAddr 24 (.tmp 2) 1, some 17, none),
  (.load 9 (.tmp 17), some 18, none),
  (.move (.tmp 5), some 19, none),
  (.fieldAddr 24 (.tmp 2) 2, some 20, none),
  (.load 22 (.tmp 20), some 21, none),
  (.call { callee := .builtin .len, args := #[(.tmp 21)], argTypes := #[22] }, some 22, none),
  (.slice 22 (.tmp 19) none (some (.tmp 22)) none, some 23, none),
  (.fieldAddr 24 (.tmp 2) 3, some 24, none),
  (.load 9 (.tmp 24), some 25, none),
  (.build 24 #[(0, (.tmp 16)), (1, (.tmp 18)), (2, (.tmp 23)), (3, (.tmp 25))], some 26, none),
  (.call { callee := .value (.func 31), args := #[(.tmp 26)], argTypes := #[24] }, some 27, none)]
def rh3D : List (Nat × Nat) := [(1, 0), (3, 2), (6, 5), (7, 6), (8, 4), (8, 7), (10, 9), (11, 1), (11, 3), (11, 8), (11, 10), (12, 11)]
set_option maxHeartbeats 2000000 in
theorem rh3 {ops : Array Oper} {id : Nat} {Q : Exit → Act → World → Prop} (X g n M cc : Nat) (a : Option Addr) (m p b : Bs) (R : Value) (htab : ops.toList.map (fun o => (o.op, o.dst, o.guard)) = rh3T) (hdep : deplB rh3D ops = true) (hac : acB ops = true)
    (a0 : Act) (w : World) (hsz : 28 ≤ a0.tmps.size) (o2 : a0.tmps[2]? = some (.pointer (some ⟨X, 0, none⟩))) (o5 : a0.tmps[5]? = some (.slice (some ⟨g, 0, none⟩) M M))
    (Wd : (Nat → Bool) → World → Prop) (h0 : Wd (fun _ => false) w.drew) (hpure : ∀ i, i ∉ ([12] : List Nat) → ∀ L W, Wd L W → Wd (upd L i) W)
    (l1 : ∀ L W, Wd L W → W.cell? ⟨X, 0 + 0, none⟩ = some (S m)) (l3 : ∀ L W, Wd L W → W.cell? ⟨X, 0 + 1, none⟩ = some (S p)) (l6 : ∀ L W, Wd L W → W.cell? ⟨X, 0 + 2, none⟩ = some (.slice a n cc)) (s8 : n ≤ M) (l10 : ∀ L W, Wd L W → W.cell? ⟨X, 0 + 3, none⟩ = some (S b))
    (c12 : ∀ L W, Wd L W → L 12 = false → Calls Tryz.prog 31 #[.agg #[S m, S p, .slice (some ⟨g, 0, none⟩) n M, S b]] W fun e w' => e = .returned R ∧ Wd (upd L 12) w')
    (hend : ∀ L W, (∀ i, i < 13 → L i = true) → Wd L W → Q .normal (((((((((((((a0.put (some 15) (.pointer (some ⟨X, 0 + 0, none⟩))).put (some 16) (S m)).put (some 17) (.pointer (some ⟨X, 0 + 1, none⟩))).put (some 18) (S p)).put (some 19) (.slice (some ⟨g, 0, none⟩) M M)).put (some 20) (.pointer (some ⟨X, 0 + 2, none⟩))).put (some 21) (.slice a n cc)).put (some 22) (.int .i64 (n : Int))).put (some 23) (.slice (some ⟨g, 0, none⟩) n M)).put (some 24) (.pointer (some ⟨X, 0 + 3, none⟩))).put (some 25) (S b)).put (some 26) (.agg #[S m, S p, .slice (some ⟨g, 0, none⟩) n M, S b])).put (some 27) R) W) : (Code.region id ops true).wp Tryz.prog Q a0 w := by
  let val : Nat → Value := fun i => match i with
    | 0 => (.pointer (some ⟨X, 0 + 0, none⟩))
    | 1 => (S m)
    | 2 => (.pointer (some ⟨X, 0 + 1, none⟩))
    | 3 => (S p)
    | 4 => (.slice (some ⟨g, 0, none⟩) M M)
    | 5 => (.pointer (some ⟨X, 0 + 2, none⟩))
    | 6 => (.slice a n cc)
    | 7 => (.int .i64 (n : Int))
    | 8 => (.slice (some ⟨g, 0, none⟩) n M)
    | 9 => (.pointer (some ⟨X, 0 + 3, none⟩))
    | 10 => (S b)
    | 11 => (.agg #[S m, S p, .slice (some ⟨g, 0, none⟩) n M, S b])
    | 12 => R
    | _ => undef
  have hosz : ops.size = 13 := by
    have := congrArg List.length htab
    simpa [rh3T] using this
  have hds : ∀ i s, (rh3T[i]?).bind (·.2.1) = some s → dstOf ops i = some s := fun i s hi => by rw [tab_dst htab, hi]
  have hdisB : disL rh3T = true := by rfl
  have hdis := disL_of htab hdisB
  have hold : ∀ s, rh3T.all (fun x => !(x.2.1 == some s)) = true → (List.range ops.size).all (fun j => !(dstOf ops j == some s)) = true := fun s h => holdL htab s h
  refine region_detL val Wd (hac_of hac) hdis h0 ?_ ?_
  rotate_left
  · intro L W hall hW
    have := hend L W (by rw [← hosz]; exact hall) hW
    have e : frm ops a0 val (fun _ => true) ops.size = (((((((((((((a0.put (some 15) (.pointer (some ⟨X, 0 + 0, none⟩))).put (some 16) (S m)).put (some 17) (.pointer (some ⟨X, 0 + 1, none⟩))).put (some 18) (S p)).put (some 19) (.slice (some ⟨g, 0, none⟩) M M)).put (some 20) (.pointer (some ⟨X, 0 + 2, none⟩))).put (some 21) (.slice a n cc)).put (some 22) (.int .i64 (n : Int))).put (some 23) (.slice (some ⟨g, 0, none⟩) n M)).put (some 24) (.pointer (some ⟨X, 0 + 3, none⟩))).put (some 25) (S b)).put (some 26) (.agg #[S m, S p, .slice (some ⟨g, 0, none⟩) n M, S b])).put (some 27) R) := by
      rw [hosz]
      simp only [frm, if_true]
      rw [tab_dst htab 0, tab_dst htab 1, tab_dst htab 2, tab_dst htab 3, tab_dst htab 4, tab_dst htab 5, tab_dst htab 6, tab_dst htab 7, tab_dst htab 8, tab_dst htab 9, tab_dst htab 10, tab_dst htab 11, tab_dst htab 12]
      rfl
    rw [e]
    exact this
  intro i o ho L a w' hL hd ha hW
  have hi : i < 13 := by rw [← hosz]; exact (Array.getElem?_eq_some_iff.1 ho).1
  match i, ho, hL, hi with
  | 0, ho, hL, _ =>
    obtain ⟨hop, hdst, hgd⟩ := tab_at htab ho (show rh3T[0]? = _ from rfl)
    simp only at hop hgd
    have h0 := frm_old ha 2 _ (hold 2 rfl) o2
    exact doesL_run ho (wanted_none hgd) (hpure 0 (by decide) L w' hW) (run_f24_0 _ _ _ hop _ _ (eval_of h0) _)
  | 1, ho, hL, _ =>
    obtain ⟨hop, hdst, hgd⟩ := tab_at htab ho (show rh3T[1]? = _ from rfl)
    simp only at hop hgd
    have h0 := frm_at hdis ha 0 15 (hds 0 15 rfl) (by omega) (depl_of hdep 1 0 (by decide) ho hd)
    exact doesL_run ho (wanted_none hgd) (hpure 1 (by decide) L w' hW) (run_ld _ _ _ hop _ _ (eval_of h0) _ (l1 L w' hW))
  | 2, ho, hL, _ =>
    obtain ⟨hop, hdst, hgd⟩ := tab_at htab ho (show rh3T[2]? = _ from rfl)
    simp only at hop hgd
    have h0 := frm_old ha 2 _ (hold 2 rfl) o2
    exact doesL_run ho (wanted_none hgd) (hpure 2 (by decide) L w' hW) (run_f24_1 _ _ _ hop _ _ (eval_of h0) _)
  | 3, ho, hL, _ =>
    obtain ⟨hop, hdst, hgd⟩ := tab_at htab ho (show rh3T[3]? = _ from rfl)
    simp only at hop hgd
    have h0 := frm_at hdis ha 2 17 (hds 2 17 rfl) (by omega) (depl_of hdep 3 2 (by decide) ho hd)
    exact doesL_run ho (wanted_none hgd) (hpure 3 (by decide) L w' hW) (run_ld _ _ _ hop _ _ (eval_of h0) _ (l3 L w' hW))
  | 4, ho, hL, _ =>
    obtain ⟨hop, hdst, hgd⟩ := tab_at htab ho (show rh3T[4]? = _ from rfl)
    simp only at hop hgd
    have h0 := frm_old ha 5 _ (hold 5 rfl) o5
    exact doesL_run ho (wanted_none hgd) (hpure 4 (by decide) L w' hW) (by rw [run_move _ _ _ hop]; exact congrArg (fun v => Result.ok (Next.value v) w') (eval_of h0))
  | 5, ho, hL, _ =>
    obtain ⟨hop, hdst, hgd⟩ := tab_at htab ho (show rh3T[5]? = _ from rfl)
    simp only at hop hgd
    have h0 := frm_old ha 2 _ (hold 2 rfl) o2
    exact doesL_run ho (wanted_none hgd) (hpure 5 (by decide) L w' hW) (run_f24_2 _ _ _ hop _ _ (eval_of h0) _)
  | 6, ho, hL, _ =>
    obtain ⟨hop, hdst, hgd⟩ := tab_at htab ho (show rh3T[6]? = _ from rfl)
    simp only at hop hgd
    have h0 := frm_at hdis ha 5 20 (hds 5 20 rfl) (by omega) (depl_of hdep 6 5 (by decide) ho hd)
    exact doesL_run ho (wanted_none hgd) (hpure 6 (by decide) L w' hW) (run_ld22 _ _ _ hop _ _ (eval_of h0) _ (l6 L w' hW))
  | 7, ho, hL, _ =>
    obtain ⟨hop, hdst, hgd⟩ := tab_at htab ho (show rh3T[7]? = _ from rfl)
    simp only at hop hgd
    have h0 := frm_at hdis ha 6 21 (hds 6 21 rfl) (by omega) (depl_of hdep 7 6 (by decide) ho hd)
    exact doesL_run ho (wanted_none hgd) (hpure 7 (by decide) L w' hW) (run_len22 _ _ _ hop _ _ _ (eval_of h0) _)
  | 8, ho, hL, _ =>
    obtain ⟨hop, hdst, hgd⟩ := tab_at htab ho (show rh3T[8]? = _ from rfl)
    simp only at hop hgd
    have h0 := frm_at hdis ha 4 19 (hds 4 19 rfl) (by omega) (depl_of hdep 8 4 (by decide) ho hd)
    have h1 := frm_at hdis ha 7 22 (hds 7 22 rfl) (by omega) (depl_of hdep 8 7 (by decide) ho hd)
    exact doesL_run ho (wanted_none hgd) (hpure 8 (by decide) L w' hW) (run_cut22 _ _ _ _ hop _ _ _ _ s8 (eval_of h0) (eval_of h1) _)
  | 9, ho, hL, _ =>
    obtain ⟨hop, hdst, hgd⟩ := tab_at htab ho (show rh3T[9]? = _ from rfl)
    simp only at hop hgd
    have h0 := frm_old ha 2 _ (hold 2 rfl) o2
    exact doesL_run ho (wanted_none hgd) (hpure 9 (by decide) L w' hW) (run_f24_3 _ _ _ hop _ _ (eval_of h0) _)
  | 10, ho, hL, _ =>
    obtain ⟨hop, hdst, hgd⟩ := tab_at htab ho (show rh3T[10]? = _ from rfl)
    simp only at hop hgd
    have h0 := frm_at hdis ha 9 24 (hds 9 24 rfl) (by omega) (depl_of hdep 10 9 (by decide) ho hd)
    exact doesL_run ho (wanted_none hgd) (hpure 10 (by decide) L w' hW) (run_ld _ _ _ hop _ _ (eval_of h0) _ (l10 L w' hW))
  | 11, ho, hL, _ =>
    obtain ⟨hop, hdst, hgd⟩ := tab_at htab ho (show rh3T[11]? = _ from rfl)
    simp only at hop hgd
    have h0 := frm_at hdis ha 1 16 (hds 1 16 rfl) (by omega) (depl_of hdep 11 1 (by decide) ho hd)
    have h1 := frm_at hdis ha 3 18 (hds 3 18 rfl) (by omega) (depl_of hdep 11 3 (by decide) ho hd)
    have h2 := frm_at hdis ha 8 23 (hds 8 23 rfl) (by omega) (depl_of hdep 11 8 (by decide) ho hd)
    have h3 := frm_at hdis ha 10 25 (hds 10 25 rfl) (by omega) (depl_of hdep 11 10 (by decide) ho hd)
    exact doesL_run ho (wanted_none hgd) (hpure 11 (by decide) L w' hW) (run_build24 _ _ _ _ _ _ hop _ _ _ _ _ _ (eval_of h0) (eval_of h1) (eval_of h2) (eval_of h3) _)
  | 12, ho, hL, _ =>
    obtain ⟨hop, hdst, hgd⟩ := tab_at htab ho (show rh3T[12]? = _ from rfl)
    simp only at hop hgd
    have h0 := frm_at hdis ha 11 26 (hds 11 26 rfl) (by omega) (depl_of hdep 12 11 (by decide) ho hd)
    refine doesL_call ho (wanted_none hgd) 31 #[.agg #[S m, S p, .slice (some ⟨g, 0, none⟩) n M, S b]] ?_ (c12 L w' hW hL)
    rw [run_calls Tryz.func31 (by kernel_rfl) rfl _ _ _ _ hop rfl]
    simp only [List.map_toArray, List.map_cons, List.map_nil, eval_of h0]
    all_goals rfl
  | (i + 13), ho, hL, hi => exact absurd hi (by omega)
def rh4T : List (Op × Option Tmp × Option (Nat × Bool)) := [
  (.fieldAddr 26 (.tmp 3) 0, some 28, none),
  (.load 3 (.tmp 28), some 29, none),
  (.move (.tmp 6), some 30, none),
  (.fieldAddr 26 (.tmp 3) 1, some 31, none),
  (.load 22 (.tmp 31), some 32, none),
  (.call { callee := .builtin .len, args := #[(.tmp 32)], argTypes := #[22] }, some 33, none),
  (.slice 22 (.tmp 30) none (some (.tmp 33)) none, some 34, none),
  (.fieldAddr 26 (.tmp 3) 2, some 35, none),
  (.load 9 (.tmp 35), some 36, none),
  (.build 26 #[(0, (.tmp 29)), (1, (.tmp 34)), (2, (.tmp 36))], some 37, none),
  (.call { callee := .value (.func 32), args := #[(.tmp 37)], argTypes := #[26] }, some 38, none)]
def rh4D : List (Nat × Nat) := [(1, 0), (4, 3), (5, 4), (6, 2), (6, 5), (8, 7), (9, 1), (9, 6), (9, 8), (10, 9)]
set_option maxHeartbeats 2000000 in
theorem rh4 {ops : Array Oper} {id : Nat} {Q : Exit → Act → World → Prop} (X g n M cc : Nat) (a : Option Addr) (st : Int) (b : Bs) (R : Value) (htab : ops.toList.map (fun o => (o.op, o.dst, o.guard)) = rh4T) (hdep : deplB rh4D ops = true) (hac : acB ops = true)
    (a0 : Act) (w : World) (hsz : 39 ≤ a0.tmps.size) (o3 : a0.tmps[3]? = some (.pointer (some ⟨X, 0, none⟩))) (o6 : a0.tmps[6]? = some (.slice (some ⟨g, 0, none⟩) M M))
    (Wd : (Nat → Bool) → World → Prop) (h0 : Wd (fun _ => false) w.drew) (hpure : ∀ i, i ∉ ([10] : List Nat) → ∀ L W, Wd L W → Wd (upd L i) W)
    (l1 : ∀ L W, Wd L W → W.cell? ⟨X, 0 + 0, none⟩ = some (.int .i64 st)) (l4 : ∀ L W, Wd L W → W.cell? ⟨X, 0 + 1, none⟩ = some (.slice a n cc)) (s6 : n ≤ M) (l8 : ∀ L W, Wd L W → W.cell? ⟨X, 0 + 2, none⟩ = some (S b))
    (c10 : ∀ L W, Wd L W → L 10 = false → Calls Tryz.prog 32 #[.agg #[.int .i64 st, .slice (some ⟨g, 0, none⟩) n M, S b]] W fun e w' => e = .returned R ∧ Wd (upd L 10) w')
    (hend : ∀ L W, (∀ i, i < 11 → L i = true) → Wd L W → Q .normal (((((((((((a0.put (some 28) (.pointer (some ⟨X, 0 + 0, none⟩))).put (some 29) (.int .i64 st)).put (some 30) (.slice (some ⟨g, 0, none⟩) M M)).put (some 31) (.pointer (some ⟨X, 0 + 1, none⟩))).put (some 32) (.slice a n cc)).put (some 33) (.int .i64 (n : Int))).put (some 34) (.slice (some ⟨g, 0, none⟩) n M)).put (some 35) (.pointer (some ⟨X, 0 + 2, none⟩))).put (some 36) (S b)).put (some 37) (.agg #[.int .i64 st, .slice (some ⟨g, 0, none⟩) n M, S b])).put (some 38) R) W) : (Code.region id ops true).wp Tryz.prog Q a0 w := by
  let val : Nat → Value := fun i => match i with
    | 0 => (.pointer (some ⟨X, 0 + 0, none⟩))
    | 1 => (.int .i64 st)
    | 2 => (.slice (some ⟨g, 0, none⟩) M M)
    | 3 => (.pointer (some ⟨X, 0 + 1, none⟩))
    | 4 => (.slice a n cc)
    | 5 => (.int .i64 (n : Int))
    | 6 => (.slice (some ⟨g, 0, none⟩) n M)
    | 7 => (.pointer (some ⟨X, 0 + 2, none⟩))
    | 8 => (S b)
    | 9 => (.agg #[.int .i64 st, .slice (some ⟨g, 0, none⟩) n M, S b])
    | 10 => R
    | _ => undef
  have hosz : ops.size = 11 := by
    have := congrArg List.length htab
    simpa [rh4T] using this
  have hds : ∀ i s, (rh4T[i]?).bind (·.2.1) = some s → dstOf ops i = some s := fun i s hi => by rw [tab_dst htab, hi]
  have hdisB : disL rh4T = true := by rfl
  have hdis := disL_of htab hdisB
  have hold : ∀ s, rh4T.all (fun x => !(x.2.1 == some s)) = true → (List.range ops.size).all (fun j => !(dstOf ops j == some s)) = true := fun s h => holdL htab s h
  refine region_detL val Wd (hac_of hac) hdis h0 ?_ ?_
  rotate_left
  · intro L W hall hW
    have := hend L W (by rw [← hosz]; exact hall) hW
    have e : frm ops a0 val (fun _ => true) ops.size = (((((((((((a0.put (some 28) (.pointer (some ⟨X, 0 + 0, none⟩))).put (some 29) (.int .i64 st)).put (some 30) (.slice (some ⟨g, 0, none⟩) M M)).put (some 31) (.pointer (some ⟨X, 0 + 1, none⟩))).put (some 32) (.slice a n cc)).put (some 33) (.int .i64 (n : Int))).put (some 34) (.slice (some ⟨g, 0, none⟩) n M)).put (some 35) (.pointer (some ⟨X, 0 + 2, none⟩))).put (some 36) (S b)).put (some 37) (.agg #[.int .i64 st, .slice (some ⟨g, 0, none⟩) n M, S b])).put (some 38) R) := by
      rw [hosz]
      simp only [frm, if_true]
      rw [tab_dst htab 0, tab_dst htab 1, tab_dst htab 2, tab_dst htab 3, tab_dst htab 4, tab_dst htab 5, tab_dst htab 6, tab_dst htab 7, tab_dst htab 8, tab_dst htab 9, tab_dst htab 10]
      rfl
    rw [e]
    exact this
  intro i o ho L a w' hL hd ha hW
  have hi : i < 11 := by rw [← hosz]; exact (Array.getElem?_eq_some_iff.1 ho).1
  match i, ho, hL, hi with
  | 0, ho, hL, _ =>
    obtain ⟨hop, hdst, hgd⟩ := tab_at htab ho (show rh4T[0]? = _ from rfl)
    simp only at hop hgd
    have h0 := frm_old ha 3 _ (hold 3 rfl) o3
    exact doesL_run ho (wanted_none hgd) (hpure 0 (by decide) L w' hW) (run_f26_0 _ _ _ hop _ _ (eval_of h0) _)
  | 1, ho, hL, _ =>
    obtain ⟨hop, hdst, hgd⟩ := tab_at htab ho (show rh4T[1]? = _ from rfl)
    simp only at hop hgd
    have h0 := frm_at hdis ha 0 28 (hds 0 28 rfl) (by omega) (depl_of hdep 1 0 (by decide) ho hd)
    exact doesL_run ho (wanted_none hgd) (hpure 1 (by decide) L w' hW) (run_ld3 _ _ _ hop _ _ (eval_of h0) _ (l1 L w' hW))
  | 2, ho, hL, _ =>
    obtain ⟨hop, hdst, hgd⟩ := tab_at htab ho (show rh4T[2]? = _ from rfl)
    simp only at hop hgd
    have h0 := frm_old ha 6 _ (hold 6 rfl) o6
    exact doesL_run ho (wanted_none hgd) (hpure 2 (by decide) L w' hW) (by rw [run_move _ _ _ hop]; exact congrArg (fun v => Result.ok (Next.value v) w') (eval_of h0))
  | 3, ho, hL, _ =>
    obtain ⟨hop, hdst, hgd⟩ := tab_at htab ho (show rh4T[3]? = _ from rfl)
    simp only at hop hgd
    have h0 := frm_old ha 3 _ (hold 3 rfl) o3
    exact doesL_run ho (wanted_none hgd) (hpure 3 (by decide) L w' hW) (run_f26_1 _ _ _ hop _ _ (eval_of h0) _)
  | 4, ho, hL, _ =>
    obtain ⟨hop, hdst, hgd⟩ := tab_at htab ho (show rh4T[4]? = _ from rfl)
    simp only at hop hgd
    have h0 := frm_at hdis ha 3 31 (hds 3 31 rfl) (by omega) (depl_of hdep 4 3 (by decide) ho hd)
    exact doesL_run ho (wanted_none hgd) (hpure 4 (by decide) L w' hW) (run_ld22 _ _ _ hop _ _ (eval_of h0) _ (l4 L w' hW))
  | 5, ho, hL, _ =>
    obtain ⟨hop, hdst, hgd⟩ := tab_at htab ho (show rh4T[5]? = _ from rfl)
    simp only at hop hgd
    have h0 := frm_at hdis ha 4 32 (hds 4 32 rfl) (by omega) (depl_of hdep 5 4 (by decide) ho hd)
    exact doesL_run ho (wanted_none hgd) (hpure 5 (by decide) L w' hW) (run_len22 _ _ _ hop _ _ _ (eval_of h0) _)
  | 6, ho, hL, _ =>
    obtain ⟨hop, hdst, hgd⟩ := tab_at htab ho (show rh4T[6]? = _ from rfl)
    simp only at hop hgd
    have h0 := frm_at hdis ha 2 30 (hds 2 30 rfl) (by omega) (depl_of hdep 6 2 (by decide) ho hd)
    have h1 := frm_at hdis ha 5 33 (hds 5 33 rfl) (by omega) (depl_of hdep 6 5 (by decide) ho hd)
    exact doesL_run ho (wanted_none hgd) (hpure 6 (by decide) L w' hW) (run_cut22 _ _ _ _ hop _ _ _ _ s6 (eval_of h0) (eval_of h1) _)
  | 7, ho, hL, _ =>
    obtain ⟨hop, hdst, hgd⟩ := tab_at htab ho (show rh4T[7]? = _ from rfl)
    simp only at hop hgd
    have h0 := frm_old ha 3 _ (hold 3 rfl) o3
    exact doesL_run ho (wanted_none hgd) (hpure 7 (by decide) L w' hW) (run_f26_2 _ _ _ hop _ _ (eval_of h0) _)
  | 8, ho, hL, _ =>
    obtain ⟨hop, hdst, hgd⟩ := tab_at htab ho (show rh4T[8]? = _ from rfl)
    simp only at hop hgd
    have h0 := frm_at hdis ha 7 35 (hds 7 35 rfl) (by omega) (depl_of hdep 8 7 (by decide) ho hd)
    exact doesL_run ho (wanted_none hgd) (hpure 8 (by decide) L w' hW) (run_ld _ _ _ hop _ _ (eval_of h0) _ (l8 L w' hW))
  | 9, ho, hL, _ =>
    obtain ⟨hop, hdst, hgd⟩ := tab_at htab ho (show rh4T[9]? = _ from rfl)
    simp only at hop hgd
    have h0 := frm_at hdis ha 1 29 (hds 1 29 rfl) (by omega) (depl_of hdep 9 1 (by decide) ho hd)
    have h1 := frm_at hdis ha 6 34 (hds 6 34 rfl) (by omega) (depl_of hdep 9 6 (by decide) ho hd)
    have h2 := frm_at hdis ha 8 36 (hds 8 36 rfl) (by omega) (depl_of hdep 9 8 (by decide) ho hd)
    exact doesL_run ho (wanted_none hgd) (hpure 9 (by decide) L w' hW) (run_build26 _ _ _ _ _ hop _ _ _ _ _ (eval_of h0) (eval_of h1) (eval_of h2) _)
  | 10, ho, hL, _ =>
    obtain ⟨hop, hdst, hgd⟩ := tab_at htab ho (show rh4T[10]? = _ from rfl)
    simp only at hop hgd
    have h0 := frm_at hdis ha 9 37 (hds 9 37 rfl) (by omega) (depl_of hdep 10 9 (by decide) ho hd)
    refine doesL_call ho (wanted_none hgd) 32 #[.agg #[.int .i64 st, .slice (some ⟨g, 0, none⟩) n M, S b]] ?_ (c10 L w' hW hL)
    rw [run_calls Tryz.func32 (by kernel_rfl) rfl _ _ _ _ hop rfl]
    simp only [List.map_toArray, List.map_cons, List.map_nil, eval_of h0]
    all_goals rfl
  | (i + 11), ho, hL, hi => exact absurd hi (by omega)
def vh5 (X Y g n M cc : Nat) (a : Option Addr) (b : Bs) (c : Value) (i : Nat) : Value := match i with
  | 0 => (.slice (some ⟨g, 0, none⟩) M M)
  | 1 => (.pointer (some ⟨X, 0 + 2, none⟩))
  | 2 => (.slice a n cc)
  | 3 => (.int .i64 (n : Int))
  | 4 => (.slice (some ⟨g, 0, none⟩) n M)
  | 5 => (.pointer (some ⟨Y, 0 + 2, none⟩))
  | 6 => (S b)
  | 7 => c
  | _ => undef
def rh5T : List (Op × Option Tmp × Option (Nat × Bool)) := [
  (.move (.tmp 5), some 39, none),
  (.fieldAddr 24 (.tmp 2) 2, some 40, none),
  (.load 22 (.tmp 40), some 41, none),
  (.call { callee := .builtin .len, args := #[(.tmp 41)], argTypes := #[22] }, some 42, none),
  (.slice 22 (.tmp 39) none (some (.tmp 42)) none, some 43, none),
  (.fieldAddr 26 (.tmp 3) 2, some 44, none),
  (.load 9 (.tmp 44), some 45, none),
  (.call { callee := .value (.func 17), args := #[(.tmp 43), (.tmp 45)], argTypes := #[22, 9] }, some 46, none)]
def rh5D : List (Nat × Nat) := [(2, 1), (3, 2), (4, 0), (4, 3), (6, 5), (7, 4), (7, 6)]
set_option maxHeartbeats 2000000 in
theorem rh5 {ops : Array Oper} {id : Nat} {Q : Exit → Act → World → Prop} (X Y g n M cc : Nat) (a : Option Addr) (b : Bs) (htab : ops.toList.map (fun o => (o.op, o.dst, o.guard)) = rh5T) (hdep : deplB rh5D ops = true) (hac : acB ops = true)
    (a0 : Act) (w : World) (hsz : 47 ≤ a0.tmps.size) (o2 : a0.tmps[2]? = some (.pointer (some ⟨X, 0, none⟩))) (o3 : a0.tmps[3]? = some (.pointer (some ⟨Y, 0, none⟩))) (o5 : a0.tmps[5]? = some (.slice (some ⟨g, 0, none⟩) M M))
    (Wd : Value → (Nat → Bool) → World → Prop) (h0 : ∃ c, Wd c (fun _ => false) w.drew) (hpure : ∀ i, i ∉ ([7] : List Nat) → ∀ c L W, Wd c L W → Wd c (upd L i) W)
    (l2 : ∀ c L W, Wd c L W → W.cell? ⟨X, 0 + 2, none⟩ = some (.slice a n cc)) (s4 : n ≤ M) (l6 : ∀ c L W, Wd c L W → W.cell? ⟨Y, 0 + 2, none⟩ = some (S b))
    (c7 : ∀ c L W, Wd c L W → L 7 = false → Calls Tryz.prog 17 #[.slice (some ⟨g, 0, none⟩) n M, S b] W fun e w' => ∃ c' : Value, (∀ j, L j = true → vh5 X Y g n M cc a b c' j = vh5 X Y g n M cc a b c j) ∧ e = .returned c' ∧ Wd c' (upd L 7) w')
    (hend : ∀ c L W, (∀ i, i < 8 → L i = true) → Wd c L W → Q .normal ((((((((a0.put (some 39) (.slice (some ⟨g, 0, none⟩) M M)).put (some 40) (.pointer (some ⟨X, 0 + 2, none⟩))).put (some 41) (.slice a n cc)).put (some 42) (.int .i64 (n : Int))).put (some 43) (.slice (some ⟨g, 0, none⟩) n M)).put (some 44) (.pointer (some ⟨Y, 0 + 2, none⟩))).put (some 45) (S b)).put (some 46) c) W) : (Code.region id ops true).wp Tryz.prog Q a0 w := by
  let val : Value → Nat → Value := vh5 X Y g n M cc a b
  have hosz : ops.size = 8 := by
    have := congrArg List.length htab
    simpa [rh5T] using this
  have hds : ∀ i s, (rh5T[i]?).bind (·.2.1) = some s → dstOf ops i = some s := fun i s hi => by rw [tab_dst htab, hi]
  have hdisB : disL rh5T = true := by rfl
  have hdis := disL_of htab hdisB
  have hold : ∀ s, rh5T.all (fun x => !(x.2.1 == some s)) = true → (List.range ops.size).all (fun j => !(dstOf ops j == some s)) = true := fun s h => holdL htab s h
  refine region_detX val Wd (hac_of hac) hdis h0 ?_ ?_
  rotate_left
  · intro c L W hall hW
    have := hend c L W (by rw [← hosz]; exact hall) hW
    have e : frm ops a0 (val c) (fun _ => true) ops.size = ((((((((a0.put (some 39) (.slice (some ⟨g, 0, none⟩) M M)).put (some 40) (.pointer (some ⟨X, 0 + 2, none⟩))).put (some 41) (.slice a n cc)).put (some 42) (.int .i64 (n : Int))).put (some 43) (.slice (some ⟨g, 0, none⟩) n M)).put (some 44) (.pointer (some ⟨Y, 0 + 2, none⟩))).put (some 45) (S b)).put (some 46) c) := by
      rw [hosz]
      simp only [frm, if_true]
      rw [tab_dst htab 0, tab_dst htab 1, tab_dst htab 2, tab_dst htab 3, tab_dst htab 4, tab_dst htab 5, tab_dst htab 6, tab_dst htab 7]
      rfl
    rw [e]
    exact this
  intro i o ho c L a w' hL hd ha hW
  have hi : i < 8 := by rw [← hosz]; exact (Array.getElem?_eq_some_iff.1 ho).1
  match i, ho, hL, hi with
  | 0, ho, hL, _ =>
    obtain ⟨hop, hdst, hgd⟩ := tab_at htab ho (show rh5T[0]? = _ from rfl)
    simp only at hop hgd
    have h0 := frm_old (val := val c) ha 5 _ (hold 5 rfl) o5
    exact doesX_of (doesL_run ho (wanted_none hgd) (hpure 0 (by decide) c L w' hW) (by rw [run_move _ _ _ hop]; exact congrArg (fun v => Result.ok (Next.value v) w') (eval_of h0)))
  | 1, ho, hL, _ =>
    obtain ⟨hop, hdst, hgd⟩ := tab_at htab ho (show rh5T[1]? = _ from rfl)
    simp only at hop hgd
    have h0 := frm_old (val := val c) ha 2 _ (hold 2 rfl) o2
    exact doesX_of (doesL_run ho (wanted_none hgd) (hpure 1 (by decide) c L w' hW) (run_f24_2 _ _ _ hop _ _ (eval_of h0) _))
  | 2, ho, hL, _ =>
    obtain ⟨hop, hdst, hgd⟩ := tab_at htab ho (show rh5T[2]? = _ from rfl)
    simp only at hop hgd
    have h0 := frm_at (val := val c) hdis ha 1 40 (hds 1 40 rfl) (by omega) (depl_of hdep 2 1 (by decide) ho hd)
    exact doesX_of (doesL_run ho (wanted_none hgd) (hpure 2 (by decide) c L w' hW) (run_ld22 _ _ _ hop _ _ (eval_of h0) _ (l2 c L w' hW)))
  | 3, ho, hL, _ =>
    obtain ⟨hop, hdst, hgd⟩ := tab_at htab ho (show rh5T[3]? = _ from rfl)
    simp only at hop hgd
    have h0 := frm_at (val := val c) hdis ha 2 41 (hds 2 41 rfl) (by omega) (depl_of hdep 3 2 (by decide) ho hd)
    exact doesX_of (doesL_run ho (wanted_none hgd) (hpure 3 (by decide) c L w' hW) (run_len22 _ _ _ hop _ _ _ (eval_of h0) _))
  | 4, ho, hL, _ =>
    obtain ⟨hop, hdst, hgd⟩ := tab_at htab ho (show rh5T[4]? = _ from rfl)
    simp only at hop hgd
    have h0 := frm_at (val := val c) hdis ha 0 39 (hds 0 39 rfl) (by omega) (depl_of hdep 4 0 (by decide) ho hd)
    have h1 := frm_at (val := val c) hdis ha 3 42 (hds 3 42 rfl) (by omega) (depl_of hdep 4 3 (by decide) ho hd)
    exact doesX_of (doesL_run ho (wanted_none hgd) (hpure 4 (by decide) c L w' hW) (run_cut22 _ _ _ _ hop _ _ _ _ s4 (eval_of h0) (eval_of h1) _))
  | 5, ho, hL, _ =>
    obtain ⟨hop, hdst, hgd⟩ := tab_at htab ho (show rh5T[5]? = _ from rfl)
    simp only at hop hgd
    have h0 := frm_old (val := val c) ha 3 _ (hold 3 rfl) o3
    exact doesX_of (doesL_run ho (wanted_none hgd) (hpure 5 (by decide) c L w' hW) (run_f26_2 _ _ _ hop _ _ (eval_of h0) _))
  | 6, ho, hL, _ =>
    obtain ⟨hop, hdst, hgd⟩ := tab_at htab ho (show rh5T[6]? = _ from rfl)
    simp only at hop hgd
    have h0 := frm_at (val := val c) hdis ha 5 44 (hds 5 44 rfl) (by omega) (depl_of hdep 6 5 (by decide) ho hd)
    exact doesX_of (doesL_run ho (wanted_none hgd) (hpure 6 (by decide) c L w' hW) (run_ld _ _ _ hop _ _ (eval_of h0) _ (l6 c L w' hW)))
  | 7, ho, hL, _ =>
    obtain ⟨hop, hdst, hgd⟩ := tab_at htab ho (show rh5T[7]? = _ from rfl)
    simp only at hop hgd
    have h0 := frm_at (val := val c) hdis ha 4 43 (hds 4 43 rfl) (by omega) (depl_of hdep 7 4 (by decide) ho hd)
    have h1 := frm_at (val := val c) hdis ha 6 45 (hds 6 45 rfl) (by omega) (depl_of hdep 7 6 (by decide) ho hd)
    refine doesX_call ho (wanted_none hgd) 17 #[.slice (some ⟨g, 0, none⟩) n M, S b] ?_ (c7 c L w' hW hL)
    rw [run_calls Tryz.func17 (by kernel_rfl) rfl _ _ _ _ hop rfl]
    simp only [List.map_toArray, List.map_cons, List.map_nil, eval_of h0, eval_of h1]
    all_goals rfl
  | (i + 8), ho, hL, hi => exact absurd hi (by omega)
end Go.Proofs.YthlacailhfhjnaaGreatDoor
