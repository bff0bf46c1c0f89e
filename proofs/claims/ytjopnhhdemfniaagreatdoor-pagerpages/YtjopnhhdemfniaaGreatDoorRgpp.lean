import Derived.Test.YtjopnhhdemfniaaGreatDoorZdetl
namespace Go.Proofs.YtjopnhhdemfniaaGreatDoor
open Go.RowKit
theorem run_len22 (ρ : Operand → Value) (o : Oper) (x : Operand) (ho : o.op = .call { callee := .builtin .len, args := #[x], argTypes := #[22] }) (a : Option Addr) (n c : Nat) (hx : ρ x = .slice a n c) (w : World) : (execOp ρ o).run Tryz.prog w = .ok (.value (.int .i64 (n : Int))) w := by
  unfold execOp
  simp only [ho, resolve, invoke, builtin]
  simp [hx, go_sem]
structure Cav where
  a : Nat
  v : Value
def vrpp4 (X n cap : Nat) (aa : Option Addr) (k m b : Int) (x B1 B2 B3 B4 B5 NU : Bs) (_c : Unit) (i : Nat) : Value := match i with
  | 0 => (.pointer (some ⟨X, 0 + 0, none⟩))
  | 1 => (I k)
  | 2 => (S B1)
  | 3 => (S ([76, 80] ++ B1))
  | 4 => (.pointer (some ⟨X, 0 + 3, none⟩))
  | 5 => (.slice aa n cap)
  | 6 => (.int .i64 (n : Int))
  | 7 => (S B2)
  | 8 => (S ([76, 80] ++ B1 ++ B2))
  | 9 => (.pointer (some ⟨X, 0 + 1, none⟩))
  | 10 => (I m)
  | 11 => (S B3)
  | 12 => (S ([76, 80] ++ B1 ++ B2 ++ B3))
  | 13 => (.pointer (some ⟨X, 0 + 2, none⟩))
  | 14 => (I b)
  | 15 => (S B4)
  | 16 => (S ([76, 80] ++ B1 ++ B2 ++ B3 ++ B4))
  | 17 => (.pointer (some ⟨X, 0 + 4, none⟩))
  | 18 => (S x)
  | 19 => (.int .i64 (x.length : Int))
  | 20 => (S B5)
  | 21 => (S ([76, 80] ++ B1 ++ B2 ++ B3 ++ B4 ++ B5))
  | 22 => (S NU)
  | 23 => (S ([76, 80] ++ B1 ++ B2 ++ B3 ++ B4 ++ B5 ++ NU))
  | 24 => (S ([76, 80] ++ B1 ++ B2 ++ B3 ++ B4 ++ B5 ++ NU))
  | _ => undef
def rpp4T : List (Op × Option Tmp × Option (Nat × Bool)) := [
  (.fieldAddr 24 (.tmp 1) 0, some 11, none),
  (.load 3 (.tmp 11), some 12, none),
  (.call { callee := .value (.func 59), args := #[(.const (.int .i64 1)), (.tmp 12)], argTypes := #[3, 3] }, some 13, none),
  (.binOp .add 9 (.const (.string ⟨#[76, 80]⟩)) (.tmp 13) 9, some 14, none),
  (.fieldAddr 24 (.tmp 1) 3, some 15, none),
  (.load 22 (.tmp 15), some 16, none),
  (.call { callee := .builtin .len, args := #[(.tmp 16)], argTypes := #[22] }, some 17, none),
  (.call { callee := .value (.func 59), args := #[(.const (.int .i64 1)), (.tmp 17)], argTypes := #[3, 3] }, some 18, none),
  (.binOp .add 9 (.tmp 14) (.tmp 18) 9, some 19, none),
  (.fieldAddr 24 (.tmp 1) 1, some 20, none),
  (.load 3 (.tmp 20), some 21, none),
  (.call { callee := .value (.func 59), args := #[(.const (.int .i64 4)), (.tmp 21)], argTypes := #[3, 3] }, some 22, none),
  (.binOp .add 9 (.tmp 19) (.tmp 22) 9, some 23, none),
  (.fieldAddr 24 (.tmp 1) 2, some 24, none),
  (.load 3 (.tmp 24), some 25, none),
  (.call { callee := .value (.func 59), args := #[(.const (.int .i64 8)), (.tmp 25)], argTypes := #[3, 3] }, some 26, none),
  (.binOp .add 9 (.tmp 23) (.tmp 26) 9, some 27, none),
  (.fieldAddr 24 (.tmp 1) 4, some 28, none),
  (.load 9 (.tmp 28), some 29, none),
  (.call { callee := .builtin .len, args := #[(.tmp 29)], argTypes := #[9] }, some 30, none),
  (.call { callee := .value (.func 59), args := #[(.const (.int .i64 2)), (.tmp 30)], argTypes := #[3, 3] }, some 31, none),
  (.binOp .add 9 (.tmp 27) (.tmp 31) 9, some 32, none),
  (.call { callee := .value (.func 60), args := #[(.const (.int .i64 2))], argTypes := #[3] }, some 33, none),
  (.binOp .add 9 (.tmp 32) (.tmp 33) 9, some 34, none),
  (.assign (.tmp 34), some 5, none)]
def rpp4D : List (Nat × Nat) := [(1, 0), (2, 1), (3, 2), (5, 4), (6, 5), (7, 6), (8, 3), (8, 7), (10, 9), (11, 10), (12, 8), (12, 11), (14, 13), (15, 14), (16, 12), (16, 15), (18, 17), (19, 18), (20, 19), (21, 16), (21, 20), (23, 21), (23, 22), (24, 23)]
set_option maxHeartbeats 4000000 in
theorem rpp4 {ops : Array Oper} {id : Nat} {Q : Exit → Act → World → Prop} (X n cap : Nat) (aa : Option Addr) (k m b : Int) (x B1 B2 B3 B4 B5 NU : Bs) (htab : ops.toList.map (fun o => (o.op, o.dst, o.guard)) = rpp4T) (hdep : deplB rpp4D ops = true) (hac : acB ops = true)
    (a0 : Act) (w : World) (hsz : 35 ≤ a0.tmps.size) (o1 : a0.tmps[1]? = some (.pointer (some ⟨X, 0, none⟩)))
    (Wd : Unit → (Nat → Bool) → World → Prop) (h0 : ∃ c, Wd c (fun _ => false) w.drew) (hpure : ∀ i, i ∉ ([2, 7, 11, 15, 20, 22] : List Nat) → ∀ c L W, Wd c L W → Wd c (upd L i) W)
    (r1 : ∀ c L W, Wd c L W → L 1 = false → L 0 = true → (Instr.loadAt 3 (.pointer (some ⟨X, 0 + 0, none⟩))).run Tryz.prog W = .ok (I k) W)
    (r2 : ∀ c L W, Wd c L W → L 2 = false → L 1 = true → Calls Tryz.prog 59 #[(.int .i64 1), (I k)] W fun eg w' => ∃ c', (∀ j, L j = true → vrpp4 X n cap aa k m b x B1 B2 B3 B4 B5 NU c' j = vrpp4 X n cap aa k m b x B1 B2 B3 B4 B5 NU c j) ∧ eg = .returned (vrpp4 X n cap aa k m b x B1 B2 B3 B4 B5 NU c' 2) ∧ Wd c' (upd L 2) w')
    (r3 : ∀ W, (do eqGuard .add 9 (.const (.string ⟨#[76, 80]⟩)) (.tmp 13) (.string ⟨#[76, 80]⟩) (S B1); binOp .add 9 (.string ⟨#[76, 80]⟩) (S B1)).run Tryz.prog W = .ok (S ([76, 80] ++ B1)) W)
    (r5 : ∀ c L W, Wd c L W → L 5 = false → L 4 = true → (Instr.loadAt 22 (.pointer (some ⟨X, 0 + 3, none⟩))).run Tryz.prog W = .ok (.slice aa n cap) W)
    (r7 : ∀ c L W, Wd c L W → L 7 = false → L 6 = true → Calls Tryz.prog 59 #[(.int .i64 1), (.int .i64 (n : Int))] W fun eg w' => ∃ c', (∀ j, L j = true → vrpp4 X n cap aa k m b x B1 B2 B3 B4 B5 NU c' j = vrpp4 X n cap aa k m b x B1 B2 B3 B4 B5 NU c j) ∧ eg = .returned (vrpp4 X n cap aa k m b x B1 B2 B3 B4 B5 NU c' 7) ∧ Wd c' (upd L 7) w')
    (r8 : ∀ W, (do eqGuard .add 9 (.tmp 14) (.tmp 18) (S ([76, 80] ++ B1)) (S B2); binOp .add 9 (S ([76, 80] ++ B1)) (S B2)).run Tryz.prog W = .ok (S ([76, 80] ++ B1 ++ B2)) W)
    (r10 : ∀ c L W, Wd c L W → L 10 = false → L 9 = true → (Instr.loadAt 3 (.pointer (some ⟨X, 0 + 1, none⟩))).run Tryz.prog W = .ok (I m) W)
    (r11 : ∀ c L W, Wd c L W → L 11 = false → L 10 = true → Calls Tryz.prog 59 #[(.int .i64 4), (I m)] W fun eg w' => ∃ c', (∀ j, L j = true → vrpp4 X n cap aa k m b x B1 B2 B3 B4 B5 NU c' j = vrpp4 X n cap aa k m b x B1 B2 B3 B4 B5 NU c j) ∧ eg = .returned (vrpp4 X n cap aa k m b x B1 B2 B3 B4 B5 NU c' 11) ∧ Wd c' (upd L 11) w')
    (r12 : ∀ W, (do eqGuard .add 9 (.tmp 19) (.tmp 22) (S ([76, 80] ++ B1 ++ B2)) (S B3); binOp .add 9 (S ([76, 80] ++ B1 ++ B2)) (S B3)).run Tryz.prog W = .ok (S ([76, 80] ++ B1 ++ B2 ++ B3)) W)
    (r14 : ∀ c L W, Wd c L W → L 14 = false → L 13 = true → (Instr.loadAt 3 (.pointer (some ⟨X, 0 + 2, none⟩))).run Tryz.prog W = .ok (I b) W)
    (r15 : ∀ c L W, Wd c L W → L 15 = false → L 14 = true → Calls Tryz.prog 59 #[(.int .i64 8), (I b)] W fun eg w' => ∃ c', (∀ j, L j = true → vrpp4 X n cap aa k m b x B1 B2 B3 B4 B5 NU c' j = vrpp4 X n cap aa k m b x B1 B2 B3 B4 B5 NU c j) ∧ eg = .returned (vrpp4 X n cap aa k m b x B1 B2 B3 B4 B5 NU c' 15) ∧ Wd c' (upd L 15) w')
    (r16 : ∀ W, (do eqGuard .add 9 (.tmp 23) (.tmp 26) (S ([76, 80] ++ B1 ++ B2 ++ B3)) (S B4); binOp .add 9 (S ([76, 80] ++ B1 ++ B2 ++ B3)) (S B4)).run Tryz.prog W = .ok (S ([76, 80] ++ B1 ++ B2 ++ B3 ++ B4)) W)
    (r18 : ∀ c L W, Wd c L W → L 18 = false → L 17 = true → (Instr.loadAt 9 (.pointer (some ⟨X, 0 + 4, none⟩))).run Tryz.prog W = .ok (S x) W)
    (r20 : ∀ c L W, Wd c L W → L 20 = false → L 19 = true → Calls Tryz.prog 59 #[(.int .i64 2), (.int .i64 (x.length : Int))] W fun eg w' => ∃ c', (∀ j, L j = true → vrpp4 X n cap aa k m b x B1 B2 B3 B4 B5 NU c' j = vrpp4 X n cap aa k m b x B1 B2 B3 B4 B5 NU c j) ∧ eg = .returned (vrpp4 X n cap aa k m b x B1 B2 B3 B4 B5 NU c' 20) ∧ Wd c' (upd L 20) w')
    (r21 : ∀ W, (do eqGuard .add 9 (.tmp 27) (.tmp 31) (S ([76, 80] ++ B1 ++ B2 ++ B3 ++ B4)) (S B5); binOp .add 9 (S ([76, 80] ++ B1 ++ B2 ++ B3 ++ B4)) (S B5)).run Tryz.prog W = .ok (S ([76, 80] ++ B1 ++ B2 ++ B3 ++ B4 ++ B5)) W)
    (r22 : ∀ c L W, Wd c L W → L 22 = false → Calls Tryz.prog 60 #[(.int .i64 2)] W fun eg w' => ∃ c', (∀ j, L j = true → vrpp4 X n cap aa k m b x B1 B2 B3 B4 B5 NU c' j = vrpp4 X n cap aa k m b x B1 B2 B3 B4 B5 NU c j) ∧ eg = .returned (vrpp4 X n cap aa k m b x B1 B2 B3 B4 B5 NU c' 22) ∧ Wd c' (upd L 22) w')
    (r23 : ∀ W, (do eqGuard .add 9 (.tmp 32) (.tmp 33) (S ([76, 80] ++ B1 ++ B2 ++ B3 ++ B4 ++ B5)) (S NU); binOp .add 9 (S ([76, 80] ++ B1 ++ B2 ++ B3 ++ B4 ++ B5)) (S NU)).run Tryz.prog W = .ok (S ([76, 80] ++ B1 ++ B2 ++ B3 ++ B4 ++ B5 ++ NU)) W)
    (hend : ∀ c L W, (∀ i, i < 25 → L i = true) → Wd c L W → Q .normal (((((((((((((((((((((((((a0.put (some 11) (.pointer (some ⟨X, 0 + 0, none⟩))).put (some 12) (I k)).put (some 13) (S B1)).put (some 14) (S ([76, 80] ++ B1))).put (some 15) (.pointer (some ⟨X, 0 + 3, none⟩))).put (some 16) (.slice aa n cap)).put (some 17) (.int .i64 (n : Int))).put (some 18) (S B2)).put (some 19) (S ([76, 80] ++ B1 ++ B2))).put (some 20) (.pointer (some ⟨X, 0 + 1, none⟩))).put (some 21) (I m)).put (some 22) (S B3)).put (some 23) (S ([76, 80] ++ B1 ++ B2 ++ B3))).put (some 24) (.pointer (some ⟨X, 0 + 2, none⟩))).put (some 25) (I b)).put (some 26) (S B4)).put (some 27) (S ([76, 80] ++ B1 ++ B2 ++ B3 ++ B4))).put (some 28) (.pointer (some ⟨X, 0 + 4, none⟩))).put (some 29) (S x)).put (some 30) (.int .i64 (x.length : Int))).put (some 31) (S B5)).put (some 32) (S ([76, 80] ++ B1 ++ B2 ++ B3 ++ B4 ++ B5))).put (some 33) (S NU)).put (some 34) (S ([76, 80] ++ B1 ++ B2 ++ B3 ++ B4 ++ B5 ++ NU))).put (some 5) (S ([76, 80] ++ B1 ++ B2 ++ B3 ++ B4 ++ B5 ++ NU))) W) : (Code.region id ops true).wp Tryz.prog Q a0 w := by
  let val : Unit → Nat → Value := vrpp4 X n cap aa k m b x B1 B2 B3 B4 B5 NU
  have hosz : ops.size = 25 := by
    have := congrArg List.length htab
    simpa [rpp4T] using this
  have hds : ∀ i s, (rpp4T[i]?).bind (·.2.1) = some s → dstOf ops i = some s := fun i s hi => by rw [tab_dst htab, hi]
  have hdisB : disL rpp4T = true := by rfl
  have hdis := disL_of htab hdisB
  have hold : ∀ s, rpp4T.all (fun x => !(x.2.1 == some s)) = true → (List.range ops.size).all (fun j => !(dstOf ops j == some s)) = true := fun s h => holdL htab s h
  refine region_detX val Wd (hac_of hac) hdis h0 ?_ ?_
  rotate_left
  · intro c L W hall hW
    have := hend c L W (by rw [← hosz]; exact hall) hW
    have e : frm ops a0 (val c) (fun _ => true) ops.size = (((((((((((((((((((((((((a0.put (some 11) (.pointer (some ⟨X, 0 + 0, none⟩))).put (some 12) (I k)).put (some 13) (S B1)).put (some 14) (S ([76, 80] ++ B1))).put (some 15) (.pointer (some ⟨X, 0 + 3, none⟩))).put (some 16) (.slice aa n cap)).put (some 17) (.int .i64 (n : Int))).put (some 18) (S B2)).put (some 19) (S ([76, 80] ++ B1 ++ B2))).put (some 20) (.pointer (some ⟨X, 0 + 1, none⟩))).put (some 21) (I m)).put (some 22) (S B3)).put (some 23) (S ([76, 80] ++ B1 ++ B2 ++ B3))).put (some 24) (.pointer (some ⟨X, 0 + 2, none⟩))).put (some 25) (I b)).put (some 26) (S B4)).put (some 27) (S ([76, 80] ++ B1 ++ B2 ++ B3 ++ B4))).put (some 28) (.pointer (some ⟨X, 0 + 4, none⟩))).put (some 29) (S x)).put (some 30) (.int .i64 (x.length : Int))).put (some 31) (S B5)).put (some 32) (S ([76, 80] ++ B1 ++ B2 ++ B3 ++ B4 ++ B5))).put (some 33) (S NU)).put (some 34) (S ([76, 80] ++ B1 ++ B2 ++ B3 ++ B4 ++ B5 ++ NU))).put (some 5) (S ([76, 80] ++ B1 ++ B2 ++ B3 ++ B4 ++ B5 ++ NU))) := by
      rw [hosz]
      simp only [frm, if_true]
      rw [tab_dst htab 0, tab_dst htab 1, tab_dst htab 2, tab_dst htab 3, tab_dst htab 4, tab_dst htab 5, tab_dst htab 6, tab_dst htab 7, tab_dst htab 8, tab_dst htab 9, tab_dst htab 10, tab_dst htab 11, tab_dst htab 12, tab_dst htab 13, tab_dst htab 14, tab_dst htab 15, tab_dst htab 16, tab_dst htab 17, tab_dst htab 18, tab_dst htab 19, tab_dst htab 20, tab_dst htab 21, tab_dst htab 22, tab_dst htab 23, tab_dst htab 24]
      rfl
    rw [e]
    exact this
  intro i o ho c L a w' hL hd ha hW
  have hi : i < 25 := by rw [← hosz]; exact (Array.getElem?_eq_some_iff.1 ho).1
  match i, ho, hL, hi with
  | 0, ho, hL, _ =>
    obtain ⟨hop, hdst, hgd⟩ := tab_at htab ho (show rpp4T[0]? = _ from rfl)
    simp only at hop hgd
    have h0 := frm_old (val := val c) ha 1 _ (hold 1 rfl) o1
    exact doesX_of (doesL_run ho (wanted_none hgd) (hpure 0 (by decide) c L w' hW) (g_field hop (eval_of h0) (by kernel_rfl)))
  | 1, ho, hL, _ =>
    obtain ⟨hop, hdst, hgd⟩ := tab_at htab ho (show rpp4T[1]? = _ from rfl)
    simp only at hop hgd
    have h0 := frm_at (val := val c) hdis ha 0 11 (hds 0 11 rfl) (by omega) (depl_of hdep 1 0 (by decide) ho hd)
    exact doesX_of (doesL_run ho (wanted_none hgd) (hpure 1 (by decide) c L w' hW) (g_load hop (eval_of h0) (r1 c L w' hW hL (depl_of hdep 1 0 (by decide) ho hd))))
  | 2, ho, hL, _ =>
    obtain ⟨hop, hdst, hgd⟩ := tab_at htab ho (show rpp4T[2]? = _ from rfl)
    simp only at hop hgd
    have h1 := frm_at (val := val c) hdis ha 1 12 (hds 1 12 rfl) (by omega) (depl_of hdep 2 1 (by decide) ho hd)
    refine doesX_call ho (wanted_none hgd) 59 #[(.int .i64 1), (I k)] ?_ (r2 c L w' hW hL (depl_of hdep 2 1 (by decide) ho hd))
    rw [run_calls Tryz.func59 (by kernel_rfl) rfl _ _ _ _ hop rfl]
    simp only [List.map_toArray, List.map_cons, List.map_nil, eval_of h1]
    all_goals rfl
  | 3, ho, hL, _ =>
    obtain ⟨hop, hdst, hgd⟩ := tab_at htab ho (show rpp4T[3]? = _ from rfl)
    simp only at hop hgd
    have h1 := frm_at (val := val c) hdis ha 2 13 (hds 2 13 rfl) (by omega) (depl_of hdep 3 2 (by decide) ho hd)
    exact doesX_of (doesL_run ho (wanted_none hgd) (hpure 3 (by decide) c L w' hW) (g_bin hop rfl (eval_of h1) (r3 w')))
  | 4, ho, hL, _ =>
    obtain ⟨hop, hdst, hgd⟩ := tab_at htab ho (show rpp4T[4]? = _ from rfl)
    simp only at hop hgd
    have h0 := frm_old (val := val c) ha 1 _ (hold 1 rfl) o1
    exact doesX_of (doesL_run ho (wanted_none hgd) (hpure 4 (by decide) c L w' hW) (g_field hop (eval_of h0) (by kernel_rfl)))
  | 5, ho, hL, _ =>
    obtain ⟨hop, hdst, hgd⟩ := tab_at htab ho (show rpp4T[5]? = _ from rfl)
    simp only at hop hgd
    have h0 := frm_at (val := val c) hdis ha 4 15 (hds 4 15 rfl) (by omega) (depl_of hdep 5 4 (by decide) ho hd)
    exact doesX_of (doesL_run ho (wanted_none hgd) (hpure 5 (by decide) c L w' hW) (g_load hop (eval_of h0) (r5 c L w' hW hL (depl_of hdep 5 4 (by decide) ho hd))))
  | 6, ho, hL, _ =>
    obtain ⟨hop, hdst, hgd⟩ := tab_at htab ho (show rpp4T[6]? = _ from rfl)
    simp only at hop hgd
    have h0 := frm_at (val := val c) hdis ha 5 16 (hds 5 16 rfl) (by omega) (depl_of hdep 6 5 (by decide) ho hd)
    exact doesX_of (doesL_run ho (wanted_none hgd) (hpure 6 (by decide) c L w' hW) (run_len22 _ _ _ hop _ _ _ (eval_of h0) _))
  | 7, ho, hL, _ =>
    obtain ⟨hop, hdst, hgd⟩ := tab_at htab ho (show rpp4T[7]? = _ from rfl)
    simp only at hop hgd
    have h1 := frm_at (val := val c) hdis ha 6 17 (hds 6 17 rfl) (by omega) (depl_of hdep 7 6 (by decide) ho hd)
    refine doesX_call ho (wanted_none hgd) 59 #[(.int .i64 1), (.int .i64 (n : Int))] ?_ (r7 c L w' hW hL (depl_of hdep 7 6 (by decide) ho hd))
    rw [run_calls Tryz.func59 (by kernel_rfl) rfl _ _ _ _ hop rfl]
    simp only [List.map_toArray, List.map_cons, List.map_nil, eval_of h1]
    all_goals rfl
  | 8, ho, hL, _ =>
    obtain ⟨hop, hdst, hgd⟩ := tab_at htab ho (show rpp4T[8]? = _ from rfl)
    simp only at hop hgd
    have h0 := frm_at (val := val c) hdis ha 3 14 (hds 3 14 rfl) (by omega) (depl_of hdep 8 3 (by decide) ho hd)
    have h1 := frm_at (val := val c) hdis ha 7 18 (hds 7 18 rfl) (by omega) (depl_of hdep 8 7 (by decide) ho hd)
    exact doesX_of (doesL_run ho (wanted_none hgd) (hpure 8 (by decide) c L w' hW) (g_bin hop (eval_of h0) (eval_of h1) (r8 w')))
  | 9, ho, hL, _ =>
    obtain ⟨hop, hdst, hgd⟩ := tab_at htab ho (show rpp4T[9]? = _ from rfl)
    simp only at hop hgd
    have h0 := frm_old (val := val c) ha 1 _ (hold 1 rfl) o1
    exact doesX_of (doesL_run ho (wanted_none hgd) (hpure 9 (by decide) c L w' hW) (g_field hop (eval_of h0) (by kernel_rfl)))
  | 10, ho, hL, _ =>
    obtain ⟨hop, hdst, hgd⟩ := tab_at htab ho (show rpp4T[10]? = _ from rfl)
    simp only at hop hgd
    have h0 := frm_at (val := val c) hdis ha 9 20 (hds 9 20 rfl) (by omega) (depl_of hdep 10 9 (by decide) ho hd)
    exact doesX_of (doesL_run ho (wanted_none hgd) (hpure 10 (by decide) c L w' hW) (g_load hop (eval_of h0) (r10 c L w' hW hL (depl_of hdep 10 9 (by decide) ho hd))))
  | 11, ho, hL, _ =>
    obtain ⟨hop, hdst, hgd⟩ := tab_at htab ho (show rpp4T[11]? = _ from rfl)
    simp only at hop hgd
    have h1 := frm_at (val := val c) hdis ha 10 21 (hds 10 21 rfl) (by omega) (depl_of hdep 11 10 (by decide) ho hd)
    refine doesX_call ho (wanted_none hgd) 59 #[(.int .i64 4), (I m)] ?_ (r11 c L w' hW hL (depl_of hdep 11 10 (by decide) ho hd))
    rw [run_calls Tryz.func59 (by kernel_rfl) rfl _ _ _ _ hop rfl]
    simp only [List.map_toArray, List.map_cons, List.map_nil, eval_of h1]
    all_goals rfl
  | 12, ho, hL, _ =>
    obtain ⟨hop, hdst, hgd⟩ := tab_at htab ho (show rpp4T[12]? = _ from rfl)
    simp only at hop hgd
    have h0 := frm_at (val := val c) hdis ha 8 19 (hds 8 19 rfl) (by omega) (depl_of hdep 12 8 (by decide) ho hd)
    have h1 := frm_at (val := val c) hdis ha 11 22 (hds 11 22 rfl) (by omega) (depl_of hdep 12 11 (by decide) ho hd)
    exact doesX_of (doesL_run ho (wanted_none hgd) (hpure 12 (by decide) c L w' hW) (g_bin hop (eval_of h0) (eval_of h1) (r12 w')))
  | 13, ho, hL, _ =>
    obtain ⟨hop, hdst, hgd⟩ := tab_at htab ho (show rpp4T[13]? = _ from rfl)
    simp only at hop hgd
    have h0 := frm_old (val := val c) ha 1 _ (hold 1 rfl) o1
    exact doesX_of (doesL_run ho (wanted_none hgd) (hpure 13 (by decide) c L w' hW) (g_field hop (eval_of h0) (by kernel_rfl)))
  | 14, ho, hL, _ =>
    obtain ⟨hop, hdst, hgd⟩ := tab_at htab ho (show rpp4T[14]? = _ from rfl)
    simp only at hop hgd
    have h0 := frm_at (val := val c) hdis ha 13 24 (hds 13 24 rfl) (by omega) (depl_of hdep 14 13 (by decide) ho hd)
    exact doesX_of (doesL_run ho (wanted_none hgd) (hpure 14 (by decide) c L w' hW) (g_load hop (eval_of h0) (r14 c L w' hW hL (depl_of hdep 14 13 (by decide) ho hd))))
  | 15, ho, hL, _ =>
    obtain ⟨hop, hdst, hgd⟩ := tab_at htab ho (show rpp4T[15]? = _ from rfl)
    simp only at hop hgd
    have h1 := frm_at (val := val c) hdis ha 14 25 (hds 14 25 rfl) (by omega) (depl_of hdep 15 14 (by decide) ho hd)
    refine doesX_call ho (wanted_none hgd) 59 #[(.int .i64 8), (I b)] ?_ (r15 c L w' hW hL (depl_of hdep 15 14 (by decide) ho hd))
    rw [run_calls Tryz.func59 (by kernel_rfl) rfl _ _ _ _ hop rfl]
    simp only [List.map_toArray, List.map_cons, List.map_nil, eval_of h1]
    all_goals rfl
  | 16, ho, hL, _ =>
    obtain ⟨hop, hdst, hgd⟩ := tab_at htab ho (show rpp4T[16]? = _ from rfl)
    simp only at hop hgd
    have h0 := frm_at (val := val c) hdis ha 12 23 (hds 12 23 rfl) (by omega) (depl_of hdep 16 12 (by decide) ho hd)
    have h1 := frm_at (val := val c) hdis ha 15 26 (hds 15 26 rfl) (by omega) (depl_of hdep 16 15 (by decide) ho hd)
    exact doesX_of (doesL_run ho (wanted_none hgd) (hpure 16 (by decide) c L w' hW) (g_bin hop (eval_of h0) (eval_of h1) (r16 w')))
  | 17, ho, hL, _ =>
    obtain ⟨hop, hdst, hgd⟩ := tab_at htab ho (show rpp4T[17]? = _ from rfl)
    simp only at hop hgd
    have h0 := frm_old (val := val c) ha 1 _ (hold 1 rfl) o1
    exact doesX_of (doesL_run ho (wanted_none hgd) (hpure 17 (by decide) c L w' hW) (g_field hop (eval_of h0) (by kernel_rfl)))
  | 18, ho, hL, _ =>
    obtain ⟨hop, hdst, hgd⟩ := tab_at htab ho (show rpp4T[18]? = _ from rfl)
    simp only at hop hgd
    have h0 := frm_at (val := val c) hdis ha 17 28 (hds 17 28 rfl) (by omega) (depl_of hdep 18 17 (by decide) ho hd)
    exact doesX_of (doesL_run ho (wanted_none hgd) (hpure 18 (by decide) c L w' hW) (g_load hop (eval_of h0) (r18 c L w' hW hL (depl_of hdep 18 17 (by decide) ho hd))))
  | 19, ho, hL, _ =>
    obtain ⟨hop, hdst, hgd⟩ := tab_at htab ho (show rpp4T[19]? = _ from rfl)
    simp only at hop hgd
    have h0 := frm_at (val := val c) hdis ha 18 29 (hds 18 29 rfl) (by omega) (depl_of hdep 19 18 (by decide) ho hd)
    exact doesX_of (doesL_run ho (wanted_none hgd) (hpure 19 (by decide) c L w' hW) (run_len _ _ _ hop _ (eval_of h0) _))
  | 20, ho, hL, _ =>
    obtain ⟨hop, hdst, hgd⟩ := tab_at htab ho (show rpp4T[20]? = _ from rfl)
    simp only at hop hgd
    have h1 := frm_at (val := val c) hdis ha 19 30 (hds 19 30 rfl) (by omega) (depl_of hdep 20 19 (by decide) ho hd)
    refine doesX_call ho (wanted_none hgd) 59 #[(.int .i64 2), (.int .i64 (x.length : Int))] ?_ (r20 c L w' hW hL (depl_of hdep 20 19 (by decide) ho hd))
    rw [run_calls Tryz.func59 (by kernel_rfl) rfl _ _ _ _ hop rfl]
    simp only [List.map_toArray, List.map_cons, List.map_nil, eval_of h1]
    all_goals rfl
  | 21, ho, hL, _ =>
    obtain ⟨hop, hdst, hgd⟩ := tab_at htab ho (show rpp4T[21]? = _ from rfl)
    simp only at hop hgd
    have h0 := frm_at (val := val c) hdis ha 16 27 (hds 16 27 rfl) (by omega) (depl_of hdep 21 16 (by decide) ho hd)
    have h1 := frm_at (val := val c) hdis ha 20 31 (hds 20 31 rfl) (by omega) (depl_of hdep 21 20 (by decide) ho hd)
    exact doesX_of (doesL_run ho (wanted_none hgd) (hpure 21 (by decide) c L w' hW) (g_bin hop (eval_of h0) (eval_of h1) (r21 w')))
  | 22, ho, hL, _ =>
    obtain ⟨hop, hdst, hgd⟩ := tab_at htab ho (show rpp4T[22]? = _ from rfl)
    simp only at hop hgd
    refine doesX_call ho (wanted_none hgd) 60 #[(.int .i64 2)] ?_ (r22 c L w' hW hL)
    rw [run_calls Tryz.func60 (by kernel_rfl) rfl _ _ _ _ hop rfl]
    simp only [List.map_toArray, List.map_cons, List.map_nil]
    all_goals rfl
  | 23, ho, hL, _ =>
    obtain ⟨hop, hdst, hgd⟩ := tab_at htab ho (show rpp4T[23]? = _ from rfl)
    simp only at hop hgd
    have h0 := frm_at (val := val c) hdis ha 21 32 (hds 21 32 rfl) (by omega) (depl_of hdep 23 21 (by decide) ho hd)
    have h1 := frm_at (val := val c) hdis ha 22 33 (hds 22 33 rfl) (by omega) (depl_of hdep 23 22 (by decide) ho hd)
    exact doesX_of (doesL_run ho (wanted_none hgd) (hpure 23 (by decide) c L w' hW) (g_bin hop (eval_of h0) (eval_of h1) (r23 w')))
  | 24, ho, hL, _ =>
    obtain ⟨hop, hdst, hgd⟩ := tab_at htab ho (show rpp4T[24]? = _ from rfl)
    simp only at hop hgd
    have h0 := frm_at (val := val c) hdis ha 23 34 (hds 23 34 rfl) (by omega) (depl_of hdep 24 23 (by decide) ho hd)
    exact doesX_of (doesL_run ho (wanted_none hgd) (hpure 24 (by decide) c L w' hW) (by rw [run_assign _ _ _ hop]; exact congrArg (fun v => Result.ok (Next.value v) w') (eval_of h0)))
  | (i + 25), ho, hL, hi => exact absurd hi (by omega)
def vrpg4 (s : Bs) (n1 n2 n3 : Int) (c : Nat) (i : Nat) : Value := match i with
  | 0 => (S s)
  | 1 => (S ((s.drop 2).take 1))
  | 2 => (I n1)
  | 3 => (S s)
  | 4 => (S ((s.drop 4).take 4))
  | 5 => (I n2)
  | 6 => (S s)
  | 7 => (S ((s.drop 8).take 8))
  | 8 => (I n3)
  | 9 => (.agg #[I n1, I n2, I n3, .slice none 0 0, .string ⟨#[]⟩])
  | 10 => (.pointer (some ⟨c, 0, none⟩))
  | 11 => undef
  | _ => undef
def rpg4T : List (Op × Option Tmp × Option (Nat × Bool)) := [
  (.move (.tmp 0), some 16, none),
  (.slice 9 (.tmp 16) (some (.const (.int .i64 2))) (some (.const (.int .i64 3))) none, some 17, none),
  (.call { callee := .value (.func 137), args := #[(.tmp 17)], argTypes := #[9] }, some 18, none),
  (.move (.tmp 0), some 19, none),
  (.slice 9 (.tmp 19) (some (.const (.int .i64 4))) (some (.const (.int .i64 8))) none, some 20, none),
  (.call { callee := .value (.func 137), args := #[(.tmp 20)], argTypes := #[9] }, some 21, none),
  (.move (.tmp 0), some 22, none),
  (.slice 9 (.tmp 22) (some (.const (.int .i64 8))) (some (.const (.int .i64 16))) none, some 23, none),
  (.call { callee := .value (.func 137), args := #[(.tmp 23)], argTypes := #[9] }, some 24, none),
  (.build 24 #[(0, (.tmp 18)), (1, (.tmp 21)), (2, (.tmp 24))], some 25, none),
  (.alloc 24, some 5, none),
  (.store 24 (.tmp 5) (.tmp 25), none, none)]
def rpg4D : List (Nat × Nat) := [(1, 0), (2, 1), (4, 3), (5, 4), (7, 6), (8, 7), (9, 2), (9, 5), (9, 8), (11, 9), (11, 10)]
set_option maxHeartbeats 4000000 in
theorem rpg4 {ops : Array Oper} {id : Nat} {Q : Exit → Act → World → Prop} (s : Bs) (n1 n2 n3 : Int) (htab : ops.toList.map (fun o => (o.op, o.dst, o.guard)) = rpg4T) (hdep : deplB rpg4D ops = true) (hac : acB ops = true)
    (a0 : Act) (w : World) (hsz : 26 ≤ a0.tmps.size) (o0 : a0.tmps[0]? = some (S s))
    (Wd : Nat → (Nat → Bool) → World → Prop) (h0 : ∃ c, Wd c (fun _ => false) w.drew) (hpure : ∀ i, i ∉ ([2, 5, 8, 10, 11] : List Nat) → ∀ c L W, Wd c L W → Wd c (upd L i) W)
    (r1 : ∀ W, (Instr.sliceAt 9 (S s) (some (.int .i64 2)) (some (.int .i64 3)) none).run Tryz.prog W = .ok (S ((s.drop 2).take 1)) W)
    (r2 : ∀ c L W, Wd c L W → L 2 = false → L 1 = true → Calls Tryz.prog 137 #[(S ((s.drop 2).take 1))] W fun eg w' => ∃ c', (∀ j, L j = true → vrpg4 s n1 n2 n3 c' j = vrpg4 s n1 n2 n3 c j) ∧ eg = .returned (vrpg4 s n1 n2 n3 c' 2) ∧ Wd c' (upd L 2) w')
    (r4 : ∀ W, (Instr.sliceAt 9 (S s) (some (.int .i64 4)) (some (.int .i64 8)) none).run Tryz.prog W = .ok (S ((s.drop 4).take 4)) W)
    (r5 : ∀ c L W, Wd c L W → L 5 = false → L 4 = true → Calls Tryz.prog 137 #[(S ((s.drop 4).take 4))] W fun eg w' => ∃ c', (∀ j, L j = true → vrpg4 s n1 n2 n3 c' j = vrpg4 s n1 n2 n3 c j) ∧ eg = .returned (vrpg4 s n1 n2 n3 c' 5) ∧ Wd c' (upd L 5) w')
    (r7 : ∀ W, (Instr.sliceAt 9 (S s) (some (.int .i64 8)) (some (.int .i64 16)) none).run Tryz.prog W = .ok (S ((s.drop 8).take 8)) W)
    (r8 : ∀ c L W, Wd c L W → L 8 = false → L 7 = true → Calls Tryz.prog 137 #[(S ((s.drop 8).take 8))] W fun eg w' => ∃ c', (∀ j, L j = true → vrpg4 s n1 n2 n3 c' j = vrpg4 s n1 n2 n3 c j) ∧ eg = .returned (vrpg4 s n1 n2 n3 c' 8) ∧ Wd c' (upd L 8) w')
    (r9 : ∀ W, (Instr.build 24 #[(0, (I n1)), (1, (I n2)), (2, (I n3))]).run Tryz.prog W = .ok (.agg #[I n1, I n2, I n3, .slice none 0 0, .string ⟨#[]⟩]) W)
    (r10 : ∀ c L W, Wd c L W → L 10 = false → ∃ c' W', (∀ j, L j = true → vrpg4 s n1 n2 n3 c' j = vrpg4 s n1 n2 n3 c j) ∧ (Instr.alloc 24 true (.tuple #[])).run Tryz.prog W = .ok (vrpg4 s n1 n2 n3 c' 10) W' ∧ Wd c' (upd L 10) W')
    (r11 : ∀ c L W, Wd c L W → L 11 = false → L 9 = true → L 10 = true → ∃ W', (Instr.storeAt 24 (.pointer (some ⟨c, 0, none⟩)) (.agg #[I n1, I n2, I n3, .slice none 0 0, .string ⟨#[]⟩])).run Tryz.prog W = .ok () W' ∧ Wd c (upd L 11) W')
    (hend : ∀ c L W, (∀ i, i < 12 → L i = true) → Wd c L W → Q .normal (((((((((((a0.put (some 16) (S s)).put (some 17) (S ((s.drop 2).take 1))).put (some 18) (I n1)).put (some 19) (S s)).put (some 20) (S ((s.drop 4).take 4))).put (some 21) (I n2)).put (some 22) (S s)).put (some 23) (S ((s.drop 8).take 8))).put (some 24) (I n3)).put (some 25) (.agg #[I n1, I n2, I n3, .slice none 0 0, .string ⟨#[]⟩])).put (some 5) (.pointer (some ⟨c, 0, none⟩))) W) : (Code.region id ops true).wp Tryz.prog Q a0 w := by
  let val : Nat → Nat → Value := vrpg4 s n1 n2 n3
  have hosz : ops.size = 12 := by
    have := congrArg List.length htab
    simpa [rpg4T] using this
  have hds : ∀ i s, (rpg4T[i]?).bind (·.2.1) = some s → dstOf ops i = some s := fun i s hi => by rw [tab_dst htab, hi]
  have hdisB : disL rpg4T = true := by rfl
  have hdis := disL_of htab hdisB
  have hold : ∀ s, rpg4T.all (fun x => !(x.2.1 == some s)) = true → (List.range ops.size).all (fun j => !(dstOf ops j == some s)) = true := fun s h => holdL htab s h
  refine region_detX val Wd (hac_of hac) hdis h0 ?_ ?_
  rotate_left
  · intro c L W hall hW
    have := hend c L W (by rw [← hosz]; exact hall) hW
    have e : frm ops a0 (val c) (fun _ => true) ops.size = (((((((((((a0.put (some 16) (S s)).put (some 17) (S ((s.drop 2).take 1))).put (some 18) (I n1)).put (some 19) (S s)).put (some 20) (S ((s.drop 4).take 4))).put (some 21) (I n2)).put (some 22) (S s)).put (some 23) (S ((s.drop 8).take 8))).put (some 24) (I n3)).put (some 25) (.agg #[I n1, I n2, I n3, .slice none 0 0, .string ⟨#[]⟩])).put (some 5) (.pointer (some ⟨c, 0, none⟩))) := by
      rw [hosz]
      simp only [frm, if_true]
      rw [tab_dst htab 0, tab_dst htab 1, tab_dst htab 2, tab_dst htab 3, tab_dst htab 4, tab_dst htab 5, tab_dst htab 6, tab_dst htab 7, tab_dst htab 8, tab_dst htab 9, tab_dst htab 10, (show dstOf ops 11 = none from (tab_dst htab 11).trans rfl), put_none]
      rfl
    rw [e]
    exact this
  intro i o ho c L a w' hL hd ha hW
  have hi : i < 12 := by rw [← hosz]; exact (Array.getElem?_eq_some_iff.1 ho).1
  match i, ho, hL, hi with
  | 0, ho, hL, _ =>
    obtain ⟨hop, hdst, hgd⟩ := tab_at htab ho (show rpg4T[0]? = _ from rfl)
    simp only at hop hgd
    have h0 := frm_old (val := val c) ha 0 _ (hold 0 rfl) o0
    exact doesX_of (doesL_run ho (wanted_none hgd) (hpure 0 (by decide) c L w' hW) (by rw [run_move _ _ _ hop]; exact congrArg (fun v => Result.ok (Next.value v) w') (eval_of h0)))
  | 1, ho, hL, _ =>
    obtain ⟨hop, hdst, hgd⟩ := tab_at htab ho (show rpg4T[1]? = _ from rfl)
    simp only at hop hgd
    have h0 := frm_at (val := val c) hdis ha 0 16 (hds 0 16 rfl) (by omega) (depl_of hdep 1 0 (by decide) ho hd)
    exact doesX_of (doesL_run ho (wanted_none hgd) (hpure 1 (by decide) c L w' hW) (g_sl hop (eval_of h0) (congrArg some rfl) (congrArg some rfl) rfl (r1 w')))
  | 2, ho, hL, _ =>
    obtain ⟨hop, hdst, hgd⟩ := tab_at htab ho (show rpg4T[2]? = _ from rfl)
    simp only at hop hgd
    have h0 := frm_at (val := val c) hdis ha 1 17 (hds 1 17 rfl) (by omega) (depl_of hdep 2 1 (by decide) ho hd)
    refine doesX_call ho (wanted_none hgd) 137 #[(S ((s.drop 2).take 1))] ?_ (r2 c L w' hW hL (depl_of hdep 2 1 (by decide) ho hd))
    rw [run_calls Tryz.func137 (by kernel_rfl) rfl _ _ _ _ hop rfl]
    simp only [List.map_toArray, List.map_cons, List.map_nil, eval_of h0]
    all_goals rfl
  | 3, ho, hL, _ =>
    obtain ⟨hop, hdst, hgd⟩ := tab_at htab ho (show rpg4T[3]? = _ from rfl)
    simp only at hop hgd
    have h0 := frm_old (val := val c) ha 0 _ (hold 0 rfl) o0
    exact doesX_of (doesL_run ho (wanted_none hgd) (hpure 3 (by decide) c L w' hW) (by rw [run_move _ _ _ hop]; exact congrArg (fun v => Result.ok (Next.value v) w') (eval_of h0)))
  | 4, ho, hL, _ =>
    obtain ⟨hop, hdst, hgd⟩ := tab_at htab ho (show rpg4T[4]? = _ from rfl)
    simp only at hop hgd
    have h0 := frm_at (val := val c) hdis ha 3 19 (hds 3 19 rfl) (by omega) (depl_of hdep 4 3 (by decide) ho hd)
    exact doesX_of (doesL_run ho (wanted_none hgd) (hpure 4 (by decide) c L w' hW) (g_sl hop (eval_of h0) (congrArg some rfl) (congrArg some rfl) rfl (r4 w')))
  | 5, ho, hL, _ =>
    obtain ⟨hop, hdst, hgd⟩ := tab_at htab ho (show rpg4T[5]? = _ from rfl)
    simp only at hop hgd
    have h0 := frm_at (val := val c) hdis ha 4 20 (hds 4 20 rfl) (by omega) (depl_of hdep 5 4 (by decide) ho hd)
    refine doesX_call ho (wanted_none hgd) 137 #[(S ((s.drop 4).take 4))] ?_ (r5 c L w' hW hL (depl_of hdep 5 4 (by decide) ho hd))
    rw [run_calls Tryz.func137 (by kernel_rfl) rfl _ _ _ _ hop rfl]
    simp only [List.map_toArray, List.map_cons, List.map_nil, eval_of h0]
    all_goals rfl
  | 6, ho, hL, _ =>
    obtain ⟨hop, hdst, hgd⟩ := tab_at htab ho (show rpg4T[6]? = _ from rfl)
    simp only at hop hgd
    have h0 := frm_old (val := val c) ha 0 _ (hold 0 rfl) o0
    exact doesX_of (doesL_run ho (wanted_none hgd) (hpure 6 (by decide) c L w' hW) (by rw [run_move _ _ _ hop]; exact congrArg (fun v => Result.ok (Next.value v) w') (eval_of h0)))
  | 7, ho, hL, _ =>
    obtain ⟨hop, hdst, hgd⟩ := tab_at htab ho (show rpg4T[7]? = _ from rfl)
    simp only at hop hgd
    have h0 := frm_at (val := val c) hdis ha 6 22 (hds 6 22 rfl) (by omega) (depl_of hdep 7 6 (by decide) ho hd)
    exact doesX_of (doesL_run ho (wanted_none hgd) (hpure 7 (by decide) c L w' hW) (g_sl hop (eval_of h0) (congrArg some rfl) (congrArg some rfl) rfl (r7 w')))
  | 8, ho, hL, _ =>
    obtain ⟨hop, hdst, hgd⟩ := tab_at htab ho (show rpg4T[8]? = _ from rfl)
    simp only at hop hgd
    have h0 := frm_at (val := val c) hdis ha 7 23 (hds 7 23 rfl) (by omega) (depl_of hdep 8 7 (by decide) ho hd)
    refine doesX_call ho (wanted_none hgd) 137 #[(S ((s.drop 8).take 8))] ?_ (r8 c L w' hW hL (depl_of hdep 8 7 (by decide) ho hd))
    rw [run_calls Tryz.func137 (by kernel_rfl) rfl _ _ _ _ hop rfl]
    simp only [List.map_toArray, List.map_cons, List.map_nil, eval_of h0]
    all_goals rfl
  | 9, ho, hL, _ =>
    obtain ⟨hop, hdst, hgd⟩ := tab_at htab ho (show rpg4T[9]? = _ from rfl)
    simp only at hop hgd
    have h0 := frm_at (val := val c) hdis ha 2 18 (hds 2 18 rfl) (by omega) (depl_of hdep 9 2 (by decide) ho hd)
    have h1 := frm_at (val := val c) hdis ha 5 21 (hds 5 21 rfl) (by omega) (depl_of hdep 9 5 (by decide) ho hd)
    have h2 := frm_at (val := val c) hdis ha 8 24 (hds 8 24 rfl) (by omega) (depl_of hdep 9 8 (by decide) ho hd)
    exact doesX_of (doesL_run ho (wanted_none hgd) (hpure 9 (by decide) c L w' hW) (g_build hop (by simp only [List.map_toArray, List.map_cons, List.map_nil, eval_of h0, eval_of h1, eval_of h2]; first | done | rfl) (r9 w')))
  | 10, ho, hL, _ =>
    obtain ⟨hop, hdst, hgd⟩ := tab_at htab ho (show rpg4T[10]? = _ from rfl)
    simp only at hop hgd
    obtain ⟨c', W', q0, q1, q2⟩ := r10 c L w' hW hL
    exact doesX_runw ho (wanted_none hgd) c' q0 q2 (g_alloc hop q1)
  | 11, ho, hL, _ =>
    obtain ⟨hop, hdst, hgd⟩ := tab_at htab ho (show rpg4T[11]? = _ from rfl)
    simp only at hop hgd
    have h0 := frm_at (val := val c) hdis ha 10 5 (hds 10 5 rfl) (by omega) (depl_of hdep 11 10 (by decide) ho hd)
    have h1 := frm_at (val := val c) hdis ha 9 25 (hds 9 25 rfl) (by omega) (depl_of hdep 11 9 (by decide) ho hd)
    obtain ⟨W', q1, q2⟩ := r11 c L w' hW hL (depl_of hdep 11 9 (by decide) ho hd) (depl_of hdep 11 10 (by decide) ho hd)
    exact doesX_of (doesL_skp ho (wanted_none hgd) rfl q2 (g_store hop (eval_of h0) (eval_of h1) q1))
  | (i + 12), ho, hL, hi => exact absurd hi (by omega)
def vrpg12 (X n cap jj : Nat) (aa : Option Addr) (s : Bs) (z : Int) (c : Cav) (i : Nat) : Value := match i with
  | 0 => (.pointer (some ⟨X, 0 + 3, none⟩))
  | 1 => (.slice aa n cap)
  | 2 => (S s)
  | 3 => (.int .i64 (jj : Int))
  | 4 => (.int .i64 (4 * jj : Int))
  | 5 => (.int .i64 (20 + 4 * jj : Int))
  | 6 => (.int .i64 (jj : Int))
  | 7 => (.int .i64 (4 * jj : Int))
  | 8 => (.int .i64 (24 + 4 * jj : Int))
  | 9 => (S ((s.drop (20 + 4 * jj)).take 4))
  | 10 => (I z)
  | 11 => (.slice (some ⟨c.a, 0, none⟩) 1 1)
  | 12 => c.v
  | 13 => (.pointer (some ⟨X, 0 + 3, none⟩))
  | 14 => undef
  | _ => undef
def rpg12T : List (Op × Option Tmp × Option (Nat × Bool)) := [
  (.fieldAddr 24 (.tmp 5) 3, some 44, none),
  (.load 22 (.tmp 44), some 45, none),
  (.move (.tmp 0), some 46, none),
  (.move (.tmp 8), some 47, none),
  (.binOp .mul 3 (.const (.int .i64 4)) (.tmp 47) 3, some 48, none),
  (.binOp .add 3 (.const (.int .i64 20)) (.tmp 48) 3, some 49, none),
  (.move (.tmp 8), some 50, none),
  (.binOp .mul 3 (.const (.int .i64 4)) (.tmp 50) 3, some 51, none),
  (.binOp .add 3 (.const (.int .i64 24)) (.tmp 51) 3, some 52, none),
  (.slice 9 (.tmp 46) (some (.tmp 49)) (some (.tmp 52)) none, some 53, none),
  (.call { callee := .value (.func 137), args := #[(.tmp 53)], argTypes := #[9] }, some 54, none),
  (.buildSlice 22 1 #[(0, (.tmp 54))], some 55, none),
  (.call { callee := .builtin .append, args := #[(.tmp 45), (.tmp 55)], argTypes := #[22, 22] }, some 56, none),
  (.fieldAddr 24 (.tmp 5) 3, some 57, none),
  (.store 22 (.tmp 57) (.tmp 56), none, none)]
def rpg12D : List (Nat × Nat) := [(1, 0), (4, 3), (5, 4), (7, 6), (8, 7), (9, 2), (9, 5), (9, 8), (10, 9), (11, 10), (12, 1), (12, 11), (14, 12), (14, 13)]
set_option maxHeartbeats 4000000 in
theorem rpg12 {ops : Array Oper} {id : Nat} {Q : Exit → Act → World → Prop} (X n cap jj : Nat) (aa : Option Addr) (s : Bs) (z : Int) (htab : ops.toList.map (fun o => (o.op, o.dst, o.guard)) = rpg12T) (hdep : deplB rpg12D ops = true) (hac : acB ops = true)
    (a0 : Act) (w : World) (hsz : 58 ≤ a0.tmps.size) (o0 : a0.tmps[0]? = some (S s)) (o5 : a0.tmps[5]? = some (.pointer (some ⟨X, 0, none⟩))) (o8 : a0.tmps[8]? = some (.int .i64 (jj : Int)))
    (Wd : Cav → (Nat → Bool) → World → Prop) (h0 : ∃ c, Wd c (fun _ => false) w.drew) (hpure : ∀ i, i ∉ ([10, 11, 12, 14] : List Nat) → ∀ c L W, Wd c L W → Wd c (upd L i) W)
    (r1 : ∀ c L W, Wd c L W → L 1 = false → L 0 = true → (Instr.loadAt 22 (.pointer (some ⟨X, 0 + 3, none⟩))).run Tryz.prog W = .ok (.slice aa n cap) W)
    (r4 : ∀ W, (do eqGuard .mul 3 (.const (.int .i64 4)) (.tmp 47) (.int .i64 4) (.int .i64 (jj : Int)); binOp .mul 3 (.int .i64 4) (.int .i64 (jj : Int))).run Tryz.prog W = .ok (.int .i64 (4 * jj : Int)) W)
    (r5 : ∀ W, (do eqGuard .add 3 (.const (.int .i64 20)) (.tmp 48) (.int .i64 20) (.int .i64 (4 * jj : Int)); binOp .add 3 (.int .i64 20) (.int .i64 (4 * jj : Int))).run Tryz.prog W = .ok (.int .i64 (20 + 4 * jj : Int)) W)
    (r7 : ∀ W, (do eqGuard .mul 3 (.const (.int .i64 4)) (.tmp 50) (.int .i64 4) (.int .i64 (jj : Int)); binOp .mul 3 (.int .i64 4) (.int .i64 (jj : Int))).run Tryz.prog W = .ok (.int .i64 (4 * jj : Int)) W)
    (r8 : ∀ W, (do eqGuard .add 3 (.const (.int .i64 24)) (.tmp 51) (.int .i64 24) (.int .i64 (4 * jj : Int)); binOp .add 3 (.int .i64 24) (.int .i64 (4 * jj : Int))).run Tryz.prog W = .ok (.int .i64 (24 + 4 * jj : Int)) W)
    (r9 : ∀ W, (Instr.sliceAt 9 (S s) (some (.int .i64 (20 + 4 * jj : Int))) (some (.int .i64 (24 + 4 * jj : Int))) none).run Tryz.prog W = .ok (S ((s.drop (20 + 4 * jj)).take 4)) W)
    (r10 : ∀ c L W, Wd c L W → L 10 = false → L 9 = true → Calls Tryz.prog 137 #[(S ((s.drop (20 + 4 * jj)).take 4))] W fun eg w' => ∃ c', (∀ j, L j = true → vrpg12 X n cap jj aa s z c' j = vrpg12 X n cap jj aa s z c j) ∧ eg = .returned (vrpg12 X n cap jj aa s z c' 10) ∧ Wd c' (upd L 10) w')
    (r11 : ∀ c L W, Wd c L W → L 11 = false → L 10 = true → ∃ c' W', (∀ j, L j = true → vrpg12 X n cap jj aa s z c' j = vrpg12 X n cap jj aa s z c j) ∧ (Instr.buildSlice 22 1 #[(0, (I z))]).run Tryz.prog W = .ok (vrpg12 X n cap jj aa s z c' 11) W' ∧ Wd c' (upd L 11) W')
    (r12 : ∀ T, ∀ c L W, Wd c L W → L 12 = false → L 1 = true → L 11 = true → ∃ c' W', (∀ j, L j = true → vrpg12 X n cap jj aa s z c' j = vrpg12 X n cap jj aa s z c j) ∧ (Builtin.append_ #[22, 22] T #[(.slice aa n cap), (.slice (some ⟨c.a, 0, none⟩) 1 1)]).run Tryz.prog W = .ok (vrpg12 X n cap jj aa s z c' 12) W' ∧ Wd c' (upd L 12) W')
    (r14 : ∀ c L W, Wd c L W → L 14 = false → L 12 = true → L 13 = true → ∃ W', (Instr.storeAt 22 (.pointer (some ⟨X, 0 + 3, none⟩)) c.v).run Tryz.prog W = .ok () W' ∧ Wd c (upd L 14) W')
    (hend : ∀ c L W, (∀ i, i < 15 → L i = true) → Wd c L W → Q .normal ((((((((((((((a0.put (some 44) (.pointer (some ⟨X, 0 + 3, none⟩))).put (some 45) (.slice aa n cap)).put (some 46) (S s)).put (some 47) (.int .i64 (jj : Int))).put (some 48) (.int .i64 (4 * jj : Int))).put (some 49) (.int .i64 (20 + 4 * jj : Int))).put (some 50) (.int .i64 (jj : Int))).put (some 51) (.int .i64 (4 * jj : Int))).put (some 52) (.int .i64 (24 + 4 * jj : Int))).put (some 53) (S ((s.drop (20 + 4 * jj)).take 4))).put (some 54) (I z)).put (some 55) (.slice (some ⟨c.a, 0, none⟩) 1 1)).put (some 56) c.v).put (some 57) (.pointer (some ⟨X, 0 + 3, none⟩))) W) : (Code.region id ops true).wp Tryz.prog Q a0 w := by
  let val : Cav → Nat → Value := vrpg12 X n cap jj aa s z
  have hosz : ops.size = 15 := by
    have := congrArg List.length htab
    simpa [rpg12T] using this
  have hds : ∀ i s, (rpg12T[i]?).bind (·.2.1) = some s → dstOf ops i = some s := fun i s hi => by rw [tab_dst htab, hi]
  have hdisB : disL rpg12T = true := by rfl
  have hdis := disL_of htab hdisB
  have hold : ∀ s, rpg12T.all (fun x => !(x.2.1 == some s)) = true → (List.range ops.size).all (fun j => !(dstOf ops j == some s)) = true := fun s h => holdL htab s h
  refine region_detX val Wd (hac_of hac) hdis h0 ?_ ?_
  rotate_left
  · intro c L W hall hW
    have := hend c L W (by rw [← hosz]; exact hall) hW
    have e : frm ops a0 (val c) (fun _ => true) ops.size = ((((((((((((((a0.put (some 44) (.pointer (some ⟨X, 0 + 3, none⟩))).put (some 45) (.slice aa n cap)).put (some 46) (S s)).put (some 47) (.int .i64 (jj : Int))).put (some 48) (.int .i64 (4 * jj : Int))).put (some 49) (.int .i64 (20 + 4 * jj : Int))).put (some 50) (.int .i64 (jj : Int))).put (some 51) (.int .i64 (4 * jj : Int))).put (some 52) (.int .i64 (24 + 4 * jj : Int))).put (some 53) (S ((s.drop (20 + 4 * jj)).take 4))).put (some 54) (I z)).put (some 55) (.slice (some ⟨c.a, 0, none⟩) 1 1)).put (some 56) c.v).put (some 57) (.pointer (some ⟨X, 0 + 3, none⟩))) := by
      rw [hosz]
      simp only [frm, if_true]
      rw [tab_dst htab 0, tab_dst htab 1, tab_dst htab 2, tab_dst htab 3, tab_dst htab 4, tab_dst htab 5, tab_dst htab 6, tab_dst htab 7, tab_dst htab 8, tab_dst htab 9, tab_dst htab 10, tab_dst htab 11, tab_dst htab 12, tab_dst htab 13, (show dstOf ops 14 = none from (tab_dst htab 14).trans rfl), put_none]
      rfl
    rw [e]
    exact this
  intro i o ho c L a w' hL hd ha hW
  have hi : i < 15 := by rw [← hosz]; exact (Array.getElem?_eq_some_iff.1 ho).1
  match i, ho, hL, hi with
  | 0, ho, hL, _ =>
    obtain ⟨hop, hdst, hgd⟩ := tab_at htab ho (show rpg12T[0]? = _ from rfl)
    simp only at hop hgd
    have h0 := frm_old (val := val c) ha 5 _ (hold 5 rfl) o5
    exact doesX_of (doesL_run ho (wanted_none hgd) (hpure 0 (by decide) c L w' hW) (g_field hop (eval_of h0) (by kernel_rfl)))
  | 1, ho, hL, _ =>
    obtain ⟨hop, hdst, hgd⟩ := tab_at htab ho (show rpg12T[1]? = _ from rfl)
    simp only at hop hgd
    have h0 := frm_at (val := val c) hdis ha 0 44 (hds 0 44 rfl) (by omega) (depl_of hdep 1 0 (by decide) ho hd)
    exact doesX_of (doesL_run ho (wanted_none hgd) (hpure 1 (by decide) c L w' hW) (g_load hop (eval_of h0) (r1 c L w' hW hL (depl_of hdep 1 0 (by decide) ho hd))))
  | 2, ho, hL, _ =>
    obtain ⟨hop, hdst, hgd⟩ := tab_at htab ho (show rpg12T[2]? = _ from rfl)
    simp only at hop hgd
    have h0 := frm_old (val := val c) ha 0 _ (hold 0 rfl) o0
    exact doesX_of (doesL_run ho (wanted_none hgd) (hpure 2 (by decide) c L w' hW) (by rw [run_move _ _ _ hop]; exact congrArg (fun v => Result.ok (Next.value v) w') (eval_of h0)))
  | 3, ho, hL, _ =>
    obtain ⟨hop, hdst, hgd⟩ := tab_at htab ho (show rpg12T[3]? = _ from rfl)
    simp only at hop hgd
    have h0 := frm_old (val := val c) ha 8 _ (hold 8 rfl) o8
    exact doesX_of (doesL_run ho (wanted_none hgd) (hpure 3 (by decide) c L w' hW) (by rw [run_move _ _ _ hop]; exact congrArg (fun v => Result.ok (Next.value v) w') (eval_of h0)))
  | 4, ho, hL, _ =>
    obtain ⟨hop, hdst, hgd⟩ := tab_at htab ho (show rpg12T[4]? = _ from rfl)
    simp only at hop hgd
    have h1 := frm_at (val := val c) hdis ha 3 47 (hds 3 47 rfl) (by omega) (depl_of hdep 4 3 (by decide) ho hd)
    exact doesX_of (doesL_run ho (wanted_none hgd) (hpure 4 (by decide) c L w' hW) (g_bin hop rfl (eval_of h1) (r4 w')))
  | 5, ho, hL, _ =>
    obtain ⟨hop, hdst, hgd⟩ := tab_at htab ho (show rpg12T[5]? = _ from rfl)
    simp only at hop hgd
    have h1 := frm_at (val := val c) hdis ha 4 48 (hds 4 48 rfl) (by omega) (depl_of hdep 5 4 (by decide) ho hd)
    exact doesX_of (doesL_run ho (wanted_none hgd) (hpure 5 (by decide) c L w' hW) (g_bin hop rfl (eval_of h1) (r5 w')))
  | 6, ho, hL, _ =>
    obtain ⟨hop, hdst, hgd⟩ := tab_at htab ho (show rpg12T[6]? = _ from rfl)
    simp only at hop hgd
    have h0 := frm_old (val := val c) ha 8 _ (hold 8 rfl) o8
    exact doesX_of (doesL_run ho (wanted_none hgd) (hpure 6 (by decide) c L w' hW) (by rw [run_move _ _ _ hop]; exact congrArg (fun v => Result.ok (Next.value v) w') (eval_of h0)))
  | 7, ho, hL, _ =>
    obtain ⟨hop, hdst, hgd⟩ := tab_at htab ho (show rpg12T[7]? = _ from rfl)
    simp only at hop hgd
    have h1 := frm_at (val := val c) hdis ha 6 50 (hds 6 50 rfl) (by omega) (depl_of hdep 7 6 (by decide) ho hd)
    exact doesX_of (doesL_run ho (wanted_none hgd) (hpure 7 (by decide) c L w' hW) (g_bin hop rfl (eval_of h1) (r7 w')))
  | 8, ho, hL, _ =>
    obtain ⟨hop, hdst, hgd⟩ := tab_at htab ho (show rpg12T[8]? = _ from rfl)
    simp only at hop hgd
    have h1 := frm_at (val := val c) hdis ha 7 51 (hds 7 51 rfl) (by omega) (depl_of hdep 8 7 (by decide) ho hd)
    exact doesX_of (doesL_run ho (wanted_none hgd) (hpure 8 (by decide) c L w' hW) (g_bin hop rfl (eval_of h1) (r8 w')))
  | 9, ho, hL, _ =>
    obtain ⟨hop, hdst, hgd⟩ := tab_at htab ho (show rpg12T[9]? = _ from rfl)
    simp only at hop hgd
    have h0 := frm_at (val := val c) hdis ha 2 46 (hds 2 46 rfl) (by omega) (depl_of hdep 9 2 (by decide) ho hd)
    have h1 := frm_at (val := val c) hdis ha 5 49 (hds 5 49 rfl) (by omega) (depl_of hdep 9 5 (by decide) ho hd)
    have h2 := frm_at (val := val c) hdis ha 8 52 (hds 8 52 rfl) (by omega) (depl_of hdep 9 8 (by decide) ho hd)
    exact doesX_of (doesL_run ho (wanted_none hgd) (hpure 9 (by decide) c L w' hW) (g_sl hop (eval_of h0) (congrArg some (eval_of h1)) (congrArg some (eval_of h2)) rfl (r9 w')))
  | 10, ho, hL, _ =>
    obtain ⟨hop, hdst, hgd⟩ := tab_at htab ho (show rpg12T[10]? = _ from rfl)
    simp only at hop hgd
    have h0 := frm_at (val := val c) hdis ha 9 53 (hds 9 53 rfl) (by omega) (depl_of hdep 10 9 (by decide) ho hd)
    refine doesX_call ho (wanted_none hgd) 137 #[(S ((s.drop (20 + 4 * jj)).take 4))] ?_ (r10 c L w' hW hL (depl_of hdep 10 9 (by decide) ho hd))
    rw [run_calls Tryz.func137 (by kernel_rfl) rfl _ _ _ _ hop rfl]
    simp only [List.map_toArray, List.map_cons, List.map_nil, eval_of h0]
    all_goals rfl
  | 11, ho, hL, _ =>
    obtain ⟨hop, hdst, hgd⟩ := tab_at htab ho (show rpg12T[11]? = _ from rfl)
    simp only at hop hgd
    have h0 := frm_at (val := val c) hdis ha 10 54 (hds 10 54 rfl) (by omega) (depl_of hdep 11 10 (by decide) ho hd)
    obtain ⟨c', W', q0, q1, q2⟩ := r11 c L w' hW hL (depl_of hdep 11 10 (by decide) ho hd)
    exact doesX_runw ho (wanted_none hgd) c' q0 q2 (g_bs hop (by simp only [List.map_toArray, List.map_cons, List.map_nil, eval_of h0]; first | done | rfl) q1)
  | 12, ho, hL, _ =>
    obtain ⟨hop, hdst, hgd⟩ := tab_at htab ho (show rpg12T[12]? = _ from rfl)
    simp only at hop hgd
    have h0 := frm_at (val := val c) hdis ha 1 45 (hds 1 45 rfl) (by omega) (depl_of hdep 12 1 (by decide) ho hd)
    have h1 := frm_at (val := val c) hdis ha 11 55 (hds 11 55 rfl) (by omega) (depl_of hdep 12 11 (by decide) ho hd)
    obtain ⟨c', W', q0, q1, q2⟩ := r12 _ c L w' hW hL (depl_of hdep 12 1 (by decide) ho hd) (depl_of hdep 12 11 (by decide) ho hd)
    exact doesX_runw ho (wanted_none hgd) c' q0 q2 (g_app hop (eval_of h0) (eval_of h1) q1)
  | 13, ho, hL, _ =>
    obtain ⟨hop, hdst, hgd⟩ := tab_at htab ho (show rpg12T[13]? = _ from rfl)
    simp only at hop hgd
    have h0 := frm_old (val := val c) ha 5 _ (hold 5 rfl) o5
    exact doesX_of (doesL_run ho (wanted_none hgd) (hpure 13 (by decide) c L w' hW) (g_field hop (eval_of h0) (by kernel_rfl)))
  | 14, ho, hL, _ =>
    obtain ⟨hop, hdst, hgd⟩ := tab_at htab ho (show rpg12T[14]? = _ from rfl)
    simp only at hop hgd
    have h0 := frm_at (val := val c) hdis ha 13 57 (hds 13 57 rfl) (by omega) (depl_of hdep 14 13 (by decide) ho hd)
    have h1 := frm_at (val := val c) hdis ha 12 56 (hds 12 56 rfl) (by omega) (depl_of hdep 14 12 (by decide) ho hd)
    obtain ⟨W', q1, q2⟩ := r14 c L w' hW hL (depl_of hdep 14 12 (by decide) ho hd) (depl_of hdep 14 13 (by decide) ho hd)
    exact doesX_of (doesL_skp ho (wanted_none hgd) rfl q2 (g_store hop (eval_of h0) (eval_of h1) q1))
  | (i + 15), ho, hL, hi => exact absurd hi (by omega)
def vrft1 (X : Nat) (k m b k1 m1 b1 : Int) (c : Nat) (i : Nat) : Value := match i with
  | 0 => (.pointer (some ⟨X, 0 + 0, none⟩))
  | 1 => (I k)
  | 2 => (I k1)
  | 3 => (I (1 + k1))
  | 4 => (.pointer (some ⟨X, 0 + 1, none⟩))
  | 5 => (I m)
  | 6 => (I m1)
  | 7 => (I (2 + m1))
  | 8 => (.pointer (some ⟨X, 0 + 2, none⟩))
  | 9 => (I b)
  | 10 => (I b1)
  | 11 => (I (1 + b1))
  | 12 => (.agg #[I (1 + k1), I (2 + m1), I (1 + b1), .slice none 0 0, .string ⟨#[]⟩])
  | 13 => (.pointer (some ⟨c, 0, none⟩))
  | 14 => undef
  | _ => undef
def rft1T : List (Op × Option Tmp × Option (Nat × Bool)) := [
  (.fieldAddr 24 (.tmp 1) 0, some 5, none),
  (.load 3 (.tmp 5), some 6, none),
  (.call { callee := .value (.func 18), args := #[(.tmp 6), (.const (.int .i64 255))], argTypes := #[3, 3] }, some 7, none),
  (.binOp .add 3 (.const (.int .i64 1)) (.tmp 7) 3, some 8, none),
  (.fieldAddr 24 (.tmp 1) 1, some 9, none),
  (.load 3 (.tmp 9), some 10, none),
  (.call { callee := .value (.func 18), args := #[(.tmp 10), (.const (.int .i64 4094))], argTypes := #[3, 3] }, some 11, none),
  (.binOp .add 3 (.const (.int .i64 2)) (.tmp 11) 3, some 12, none),
  (.fieldAddr 24 (.tmp 1) 2, some 13, none),
  (.load 3 (.tmp 13), some 14, none),
  (.call { callee := .value (.func 18), args := #[(.tmp 14), (.const (.int .i64 4611686018427387904))], argTypes := #[3, 3] }, some 15, none),
  (.binOp .add 3 (.const (.int .i64 1)) (.tmp 15) 3, some 16, none),
  (.build 24 #[(0, (.tmp 8)), (1, (.tmp 12)), (2, (.tmp 16))], some 17, none),
  (.alloc 24, some 3, none),
  (.store 24 (.tmp 3) (.tmp 17), none, none)]
def rft1D : List (Nat × Nat) := [(1, 0), (2, 1), (3, 2), (5, 4), (6, 5), (7, 6), (9, 8), (10, 9), (11, 10), (12, 3), (12, 7), (12, 11), (14, 12), (14, 13)]
set_option maxHeartbeats 4000000 in
theorem rft1 {ops : Array Oper} {id : Nat} {Q : Exit → Act → World → Prop} (X : Nat) (k m b k1 m1 b1 : Int) (htab : ops.toList.map (fun o => (o.op, o.dst, o.guard)) = rft1T) (hdep : deplB rft1D ops = true) (hac : acB ops = true)
    (a0 : Act) (w : World) (hsz : 18 ≤ a0.tmps.size) (o1 : a0.tmps[1]? = some (.pointer (some ⟨X, 0, none⟩)))
    (Wd : Nat → (Nat → Bool) → World → Prop) (h0 : ∃ c, Wd c (fun _ => false) w.drew) (hpure : ∀ i, i ∉ ([2, 6, 10, 13, 14] : List Nat) → ∀ c L W, Wd c L W → Wd c (upd L i) W)
    (r1 : ∀ c L W, Wd c L W → L 1 = false → L 0 = true → (Instr.loadAt 3 (.pointer (some ⟨X, 0 + 0, none⟩))).run Tryz.prog W = .ok (I k) W)
    (r2 : ∀ c L W, Wd c L W → L 2 = false → L 1 = true → Calls Tryz.prog 18 #[(I k), (.int .i64 255)] W fun eg w' => ∃ c', (∀ j, L j = true → vrft1 X k m b k1 m1 b1 c' j = vrft1 X k m b k1 m1 b1 c j) ∧ eg = .returned (vrft1 X k m b k1 m1 b1 c' 2) ∧ Wd c' (upd L 2) w')
    (r3 : ∀ W, (do eqGuard .add 3 (.const (.int .i64 1)) (.tmp 7) (.int .i64 1) (I k1); binOp .add 3 (.int .i64 1) (I k1)).run Tryz.prog W = .ok (I (1 + k1)) W)
    (r5 : ∀ c L W, Wd c L W → L 5 = false → L 4 = true → (Instr.loadAt 3 (.pointer (some ⟨X, 0 + 1, none⟩))).run Tryz.prog W = .ok (I m) W)
    (r6 : ∀ c L W, Wd c L W → L 6 = false → L 5 = true → Calls Tryz.prog 18 #[(I m), (.int .i64 4094)] W fun eg w' => ∃ c', (∀ j, L j = true → vrft1 X k m b k1 m1 b1 c' j = vrft1 X k m b k1 m1 b1 c j) ∧ eg = .returned (vrft1 X k m b k1 m1 b1 c' 6) ∧ Wd c' (upd L 6) w')
    (r7 : ∀ W, (do eqGuard .add 3 (.const (.int .i64 2)) (.tmp 11) (.int .i64 2) (I m1); binOp .add 3 (.int .i64 2) (I m1)).run Tryz.prog W = .ok (I (2 + m1)) W)
    (r9 : ∀ c L W, Wd c L W → L 9 = false → L 8 = true → (Instr.loadAt 3 (.pointer (some ⟨X, 0 + 2, none⟩))).run Tryz.prog W = .ok (I b) W)
    (r10 : ∀ c L W, Wd c L W → L 10 = false → L 9 = true → Calls Tryz.prog 18 #[(I b), (.int .i64 4611686018427387904)] W fun eg w' => ∃ c', (∀ j, L j = true → vrft1 X k m b k1 m1 b1 c' j = vrft1 X k m b k1 m1 b1 c j) ∧ eg = .returned (vrft1 X k m b k1 m1 b1 c' 10) ∧ Wd c' (upd L 10) w')
    (r11 : ∀ W, (do eqGuard .add 3 (.const (.int .i64 1)) (.tmp 15) (.int .i64 1) (I b1); binOp .add 3 (.int .i64 1) (I b1)).run Tryz.prog W = .ok (I (1 + b1)) W)
    (r12 : ∀ W, (Instr.build 24 #[(0, (I (1 + k1))), (1, (I (2 + m1))), (2, (I (1 + b1)))]).run Tryz.prog W = .ok (.agg #[I (1 + k1), I (2 + m1), I (1 + b1), .slice none 0 0, .string ⟨#[]⟩]) W)
    (r13 : ∀ c L W, Wd c L W → L 13 = false → ∃ c' W', (∀ j, L j = true → vrft1 X k m b k1 m1 b1 c' j = vrft1 X k m b k1 m1 b1 c j) ∧ (Instr.alloc 24 true (.tuple #[])).run Tryz.prog W = .ok (vrft1 X k m b k1 m1 b1 c' 13) W' ∧ Wd c' (upd L 13) W')
    (r14 : ∀ c L W, Wd c L W → L 14 = false → L 12 = true → L 13 = true → ∃ W', (Instr.storeAt 24 (.pointer (some ⟨c, 0, none⟩)) (.agg #[I (1 + k1), I (2 + m1), I (1 + b1), .slice none 0 0, .string ⟨#[]⟩])).run Tryz.prog W = .ok () W' ∧ Wd c (upd L 14) W')
    (hend : ∀ c L W, (∀ i, i < 15 → L i = true) → Wd c L W → Q .normal ((((((((((((((a0.put (some 5) (.pointer (some ⟨X, 0 + 0, none⟩))).put (some 6) (I k)).put (some 7) (I k1)).put (some 8) (I (1 + k1))).put (some 9) (.pointer (some ⟨X, 0 + 1, none⟩))).put (some 10) (I m)).put (some 11) (I m1)).put (some 12) (I (2 + m1))).put (some 13) (.pointer (some ⟨X, 0 + 2, none⟩))).put (some 14) (I b)).put (some 15) (I b1)).put (some 16) (I (1 + b1))).put (some 17) (.agg #[I (1 + k1), I (2 + m1), I (1 + b1), .slice none 0 0, .string ⟨#[]⟩])).put (some 3) (.pointer (some ⟨c, 0, none⟩))) W) : (Code.region id ops true).wp Tryz.prog Q a0 w := by
  let val : Nat → Nat → Value := vrft1 X k m b k1 m1 b1
  have hosz : ops.size = 15 := by
    have := congrArg List.length htab
    simpa [rft1T] using this
  have hds : ∀ i s, (rft1T[i]?).bind (·.2.1) = some s → dstOf ops i = some s := fun i s hi => by rw [tab_dst htab, hi]
  have hdisB : disL rft1T = true := by rfl
  have hdis := disL_of htab hdisB
  have hold : ∀ s, rft1T.all (fun x => !(x.2.1 == some s)) = true → (List.range ops.size).all (fun j => !(dstOf ops j == some s)) = true := fun s h => holdL htab s h
  refine region_detX val Wd (hac_of hac) hdis h0 ?_ ?_
  rotate_left
  · intro c L W hall hW
    have := hend c L W (by rw [← hosz]; exact hall) hW
    have e : frm ops a0 (val c) (fun _ => true) ops.size = ((((((((((((((a0.put (some 5) (.pointer (some ⟨X, 0 + 0, none⟩))).put (some 6) (I k)).put (some 7) (I k1)).put (some 8) (I (1 + k1))).put (some 9) (.pointer (some ⟨X, 0 + 1, none⟩))).put (some 10) (I m)).put (some 11) (I m1)).put (some 12) (I (2 + m1))).put (some 13) (.pointer (some ⟨X, 0 + 2, none⟩))).put (some 14) (I b)).put (some 15) (I b1)).put (some 16) (I (1 + b1))).put (some 17) (.agg #[I (1 + k1), I (2 + m1), I (1 + b1), .slice none 0 0, .string ⟨#[]⟩])).put (some 3) (.pointer (some ⟨c, 0, none⟩))) := by
      rw [hosz]
      simp only [frm, if_true]
      rw [tab_dst htab 0, tab_dst htab 1, tab_dst htab 2, tab_dst htab 3, tab_dst htab 4, tab_dst htab 5, tab_dst htab 6, tab_dst htab 7, tab_dst htab 8, tab_dst htab 9, tab_dst htab 10, tab_dst htab 11, tab_dst htab 12, tab_dst htab 13, (show dstOf ops 14 = none from (tab_dst htab 14).trans rfl), put_none]
      rfl
    rw [e]
    exact this
  intro i o ho c L a w' hL hd ha hW
  have hi : i < 15 := by rw [← hosz]; exact (Array.getElem?_eq_some_iff.1 ho).1
  match i, ho, hL, hi with
  | 0, ho, hL, _ =>
    obtain ⟨hop, hdst, hgd⟩ := tab_at htab ho (show rft1T[0]? = _ from rfl)
    simp only at hop hgd
    have h0 := frm_old (val := val c) ha 1 _ (hold 1 rfl) o1
    exact doesX_of (doesL_run ho (wanted_none hgd) (hpure 0 (by decide) c L w' hW) (g_field hop (eval_of h0) (by kernel_rfl)))
  | 1, ho, hL, _ =>
    obtain ⟨hop, hdst, hgd⟩ := tab_at htab ho (show rft1T[1]? = _ from rfl)
    simp only at hop hgd
    have h0 := frm_at (val := val c) hdis ha 0 5 (hds 0 5 rfl) (by omega) (depl_of hdep 1 0 (by decide) ho hd)
    exact doesX_of (doesL_run ho (wanted_none hgd) (hpure 1 (by decide) c L w' hW) (g_load hop (eval_of h0) (r1 c L w' hW hL (depl_of hdep 1 0 (by decide) ho hd))))
  | 2, ho, hL, _ =>
    obtain ⟨hop, hdst, hgd⟩ := tab_at htab ho (show rft1T[2]? = _ from rfl)
    simp only at hop hgd
    have h0 := frm_at (val := val c) hdis ha 1 6 (hds 1 6 rfl) (by omega) (depl_of hdep 2 1 (by decide) ho hd)
    refine doesX_call ho (wanted_none hgd) 18 #[(I k), (.int .i64 255)] ?_ (r2 c L w' hW hL (depl_of hdep 2 1 (by decide) ho hd))
    rw [run_calls Tryz.func18 (by kernel_rfl) rfl _ _ _ _ hop rfl]
    simp only [List.map_toArray, List.map_cons, List.map_nil, eval_of h0]
    all_goals rfl
  | 3, ho, hL, _ =>
    obtain ⟨hop, hdst, hgd⟩ := tab_at htab ho (show rft1T[3]? = _ from rfl)
    simp only at hop hgd
    have h1 := frm_at (val := val c) hdis ha 2 7 (hds 2 7 rfl) (by omega) (depl_of hdep 3 2 (by decide) ho hd)
    exact doesX_of (doesL_run ho (wanted_none hgd) (hpure 3 (by decide) c L w' hW) (g_bin hop rfl (eval_of h1) (r3 w')))
  | 4, ho, hL, _ =>
    obtain ⟨hop, hdst, hgd⟩ := tab_at htab ho (show rft1T[4]? = _ from rfl)
    simp only at hop hgd
    have h0 := frm_old (val := val c) ha 1 _ (hold 1 rfl) o1
    exact doesX_of (doesL_run ho (wanted_none hgd) (hpure 4 (by decide) c L w' hW) (g_field hop (eval_of h0) (by kernel_rfl)))
  | 5, ho, hL, _ =>
    obtain ⟨hop, hdst, hgd⟩ := tab_at htab ho (show rft1T[5]? = _ from rfl)
    simp only at hop hgd
    have h0 := frm_at (val := val c) hdis ha 4 9 (hds 4 9 rfl) (by omega) (depl_of hdep 5 4 (by decide) ho hd)
    exact doesX_of (doesL_run ho (wanted_none hgd) (hpure 5 (by decide) c L w' hW) (g_load hop (eval_of h0) (r5 c L w' hW hL (depl_of hdep 5 4 (by decide) ho hd))))
  | 6, ho, hL, _ =>
    obtain ⟨hop, hdst, hgd⟩ := tab_at htab ho (show rft1T[6]? = _ from rfl)
    simp only at hop hgd
    have h0 := frm_at (val := val c) hdis ha 5 10 (hds 5 10 rfl) (by omega) (depl_of hdep 6 5 (by decide) ho hd)
    refine doesX_call ho (wanted_none hgd) 18 #[(I m), (.int .i64 4094)] ?_ (r6 c L w' hW hL (depl_of hdep 6 5 (by decide) ho hd))
    rw [run_calls Tryz.func18 (by kernel_rfl) rfl _ _ _ _ hop rfl]
    simp only [List.map_toArray, List.map_cons, List.map_nil, eval_of h0]
    all_goals rfl
  | 7, ho, hL, _ =>
    obtain ⟨hop, hdst, hgd⟩ := tab_at htab ho (show rft1T[7]? = _ from rfl)
    simp only at hop hgd
    have h1 := frm_at (val := val c) hdis ha 6 11 (hds 6 11 rfl) (by omega) (depl_of hdep 7 6 (by decide) ho hd)
    exact doesX_of (doesL_run ho (wanted_none hgd) (hpure 7 (by decide) c L w' hW) (g_bin hop rfl (eval_of h1) (r7 w')))
  | 8, ho, hL, _ =>
    obtain ⟨hop, hdst, hgd⟩ := tab_at htab ho (show rft1T[8]? = _ from rfl)
    simp only at hop hgd
    have h0 := frm_old (val := val c) ha 1 _ (hold 1 rfl) o1
    exact doesX_of (doesL_run ho (wanted_none hgd) (hpure 8 (by decide) c L w' hW) (g_field hop (eval_of h0) (by kernel_rfl)))
  | 9, ho, hL, _ =>
    obtain ⟨hop, hdst, hgd⟩ := tab_at htab ho (show rft1T[9]? = _ from rfl)
    simp only at hop hgd
    have h0 := frm_at (val := val c) hdis ha 8 13 (hds 8 13 rfl) (by omega) (depl_of hdep 9 8 (by decide) ho hd)
    exact doesX_of (doesL_run ho (wanted_none hgd) (hpure 9 (by decide) c L w' hW) (g_load hop (eval_of h0) (r9 c L w' hW hL (depl_of hdep 9 8 (by decide) ho hd))))
  | 10, ho, hL, _ =>
    obtain ⟨hop, hdst, hgd⟩ := tab_at htab ho (show rft1T[10]? = _ from rfl)
    simp only at hop hgd
    have h0 := frm_at (val := val c) hdis ha 9 14 (hds 9 14 rfl) (by omega) (depl_of hdep 10 9 (by decide) ho hd)
    refine doesX_call ho (wanted_none hgd) 18 #[(I b), (.int .i64 4611686018427387904)] ?_ (r10 c L w' hW hL (depl_of hdep 10 9 (by decide) ho hd))
    rw [run_calls Tryz.func18 (by kernel_rfl) rfl _ _ _ _ hop rfl]
    simp only [List.map_toArray, List.map_cons, List.map_nil, eval_of h0]
    all_goals rfl
  | 11, ho, hL, _ =>
    obtain ⟨hop, hdst, hgd⟩ := tab_at htab ho (show rft1T[11]? = _ from rfl)
    simp only at hop hgd
    have h1 := frm_at (val := val c) hdis ha 10 15 (hds 10 15 rfl) (by omega) (depl_of hdep 11 10 (by decide) ho hd)
    exact doesX_of (doesL_run ho (wanted_none hgd) (hpure 11 (by decide) c L w' hW) (g_bin hop rfl (eval_of h1) (r11 w')))
  | 12, ho, hL, _ =>
    obtain ⟨hop, hdst, hgd⟩ := tab_at htab ho (show rft1T[12]? = _ from rfl)
    simp only at hop hgd
    have h0 := frm_at (val := val c) hdis ha 3 8 (hds 3 8 rfl) (by omega) (depl_of hdep 12 3 (by decide) ho hd)
    have h1 := frm_at (val := val c) hdis ha 7 12 (hds 7 12 rfl) (by omega) (depl_of hdep 12 7 (by decide) ho hd)
    have h2 := frm_at (val := val c) hdis ha 11 16 (hds 11 16 rfl) (by omega) (depl_of hdep 12 11 (by decide) ho hd)
    exact doesX_of (doesL_run ho (wanted_none hgd) (hpure 12 (by decide) c L w' hW) (g_build hop (by simp only [List.map_toArray, List.map_cons, List.map_nil, eval_of h0, eval_of h1, eval_of h2]; first | done | rfl) (r12 w')))
  | 13, ho, hL, _ =>
    obtain ⟨hop, hdst, hgd⟩ := tab_at htab ho (show rft1T[13]? = _ from rfl)
    simp only at hop hgd
    obtain ⟨c', W', q0, q1, q2⟩ := r13 c L w' hW hL
    exact doesX_runw ho (wanted_none hgd) c' q0 q2 (g_alloc hop q1)
  | 14, ho, hL, _ =>
    obtain ⟨hop, hdst, hgd⟩ := tab_at htab ho (show rft1T[14]? = _ from rfl)
    simp only at hop hgd
    have h0 := frm_at (val := val c) hdis ha 13 3 (hds 13 3 rfl) (by omega) (depl_of hdep 14 13 (by decide) ho hd)
    have h1 := frm_at (val := val c) hdis ha 12 17 (hds 12 17 rfl) (by omega) (depl_of hdep 14 12 (by decide) ho hd)
    obtain ⟨W', q1, q2⟩ := r14 c L w' hW hL (depl_of hdep 14 12 (by decide) ho hd) (depl_of hdep 14 13 (by decide) ho hd)
    exact doesX_of (doesL_skp ho (wanted_none hgd) rfl q2 (g_store hop (eval_of h0) (eval_of h1) q1))
  | (i + 15), ho, hL, hi => exact absurd hi (by omega)
def vrft5 (X Y n cap jj g oo nn cc : Nat) (aa : Option Addr) (z z1 : Int) (c : Cav) (i : Nat) : Value := match i with
  | 0 => (.pointer (some ⟨X, 0 + 3, none⟩))
  | 1 => (.slice aa n cap)
  | 2 => (.pointer (some ⟨Y, 0 + 3, none⟩))
  | 3 => (.slice (some ⟨g, oo, none⟩) nn cc)
  | 4 => (.int .i64 (jj : Int))
  | 5 => (.pointer (some ⟨g, oo + jj, none⟩))
  | 6 => (I z)
  | 7 => (I z1)
  | 8 => (I (2 + z1))
  | 9 => (.slice (some ⟨c.a, 0, none⟩) 1 1)
  | 10 => c.v
  | 11 => (.pointer (some ⟨X, 0 + 3, none⟩))
  | 12 => undef
  | _ => undef
def rft5T : List (Op × Option Tmp × Option (Nat × Bool)) := [
  (.fieldAddr 24 (.tmp 3) 3, some 29, none),
  (.load 22 (.tmp 29), some 30, none),
  (.fieldAddr 24 (.tmp 1) 3, some 31, none),
  (.load 22 (.tmp 31), some 32, none),
  (.move (.tmp 4), some 33, none),
  (.indexAddr 22 (.tmp 32) (.tmp 33), some 34, none),
  (.load 3 (.tmp 34), some 35, none),
  (.call { callee := .value (.func 18), args := #[(.tmp 35), (.const (.int .i64 4094))], argTypes := #[3, 3] }, some 36, none),
  (.binOp .add 3 (.const (.int .i64 2)) (.tmp 36) 3, some 37, none),
  (.buildSlice 22 1 #[(0, (.tmp 37))], some 38, none),
  (.call { callee := .builtin .append, args := #[(.tmp 30), (.tmp 38)], argTypes := #[22, 22] }, some 39, none),
  (.fieldAddr 24 (.tmp 3) 3, some 40, none),
  (.store 22 (.tmp 40) (.tmp 39), none, none)]
def rft5D : List (Nat × Nat) := [(1, 0), (3, 2), (5, 3), (5, 4), (6, 5), (7, 6), (8, 7), (9, 8), (10, 1), (10, 9), (12, 10), (12, 11)]
set_option maxHeartbeats 4000000 in
theorem rft5 {ops : Array Oper} {id : Nat} {Q : Exit → Act → World → Prop} (X Y n cap jj g oo nn cc : Nat) (aa : Option Addr) (z z1 : Int) (htab : ops.toList.map (fun o => (o.op, o.dst, o.guard)) = rft5T) (hdep : deplB rft5D ops = true) (hac : acB ops = true)
    (a0 : Act) (w : World) (hsz : 41 ≤ a0.tmps.size) (o1 : a0.tmps[1]? = some (.pointer (some ⟨Y, 0, none⟩))) (o3 : a0.tmps[3]? = some (.pointer (some ⟨X, 0, none⟩))) (o4 : a0.tmps[4]? = some (.int .i64 (jj : Int)))
    (Wd : Cav → (Nat → Bool) → World → Prop) (h0 : ∃ c, Wd c (fun _ => false) w.drew) (hpure : ∀ i, i ∉ ([7, 9, 10, 12] : List Nat) → ∀ c L W, Wd c L W → Wd c (upd L i) W)
    (r1 : ∀ c L W, Wd c L W → L 1 = false → L 0 = true → (Instr.loadAt 22 (.pointer (some ⟨X, 0 + 3, none⟩))).run Tryz.prog W = .ok (.slice aa n cap) W)
    (r3 : ∀ c L W, Wd c L W → L 3 = false → L 2 = true → (Instr.loadAt 22 (.pointer (some ⟨Y, 0 + 3, none⟩))).run Tryz.prog W = .ok (.slice (some ⟨g, oo, none⟩) nn cc) W)
    (r5 : ∀ W, (Instr.indexAt 22 (.slice (some ⟨g, oo, none⟩) nn cc) (.int .i64 (jj : Int))).run Tryz.prog W = .ok (.pointer (some ⟨g, oo + jj, none⟩)) W)
    (r6 : ∀ c L W, Wd c L W → L 6 = false → L 5 = true → (Instr.loadAt 3 (.pointer (some ⟨g, oo + jj, none⟩))).run Tryz.prog W = .ok (I z) W)
    (r7 : ∀ c L W, Wd c L W → L 7 = false → L 6 = true → Calls Tryz.prog 18 #[(I z), (.int .i64 4094)] W fun eg w' => ∃ c', (∀ j, L j = true → vrft5 X Y n cap jj g oo nn cc aa z z1 c' j = vrft5 X Y n cap jj g oo nn cc aa z z1 c j) ∧ eg = .returned (vrft5 X Y n cap jj g oo nn cc aa z z1 c' 7) ∧ Wd c' (upd L 7) w')
    (r8 : ∀ W, (do eqGuard .add 3 (.const (.int .i64 2)) (.tmp 36) (.int .i64 2) (I z1); binOp .add 3 (.int .i64 2) (I z1)).run Tryz.prog W = .ok (I (2 + z1)) W)
    (r9 : ∀ c L W, Wd c L W → L 9 = false → L 8 = true → ∃ c' W', (∀ j, L j = true → vrft5 X Y n cap jj g oo nn cc aa z z1 c' j = vrft5 X Y n cap jj g oo nn cc aa z z1 c j) ∧ (Instr.buildSlice 22 1 #[(0, (I (2 + z1)))]).run Tryz.prog W = .ok (vrft5 X Y n cap jj g oo nn cc aa z z1 c' 9) W' ∧ Wd c' (upd L 9) W')
    (r10 : ∀ T, ∀ c L W, Wd c L W → L 10 = false → L 1 = true → L 9 = true → ∃ c' W', (∀ j, L j = true → vrft5 X Y n cap jj g oo nn cc aa z z1 c' j = vrft5 X Y n cap jj g oo nn cc aa z z1 c j) ∧ (Builtin.append_ #[22, 22] T #[(.slice aa n cap), (.slice (some ⟨c.a, 0, none⟩) 1 1)]).run Tryz.prog W = .ok (vrft5 X Y n cap jj g oo nn cc aa z z1 c' 10) W' ∧ Wd c' (upd L 10) W')
    (r12 : ∀ c L W, Wd c L W → L 12 = false → L 10 = true → L 11 = true → ∃ W', (Instr.storeAt 22 (.pointer (some ⟨X, 0 + 3, none⟩)) c.v).run Tryz.prog W = .ok () W' ∧ Wd c (upd L 12) W')
    (hend : ∀ c L W, (∀ i, i < 13 → L i = true) → Wd c L W → Q .normal ((((((((((((a0.put (some 29) (.pointer (some ⟨X, 0 + 3, none⟩))).put (some 30) (.slice aa n cap)).put (some 31) (.pointer (some ⟨Y, 0 + 3, none⟩))).put (some 32) (.slice (some ⟨g, oo, none⟩) nn cc)).put (some 33) (.int .i64 (jj : Int))).put (some 34) (.pointer (some ⟨g, oo + jj, none⟩))).put (some 35) (I z)).put (some 36) (I z1)).put (some 37) (I (2 + z1))).put (some 38) (.slice (some ⟨c.a, 0, none⟩) 1 1)).put (some 39) c.v).put (some 40) (.pointer (some ⟨X, 0 + 3, none⟩))) W) : (Code.region id ops true).wp Tryz.prog Q a0 w := by
  let val : Cav → Nat → Value := vrft5 X Y n cap jj g oo nn cc aa z z1
  have hosz : ops.size = 13 := by
    have := congrArg List.length htab
    simpa [rft5T] using this
  have hds : ∀ i s, (rft5T[i]?).bind (·.2.1) = some s → dstOf ops i = some s := fun i s hi => by rw [tab_dst htab, hi]
  have hdisB : disL rft5T = true := by rfl
  have hdis := disL_of htab hdisB
  have hold : ∀ s, rft5T.all (fun x => !(x.2.1 == some s)) = true → (List.range ops.size).all (fun j => !(dstOf ops j == some s)) = true := fun s h => holdL htab s h
  refine region_detX val Wd (hac_of hac) hdis h0 ?_ ?_
  rotate_left
  · intro c L W hall hW
    have := hend c L W (by rw [← hosz]; exact hall) hW
    have e : frm ops a0 (val c) (fun _ => true) ops.size = ((((((((((((a0.put (some 29) (.pointer (some ⟨X, 0 + 3, none⟩))).put (some 30) (.slice aa n cap)).put (some 31) (.pointer (some ⟨Y, 0 + 3, none⟩))).put (some 32) (.slice (some ⟨g, oo, none⟩) nn cc)).put (some 33) (.int .i64 (jj : Int))).put (some 34) (.pointer (some ⟨g, oo + jj, none⟩))).put (some 35) (I z)).put (some 36) (I z1)).put (some 37) (I (2 + z1))).put (some 38) (.slice (some ⟨c.a, 0, none⟩) 1 1)).put (some 39) c.v).put (some 40) (.pointer (some ⟨X, 0 + 3, none⟩))) := by
      rw [hosz]
      simp only [frm, if_true]
      rw [tab_dst htab 0, tab_dst htab 1, tab_dst htab 2, tab_dst htab 3, tab_dst htab 4, tab_dst htab 5, tab_dst htab 6, tab_dst htab 7, tab_dst htab 8, tab_dst htab 9, tab_dst htab 10, tab_dst htab 11, (show dstOf ops 12 = none from (tab_dst htab 12).trans rfl), put_none]
      rfl
    rw [e]
    exact this
  intro i o ho c L a w' hL hd ha hW
  have hi : i < 13 := by rw [← hosz]; exact (Array.getElem?_eq_some_iff.1 ho).1
  match i, ho, hL, hi with
  | 0, ho, hL, _ =>
    obtain ⟨hop, hdst, hgd⟩ := tab_at htab ho (show rft5T[0]? = _ from rfl)
    simp only at hop hgd
    have h0 := frm_old (val := val c) ha 3 _ (hold 3 rfl) o3
    exact doesX_of (doesL_run ho (wanted_none hgd) (hpure 0 (by decide) c L w' hW) (g_field hop (eval_of h0) (by kernel_rfl)))
  | 1, ho, hL, _ =>
    obtain ⟨hop, hdst, hgd⟩ := tab_at htab ho (show rft5T[1]? = _ from rfl)
    simp only at hop hgd
    have h0 := frm_at (val := val c) hdis ha 0 29 (hds 0 29 rfl) (by omega) (depl_of hdep 1 0 (by decide) ho hd)
    exact doesX_of (doesL_run ho (wanted_none hgd) (hpure 1 (by decide) c L w' hW) (g_load hop (eval_of h0) (r1 c L w' hW hL (depl_of hdep 1 0 (by decide) ho hd))))
  | 2, ho, hL, _ =>
    obtain ⟨hop, hdst, hgd⟩ := tab_at htab ho (show rft5T[2]? = _ from rfl)
    simp only at hop hgd
    have h0 := frm_old (val := val c) ha 1 _ (hold 1 rfl) o1
    exact doesX_of (doesL_run ho (wanted_none hgd) (hpure 2 (by decide) c L w' hW) (g_field hop (eval_of h0) (by kernel_rfl)))
  | 3, ho, hL, _ =>
    obtain ⟨hop, hdst, hgd⟩ := tab_at htab ho (show rft5T[3]? = _ from rfl)
    simp only at hop hgd
    have h0 := frm_at (val := val c) hdis ha 2 31 (hds 2 31 rfl) (by omega) (depl_of hdep 3 2 (by decide) ho hd)
    exact doesX_of (doesL_run ho (wanted_none hgd) (hpure 3 (by decide) c L w' hW) (g_load hop (eval_of h0) (r3 c L w' hW hL (depl_of hdep 3 2 (by decide) ho hd))))
  | 4, ho, hL, _ =>
    obtain ⟨hop, hdst, hgd⟩ := tab_at htab ho (show rft5T[4]? = _ from rfl)
    simp only at hop hgd
    have h0 := frm_old (val := val c) ha 4 _ (hold 4 rfl) o4
    exact doesX_of (doesL_run ho (wanted_none hgd) (hpure 4 (by decide) c L w' hW) (by rw [run_move _ _ _ hop]; exact congrArg (fun v => Result.ok (Next.value v) w') (eval_of h0)))
  | 5, ho, hL, _ =>
    obtain ⟨hop, hdst, hgd⟩ := tab_at htab ho (show rft5T[5]? = _ from rfl)
    simp only at hop hgd
    have h0 := frm_at (val := val c) hdis ha 3 32 (hds 3 32 rfl) (by omega) (depl_of hdep 5 3 (by decide) ho hd)
    have h1 := frm_at (val := val c) hdis ha 4 33 (hds 4 33 rfl) (by omega) (depl_of hdep 5 4 (by decide) ho hd)
    exact doesX_of (doesL_run ho (wanted_none hgd) (hpure 5 (by decide) c L w' hW) (g_ixa hop (eval_of h0) (eval_of h1) (r5 w')))
  | 6, ho, hL, _ =>
    obtain ⟨hop, hdst, hgd⟩ := tab_at htab ho (show rft5T[6]? = _ from rfl)
    simp only at hop hgd
    have h0 := frm_at (val := val c) hdis ha 5 34 (hds 5 34 rfl) (by omega) (depl_of hdep 6 5 (by decide) ho hd)
    exact doesX_of (doesL_run ho (wanted_none hgd) (hpure 6 (by decide) c L w' hW) (g_load hop (eval_of h0) (r6 c L w' hW hL (depl_of hdep 6 5 (by decide) ho hd))))
  | 7, ho, hL, _ =>
    obtain ⟨hop, hdst, hgd⟩ := tab_at htab ho (show rft5T[7]? = _ from rfl)
    simp only at hop hgd
    have h0 := frm_at (val := val c) hdis ha 6 35 (hds 6 35 rfl) (by omega) (depl_of hdep 7 6 (by decide) ho hd)
    refine doesX_call ho (wanted_none hgd) 18 #[(I z), (.int .i64 4094)] ?_ (r7 c L w' hW hL (depl_of hdep 7 6 (by decide) ho hd))
    rw [run_calls Tryz.func18 (by kernel_rfl) rfl _ _ _ _ hop rfl]
    simp only [List.map_toArray, List.map_cons, List.map_nil, eval_of h0]
    all_goals rfl
  | 8, ho, hL, _ =>
    obtain ⟨hop, hdst, hgd⟩ := tab_at htab ho (show rft5T[8]? = _ from rfl)
    simp only at hop hgd
    have h1 := frm_at (val := val c) hdis ha 7 36 (hds 7 36 rfl) (by omega) (depl_of hdep 8 7 (by decide) ho hd)
    exact doesX_of (doesL_run ho (wanted_none hgd) (hpure 8 (by decide) c L w' hW) (g_bin hop rfl (eval_of h1) (r8 w')))
  | 9, ho, hL, _ =>
    obtain ⟨hop, hdst, hgd⟩ := tab_at htab ho (show rft5T[9]? = _ from rfl)
    simp only at hop hgd
    have h0 := frm_at (val := val c) hdis ha 8 37 (hds 8 37 rfl) (by omega) (depl_of hdep 9 8 (by decide) ho hd)
    obtain ⟨c', W', q0, q1, q2⟩ := r9 c L w' hW hL (depl_of hdep 9 8 (by decide) ho hd)
    exact doesX_runw ho (wanted_none hgd) c' q0 q2 (g_bs hop (by simp only [List.map_toArray, List.map_cons, List.map_nil, eval_of h0]; first | done | rfl) q1)
  | 10, ho, hL, _ =>
    obtain ⟨hop, hdst, hgd⟩ := tab_at htab ho (show rft5T[10]? = _ from rfl)
    simp only at hop hgd
    have h0 := frm_at (val := val c) hdis ha 1 30 (hds 1 30 rfl) (by omega) (depl_of hdep 10 1 (by decide) ho hd)
    have h1 := frm_at (val := val c) hdis ha 9 38 (hds 9 38 rfl) (by omega) (depl_of hdep 10 9 (by decide) ho hd)
    obtain ⟨c', W', q0, q1, q2⟩ := r10 _ c L w' hW hL (depl_of hdep 10 1 (by decide) ho hd) (depl_of hdep 10 9 (by decide) ho hd)
    exact doesX_runw ho (wanted_none hgd) c' q0 q2 (g_app hop (eval_of h0) (eval_of h1) q1)
  | 11, ho, hL, _ =>
    obtain ⟨hop, hdst, hgd⟩ := tab_at htab ho (show rft5T[11]? = _ from rfl)
    simp only at hop hgd
    have h0 := frm_old (val := val c) ha 3 _ (hold 3 rfl) o3
    exact doesX_of (doesL_run ho (wanted_none hgd) (hpure 11 (by decide) c L w' hW) (g_field hop (eval_of h0) (by kernel_rfl)))
  | 12, ho, hL, _ =>
    obtain ⟨hop, hdst, hgd⟩ := tab_at htab ho (show rft5T[12]? = _ from rfl)
    simp only at hop hgd
    have h0 := frm_at (val := val c) hdis ha 11 40 (hds 11 40 rfl) (by omega) (depl_of hdep 12 11 (by decide) ho hd)
    have h1 := frm_at (val := val c) hdis ha 10 39 (hds 10 39 rfl) (by omega) (depl_of hdep 12 10 (by decide) ho hd)
    obtain ⟨W', q1, q2⟩ := r12 c L w' hW hL (depl_of hdep 12 10 (by decide) ho hd) (depl_of hdep 12 11 (by decide) ho hd)
    exact doesX_of (doesL_skp ho (wanted_none hgd) rfl q2 (g_store hop (eval_of h0) (eval_of h1) q1))
  | (i + 13), ho, hL, hi => exact absurd hi (by omega)
def vrsm3 (s BC : Bs) (n : Nat) (_c : Unit) (i : Nat) : Value := match i with
  | 0 => (S s)
  | 1 => (S (s.take 508))
  | 2 => (S s)
  | 3 => (S (s.take 508))
  | 4 => (.int .u32 (n : Int))
  | 5 => (I (n : Int))
  | 6 => (S BC)
  | 7 => (S (s.take 508 ++ BC))
  | 8 => (S (s.take 508 ++ BC))
  | _ => undef
def rsm3T : List (Op × Option Tmp × Option (Nat × Bool)) := [
  (.move (.tmp 0), some 7, none),
  (.slice 9 (.tmp 7) none (some (.const (.int .i64 508))) none, some 8, none),
  (.move (.tmp 0), some 9, none),
  (.slice 9 (.tmp 9) none (some (.const (.int .i64 508))) none, some 10, none),
  (.call { callee := .value (.func 66), args := #[(.tmp 10)], argTypes := #[9] }, some 11, none),
  (.convert 118 3 (.tmp 11), some 12, none),
  (.call { callee := .value (.func 59), args := #[(.const (.int .i64 4)), (.tmp 12)], argTypes := #[3, 3] }, some 13, none),
  (.binOp .add 9 (.tmp 8) (.tmp 13) 9, some 14, none),
  (.assign (.tmp 14), some 2, none)]
def rsm3D : List (Nat × Nat) := [(1, 0), (3, 2), (4, 3), (5, 4), (6, 5), (7, 1), (7, 6), (8, 7)]
set_option maxHeartbeats 4000000 in
theorem rsm3 {ops : Array Oper} {id : Nat} {Q : Exit → Act → World → Prop} (s BC : Bs) (n : Nat) (htab : ops.toList.map (fun o => (o.op, o.dst, o.guard)) = rsm3T) (hdep : deplB rsm3D ops = true) (hac : acB ops = true)
    (a0 : Act) (w : World) (hsz : 15 ≤ a0.tmps.size) (o0 : a0.tmps[0]? = some (S s))
    (Wd : Unit → (Nat → Bool) → World → Prop) (h0 : ∃ c, Wd c (fun _ => false) w.drew) (hpure : ∀ i, i ∉ ([4, 6] : List Nat) → ∀ c L W, Wd c L W → Wd c (upd L i) W)
    (r1 : ∀ W, (Instr.sliceAt 9 (S s) none (some (.int .i64 508)) none).run Tryz.prog W = .ok (S (s.take 508)) W)
    (r3 : ∀ W, (Instr.sliceAt 9 (S s) none (some (.int .i64 508)) none).run Tryz.prog W = .ok (S (s.take 508)) W)
    (r4 : ∀ c L W, Wd c L W → L 4 = false → L 3 = true → Calls Tryz.prog 66 #[(S (s.take 508))] W fun eg w' => ∃ c', (∀ j, L j = true → vrsm3 s BC n c' j = vrsm3 s BC n c j) ∧ eg = .returned (vrsm3 s BC n c' 4) ∧ Wd c' (upd L 4) w')
    (r5 : ∀ W, (convert 118 3 (.int .u32 (n : Int))).run Tryz.prog W = .ok (I (n : Int)) W)
    (r6 : ∀ c L W, Wd c L W → L 6 = false → L 5 = true → Calls Tryz.prog 59 #[(.int .i64 4), (I (n : Int))] W fun eg w' => ∃ c', (∀ j, L j = true → vrsm3 s BC n c' j = vrsm3 s BC n c j) ∧ eg = .returned (vrsm3 s BC n c' 6) ∧ Wd c' (upd L 6) w')
    (r7 : ∀ W, (do eqGuard .add 9 (.tmp 8) (.tmp 13) (S (s.take 508)) (S BC); binOp .add 9 (S (s.take 508)) (S BC)).run Tryz.prog W = .ok (S (s.take 508 ++ BC)) W)
    (hend : ∀ c L W, (∀ i, i < 9 → L i = true) → Wd c L W → Q .normal (((((((((a0.put (some 7) (S s)).put (some 8) (S (s.take 508))).put (some 9) (S s)).put (some 10) (S (s.take 508))).put (some 11) (.int .u32 (n : Int))).put (some 12) (I (n : Int))).put (some 13) (S BC)).put (some 14) (S (s.take 508 ++ BC))).put (some 2) (S (s.take 508 ++ BC))) W) : (Code.region id ops true).wp Tryz.prog Q a0 w := by
  let val : Unit → Nat → Value := vrsm3 s BC n
  have hosz : ops.size = 9 := by
    have := congrArg List.length htab
    simpa [rsm3T] using this
  have hds : ∀ i s, (rsm3T[i]?).bind (·.2.1) = some s → dstOf ops i = some s := fun i s hi => by rw [tab_dst htab, hi]
  have hdisB : disL rsm3T = true := by rfl
  have hdis := disL_of htab hdisB
  have hold : ∀ s, rsm3T.all (fun x => !(x.2.1 == some s)) = true → (List.range ops.size).all (fun j => !(dstOf ops j == some s)) = true := fun s h => holdL htab s h
  refine region_detX val Wd (hac_of hac) hdis h0 ?_ ?_
  rotate_left
  · intro c L W hall hW
    have := hend c L W (by rw [← hosz]; exact hall) hW
    have e : frm ops a0 (val c) (fun _ => true) ops.size = (((((((((a0.put (some 7) (S s)).put (some 8) (S (s.take 508))).put (some 9) (S s)).put (some 10) (S (s.take 508))).put (some 11) (.int .u32 (n : Int))).put (some 12) (I (n : Int))).put (some 13) (S BC)).put (some 14) (S (s.take 508 ++ BC))).put (some 2) (S (s.take 508 ++ BC))) := by
      rw [hosz]
      simp only [frm, if_true]
      rw [tab_dst htab 0, tab_dst htab 1, tab_dst htab 2, tab_dst htab 3, tab_dst htab 4, tab_dst htab 5, tab_dst htab 6, tab_dst htab 7, tab_dst htab 8]
      rfl
    rw [e]
    exact this
  intro i o ho c L a w' hL hd ha hW
  have hi : i < 9 := by rw [← hosz]; exact (Array.getElem?_eq_some_iff.1 ho).1
  match i, ho, hL, hi with
  | 0, ho, hL, _ =>
    obtain ⟨hop, hdst, hgd⟩ := tab_at htab ho (show rsm3T[0]? = _ from rfl)
    simp only at hop hgd
    have h0 := frm_old (val := val c) ha 0 _ (hold 0 rfl) o0
    exact doesX_of (doesL_run ho (wanted_none hgd) (hpure 0 (by decide) c L w' hW) (by rw [run_move _ _ _ hop]; exact congrArg (fun v => Result.ok (Next.value v) w') (eval_of h0)))
  | 1, ho, hL, _ =>
    obtain ⟨hop, hdst, hgd⟩ := tab_at htab ho (show rsm3T[1]? = _ from rfl)
    simp only at hop hgd
    have h0 := frm_at (val := val c) hdis ha 0 7 (hds 0 7 rfl) (by omega) (depl_of hdep 1 0 (by decide) ho hd)
    exact doesX_of (doesL_run ho (wanted_none hgd) (hpure 1 (by decide) c L w' hW) (g_sl hop (eval_of h0) rfl (congrArg some rfl) rfl (r1 w')))
  | 2, ho, hL, _ =>
    obtain ⟨hop, hdst, hgd⟩ := tab_at htab ho (show rsm3T[2]? = _ from rfl)
    simp only at hop hgd
    have h0 := frm_old (val := val c) ha 0 _ (hold 0 rfl) o0
    exact doesX_of (doesL_run ho (wanted_none hgd) (hpure 2 (by decide) c L w' hW) (by rw [run_move _ _ _ hop]; exact congrArg (fun v => Result.ok (Next.value v) w') (eval_of h0)))
  | 3, ho, hL, _ =>
    obtain ⟨hop, hdst, hgd⟩ := tab_at htab ho (show rsm3T[3]? = _ from rfl)
    simp only at hop hgd
    have h0 := frm_at (val := val c) hdis ha 2 9 (hds 2 9 rfl) (by omega) (depl_of hdep 3 2 (by decide) ho hd)
    exact doesX_of (doesL_run ho (wanted_none hgd) (hpure 3 (by decide) c L w' hW) (g_sl hop (eval_of h0) rfl (congrArg some rfl) rfl (r3 w')))
  | 4, ho, hL, _ =>
    obtain ⟨hop, hdst, hgd⟩ := tab_at htab ho (show rsm3T[4]? = _ from rfl)
    simp only at hop hgd
    have h0 := frm_at (val := val c) hdis ha 3 10 (hds 3 10 rfl) (by omega) (depl_of hdep 4 3 (by decide) ho hd)
    refine doesX_call ho (wanted_none hgd) 66 #[(S (s.take 508))] ?_ (r4 c L w' hW hL (depl_of hdep 4 3 (by decide) ho hd))
    rw [run_calls Tryz.func66 (by kernel_rfl) rfl _ _ _ _ hop rfl]
    simp only [List.map_toArray, List.map_cons, List.map_nil, eval_of h0]
    all_goals rfl
  | 5, ho, hL, _ =>
    obtain ⟨hop, hdst, hgd⟩ := tab_at htab ho (show rsm3T[5]? = _ from rfl)
    simp only at hop hgd
    have h0 := frm_at (val := val c) hdis ha 4 11 (hds 4 11 rfl) (by omega) (depl_of hdep 5 4 (by decide) ho hd)
    exact doesX_of (doesL_run ho (wanted_none hgd) (hpure 5 (by decide) c L w' hW) (g_conv hop (eval_of h0) (r5 w')))
  | 6, ho, hL, _ =>
    obtain ⟨hop, hdst, hgd⟩ := tab_at htab ho (show rsm3T[6]? = _ from rfl)
    simp only at hop hgd
    have h1 := frm_at (val := val c) hdis ha 5 12 (hds 5 12 rfl) (by omega) (depl_of hdep 6 5 (by decide) ho hd)
    refine doesX_call ho (wanted_none hgd) 59 #[(.int .i64 4), (I (n : Int))] ?_ (r6 c L w' hW hL (depl_of hdep 6 5 (by decide) ho hd))
    rw [run_calls Tryz.func59 (by kernel_rfl) rfl _ _ _ _ hop rfl]
    simp only [List.map_toArray, List.map_cons, List.map_nil, eval_of h1]
    all_goals rfl
  | 7, ho, hL, _ =>
    obtain ⟨hop, hdst, hgd⟩ := tab_at htab ho (show rsm3T[7]? = _ from rfl)
    simp only at hop hgd
    have h0 := frm_at (val := val c) hdis ha 1 8 (hds 1 8 rfl) (by omega) (depl_of hdep 7 1 (by decide) ho hd)
    have h1 := frm_at (val := val c) hdis ha 6 13 (hds 6 13 rfl) (by omega) (depl_of hdep 7 6 (by decide) ho hd)
    exact doesX_of (doesL_run ho (wanted_none hgd) (hpure 7 (by decide) c L w' hW) (g_bin hop (eval_of h0) (eval_of h1) (r7 w')))
  | 8, ho, hL, _ =>
    obtain ⟨hop, hdst, hgd⟩ := tab_at htab ho (show rsm3T[8]? = _ from rfl)
    simp only at hop hgd
    have h0 := frm_at (val := val c) hdis ha 7 14 (hds 7 14 rfl) (by omega) (depl_of hdep 8 7 (by decide) ho hd)
    exact doesX_of (doesL_run ho (wanted_none hgd) (hpure 8 (by decide) c L w' hW) (by rw [run_assign _ _ _ hop]; exact congrArg (fun v => Result.ok (Next.value v) w') (eval_of h0)))
  | (i + 9), ho, hL, hi => exact absurd hi (by omega)
def vrst4 (X gF nF cF gW nW cW jj n1 c1 n2 c2 : Nat) (a1 a2 : Option Addr) (_c : Unit) (i : Nat) : Value := match i with
  | 0 => (.pointer (some ⟨X, 0, none⟩))
  | 1 => (.pointer (some ⟨X, 0, none⟩))
  | 2 => (.pointer (some ⟨X, 0 + 0, none⟩))
  | 3 => (.slice (some ⟨gF, 0, none⟩) nF cF)
  | 4 => (.int .i64 (jj : Int))
  | 5 => (.pointer (some ⟨gF, 0 + jj, none⟩))
  | 6 => (.slice a1 n1 c1)
  | 7 => (.pointer (some ⟨X, 0, none⟩))
  | 8 => (.pointer (some ⟨X, 0, none⟩))
  | 9 => (.pointer (some ⟨X, 0 + 1, none⟩))
  | 10 => (.slice (some ⟨gW, 0, none⟩) nW cW)
  | 11 => (.int .i64 (jj : Int))
  | 12 => (.pointer (some ⟨gW, 0 + jj, none⟩))
  | 13 => (.slice a2 n2 c2)
  | 14 => (.bool true)
  | 15 => (.bool true)
  | _ => undef
def rst4T : List (Op × Option Tmp × Option (Nat × Bool)) := [
  (.move (.tmp 0), some 24, none),
  (.nilCheck (.tmp 24), some 25, none),
  (.fieldAddr 32 (.tmp 25) 0, some 26, none),
  (.load 30 (.tmp 26), some 27, none),
  (.move (.tmp 3), some 28, none),
  (.indexAddr 30 (.tmp 27) (.tmp 28), some 29, none),
  (.load 22 (.tmp 29), some 30, none),
  (.move (.tmp 0), some 31, none),
  (.nilCheck (.tmp 31), some 32, none),
  (.fieldAddr 32 (.tmp 32) 1, some 33, none),
  (.load 30 (.tmp 33), some 34, none),
  (.move (.tmp 3), some 35, none),
  (.indexAddr 30 (.tmp 34) (.tmp 35), some 36, none),
  (.load 22 (.tmp 36), some 37, none),
  (.call { callee := .value (.func 67), args := #[(.tmp 30), (.tmp 37)], argTypes := #[22, 22] }, some 38, none),
  (.assign (.tmp 38), some 4, none)]
def rst4D : List (Nat × Nat) := [(1, 0), (2, 1), (3, 2), (5, 3), (5, 4), (6, 5), (8, 7), (9, 8), (10, 9), (12, 10), (12, 11), (13, 12), (14, 6), (14, 13), (15, 14)]
set_option maxHeartbeats 4000000 in
theorem rst4 {ops : Array Oper} {id : Nat} {Q : Exit → Act → World → Prop} (X gF nF cF gW nW cW jj n1 c1 n2 c2 : Nat) (a1 a2 : Option Addr) (htab : ops.toList.map (fun o => (o.op, o.dst, o.guard)) = rst4T) (hdep : deplB rst4D ops = true) (hac : acB ops = true)
    (a0 : Act) (w : World) (hsz : 39 ≤ a0.tmps.size) (o0 : a0.tmps[0]? = some (.pointer (some ⟨X, 0, none⟩))) (o3 : a0.tmps[3]? = some (.int .i64 (jj : Int)))
    (Wd : Unit → (Nat → Bool) → World → Prop) (h0 : ∃ c, Wd c (fun _ => false) w.drew) (hpure : ∀ i, i ∉ ([14] : List Nat) → ∀ c L W, Wd c L W → Wd c (upd L i) W)
    (r3 : ∀ c L W, Wd c L W → L 3 = false → L 2 = true → (Instr.loadAt 30 (.pointer (some ⟨X, 0 + 0, none⟩))).run Tryz.prog W = .ok (.slice (some ⟨gF, 0, none⟩) nF cF) W)
    (r5 : ∀ W, (Instr.indexAt 30 (.slice (some ⟨gF, 0, none⟩) nF cF) (.int .i64 (jj : Int))).run Tryz.prog W = .ok (.pointer (some ⟨gF, 0 + jj, none⟩)) W)
    (r6 : ∀ c L W, Wd c L W → L 6 = false → L 5 = true → (Instr.loadAt 22 (.pointer (some ⟨gF, 0 + jj, none⟩))).run Tryz.prog W = .ok (.slice a1 n1 c1) W)
    (r10 : ∀ c L W, Wd c L W → L 10 = false → L 9 = true → (Instr.loadAt 30 (.pointer (some ⟨X, 0 + 1, none⟩))).run Tryz.prog W = .ok (.slice (some ⟨gW, 0, none⟩) nW cW) W)
    (r12 : ∀ W, (Instr.indexAt 30 (.slice (some ⟨gW, 0, none⟩) nW cW) (.int .i64 (jj : Int))).run Tryz.prog W = .ok (.pointer (some ⟨gW, 0 + jj, none⟩)) W)
    (r13 : ∀ c L W, Wd c L W → L 13 = false → L 12 = true → (Instr.loadAt 22 (.pointer (some ⟨gW, 0 + jj, none⟩))).run Tryz.prog W = .ok (.slice a2 n2 c2) W)
    (r14 : ∀ c L W, Wd c L W → L 14 = false → L 6 = true → L 13 = true → Calls Tryz.prog 67 #[(.slice a1 n1 c1), (.slice a2 n2 c2)] W fun eg w' => ∃ c', (∀ j, L j = true → vrst4 X gF nF cF gW nW cW jj n1 c1 n2 c2 a1 a2 c' j = vrst4 X gF nF cF gW nW cW jj n1 c1 n2 c2 a1 a2 c j) ∧ eg = .returned (vrst4 X gF nF cF gW nW cW jj n1 c1 n2 c2 a1 a2 c' 14) ∧ Wd c' (upd L 14) w')
    (hend : ∀ c L W, (∀ i, i < 16 → L i = true) → Wd c L W → Q .normal ((((((((((((((((a0.put (some 24) (.pointer (some ⟨X, 0, none⟩))).put (some 25) (.pointer (some ⟨X, 0, none⟩))).put (some 26) (.pointer (some ⟨X, 0 + 0, none⟩))).put (some 27) (.slice (some ⟨gF, 0, none⟩) nF cF)).put (some 28) (.int .i64 (jj : Int))).put (some 29) (.pointer (some ⟨gF, 0 + jj, none⟩))).put (some 30) (.slice a1 n1 c1)).put (some 31) (.pointer (some ⟨X, 0, none⟩))).put (some 32) (.pointer (some ⟨X, 0, none⟩))).put (some 33) (.pointer (some ⟨X, 0 + 1, none⟩))).put (some 34) (.slice (some ⟨gW, 0, none⟩) nW cW)).put (some 35) (.int .i64 (jj : Int))).put (some 36) (.pointer (some ⟨gW, 0 + jj, none⟩))).put (some 37) (.slice a2 n2 c2)).put (some 38) (.bool true)).put (some 4) (.bool true)) W) : (Code.region id ops true).wp Tryz.prog Q a0 w := by
  let val : Unit → Nat → Value := vrst4 X gF nF cF gW nW cW jj n1 c1 n2 c2 a1 a2
  have hosz : ops.size = 16 := by
    have := congrArg List.length htab
    simpa [rst4T] using this
  have hds : ∀ i s, (rst4T[i]?).bind (·.2.1) = some s → dstOf ops i = some s := fun i s hi => by rw [tab_dst htab, hi]
  have hdisB : disL rst4T = true := by rfl
  have hdis := disL_of htab hdisB
  have hold : ∀ s, rst4T.all (fun x => !(x.2.1 == some s)) = true → (List.range ops.size).all (fun j => !(dstOf ops j == some s)) = true := fun s h => holdL htab s h
  refine region_detX val Wd (hac_of hac) hdis h0 ?_ ?_
  rotate_left
  · intro c L W hall hW
    have := hend c L W (by rw [← hosz]; exact hall) hW
    have e : frm ops a0 (val c) (fun _ => true) ops.size = ((((((((((((((((a0.put (some 24) (.pointer (some ⟨X, 0, none⟩))).put (some 25) (.pointer (some ⟨X, 0, none⟩))).put (some 26) (.pointer (some ⟨X, 0 + 0, none⟩))).put (some 27) (.slice (some ⟨gF, 0, none⟩) nF cF)).put (some 28) (.int .i64 (jj : Int))).put (some 29) (.pointer (some ⟨gF, 0 + jj, none⟩))).put (some 30) (.slice a1 n1 c1)).put (some 31) (.pointer (some ⟨X, 0, none⟩))).put (some 32) (.pointer (some ⟨X, 0, none⟩))).put (some 33) (.pointer (some ⟨X, 0 + 1, none⟩))).put (some 34) (.slice (some ⟨gW, 0, none⟩) nW cW)).put (some 35) (.int .i64 (jj : Int))).put (some 36) (.pointer (some ⟨gW, 0 + jj, none⟩))).put (some 37) (.slice a2 n2 c2)).put (some 38) (.bool true)).put (some 4) (.bool true)) := by
      rw [hosz]
      simp only [frm, if_true]
      rw [tab_dst htab 0, tab_dst htab 1, tab_dst htab 2, tab_dst htab 3, tab_dst htab 4, tab_dst htab 5, tab_dst htab 6, tab_dst htab 7, tab_dst htab 8, tab_dst htab 9, tab_dst htab 10, tab_dst htab 11, tab_dst htab 12, tab_dst htab 13, tab_dst htab 14, tab_dst htab 15]
      rfl
    rw [e]
    exact this
  intro i o ho c L a w' hL hd ha hW
  have hi : i < 16 := by rw [← hosz]; exact (Array.getElem?_eq_some_iff.1 ho).1
  match i, ho, hL, hi with
  | 0, ho, hL, _ =>
    obtain ⟨hop, hdst, hgd⟩ := tab_at htab ho (show rst4T[0]? = _ from rfl)
    simp only at hop hgd
    have h0 := frm_old (val := val c) ha 0 _ (hold 0 rfl) o0
    exact doesX_of (doesL_run ho (wanted_none hgd) (hpure 0 (by decide) c L w' hW) (by rw [run_move _ _ _ hop]; exact congrArg (fun v => Result.ok (Next.value v) w') (eval_of h0)))
  | 1, ho, hL, _ =>
    obtain ⟨hop, hdst, hgd⟩ := tab_at htab ho (show rst4T[1]? = _ from rfl)
    simp only at hop hgd
    have h0 := frm_at (val := val c) hdis ha 0 24 (hds 0 24 rfl) (by omega) (depl_of hdep 1 0 (by decide) ho hd)
    exact doesX_of (doesL_run ho (wanted_none hgd) (hpure 1 (by decide) c L w' hW) (run_nil _ _ _ hop _ (eval_of h0) _))
  | 2, ho, hL, _ =>
    obtain ⟨hop, hdst, hgd⟩ := tab_at htab ho (show rst4T[2]? = _ from rfl)
    simp only at hop hgd
    have h0 := frm_at (val := val c) hdis ha 1 25 (hds 1 25 rfl) (by omega) (depl_of hdep 2 1 (by decide) ho hd)
    exact doesX_of (doesL_run ho (wanted_none hgd) (hpure 2 (by decide) c L w' hW) (g_field hop (eval_of h0) (by kernel_rfl)))
  | 3, ho, hL, _ =>
    obtain ⟨hop, hdst, hgd⟩ := tab_at htab ho (show rst4T[3]? = _ from rfl)
    simp only at hop hgd
    have h0 := frm_at (val := val c) hdis ha 2 26 (hds 2 26 rfl) (by omega) (depl_of hdep 3 2 (by decide) ho hd)
    exact doesX_of (doesL_run ho (wanted_none hgd) (hpure 3 (by decide) c L w' hW) (g_load hop (eval_of h0) (r3 c L w' hW hL (depl_of hdep 3 2 (by decide) ho hd))))
  | 4, ho, hL, _ =>
    obtain ⟨hop, hdst, hgd⟩ := tab_at htab ho (show rst4T[4]? = _ from rfl)
    simp only at hop hgd
    have h0 := frm_old (val := val c) ha 3 _ (hold 3 rfl) o3
    exact doesX_of (doesL_run ho (wanted_none hgd) (hpure 4 (by decide) c L w' hW) (by rw [run_move _ _ _ hop]; exact congrArg (fun v => Result.ok (Next.value v) w') (eval_of h0)))
  | 5, ho, hL, _ =>
    obtain ⟨hop, hdst, hgd⟩ := tab_at htab ho (show rst4T[5]? = _ from rfl)
    simp only at hop hgd
    have h0 := frm_at (val := val c) hdis ha 3 27 (hds 3 27 rfl) (by omega) (depl_of hdep 5 3 (by decide) ho hd)
    have h1 := frm_at (val := val c) hdis ha 4 28 (hds 4 28 rfl) (by omega) (depl_of hdep 5 4 (by decide) ho hd)
    exact doesX_of (doesL_run ho (wanted_none hgd) (hpure 5 (by decide) c L w' hW) (g_ixa hop (eval_of h0) (eval_of h1) (r5 w')))
  | 6, ho, hL, _ =>
    obtain ⟨hop, hdst, hgd⟩ := tab_at htab ho (show rst4T[6]? = _ from rfl)
    simp only at hop hgd
    have h0 := frm_at (val := val c) hdis ha 5 29 (hds 5 29 rfl) (by omega) (depl_of hdep 6 5 (by decide) ho hd)
    exact doesX_of (doesL_run ho (wanted_none hgd) (hpure 6 (by decide) c L w' hW) (g_load hop (eval_of h0) (r6 c L w' hW hL (depl_of hdep 6 5 (by decide) ho hd))))
  | 7, ho, hL, _ =>
    obtain ⟨hop, hdst, hgd⟩ := tab_at htab ho (show rst4T[7]? = _ from rfl)
    simp only at hop hgd
    have h0 := frm_old (val := val c) ha 0 _ (hold 0 rfl) o0
    exact doesX_of (doesL_run ho (wanted_none hgd) (hpure 7 (by decide) c L w' hW) (by rw [run_move _ _ _ hop]; exact congrArg (fun v => Result.ok (Next.value v) w') (eval_of h0)))
  | 8, ho, hL, _ =>
    obtain ⟨hop, hdst, hgd⟩ := tab_at htab ho (show rst4T[8]? = _ from rfl)
    simp only at hop hgd
    have h0 := frm_at (val := val c) hdis ha 7 31 (hds 7 31 rfl) (by omega) (depl_of hdep 8 7 (by decide) ho hd)
    exact doesX_of (doesL_run ho (wanted_none hgd) (hpure 8 (by decide) c L w' hW) (run_nil _ _ _ hop _ (eval_of h0) _))
  | 9, ho, hL, _ =>
    obtain ⟨hop, hdst, hgd⟩ := tab_at htab ho (show rst4T[9]? = _ from rfl)
    simp only at hop hgd
    have h0 := frm_at (val := val c) hdis ha 8 32 (hds 8 32 rfl) (by omega) (depl_of hdep 9 8 (by decide) ho hd)
    exact doesX_of (doesL_run ho (wanted_none hgd) (hpure 9 (by decide) c L w' hW) (g_field hop (eval_of h0) (by kernel_rfl)))
  | 10, ho, hL, _ =>
    obtain ⟨hop, hdst, hgd⟩ := tab_at htab ho (show rst4T[10]? = _ from rfl)
    simp only at hop hgd
    have h0 := frm_at (val := val c) hdis ha 9 33 (hds 9 33 rfl) (by omega) (depl_of hdep 10 9 (by decide) ho hd)
    exact doesX_of (doesL_run ho (wanted_none hgd) (hpure 10 (by decide) c L w' hW) (g_load hop (eval_of h0) (r10 c L w' hW hL (depl_of hdep 10 9 (by decide) ho hd))))
  | 11, ho, hL, _ =>
    obtain ⟨hop, hdst, hgd⟩ := tab_at htab ho (show rst4T[11]? = _ from rfl)
    simp only at hop hgd
    have h0 := frm_old (val := val c) ha 3 _ (hold 3 rfl) o3
    exact doesX_of (doesL_run ho (wanted_none hgd) (hpure 11 (by decide) c L w' hW) (by rw [run_move _ _ _ hop]; exact congrArg (fun v => Result.ok (Next.value v) w') (eval_of h0)))
  | 12, ho, hL, _ =>
    obtain ⟨hop, hdst, hgd⟩ := tab_at htab ho (show rst4T[12]? = _ from rfl)
    simp only at hop hgd
    have h0 := frm_at (val := val c) hdis ha 10 34 (hds 10 34 rfl) (by omega) (depl_of hdep 12 10 (by decide) ho hd)
    have h1 := frm_at (val := val c) hdis ha 11 35 (hds 11 35 rfl) (by omega) (depl_of hdep 12 11 (by decide) ho hd)
    exact doesX_of (doesL_run ho (wanted_none hgd) (hpure 12 (by decide) c L w' hW) (g_ixa hop (eval_of h0) (eval_of h1) (r12 w')))
  | 13, ho, hL, _ =>
    obtain ⟨hop, hdst, hgd⟩ := tab_at htab ho (show rst4T[13]? = _ from rfl)
    simp only at hop hgd
    have h0 := frm_at (val := val c) hdis ha 12 36 (hds 12 36 rfl) (by omega) (depl_of hdep 13 12 (by decide) ho hd)
    exact doesX_of (doesL_run ho (wanted_none hgd) (hpure 13 (by decide) c L w' hW) (g_load hop (eval_of h0) (r13 c L w' hW hL (depl_of hdep 13 12 (by decide) ho hd))))
  | 14, ho, hL, _ =>
    obtain ⟨hop, hdst, hgd⟩ := tab_at htab ho (show rst4T[14]? = _ from rfl)
    simp only at hop hgd
    have h0 := frm_at (val := val c) hdis ha 6 30 (hds 6 30 rfl) (by omega) (depl_of hdep 14 6 (by decide) ho hd)
    have h1 := frm_at (val := val c) hdis ha 13 37 (hds 13 37 rfl) (by omega) (depl_of hdep 14 13 (by decide) ho hd)
    refine doesX_call ho (wanted_none hgd) 67 #[(.slice a1 n1 c1), (.slice a2 n2 c2)] ?_ (r14 c L w' hW hL (depl_of hdep 14 6 (by decide) ho hd) (depl_of hdep 14 13 (by decide) ho hd))
    rw [run_calls Tryz.func67 (by kernel_rfl) rfl _ _ _ _ hop rfl]
    simp only [List.map_toArray, List.map_cons, List.map_nil, eval_of h0, eval_of h1]
    all_goals rfl
  | 15, ho, hL, _ =>
    obtain ⟨hop, hdst, hgd⟩ := tab_at htab ho (show rst4T[15]? = _ from rfl)
    simp only at hop hgd
    have h0 := frm_at (val := val c) hdis ha 14 38 (hds 14 38 rfl) (by omega) (depl_of hdep 15 14 (by decide) ho hd)
    exact doesX_of (doesL_run ho (wanted_none hgd) (hpure 15 (by decide) c L w' hW) (by rw [run_assign _ _ _ hop]; exact congrArg (fun v => Result.ok (Next.value v) w') (eval_of h0)))
  | (i + 16), ho, hL, hi => exact absurd hi (by omega)
def vrst8 (X nF cF : Nat) (aF : Option Addr) (c : Value) (i : Nat) : Value := match i with
  | 0 => (.pointer (some ⟨X, 0, none⟩))
  | 1 => (.pointer (some ⟨X, 0, none⟩))
  | 2 => (.pointer (some ⟨X, 0, none⟩))
  | 3 => (.pointer (some ⟨X, 0 + 2, none⟩))
  | 4 => (.slice none 0 0)
  | 5 => (.pointer (some ⟨X, 0, none⟩))
  | 6 => (.pointer (some ⟨X, 0, none⟩))
  | 7 => (.pointer (some ⟨X, 0 + 0, none⟩))
  | 8 => (.slice aF nF cF)
  | 9 => c
  | 10 => (.pointer (some ⟨X, 0, none⟩))
  | 11 => (.pointer (some ⟨X, 0 + 2, none⟩))
  | 12 => undef
  | _ => undef
def rst8T : List (Op × Option Tmp × Option (Nat × Bool)) := [
  (.move (.tmp 0), some 46, none),
  (.move (.tmp 0), some 47, none),
  (.nilCheck (.tmp 47), some 48, none),
  (.fieldAddr 32 (.tmp 48) 2, some 49, none),
  (.load 30 (.tmp 49), some 50, none),
  (.move (.tmp 0), some 51, none),
  (.nilCheck (.tmp 51), some 52, none),
  (.fieldAddr 32 (.tmp 52) 0, some 53, none),
  (.load 30 (.tmp 53), some 54, none),
  (.call { callee := .builtin .append, args := #[(.tmp 50), (.tmp 54)], argTypes := #[30, 30] }, some 55, none),
  (.nilCheck (.tmp 46), some 56, none),
  (.fieldAddr 32 (.tmp 56) 2, some 57, none),
  (.store 30 (.tmp 57) (.tmp 55), none, none)]
def rst8D : List (Nat × Nat) := [(2, 1), (3, 2), (4, 3), (6, 5), (7, 6), (8, 7), (9, 4), (9, 8), (10, 0), (11, 10), (12, 9), (12, 11)]
set_option maxHeartbeats 4000000 in
theorem rst8 {ops : Array Oper} {id : Nat} {Q : Exit → Act → World → Prop} (X nF cF : Nat) (aF : Option Addr) (htab : ops.toList.map (fun o => (o.op, o.dst, o.guard)) = rst8T) (hdep : deplB rst8D ops = true) (hac : acB ops = true)
    (a0 : Act) (w : World) (hsz : 58 ≤ a0.tmps.size) (o0 : a0.tmps[0]? = some (.pointer (some ⟨X, 0, none⟩)))
    (Wd : Value → (Nat → Bool) → World → Prop) (h0 : ∃ c, Wd c (fun _ => false) w.drew) (hpure : ∀ i, i ∉ ([9, 12] : List Nat) → ∀ c L W, Wd c L W → Wd c (upd L i) W)
    (r4 : ∀ c L W, Wd c L W → L 4 = false → L 3 = true → (Instr.loadAt 30 (.pointer (some ⟨X, 0 + 2, none⟩))).run Tryz.prog W = .ok (.slice none 0 0) W)
    (r8 : ∀ c L W, Wd c L W → L 8 = false → L 7 = true → (Instr.loadAt 30 (.pointer (some ⟨X, 0 + 0, none⟩))).run Tryz.prog W = .ok (.slice aF nF cF) W)
    (r9 : ∀ T, ∀ c L W, Wd c L W → L 9 = false → L 4 = true → L 8 = true → ∃ c' W', (∀ j, L j = true → vrst8 X nF cF aF c' j = vrst8 X nF cF aF c j) ∧ (Builtin.append_ #[30, 30] T #[(.slice none 0 0), (.slice aF nF cF)]).run Tryz.prog W = .ok (vrst8 X nF cF aF c' 9) W' ∧ Wd c' (upd L 9) W')
    (r12 : ∀ c L W, Wd c L W → L 12 = false → L 9 = true → L 11 = true → ∃ W', (Instr.storeAt 30 (.pointer (some ⟨X, 0 + 2, none⟩)) c).run Tryz.prog W = .ok () W' ∧ Wd c (upd L 12) W')
    (hend : ∀ c L W, (∀ i, i < 13 → L i = true) → Wd c L W → Q .normal ((((((((((((a0.put (some 46) (.pointer (some ⟨X, 0, none⟩))).put (some 47) (.pointer (some ⟨X, 0, none⟩))).put (some 48) (.pointer (some ⟨X, 0, none⟩))).put (some 49) (.pointer (some ⟨X, 0 + 2, none⟩))).put (some 50) (.slice none 0 0)).put (some 51) (.pointer (some ⟨X, 0, none⟩))).put (some 52) (.pointer (some ⟨X, 0, none⟩))).put (some 53) (.pointer (some ⟨X, 0 + 0, none⟩))).put (some 54) (.slice aF nF cF)).put (some 55) c).put (some 56) (.pointer (some ⟨X, 0, none⟩))).put (some 57) (.pointer (some ⟨X, 0 + 2, none⟩))) W) : (Code.region id ops true).wp Tryz.prog Q a0 w := by
  let val : Value → Nat → Value := vrst8 X nF cF aF
  have hosz : ops.size = 13 := by
    have := congrArg List.length htab
    simpa [rst8T] using this
  have hds : ∀ i s, (rst8T[i]?).bind (·.2.1) = some s → dstOf ops i = some s := fun i s hi => by rw [tab_dst htab, hi]
  have hdisB : disL rst8T = true := by rfl
  have hdis := disL_of htab hdisB
  have hold : ∀ s, rst8T.all (fun x => !(x.2.1 == some s)) = true → (List.range ops.size).all (fun j => !(dstOf ops j == some s)) = true := fun s h => holdL htab s h
  refine region_detX val Wd (hac_of hac) hdis h0 ?_ ?_
  rotate_left
  · intro c L W hall hW
    have := hend c L W (by rw [← hosz]; exact hall) hW
    have e : frm ops a0 (val c) (fun _ => true) ops.size = ((((((((((((a0.put (some 46) (.pointer (some ⟨X, 0, none⟩))).put (some 47) (.pointer (some ⟨X, 0, none⟩))).put (some 48) (.pointer (some ⟨X, 0, none⟩))).put (some 49) (.pointer (some ⟨X, 0 + 2, none⟩))).put (some 50) (.slice none 0 0)).put (some 51) (.pointer (some ⟨X, 0, none⟩))).put (some 52) (.pointer (some ⟨X, 0, none⟩))).put (some 53) (.pointer (some ⟨X, 0 + 0, none⟩))).put (some 54) (.slice aF nF cF)).put (some 55) c).put (some 56) (.pointer (some ⟨X, 0, none⟩))).put (some 57) (.pointer (some ⟨X, 0 + 2, none⟩))) := by
      rw [hosz]
      simp only [frm, if_true]
      rw [tab_dst htab 0, tab_dst htab 1, tab_dst htab 2, tab_dst htab 3, tab_dst htab 4, tab_dst htab 5, tab_dst htab 6, tab_dst htab 7, tab_dst htab 8, tab_dst htab 9, tab_dst htab 10, tab_dst htab 11, (show dstOf ops 12 = none from (tab_dst htab 12).trans rfl), put_none]
      rfl
    rw [e]
    exact this
  intro i o ho c L a w' hL hd ha hW
  have hi : i < 13 := by rw [← hosz]; exact (Array.getElem?_eq_some_iff.1 ho).1
  match i, ho, hL, hi with
  | 0, ho, hL, _ =>
    obtain ⟨hop, hdst, hgd⟩ := tab_at htab ho (show rst8T[0]? = _ from rfl)
    simp only at hop hgd
    have h0 := frm_old (val := val c) ha 0 _ (hold 0 rfl) o0
    exact doesX_of (doesL_run ho (wanted_none hgd) (hpure 0 (by decide) c L w' hW) (by rw [run_move _ _ _ hop]; exact congrArg (fun v => Result.ok (Next.value v) w') (eval_of h0)))
  | 1, ho, hL, _ =>
    obtain ⟨hop, hdst, hgd⟩ := tab_at htab ho (show rst8T[1]? = _ from rfl)
    simp only at hop hgd
    have h0 := frm_old (val := val c) ha 0 _ (hold 0 rfl) o0
    exact doesX_of (doesL_run ho (wanted_none hgd) (hpure 1 (by decide) c L w' hW) (by rw [run_move _ _ _ hop]; exact congrArg (fun v => Result.ok (Next.value v) w') (eval_of h0)))
  | 2, ho, hL, _ =>
    obtain ⟨hop, hdst, hgd⟩ := tab_at htab ho (show rst8T[2]? = _ from rfl)
    simp only at hop hgd
    have h0 := frm_at (val := val c) hdis ha 1 47 (hds 1 47 rfl) (by omega) (depl_of hdep 2 1 (by decide) ho hd)
    exact doesX_of (doesL_run ho (wanted_none hgd) (hpure 2 (by decide) c L w' hW) (run_nil _ _ _ hop _ (eval_of h0) _))
  | 3, ho, hL, _ =>
    obtain ⟨hop, hdst, hgd⟩ := tab_at htab ho (show rst8T[3]? = _ from rfl)
    simp only at hop hgd
    have h0 := frm_at (val := val c) hdis ha 2 48 (hds 2 48 rfl) (by omega) (depl_of hdep 3 2 (by decide) ho hd)
    exact doesX_of (doesL_run ho (wanted_none hgd) (hpure 3 (by decide) c L w' hW) (g_field hop (eval_of h0) (by kernel_rfl)))
  | 4, ho, hL, _ =>
    obtain ⟨hop, hdst, hgd⟩ := tab_at htab ho (show rst8T[4]? = _ from rfl)
    simp only at hop hgd
    have h0 := frm_at (val := val c) hdis ha 3 49 (hds 3 49 rfl) (by omega) (depl_of hdep 4 3 (by decide) ho hd)
    exact doesX_of (doesL_run ho (wanted_none hgd) (hpure 4 (by decide) c L w' hW) (g_load hop (eval_of h0) (r4 c L w' hW hL (depl_of hdep 4 3 (by decide) ho hd))))
  | 5, ho, hL, _ =>
    obtain ⟨hop, hdst, hgd⟩ := tab_at htab ho (show rst8T[5]? = _ from rfl)
    simp only at hop hgd
    have h0 := frm_old (val := val c) ha 0 _ (hold 0 rfl) o0
    exact doesX_of (doesL_run ho (wanted_none hgd) (hpure 5 (by decide) c L w' hW) (by rw [run_move _ _ _ hop]; exact congrArg (fun v => Result.ok (Next.value v) w') (eval_of h0)))
  | 6, ho, hL, _ =>
    obtain ⟨hop, hdst, hgd⟩ := tab_at htab ho (show rst8T[6]? = _ from rfl)
    simp only at hop hgd
    have h0 := frm_at (val := val c) hdis ha 5 51 (hds 5 51 rfl) (by omega) (depl_of hdep 6 5 (by decide) ho hd)
    exact doesX_of (doesL_run ho (wanted_none hgd) (hpure 6 (by decide) c L w' hW) (run_nil _ _ _ hop _ (eval_of h0) _))
  | 7, ho, hL, _ =>
    obtain ⟨hop, hdst, hgd⟩ := tab_at htab ho (show rst8T[7]? = _ from rfl)
    simp only at hop hgd
    have h0 := frm_at (val := val c) hdis ha 6 52 (hds 6 52 rfl) (by omega) (depl_of hdep 7 6 (by decide) ho hd)
    exact doesX_of (doesL_run ho (wanted_none hgd) (hpure 7 (by decide) c L w' hW) (g_field hop (eval_of h0) (by kernel_rfl)))
  | 8, ho, hL, _ =>
    obtain ⟨hop, hdst, hgd⟩ := tab_at htab ho (show rst8T[8]? = _ from rfl)
    simp only at hop hgd
    have h0 := frm_at (val := val c) hdis ha 7 53 (hds 7 53 rfl) (by omega) (depl_of hdep 8 7 (by decide) ho hd)
    exact doesX_of (doesL_run ho (wanted_none hgd) (hpure 8 (by decide) c L w' hW) (g_load hop (eval_of h0) (r8 c L w' hW hL (depl_of hdep 8 7 (by decide) ho hd))))
  | 9, ho, hL, _ =>
    obtain ⟨hop, hdst, hgd⟩ := tab_at htab ho (show rst8T[9]? = _ from rfl)
    simp only at hop hgd
    have h0 := frm_at (val := val c) hdis ha 4 50 (hds 4 50 rfl) (by omega) (depl_of hdep 9 4 (by decide) ho hd)
    have h1 := frm_at (val := val c) hdis ha 8 54 (hds 8 54 rfl) (by omega) (depl_of hdep 9 8 (by decide) ho hd)
    obtain ⟨c', W', q0, q1, q2⟩ := r9 _ c L w' hW hL (depl_of hdep 9 4 (by decide) ho hd) (depl_of hdep 9 8 (by decide) ho hd)
    exact doesX_runw ho (wanted_none hgd) c' q0 q2 (g_app hop (eval_of h0) (eval_of h1) q1)
  | 10, ho, hL, _ =>
    obtain ⟨hop, hdst, hgd⟩ := tab_at htab ho (show rst8T[10]? = _ from rfl)
    simp only at hop hgd
    have h0 := frm_at (val := val c) hdis ha 0 46 (hds 0 46 rfl) (by omega) (depl_of hdep 10 0 (by decide) ho hd)
    exact doesX_of (doesL_run ho (wanted_none hgd) (hpure 10 (by decide) c L w' hW) (run_nil _ _ _ hop _ (eval_of h0) _))
  | 11, ho, hL, _ =>
    obtain ⟨hop, hdst, hgd⟩ := tab_at htab ho (show rst8T[11]? = _ from rfl)
    simp only at hop hgd
    have h0 := frm_at (val := val c) hdis ha 10 56 (hds 10 56 rfl) (by omega) (depl_of hdep 11 10 (by decide) ho hd)
    exact doesX_of (doesL_run ho (wanted_none hgd) (hpure 11 (by decide) c L w' hW) (g_field hop (eval_of h0) (by kernel_rfl)))
  | 12, ho, hL, _ =>
    obtain ⟨hop, hdst, hgd⟩ := tab_at htab ho (show rst8T[12]? = _ from rfl)
    simp only at hop hgd
    have h0 := frm_at (val := val c) hdis ha 11 57 (hds 11 57 rfl) (by omega) (depl_of hdep 12 11 (by decide) ho hd)
    have h1 := frm_at (val := val c) hdis ha 9 55 (hds 9 55 rfl) (by omega) (depl_of hdep 12 9 (by decide) ho hd)
    obtain ⟨W', q1, q2⟩ := r12 c L w' hW hL (depl_of hdep 12 9 (by decide) ho hd) (depl_of hdep 12 11 (by decide) ho hd)
    exact doesX_of (doesL_skp ho (wanted_none hgd) rfl q2 (g_store hop (eval_of h0) (eval_of h1) q1))
  | (i + 13), ho, hL, hi => exact absurd hi (by omega)
def vrst37 (X gG nG cG gH nH cH jj n1 c1 : Nat) (a1 : Option Addr) (z : Int) (_c : Unit) (i : Nat) : Value := match i with
  | 0 => (.pointer (some ⟨X, 0, none⟩))
  | 1 => (.pointer (some ⟨X, 0, none⟩))
  | 2 => (.pointer (some ⟨X, 0 + 3, none⟩))
  | 3 => (.slice (some ⟨gG, 0, none⟩) nG cG)
  | 4 => (.int .i64 (jj : Int))
  | 5 => (.pointer (some ⟨gG, 0 + jj, none⟩))
  | 6 => (.slice a1 n1 c1)
  | 7 => (.pointer (some ⟨X, 0, none⟩))
  | 8 => (.pointer (some ⟨X, 0, none⟩))
  | 9 => (.pointer (some ⟨X, 0 + 4, none⟩))
  | 10 => (.slice (some ⟨gH, 0, none⟩) nH cH)
  | 11 => (.int .i64 (jj : Int))
  | 12 => (.pointer (some ⟨gH, 0 + jj, none⟩))
  | 13 => (I z)
  | 14 => (I (-100 - z))
  | 15 => (.bool true)
  | 16 => (.bool true)
  | _ => undef
def rst37T : List (Op × Option Tmp × Option (Nat × Bool)) := [
  (.move (.tmp 0), some 173, none),
  (.nilCheck (.tmp 173), some 174, none),
  (.fieldAddr 32 (.tmp 174) 3, some 175, none),
  (.load 30 (.tmp 175), some 176, none),
  (.move (.tmp 13), some 177, none),
  (.indexAddr 30 (.tmp 176) (.tmp 177), some 178, none),
  (.load 22 (.tmp 178), some 179, none),
  (.move (.tmp 0), some 180, none),
  (.nilCheck (.tmp 180), some 181, none),
  (.fieldAddr 32 (.tmp 181) 4, some 182, none),
  (.load 22 (.tmp 182), some 183, none),
  (.move (.tmp 13), some 184, none),
  (.indexAddr 22 (.tmp 183) (.tmp 184), some 185, none),
  (.load 3 (.tmp 185), some 186, none),
  (.binOp .sub 3 (.const (.int .i64 (-100))) (.tmp 186) 3, some 187, none),
  (.call { callee := .value (.func 68), args := #[(.tmp 179), (.tmp 187)], argTypes := #[22, 3] }, some 188, none),
  (.assign (.tmp 188), some 14, none)]
def rst37D : List (Nat × Nat) := [(1, 0), (2, 1), (3, 2), (5, 3), (5, 4), (6, 5), (8, 7), (9, 8), (10, 9), (12, 10), (12, 11), (13, 12), (14, 13), (15, 6), (15, 14), (16, 15)]
set_option maxHeartbeats 4000000 in
theorem rst37 {ops : Array Oper} {id : Nat} {Q : Exit → Act → World → Prop} (X gG nG cG gH nH cH jj n1 c1 : Nat) (a1 : Option Addr) (z : Int) (htab : ops.toList.map (fun o => (o.op, o.dst, o.guard)) = rst37T) (hdep : deplB rst37D ops = true) (hac : acB ops = true)
    (a0 : Act) (w : World) (hsz : 189 ≤ a0.tmps.size) (o0 : a0.tmps[0]? = some (.pointer (some ⟨X, 0, none⟩))) (o13 : a0.tmps[13]? = some (.int .i64 (jj : Int)))
    (Wd : Unit → (Nat → Bool) → World → Prop) (h0 : ∃ c, Wd c (fun _ => false) w.drew) (hpure : ∀ i, i ∉ ([15] : List Nat) → ∀ c L W, Wd c L W → Wd c (upd L i) W)
    (r3 : ∀ c L W, Wd c L W → L 3 = false → L 2 = true → (Instr.loadAt 30 (.pointer (some ⟨X, 0 + 3, none⟩))).run Tryz.prog W = .ok (.slice (some ⟨gG, 0, none⟩) nG cG) W)
    (r5 : ∀ W, (Instr.indexAt 30 (.slice (some ⟨gG, 0, none⟩) nG cG) (.int .i64 (jj : Int))).run Tryz.prog W = .ok (.pointer (some ⟨gG, 0 + jj, none⟩)) W)
    (r6 : ∀ c L W, Wd c L W → L 6 = false → L 5 = true → (Instr.loadAt 22 (.pointer (some ⟨gG, 0 + jj, none⟩))).run Tryz.prog W = .ok (.slice a1 n1 c1) W)
    (r10 : ∀ c L W, Wd c L W → L 10 = false → L 9 = true → (Instr.loadAt 22 (.pointer (some ⟨X, 0 + 4, none⟩))).run Tryz.prog W = .ok (.slice (some ⟨gH, 0, none⟩) nH cH) W)
    (r12 : ∀ W, (Instr.indexAt 22 (.slice (some ⟨gH, 0, none⟩) nH cH) (.int .i64 (jj : Int))).run Tryz.prog W = .ok (.pointer (some ⟨gH, 0 + jj, none⟩)) W)
    (r13 : ∀ c L W, Wd c L W → L 13 = false → L 12 = true → (Instr.loadAt 3 (.pointer (some ⟨gH, 0 + jj, none⟩))).run Tryz.prog W = .ok (I z) W)
    (r14 : ∀ W, (do eqGuard .sub 3 (.const (.int .i64 (-100))) (.tmp 186) (.int .i64 (-100)) (I z); binOp .sub 3 (.int .i64 (-100)) (I z)).run Tryz.prog W = .ok (I (-100 - z)) W)
    (r15 : ∀ c L W, Wd c L W → L 15 = false → L 6 = true → L 14 = true → Calls Tryz.prog 68 #[(.slice a1 n1 c1), (I (-100 - z))] W fun eg w' => ∃ c', (∀ j, L j = true → vrst37 X gG nG cG gH nH cH jj n1 c1 a1 z c' j = vrst37 X gG nG cG gH nH cH jj n1 c1 a1 z c j) ∧ eg = .returned (vrst37 X gG nG cG gH nH cH jj n1 c1 a1 z c' 15) ∧ Wd c' (upd L 15) w')
    (hend : ∀ c L W, (∀ i, i < 17 → L i = true) → Wd c L W → Q .normal (((((((((((((((((a0.put (some 173) (.pointer (some ⟨X, 0, none⟩))).put (some 174) (.pointer (some ⟨X, 0, none⟩))).put (some 175) (.pointer (some ⟨X, 0 + 3, none⟩))).put (some 176) (.slice (some ⟨gG, 0, none⟩) nG cG)).put (some 177) (.int .i64 (jj : Int))).put (some 178) (.pointer (some ⟨gG, 0 + jj, none⟩))).put (some 179) (.slice a1 n1 c1)).put (some 180) (.pointer (some ⟨X, 0, none⟩))).put (some 181) (.pointer (some ⟨X, 0, none⟩))).put (some 182) (.pointer (some ⟨X, 0 + 4, none⟩))).put (some 183) (.slice (some ⟨gH, 0, none⟩) nH cH)).put (some 184) (.int .i64 (jj : Int))).put (some 185) (.pointer (some ⟨gH, 0 + jj, none⟩))).put (some 186) (I z)).put (some 187) (I (-100 - z))).put (some 188) (.bool true)).put (some 14) (.bool true)) W) : (Code.region id ops true).wp Tryz.prog Q a0 w := by
  let val : Unit → Nat → Value := vrst37 X gG nG cG gH nH cH jj n1 c1 a1 z
  have hosz : ops.size = 17 := by
    have := congrArg List.length htab
    simpa [rst37T] using this
  have hds : ∀ i s, (rst37T[i]?).bind (·.2.1) = some s → dstOf ops i = some s := fun i s hi => by rw [tab_dst htab, hi]
  have hdisB : disL rst37T = true := by rfl
  have hdis := disL_of htab hdisB
  have hold : ∀ s, rst37T.all (fun x => !(x.2.1 == some s)) = true → (List.range ops.size).all (fun j => !(dstOf ops j == some s)) = true := fun s h => holdL htab s h
  refine region_detX val Wd (hac_of hac) hdis h0 ?_ ?_
  rotate_left
  · intro c L W hall hW
    have := hend c L W (by rw [← hosz]; exact hall) hW
    have e : frm ops a0 (val c) (fun _ => true) ops.size = (((((((((((((((((a0.put (some 173) (.pointer (some ⟨X, 0, none⟩))).put (some 174) (.pointer (some ⟨X, 0, none⟩))).put (some 175) (.pointer (some ⟨X, 0 + 3, none⟩))).put (some 176) (.slice (some ⟨gG, 0, none⟩) nG cG)).put (some 177) (.int .i64 (jj : Int))).put (some 178) (.pointer (some ⟨gG, 0 + jj, none⟩))).put (some 179) (.slice a1 n1 c1)).put (some 180) (.pointer (some ⟨X, 0, none⟩))).put (some 181) (.pointer (some ⟨X, 0, none⟩))).put (some 182) (.pointer (some ⟨X, 0 + 4, none⟩))).put (some 183) (.slice (some ⟨gH, 0, none⟩) nH cH)).put (some 184) (.int .i64 (jj : Int))).put (some 185) (.pointer (some ⟨gH, 0 + jj, none⟩))).put (some 186) (I z)).put (some 187) (I (-100 - z))).put (some 188) (.bool true)).put (some 14) (.bool true)) := by
      rw [hosz]
      simp only [frm, if_true]
      rw [tab_dst htab 0, tab_dst htab 1, tab_dst htab 2, tab_dst htab 3, tab_dst htab 4, tab_dst htab 5, tab_dst htab 6, tab_dst htab 7, tab_dst htab 8, tab_dst htab 9, tab_dst htab 10, tab_dst htab 11, tab_dst htab 12, tab_dst htab 13, tab_dst htab 14, tab_dst htab 15, tab_dst htab 16]
      rfl
    rw [e]
    exact this
  intro i o ho c L a w' hL hd ha hW
  have hi : i < 17 := by rw [← hosz]; exact (Array.getElem?_eq_some_iff.1 ho).1
  match i, ho, hL, hi with
  | 0, ho, hL, _ =>
    obtain ⟨hop, hdst, hgd⟩ := tab_at htab ho (show rst37T[0]? = _ from rfl)
    simp only at hop hgd
    have h0 := frm_old (val := val c) ha 0 _ (hold 0 rfl) o0
    exact doesX_of (doesL_run ho (wanted_none hgd) (hpure 0 (by decide) c L w' hW) (by rw [run_move _ _ _ hop]; exact congrArg (fun v => Result.ok (Next.value v) w') (eval_of h0)))
  | 1, ho, hL, _ =>
    obtain ⟨hop, hdst, hgd⟩ := tab_at htab ho (show rst37T[1]? = _ from rfl)
    simp only at hop hgd
    have h0 := frm_at (val := val c) hdis ha 0 173 (hds 0 173 rfl) (by omega) (depl_of hdep 1 0 (by decide) ho hd)
    exact doesX_of (doesL_run ho (wanted_none hgd) (hpure 1 (by decide) c L w' hW) (run_nil _ _ _ hop _ (eval_of h0) _))
  | 2, ho, hL, _ =>
    obtain ⟨hop, hdst, hgd⟩ := tab_at htab ho (show rst37T[2]? = _ from rfl)
    simp only at hop hgd
    have h0 := frm_at (val := val c) hdis ha 1 174 (hds 1 174 rfl) (by omega) (depl_of hdep 2 1 (by decide) ho hd)
    exact doesX_of (doesL_run ho (wanted_none hgd) (hpure 2 (by decide) c L w' hW) (g_field hop (eval_of h0) (by kernel_rfl)))
  | 3, ho, hL, _ =>
    obtain ⟨hop, hdst, hgd⟩ := tab_at htab ho (show rst37T[3]? = _ from rfl)
    simp only at hop hgd
    have h0 := frm_at (val := val c) hdis ha 2 175 (hds 2 175 rfl) (by omega) (depl_of hdep 3 2 (by decide) ho hd)
    exact doesX_of (doesL_run ho (wanted_none hgd) (hpure 3 (by decide) c L w' hW) (g_load hop (eval_of h0) (r3 c L w' hW hL (depl_of hdep 3 2 (by decide) ho hd))))
  | 4, ho, hL, _ =>
    obtain ⟨hop, hdst, hgd⟩ := tab_at htab ho (show rst37T[4]? = _ from rfl)
    simp only at hop hgd
    have h0 := frm_old (val := val c) ha 13 _ (hold 13 rfl) o13
    exact doesX_of (doesL_run ho (wanted_none hgd) (hpure 4 (by decide) c L w' hW) (by rw [run_move _ _ _ hop]; exact congrArg (fun v => Result.ok (Next.value v) w') (eval_of h0)))
  | 5, ho, hL, _ =>
    obtain ⟨hop, hdst, hgd⟩ := tab_at htab ho (show rst37T[5]? = _ from rfl)
    simp only at hop hgd
    have h0 := frm_at (val := val c) hdis ha 3 176 (hds 3 176 rfl) (by omega) (depl_of hdep 5 3 (by decide) ho hd)
    have h1 := frm_at (val := val c) hdis ha 4 177 (hds 4 177 rfl) (by omega) (depl_of hdep 5 4 (by decide) ho hd)
    exact doesX_of (doesL_run ho (wanted_none hgd) (hpure 5 (by decide) c L w' hW) (g_ixa hop (eval_of h0) (eval_of h1) (r5 w')))
  | 6, ho, hL, _ =>
    obtain ⟨hop, hdst, hgd⟩ := tab_at htab ho (show rst37T[6]? = _ from rfl)
    simp only at hop hgd
    have h0 := frm_at (val := val c) hdis ha 5 178 (hds 5 178 rfl) (by omega) (depl_of hdep 6 5 (by decide) ho hd)
    exact doesX_of (doesL_run ho (wanted_none hgd) (hpure 6 (by decide) c L w' hW) (g_load hop (eval_of h0) (r6 c L w' hW hL (depl_of hdep 6 5 (by decide) ho hd))))
  | 7, ho, hL, _ =>
    obtain ⟨hop, hdst, hgd⟩ := tab_at htab ho (show rst37T[7]? = _ from rfl)
    simp only at hop hgd
    have h0 := frm_old (val := val c) ha 0 _ (hold 0 rfl) o0
    exact doesX_of (doesL_run ho (wanted_none hgd) (hpure 7 (by decide) c L w' hW) (by rw [run_move _ _ _ hop]; exact congrArg (fun v => Result.ok (Next.value v) w') (eval_of h0)))
  | 8, ho, hL, _ =>
    obtain ⟨hop, hdst, hgd⟩ := tab_at htab ho (show rst37T[8]? = _ from rfl)
    simp only at hop hgd
    have h0 := frm_at (val := val c) hdis ha 7 180 (hds 7 180 rfl) (by omega) (depl_of hdep 8 7 (by decide) ho hd)
    exact doesX_of (doesL_run ho (wanted_none hgd) (hpure 8 (by decide) c L w' hW) (run_nil _ _ _ hop _ (eval_of h0) _))
  | 9, ho, hL, _ =>
    obtain ⟨hop, hdst, hgd⟩ := tab_at htab ho (show rst37T[9]? = _ from rfl)
    simp only at hop hgd
    have h0 := frm_at (val := val c) hdis ha 8 181 (hds 8 181 rfl) (by omega) (depl_of hdep 9 8 (by decide) ho hd)
    exact doesX_of (doesL_run ho (wanted_none hgd) (hpure 9 (by decide) c L w' hW) (g_field hop (eval_of h0) (by kernel_rfl)))
  | 10, ho, hL, _ =>
    obtain ⟨hop, hdst, hgd⟩ := tab_at htab ho (show rst37T[10]? = _ from rfl)
    simp only at hop hgd
    have h0 := frm_at (val := val c) hdis ha 9 182 (hds 9 182 rfl) (by omega) (depl_of hdep 10 9 (by decide) ho hd)
    exact doesX_of (doesL_run ho (wanted_none hgd) (hpure 10 (by decide) c L w' hW) (g_load hop (eval_of h0) (r10 c L w' hW hL (depl_of hdep 10 9 (by decide) ho hd))))
  | 11, ho, hL, _ =>
    obtain ⟨hop, hdst, hgd⟩ := tab_at htab ho (show rst37T[11]? = _ from rfl)
    simp only at hop hgd
    have h0 := frm_old (val := val c) ha 13 _ (hold 13 rfl) o13
    exact doesX_of (doesL_run ho (wanted_none hgd) (hpure 11 (by decide) c L w' hW) (by rw [run_move _ _ _ hop]; exact congrArg (fun v => Result.ok (Next.value v) w') (eval_of h0)))
  | 12, ho, hL, _ =>
    obtain ⟨hop, hdst, hgd⟩ := tab_at htab ho (show rst37T[12]? = _ from rfl)
    simp only at hop hgd
    have h0 := frm_at (val := val c) hdis ha 10 183 (hds 10 183 rfl) (by omega) (depl_of hdep 12 10 (by decide) ho hd)
    have h1 := frm_at (val := val c) hdis ha 11 184 (hds 11 184 rfl) (by omega) (depl_of hdep 12 11 (by decide) ho hd)
    exact doesX_of (doesL_run ho (wanted_none hgd) (hpure 12 (by decide) c L w' hW) (g_ixa hop (eval_of h0) (eval_of h1) (r12 w')))
  | 13, ho, hL, _ =>
    obtain ⟨hop, hdst, hgd⟩ := tab_at htab ho (show rst37T[13]? = _ from rfl)
    simp only at hop hgd
    have h0 := frm_at (val := val c) hdis ha 12 185 (hds 12 185 rfl) (by omega) (depl_of hdep 13 12 (by decide) ho hd)
    exact doesX_of (doesL_run ho (wanted_none hgd) (hpure 13 (by decide) c L w' hW) (g_load hop (eval_of h0) (r13 c L w' hW hL (depl_of hdep 13 12 (by decide) ho hd))))
  | 14, ho, hL, _ =>
    obtain ⟨hop, hdst, hgd⟩ := tab_at htab ho (show rst37T[14]? = _ from rfl)
    simp only at hop hgd
    have h1 := frm_at (val := val c) hdis ha 13 186 (hds 13 186 rfl) (by omega) (depl_of hdep 14 13 (by decide) ho hd)
    exact doesX_of (doesL_run ho (wanted_none hgd) (hpure 14 (by decide) c L w' hW) (g_bin hop rfl (eval_of h1) (r14 w')))
  | 15, ho, hL, _ =>
    obtain ⟨hop, hdst, hgd⟩ := tab_at htab ho (show rst37T[15]? = _ from rfl)
    simp only at hop hgd
    have h0 := frm_at (val := val c) hdis ha 6 179 (hds 6 179 rfl) (by omega) (depl_of hdep 15 6 (by decide) ho hd)
    have h1 := frm_at (val := val c) hdis ha 14 187 (hds 14 187 rfl) (by omega) (depl_of hdep 15 14 (by decide) ho hd)
    refine doesX_call ho (wanted_none hgd) 68 #[(.slice a1 n1 c1), (I (-100 - z))] ?_ (r15 c L w' hW hL (depl_of hdep 15 6 (by decide) ho hd) (depl_of hdep 15 14 (by decide) ho hd))
    rw [run_calls Tryz.func68 (by kernel_rfl) rfl _ _ _ _ hop rfl]
    simp only [List.map_toArray, List.map_cons, List.map_nil, eval_of h0, eval_of h1]
    all_goals rfl
  | 16, ho, hL, _ =>
    obtain ⟨hop, hdst, hgd⟩ := tab_at htab ho (show rst37T[16]? = _ from rfl)
    simp only at hop hgd
    have h0 := frm_at (val := val c) hdis ha 15 188 (hds 15 188 rfl) (by omega) (depl_of hdep 16 15 (by decide) ho hd)
    exact doesX_of (doesL_run ho (wanted_none hgd) (hpure 16 (by decide) c L w' hW) (by rw [run_assign _ _ _ hop]; exact congrArg (fun v => Result.ok (Next.value v) w') (eval_of h0)))
  | (i + 17), ho, hL, hi => exact absurd hi (by omega)
end Go.Proofs.YtjopnhhdemfniaaGreatDoor
