import Derived.Test.YtjopnhhdemfniaaGreatDoorRgpp
namespace Go.Proofs.YtjopnhhdemfniaaGreatDoor
open Go.RowKit
theorem g_min {ρ : Operand → Value} {o : Oper} {w w' : World} {r : Value} {s x : Operand} {T : TypeId} {v u : Value} (ho : o.op = .call { callee := .builtin .min, args := #[s, x], argTypes := #[T, T] }) (hs : ρ s = v) (hx : ρ x = u) (hr : (Builtin.min_ #[T, T] o.type #[v, u]).run Tryz.prog w = .ok r w') : (execOp ρ o).run Tryz.prog w = .ok (.value r) w' := by
  unfold execOp
  simp only [ho, resolve, invoke, builtin, Sem.run_bind, Sem.run_pure, Result.andThen_ok, List.map_toArray, List.map_cons, List.map_nil, hs, hx, hr]
def vrwt5 (g n cap jj ad lk lc : Nat) (al : Option Addr) (x : Bs) (t u1 u2 u3 mn : Int) (_c : Unit) (i : Nat) : Value := match i with
  | 0 => (I t)
  | 1 => (.slice (some ⟨g, 0, none⟩) n cap)
  | 2 => (.int .i64 (jj : Int))
  | 3 => (.pointer (some ⟨g, ad, none⟩))
  | 4 => (.pointer (some ⟨g, ad + 4, none⟩))
  | 5 => (S x)
  | 6 => (.int .i64 (x.length : Int))
  | 7 => (I u1)
  | 8 => (.slice (some ⟨g, 0, none⟩) n cap)
  | 9 => (.int .i64 (jj : Int))
  | 10 => (.pointer (some ⟨g, ad, none⟩))
  | 11 => (.pointer (some ⟨g, ad + 3, none⟩))
  | 12 => (.slice al lk lc)
  | 13 => (.int .i64 (lk : Int))
  | 14 => (I mn)
  | 15 => (I (16 * mn))
  | 16 => (I u2)
  | 17 => (I u3)
  | 18 => (I u3)
  | _ => undef
def rwt5T : List (Op × Option Tmp × Option (Nat × Bool)) := [
  (.move (.tmp 3), some 15, none),
  (.move (.tmp 0), some 16, none),
  (.move (.tmp 4), some 17, none),
  (.indexAddr 27 (.tmp 16) (.tmp 17), some 18, none),
  (.fieldAddr 24 (.tmp 18) 4, some 19, none),
  (.load 9 (.tmp 19), some 20, none),
  (.call { callee := .builtin .len, args := #[(.tmp 20)], argTypes := #[9] }, some 21, none),
  (.call { callee := .value (.func 9), args := #[(.tmp 21), (.const (.int .i64 600))], argTypes := #[3, 3] }, some 22, none),
  (.move (.tmp 0), some 23, none),
  (.move (.tmp 4), some 24, none),
  (.indexAddr 27 (.tmp 23) (.tmp 24), some 25, none),
  (.fieldAddr 24 (.tmp 25) 3, some 26, none),
  (.load 22 (.tmp 26), some 27, none),
  (.call { callee := .builtin .len, args := #[(.tmp 27)], argTypes := #[22] }, some 28, none),
  (.call { callee := .builtin .min, args := #[(.tmp 28), (.const (.int .i64 2147483647))], argTypes := #[3, 3] }, some 29, none),
  (.binOp .mul 3 (.const (.int .i64 16)) (.tmp 29) 3, some 30, none),
  (.call { callee := .value (.func 9), args := #[(.tmp 22), (.tmp 30)], argTypes := #[3, 3] }, some 31, none),
  (.call { callee := .value (.func 9), args := #[(.tmp 15), (.tmp 31)], argTypes := #[3, 3] }, some 32, none),
  (.assign (.tmp 32), some 3, none)]
def rwt5D : List (Nat × Nat) := [(3, 1), (3, 2), (4, 3), (5, 4), (6, 5), (7, 6), (10, 8), (10, 9), (11, 10), (12, 11), (13, 12), (14, 13), (15, 14), (16, 7), (16, 15), (17, 0), (17, 16), (18, 17)]
set_option maxHeartbeats 4000000 in
theorem rwt5 {ops : Array Oper} {id : Nat} {Q : Exit → Act → World → Prop} (g n cap jj ad lk lc : Nat) (al : Option Addr) (x : Bs) (t u1 u2 u3 mn : Int) (htab : ops.toList.map (fun o => (o.op, o.dst, o.guard)) = rwt5T) (hdep : deplB rwt5D ops = true) (hac : acB ops = true)
    (a0 : Act) (w : World) (hsz : 33 ≤ a0.tmps.size) (o0 : a0.tmps[0]? = some (.slice (some ⟨g, 0, none⟩) n cap)) (o3 : a0.tmps[3]? = some (I t)) (o4 : a0.tmps[4]? = some (.int .i64 (jj : Int)))
    (Wd : Unit → (Nat → Bool) → World → Prop) (h0 : ∃ c, Wd c (fun _ => false) w.drew) (hpure : ∀ i, i ∉ ([7, 16, 17, 18] : List Nat) → ∀ c L W, Wd c L W → Wd c (upd L i) W)
    (e0 : ∀ c L W, Wd c L W → L 0 = false → L 18 = false)
    (r3 : ∀ W, (Instr.indexAt 27 (.slice (some ⟨g, 0, none⟩) n cap) (.int .i64 (jj : Int))).run Tryz.prog W = .ok (.pointer (some ⟨g, ad, none⟩)) W)
    (r5 : ∀ c L W, Wd c L W → L 5 = false → L 4 = true → (Instr.loadAt 9 (.pointer (some ⟨g, ad + 4, none⟩))).run Tryz.prog W = .ok (S x) W)
    (r7 : ∀ c L W, Wd c L W → L 7 = false → L 6 = true → Calls Tryz.prog 9 #[(.int .i64 (x.length : Int)), (.int .i64 600)] W fun eg w' => ∃ c', (∀ j, L j = true → vrwt5 g n cap jj ad lk lc al x t u1 u2 u3 mn c' j = vrwt5 g n cap jj ad lk lc al x t u1 u2 u3 mn c j) ∧ eg = .returned (vrwt5 g n cap jj ad lk lc al x t u1 u2 u3 mn c' 7) ∧ Wd c' (upd L 7) w')
    (r10 : ∀ W, (Instr.indexAt 27 (.slice (some ⟨g, 0, none⟩) n cap) (.int .i64 (jj : Int))).run Tryz.prog W = .ok (.pointer (some ⟨g, ad, none⟩)) W)
    (r12 : ∀ c L W, Wd c L W → L 12 = false → L 11 = true → (Instr.loadAt 22 (.pointer (some ⟨g, ad + 3, none⟩))).run Tryz.prog W = .ok (.slice al lk lc) W)
    (r14 : ∀ T, ∀ W, (Builtin.min_ #[3, 3] T #[(.int .i64 (lk : Int)), (.int .i64 2147483647)]).run Tryz.prog W = .ok (I mn) W)
    (r15 : ∀ W, (do eqGuard .mul 3 (.const (.int .i64 16)) (.tmp 29) (.int .i64 16) (I mn); binOp .mul 3 (.int .i64 16) (I mn)).run Tryz.prog W = .ok (I (16 * mn)) W)
    (r16 : ∀ c L W, Wd c L W → L 16 = false → L 7 = true → L 15 = true → Calls Tryz.prog 9 #[(I u1), (I (16 * mn))] W fun eg w' => ∃ c', (∀ j, L j = true → vrwt5 g n cap jj ad lk lc al x t u1 u2 u3 mn c' j = vrwt5 g n cap jj ad lk lc al x t u1 u2 u3 mn c j) ∧ eg = .returned (vrwt5 g n cap jj ad lk lc al x t u1 u2 u3 mn c' 16) ∧ Wd c' (upd L 16) w')
    (r17 : ∀ c L W, Wd c L W → L 17 = false → L 0 = true → L 16 = true → Calls Tryz.prog 9 #[(I t), (I u2)] W fun eg w' => ∃ c', (∀ j, L j = true → vrwt5 g n cap jj ad lk lc al x t u1 u2 u3 mn c' j = vrwt5 g n cap jj ad lk lc al x t u1 u2 u3 mn c j) ∧ eg = .returned (vrwt5 g n cap jj ad lk lc al x t u1 u2 u3 mn c' 17) ∧ Wd c' (upd L 17) w')
    (r18 : ∀ c L W, Wd c L W → L 18 = false → L 17 = true → Wd c (upd L 18) W)
    (hend : ∀ c L W, (∀ i, i < 19 → L i = true) → Wd c L W → Q .normal (((((((((((((((((((a0.put (some 15) (I t)).put (some 16) (.slice (some ⟨g, 0, none⟩) n cap)).put (some 17) (.int .i64 (jj : Int))).put (some 18) (.pointer (some ⟨g, ad, none⟩))).put (some 19) (.pointer (some ⟨g, ad + 4, none⟩))).put (some 20) (S x)).put (some 21) (.int .i64 (x.length : Int))).put (some 22) (I u1)).put (some 23) (.slice (some ⟨g, 0, none⟩) n cap)).put (some 24) (.int .i64 (jj : Int))).put (some 25) (.pointer (some ⟨g, ad, none⟩))).put (some 26) (.pointer (some ⟨g, ad + 3, none⟩))).put (some 27) (.slice al lk lc)).put (some 28) (.int .i64 (lk : Int))).put (some 29) (I mn)).put (some 30) (I (16 * mn))).put (some 31) (I u2)).put (some 32) (I u3)).put (some 3) (I u3)) W) : (Code.region id ops true).wp Tryz.prog Q a0 w := by
  let val : Unit → Nat → Value := vrwt5 g n cap jj ad lk lc al x t u1 u2 u3 mn
  have hosz : ops.size = 19 := by
    have := congrArg List.length htab
    simpa [rwt5T] using this
  have hds : ∀ i s, (rwt5T[i]?).bind (·.2.1) = some s → dstOf ops i = some s := fun i s hi => by rw [tab_dst htab, hi]
  have hdisB : disL rwt5T = true := by rfl
  have hdis := disL_of htab hdisB
  have hold : ∀ s, rwt5T.all (fun x => !(x.2.1 == some s)) = true → (List.range ops.size).all (fun j => !(dstOf ops j == some s)) = true := fun s h => holdL htab s h
  refine region_detX val Wd (hac_of hac) hdis h0 ?_ ?_
  rotate_left
  · intro c L W hall hW
    have := hend c L W (by rw [← hosz]; exact hall) hW
    have e : frm ops a0 (val c) (fun _ => true) ops.size = (((((((((((((((((((a0.put (some 15) (I t)).put (some 16) (.slice (some ⟨g, 0, none⟩) n cap)).put (some 17) (.int .i64 (jj : Int))).put (some 18) (.pointer (some ⟨g, ad, none⟩))).put (some 19) (.pointer (some ⟨g, ad + 4, none⟩))).put (some 20) (S x)).put (some 21) (.int .i64 (x.length : Int))).put (some 22) (I u1)).put (some 23) (.slice (some ⟨g, 0, none⟩) n cap)).put (some 24) (.int .i64 (jj : Int))).put (some 25) (.pointer (some ⟨g, ad, none⟩))).put (some 26) (.pointer (some ⟨g, ad + 3, none⟩))).put (some 27) (.slice al lk lc)).put (some 28) (.int .i64 (lk : Int))).put (some 29) (I mn)).put (some 30) (I (16 * mn))).put (some 31) (I u2)).put (some 32) (I u3)).put (some 3) (I u3)) := by
      rw [hosz]
      simp only [frm, if_true]
      rw [tab_dst htab 0, tab_dst htab 1, tab_dst htab 2, tab_dst htab 3, tab_dst htab 4, tab_dst htab 5, tab_dst htab 6, tab_dst htab 7, tab_dst htab 8, tab_dst htab 9, tab_dst htab 10, tab_dst htab 11, tab_dst htab 12, tab_dst htab 13, tab_dst htab 14, tab_dst htab 15, tab_dst htab 16, tab_dst htab 17, tab_dst htab 18]
      rfl
    rw [e]
    exact this
  intro i o ho c L a w' hL hd ha hW
  have hi : i < 19 := by rw [← hosz]; exact (Array.getElem?_eq_some_iff.1 ho).1
  match i, ho, hL, hi with
  | 0, ho, hL, _ =>
    obtain ⟨hop, hdst, hgd⟩ := tab_at htab ho (show rwt5T[0]? = _ from rfl)
    simp only at hop hgd
    have h0 : a.tmps[3]? = some (I t) := by rw [ha, frm_late a0 (val c) L 3 18 (e0 c L w' hW hL) ops.size (late_of htab (by rfl))]; exact o3
    exact doesX_of (doesL_run ho (wanted_none hgd) (hpure 0 (by decide) c L w' hW) (by rw [run_move _ _ _ hop]; exact congrArg (fun v => Result.ok (Next.value v) w') (eval_of h0)))
  | 1, ho, hL, _ =>
    obtain ⟨hop, hdst, hgd⟩ := tab_at htab ho (show rwt5T[1]? = _ from rfl)
    simp only at hop hgd
    have h0 := frm_old (val := val c) ha 0 _ (hold 0 rfl) o0
    exact doesX_of (doesL_run ho (wanted_none hgd) (hpure 1 (by decide) c L w' hW) (by rw [run_move _ _ _ hop]; exact congrArg (fun v => Result.ok (Next.value v) w') (eval_of h0)))
  | 2, ho, hL, _ =>
    obtain ⟨hop, hdst, hgd⟩ := tab_at htab ho (show rwt5T[2]? = _ from rfl)
    simp only at hop hgd
    have h0 := frm_old (val := val c) ha 4 _ (hold 4 rfl) o4
    exact doesX_of (doesL_run ho (wanted_none hgd) (hpure 2 (by decide) c L w' hW) (by rw [run_move _ _ _ hop]; exact congrArg (fun v => Result.ok (Next.value v) w') (eval_of h0)))
  | 3, ho, hL, _ =>
    obtain ⟨hop, hdst, hgd⟩ := tab_at htab ho (show rwt5T[3]? = _ from rfl)
    simp only at hop hgd
    have h0 := frm_at (val := val c) hdis ha 1 16 (hds 1 16 rfl) (by omega) (depl_of hdep 3 1 (by decide) ho hd)
    have h1 := frm_at (val := val c) hdis ha 2 17 (hds 2 17 rfl) (by omega) (depl_of hdep 3 2 (by decide) ho hd)
    exact doesX_of (doesL_run ho (wanted_none hgd) (hpure 3 (by decide) c L w' hW) (g_ixa hop (eval_of h0) (eval_of h1) (r3 w')))
  | 4, ho, hL, _ =>
    obtain ⟨hop, hdst, hgd⟩ := tab_at htab ho (show rwt5T[4]? = _ from rfl)
    simp only at hop hgd
    have h0 := frm_at (val := val c) hdis ha 3 18 (hds 3 18 rfl) (by omega) (depl_of hdep 4 3 (by decide) ho hd)
    exact doesX_of (doesL_run ho (wanted_none hgd) (hpure 4 (by decide) c L w' hW) (g_field hop (eval_of h0) (by kernel_rfl)))
  | 5, ho, hL, _ =>
    obtain ⟨hop, hdst, hgd⟩ := tab_at htab ho (show rwt5T[5]? = _ from rfl)
    simp only at hop hgd
    have h0 := frm_at (val := val c) hdis ha 4 19 (hds 4 19 rfl) (by omega) (depl_of hdep 5 4 (by decide) ho hd)
    exact doesX_of (doesL_run ho (wanted_none hgd) (hpure 5 (by decide) c L w' hW) (g_load hop (eval_of h0) (r5 c L w' hW hL (depl_of hdep 5 4 (by decide) ho hd))))
  | 6, ho, hL, _ =>
    obtain ⟨hop, hdst, hgd⟩ := tab_at htab ho (show rwt5T[6]? = _ from rfl)
    simp only at hop hgd
    have h0 := frm_at (val := val c) hdis ha 5 20 (hds 5 20 rfl) (by omega) (depl_of hdep 6 5 (by decide) ho hd)
    exact doesX_of (doesL_run ho (wanted_none hgd) (hpure 6 (by decide) c L w' hW) (run_len _ _ _ hop _ (eval_of h0) _))
  | 7, ho, hL, _ =>
    obtain ⟨hop, hdst, hgd⟩ := tab_at htab ho (show rwt5T[7]? = _ from rfl)
    simp only at hop hgd
    have h0 := frm_at (val := val c) hdis ha 6 21 (hds 6 21 rfl) (by omega) (depl_of hdep 7 6 (by decide) ho hd)
    refine doesX_call ho (wanted_none hgd) 9 #[(.int .i64 (x.length : Int)), (.int .i64 600)] ?_ (r7 c L w' hW hL (depl_of hdep 7 6 (by decide) ho hd))
    rw [run_calls Tryz.func9 (by kernel_rfl) rfl _ _ _ _ hop rfl]
    simp only [List.map_toArray, List.map_cons, List.map_nil, eval_of h0]
    all_goals rfl
  | 8, ho, hL, _ =>
    obtain ⟨hop, hdst, hgd⟩ := tab_at htab ho (show rwt5T[8]? = _ from rfl)
    simp only at hop hgd
    have h0 := frm_old (val := val c) ha 0 _ (hold 0 rfl) o0
    exact doesX_of (doesL_run ho (wanted_none hgd) (hpure 8 (by decide) c L w' hW) (by rw [run_move _ _ _ hop]; exact congrArg (fun v => Result.ok (Next.value v) w') (eval_of h0)))
  | 9, ho, hL, _ =>
    obtain ⟨hop, hdst, hgd⟩ := tab_at htab ho (show rwt5T[9]? = _ from rfl)
    simp only at hop hgd
    have h0 := frm_old (val := val c) ha 4 _ (hold 4 rfl) o4
    exact doesX_of (doesL_run ho (wanted_none hgd) (hpure 9 (by decide) c L w' hW) (by rw [run_move _ _ _ hop]; exact congrArg (fun v => Result.ok (Next.value v) w') (eval_of h0)))
  | 10, ho, hL, _ =>
    obtain ⟨hop, hdst, hgd⟩ := tab_at htab ho (show rwt5T[10]? = _ from rfl)
    simp only at hop hgd
    have h0 := frm_at (val := val c) hdis ha 8 23 (hds 8 23 rfl) (by omega) (depl_of hdep 10 8 (by decide) ho hd)
    have h1 := frm_at (val := val c) hdis ha 9 24 (hds 9 24 rfl) (by omega) (depl_of hdep 10 9 (by decide) ho hd)
    exact doesX_of (doesL_run ho (wanted_none hgd) (hpure 10 (by decide) c L w' hW) (g_ixa hop (eval_of h0) (eval_of h1) (r10 w')))
  | 11, ho, hL, _ =>
    obtain ⟨hop, hdst, hgd⟩ := tab_at htab ho (show rwt5T[11]? = _ from rfl)
    simp only at hop hgd
    have h0 := frm_at (val := val c) hdis ha 10 25 (hds 10 25 rfl) (by omega) (depl_of hdep 11 10 (by decide) ho hd)
    exact doesX_of (doesL_run ho (wanted_none hgd) (hpure 11 (by decide) c L w' hW) (g_field hop (eval_of h0) (by kernel_rfl)))
  | 12, ho, hL, _ =>
    obtain ⟨hop, hdst, hgd⟩ := tab_at htab ho (show rwt5T[12]? = _ from rfl)
    simp only at hop hgd
    have h0 := frm_at (val := val c) hdis ha 11 26 (hds 11 26 rfl) (by omega) (depl_of hdep 12 11 (by decide) ho hd)
    exact doesX_of (doesL_run ho (wanted_none hgd) (hpure 12 (by decide) c L w' hW) (g_load hop (eval_of h0) (r12 c L w' hW hL (depl_of hdep 12 11 (by decide) ho hd))))
  | 13, ho, hL, _ =>
    obtain ⟨hop, hdst, hgd⟩ := tab_at htab ho (show rwt5T[13]? = _ from rfl)
    simp only at hop hgd
    have h0 := frm_at (val := val c) hdis ha 12 27 (hds 12 27 rfl) (by omega) (depl_of hdep 13 12 (by decide) ho hd)
    exact doesX_of (doesL_run ho (wanted_none hgd) (hpure 13 (by decide) c L w' hW) (run_len22 _ _ _ hop _ _ _ (eval_of h0) _))
  | 14, ho, hL, _ =>
    obtain ⟨hop, hdst, hgd⟩ := tab_at htab ho (show rwt5T[14]? = _ from rfl)
    simp only at hop hgd
    have h0 := frm_at (val := val c) hdis ha 13 28 (hds 13 28 rfl) (by omega) (depl_of hdep 14 13 (by decide) ho hd)
    exact doesX_of (doesL_run ho (wanted_none hgd) (hpure 14 (by decide) c L w' hW) (g_min hop (eval_of h0) rfl (r14 _ w')))
  | 15, ho, hL, _ =>
    obtain ⟨hop, hdst, hgd⟩ := tab_at htab ho (show rwt5T[15]? = _ from rfl)
    simp only at hop hgd
    have h1 := frm_at (val := val c) hdis ha 14 29 (hds 14 29 rfl) (by omega) (depl_of hdep 15 14 (by decide) ho hd)
    exact doesX_of (doesL_run ho (wanted_none hgd) (hpure 15 (by decide) c L w' hW) (g_bin hop rfl (eval_of h1) (r15 w')))
  | 16, ho, hL, _ =>
    obtain ⟨hop, hdst, hgd⟩ := tab_at htab ho (show rwt5T[16]? = _ from rfl)
    simp only at hop hgd
    have h0 := frm_at (val := val c) hdis ha 7 22 (hds 7 22 rfl) (by omega) (depl_of hdep 16 7 (by decide) ho hd)
    have h1 := frm_at (val := val c) hdis ha 15 30 (hds 15 30 rfl) (by omega) (depl_of hdep 16 15 (by decide) ho hd)
    refine doesX_call ho (wanted_none hgd) 9 #[(I u1), (I (16 * mn))] ?_ (r16 c L w' hW hL (depl_of hdep 16 7 (by decide) ho hd) (depl_of hdep 16 15 (by decide) ho hd))
    rw [run_calls Tryz.func9 (by kernel_rfl) rfl _ _ _ _ hop rfl]
    simp only [List.map_toArray, List.map_cons, List.map_nil, eval_of h0, eval_of h1]
    all_goals rfl
  | 17, ho, hL, _ =>
    obtain ⟨hop, hdst, hgd⟩ := tab_at htab ho (show rwt5T[17]? = _ from rfl)
    simp only at hop hgd
    have h0 := frm_at (val := val c) hdis ha 0 15 (hds 0 15 rfl) (by omega) (depl_of hdep 17 0 (by decide) ho hd)
    have h1 := frm_at (val := val c) hdis ha 16 31 (hds 16 31 rfl) (by omega) (depl_of hdep 17 16 (by decide) ho hd)
    refine doesX_call ho (wanted_none hgd) 9 #[(I t), (I u2)] ?_ (r17 c L w' hW hL (depl_of hdep 17 0 (by decide) ho hd) (depl_of hdep 17 16 (by decide) ho hd))
    rw [run_calls Tryz.func9 (by kernel_rfl) rfl _ _ _ _ hop rfl]
    simp only [List.map_toArray, List.map_cons, List.map_nil, eval_of h0, eval_of h1]
    all_goals rfl
  | 18, ho, hL, _ =>
    obtain ⟨hop, hdst, hgd⟩ := tab_at htab ho (show rwt5T[18]? = _ from rfl)
    simp only at hop hgd
    have h0 := frm_at (val := val c) hdis ha 17 32 (hds 17 32 rfl) (by omega) (depl_of hdep 18 17 (by decide) ho hd)
    exact doesX_of (doesL_run ho (wanted_none hgd) (r18 c L w' hW hL (depl_of hdep 18 17 (by decide) ho hd)) (by rw [run_assign _ _ _ hop]; exact congrArg (fun v => Result.ok (Next.value v) w') (eval_of h0)))
  | (i + 19), ho, hL, hi => exact absurd hi (by omega)
def vrpz1 (_X : Nat) (s : Bs) (pp : Array Value) (u1 r u2 : Int) (bb : Bool) (c : Nat) (i : Nat) : Value := match i with
  | 0 => (S s)
  | 1 => (.int .i64 (s.length : Int))
  | 2 => (S s)
  | 3 => (.int .i64 (s.length : Int))
  | 4 => (I u1)
  | 5 => (.agg pp)
  | 6 => (.agg pp)
  | 7 => (.slice (some ⟨c, 0, none⟩) 2 2)
  | 8 => (I r)
  | 9 => (I u2)
  | 10 => (.bool bb)
  | _ => undef
def rpz1T : List (Op × Option Tmp × Option (Nat × Bool)) := [
  (.move (.tmp 1), some 22, none),
  (.call { callee := .builtin .len, args := #[(.tmp 22)], argTypes := #[9] }, some 23, none),
  (.move (.tmp 1), some 24, none),
  (.call { callee := .builtin .len, args := #[(.tmp 24)], argTypes := #[9] }, some 25, none),
  (.call { callee := .value (.func 9), args := #[(.tmp 23), (.tmp 25)], argTypes := #[3, 3] }, some 26, none),
  (.load 24 (.tmp 4), some 27, none),
  (.load 24 (.tmp 4), some 28, none),
  (.buildSlice 27 2 #[(0, (.tmp 27)), (1, (.tmp 28))], some 29, none),
  (.call { callee := .value (.func 10), args := #[(.tmp 29)], argTypes := #[27] }, some 30, none),
  (.call { callee := .value (.func 9), args := #[(.tmp 26), (.tmp 30)], argTypes := #[3, 3] }, some 31, none),
  (.binOp .gtr 3 (.tmp 31) (.const (.int .i64 2147483647)) 3, some 32, none)]
def rpz1D : List (Nat × Nat) := [(1, 0), (3, 2), (4, 1), (4, 3), (7, 5), (7, 6), (8, 7), (9, 4), (9, 8), (10, 9)]
set_option maxHeartbeats 4000000 in
theorem rpz1 {ops : Array Oper} {id : Nat} {Q : Exit → Act → World → Prop} (X : Nat) (s : Bs) (pp : Array Value) (u1 r u2 : Int) (bb : Bool) (htab : ops.toList.map (fun o => (o.op, o.dst, o.guard)) = rpz1T) (hdep : deplB rpz1D ops = true) (hac : acB ops = true)
    (a0 : Act) (w : World) (hsz : 33 ≤ a0.tmps.size) (o1 : a0.tmps[1]? = some (S s)) (o4 : a0.tmps[4]? = some (.pointer (some ⟨X, 0, none⟩)))
    (Wd : Nat → (Nat → Bool) → World → Prop) (h0 : ∃ c, Wd c (fun _ => false) w.drew) (hpure : ∀ i, i ∉ ([4, 7, 8, 9] : List Nat) → ∀ c L W, Wd c L W → Wd c (upd L i) W)
    (r4 : ∀ c L W, Wd c L W → L 4 = false → L 1 = true → L 3 = true → Calls Tryz.prog 9 #[(.int .i64 (s.length : Int)), (.int .i64 (s.length : Int))] W fun eg w' => ∃ c', (∀ j, L j = true → vrpz1 X s pp u1 r u2 bb c' j = vrpz1 X s pp u1 r u2 bb c j) ∧ eg = .returned (vrpz1 X s pp u1 r u2 bb c' 4) ∧ Wd c' (upd L 4) w')
    (r5 : ∀ c L W, Wd c L W → L 5 = false → (Instr.loadAt 24 (.pointer (some ⟨X, 0, none⟩))).run Tryz.prog W = .ok (.agg pp) W)
    (r6 : ∀ c L W, Wd c L W → L 6 = false → (Instr.loadAt 24 (.pointer (some ⟨X, 0, none⟩))).run Tryz.prog W = .ok (.agg pp) W)
    (r7 : ∀ c L W, Wd c L W → L 7 = false → L 5 = true → L 6 = true → ∃ c' W', (∀ j, L j = true → vrpz1 X s pp u1 r u2 bb c' j = vrpz1 X s pp u1 r u2 bb c j) ∧ (Instr.buildSlice 27 2 #[(0, (.agg pp)), (1, (.agg pp))]).run Tryz.prog W = .ok (vrpz1 X s pp u1 r u2 bb c' 7) W' ∧ Wd c' (upd L 7) W')
    (r8 : ∀ c L W, Wd c L W → L 8 = false → L 7 = true → Calls Tryz.prog 10 #[(.slice (some ⟨c, 0, none⟩) 2 2)] W fun eg w' => ∃ c', (∀ j, L j = true → vrpz1 X s pp u1 r u2 bb c' j = vrpz1 X s pp u1 r u2 bb c j) ∧ eg = .returned (vrpz1 X s pp u1 r u2 bb c' 8) ∧ Wd c' (upd L 8) w')
    (r9 : ∀ c L W, Wd c L W → L 9 = false → L 4 = true → L 8 = true → Calls Tryz.prog 9 #[(I u1), (I r)] W fun eg w' => ∃ c', (∀ j, L j = true → vrpz1 X s pp u1 r u2 bb c' j = vrpz1 X s pp u1 r u2 bb c j) ∧ eg = .returned (vrpz1 X s pp u1 r u2 bb c' 9) ∧ Wd c' (upd L 9) w')
    (r10 : ∀ W, (do eqGuard .gtr 3 (.tmp 31) (.const (.int .i64 2147483647)) (I u2) (.int .i64 2147483647); binOp .gtr 3 (I u2) (.int .i64 2147483647)).run Tryz.prog W = .ok (.bool bb) W)
    (hend : ∀ c L W, (∀ i, i < 11 → L i = true) → Wd c L W → Q .normal (((((((((((a0.put (some 22) (S s)).put (some 23) (.int .i64 (s.length : Int))).put (some 24) (S s)).put (some 25) (.int .i64 (s.length : Int))).put (some 26) (I u1)).put (some 27) (.agg pp)).put (some 28) (.agg pp)).put (some 29) (.slice (some ⟨c, 0, none⟩) 2 2)).put (some 30) (I r)).put (some 31) (I u2)).put (some 32) (.bool bb)) W) : (Code.region id ops true).wp Tryz.prog Q a0 w := by
  let val : Nat → Nat → Value := vrpz1 X s pp u1 r u2 bb
  have hosz : ops.size = 11 := by
    have := congrArg List.length htab
    simpa [rpz1T] using this
  have hds : ∀ i s, (rpz1T[i]?).bind (·.2.1) = some s → dstOf ops i = some s := fun i s hi => by rw [tab_dst htab, hi]
  have hdisB : disL rpz1T = true := by rfl
  have hdis := disL_of htab hdisB
  have hold : ∀ s, rpz1T.all (fun x => !(x.2.1 == some s)) = true → (List.range ops.size).all (fun j => !(dstOf ops j == some s)) = true := fun s h => holdL htab s h
  refine region_detX val Wd (hac_of hac) hdis h0 ?_ ?_
  rotate_left
  · intro c L W hall hW
    have := hend c L W (by rw [← hosz]; exact hall) hW
    have e : frm ops a0 (val c) (fun _ => true) ops.size = (((((((((((a0.put (some 22) (S s)).put (some 23) (.int .i64 (s.length : Int))).put (some 24) (S s)).put (some 25) (.int .i64 (s.length : Int))).put (some 26) (I u1)).put (some 27) (.agg pp)).put (some 28) (.agg pp)).put (some 29) (.slice (some ⟨c, 0, none⟩) 2 2)).put (some 30) (I r)).put (some 31) (I u2)).put (some 32) (.bool bb)) := by
      rw [hosz]
      simp only [frm, if_true]
      rw [tab_dst htab 0, tab_dst htab 1, tab_dst htab 2, tab_dst htab 3, tab_dst htab 4, tab_dst htab 5, tab_dst htab 6, tab_dst htab 7, tab_dst htab 8, tab_dst htab 9, tab_dst htab 10]
      rfl
    rw [e]
    exact this
  intro i o ho c L a w' hL hd ha hW
  have hi : i < 11 := by rw [← hosz]; exact (Array.getElem?_eq_some_iff.1 ho).1
  match i, ho, hL, hi with
  | 0, ho, hL, _ =>
    obtain ⟨hop, hdst, hgd⟩ := tab_at htab ho (show rpz1T[0]? = _ from rfl)
    simp only at hop hgd
    have h0 := frm_old (val := val c) ha 1 _ (hold 1 rfl) o1
    exact doesX_of (doesL_run ho (wanted_none hgd) (hpure 0 (by decide) c L w' hW) (by rw [run_move _ _ _ hop]; exact congrArg (fun v => Result.ok (Next.value v) w') (eval_of h0)))
  | 1, ho, hL, _ =>
    obtain ⟨hop, hdst, hgd⟩ := tab_at htab ho (show rpz1T[1]? = _ from rfl)
    simp only at hop hgd
    have h0 := frm_at (val := val c) hdis ha 0 22 (hds 0 22 rfl) (by omega) (depl_of hdep 1 0 (by decide) ho hd)
    exact doesX_of (doesL_run ho (wanted_none hgd) (hpure 1 (by decide) c L w' hW) (run_len _ _ _ hop _ (eval_of h0) _))
  | 2, ho, hL, _ =>
    obtain ⟨hop, hdst, hgd⟩ := tab_at htab ho (show rpz1T[2]? = _ from rfl)
    simp only at hop hgd
    have h0 := frm_old (val := val c) ha 1 _ (hold 1 rfl) o1
    exact doesX_of (doesL_run ho (wanted_none hgd) (hpure 2 (by decide) c L w' hW) (by rw [run_move _ _ _ hop]; exact congrArg (fun v => Result.ok (Next.value v) w') (eval_of h0)))
  | 3, ho, hL, _ =>
    obtain ⟨hop, hdst, hgd⟩ := tab_at htab ho (show rpz1T[3]? = _ from rfl)
    simp only at hop hgd
    have h0 := frm_at (val := val c) hdis ha 2 24 (hds 2 24 rfl) (by omega) (depl_of hdep 3 2 (by decide) ho hd)
    exact doesX_of (doesL_run ho (wanted_none hgd) (hpure 3 (by decide) c L w' hW) (run_len _ _ _ hop _ (eval_of h0) _))
  | 4, ho, hL, _ =>
    obtain ⟨hop, hdst, hgd⟩ := tab_at htab ho (show rpz1T[4]? = _ from rfl)
    simp only at hop hgd
    have h0 := frm_at (val := val c) hdis ha 1 23 (hds 1 23 rfl) (by omega) (depl_of hdep 4 1 (by decide) ho hd)
    have h1 := frm_at (val := val c) hdis ha 3 25 (hds 3 25 rfl) (by omega) (depl_of hdep 4 3 (by decide) ho hd)
    refine doesX_call ho (wanted_none hgd) 9 #[(.int .i64 (s.length : Int)), (.int .i64 (s.length : Int))] ?_ (r4 c L w' hW hL (depl_of hdep 4 1 (by decide) ho hd) (depl_of hdep 4 3 (by decide) ho hd))
    rw [run_calls Tryz.func9 (by kernel_rfl) rfl _ _ _ _ hop rfl]
    simp only [List.map_toArray, List.map_cons, List.map_nil, eval_of h0, eval_of h1]
    all_goals rfl
  | 5, ho, hL, _ =>
    obtain ⟨hop, hdst, hgd⟩ := tab_at htab ho (show rpz1T[5]? = _ from rfl)
    simp only at hop hgd
    have h0 := frm_old (val := val c) ha 4 _ (hold 4 rfl) o4
    exact doesX_of (doesL_run ho (wanted_none hgd) (hpure 5 (by decide) c L w' hW) (g_load hop (eval_of h0) (r5 c L w' hW hL)))
  | 6, ho, hL, _ =>
    obtain ⟨hop, hdst, hgd⟩ := tab_at htab ho (show rpz1T[6]? = _ from rfl)
    simp only at hop hgd
    have h0 := frm_old (val := val c) ha 4 _ (hold 4 rfl) o4
    exact doesX_of (doesL_run ho (wanted_none hgd) (hpure 6 (by decide) c L w' hW) (g_load hop (eval_of h0) (r6 c L w' hW hL)))
  | 7, ho, hL, _ =>
    obtain ⟨hop, hdst, hgd⟩ := tab_at htab ho (show rpz1T[7]? = _ from rfl)
    simp only at hop hgd
    have h0 := frm_at (val := val c) hdis ha 5 27 (hds 5 27 rfl) (by omega) (depl_of hdep 7 5 (by decide) ho hd)
    have h1 := frm_at (val := val c) hdis ha 6 28 (hds 6 28 rfl) (by omega) (depl_of hdep 7 6 (by decide) ho hd)
    obtain ⟨c', W', q0, q1, q2⟩ := r7 c L w' hW hL (depl_of hdep 7 5 (by decide) ho hd) (depl_of hdep 7 6 (by decide) ho hd)
    exact doesX_runw ho (wanted_none hgd) c' q0 q2 (g_bs hop (by simp only [List.map_toArray, List.map_cons, List.map_nil, eval_of h0, eval_of h1]; first | done | rfl) q1)
  | 8, ho, hL, _ =>
    obtain ⟨hop, hdst, hgd⟩ := tab_at htab ho (show rpz1T[8]? = _ from rfl)
    simp only at hop hgd
    have h0 := frm_at (val := val c) hdis ha 7 29 (hds 7 29 rfl) (by omega) (depl_of hdep 8 7 (by decide) ho hd)
    refine doesX_call ho (wanted_none hgd) 10 #[(.slice (some ⟨c, 0, none⟩) 2 2)] ?_ (r8 c L w' hW hL (depl_of hdep 8 7 (by decide) ho hd))
    rw [run_calls Tryz.func10 (by kernel_rfl) rfl _ _ _ _ hop rfl]
    simp only [List.map_toArray, List.map_cons, List.map_nil, eval_of h0]
    all_goals rfl
  | 9, ho, hL, _ =>
    obtain ⟨hop, hdst, hgd⟩ := tab_at htab ho (show rpz1T[9]? = _ from rfl)
    simp only at hop hgd
    have h0 := frm_at (val := val c) hdis ha 4 26 (hds 4 26 rfl) (by omega) (depl_of hdep 9 4 (by decide) ho hd)
    have h1 := frm_at (val := val c) hdis ha 8 30 (hds 8 30 rfl) (by omega) (depl_of hdep 9 8 (by decide) ho hd)
    refine doesX_call ho (wanted_none hgd) 9 #[(I u1), (I r)] ?_ (r9 c L w' hW hL (depl_of hdep 9 4 (by decide) ho hd) (depl_of hdep 9 8 (by decide) ho hd))
    rw [run_calls Tryz.func9 (by kernel_rfl) rfl _ _ _ _ hop rfl]
    simp only [List.map_toArray, List.map_cons, List.map_nil, eval_of h0, eval_of h1]
    all_goals rfl
  | 10, ho, hL, _ =>
    obtain ⟨hop, hdst, hgd⟩ := tab_at htab ho (show rpz1T[10]? = _ from rfl)
    simp only at hop hgd
    have h0 := frm_at (val := val c) hdis ha 9 31 (hds 9 31 rfl) (by omega) (depl_of hdep 10 9 (by decide) ho hd)
    exact doesX_of (doesL_run ho (wanted_none hgd) (hpure 10 (by decide) c L w' hW) (g_bin hop (eval_of h0) rfl (r10 w')))
  | (i + 11), ho, hL, hi => exact absurd hi (by omega)
end Go.Proofs.YtjopnhhdemfniaaGreatDoor
