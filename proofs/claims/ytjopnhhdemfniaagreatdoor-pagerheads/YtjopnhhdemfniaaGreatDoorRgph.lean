import Derived.Test.YtjopnhhdemfniaaGreatDoorZdetl
namespace Go.Proofs.YtjopnhhdemfniaaGreatDoor
open Go.RowKit
def vrpz21 (s x : Bs) (at_ by_ g r b e : Int) (c : Bs) (i : Nat) : Value := match i with
  | 0 => (S s)
  | 1 => (S (s.take 64))
  | 2 => (S s)
  | 3 => (S (s.drop 64))
  | 4 => (I at_)
  | 5 => (I by_)
  | 6 => (S c)
  | 7 => (S (s.take 64 ++ c))
  | 8 => (.tuple #[I g, I r, I b, S x, I e])
  | 9 => (.tuple #[I g, I r, I b, S x, I e])
  | 10 => (I g)
  | 11 => (I r)
  | 12 => (I b)
  | 13 => (S x)
  | 14 => (I e)
  | 15 => (I g)
  | 16 => (I r)
  | 17 => (I b)
  | 18 => (S x)
  | 19 => (I e)
  | _ => undef
def rpz21T : List (Op × Option Tmp × Option (Nat × Bool)) := [
  (.move (.tmp 25), some 148, none),
  (.slice 9 (.tmp 148) none (some (.const (.int .i64 64))) none, some 149, none),
  (.move (.tmp 25), some 150, none),
  (.slice 9 (.tmp 150) (some (.const (.int .i64 64))) none none, some 151, none),
  (.move (.tmp 5), some 152, none),
  (.move (.tmp 6), some 153, none),
  (.call { callee := .value (.func 16), args := #[(.tmp 151), (.tmp 152), (.tmp 153)], argTypes := #[9, 3, 3] }, some 154, none),
  (.binOp .add 9 (.tmp 149) (.tmp 154) 9, some 155, none),
  (.call { callee := .value (.func 25), args := #[(.tmp 155)], argTypes := #[9] }, some 156, none),
  (.move (.tmp 156), some 147, none),
  (.extract (.tmp 147) 0, some 157, none),
  (.extract (.tmp 147) 1, some 158, none),
  (.extract (.tmp 147) 2, some 159, none),
  (.extract (.tmp 147) 3, some 160, none),
  (.extract (.tmp 147) 4, some 161, none),
  (.assign (.tmp 157), some 33, none),
  (.assign (.tmp 158), some 34, none),
  (.assign (.tmp 159), some 35, none),
  (.assign (.tmp 160), some 36, none),
  (.assign (.tmp 161), some 37, none)]
def rpz21D : List (Nat × Nat) := [(1, 0), (3, 2), (6, 3), (6, 4), (6, 5), (7, 1), (7, 6), (8, 7), (9, 8), (10, 9), (11, 9), (12, 9), (13, 9), (14, 9), (15, 10), (16, 11), (17, 12), (18, 13), (19, 14)]
set_option maxHeartbeats 4000000 in
theorem rpz21 {ops : Array Oper} {id : Nat} {Q : Exit → Act → World → Prop} (s x : Bs) (at_ by_ g r b e : Int) (htab : ops.toList.map (fun o => (o.op, o.dst, o.guard)) = rpz21T) (hdep : deplB rpz21D ops = true) (hac : acB ops = true)
    (a0 : Act) (w : World) (hsz : 162 ≤ a0.tmps.size) (o5 : a0.tmps[5]? = some (I at_)) (o6 : a0.tmps[6]? = some (I by_)) (o25 : a0.tmps[25]? = some (S s))
    (Wd : Bs → (Nat → Bool) → World → Prop) (h0 : ∃ c, Wd c (fun _ => false) w.drew) (hpure : ∀ i, i ∉ ([6, 7, 8] : List Nat) → ∀ c L W, Wd c L W → Wd c (upd L i) W)
    (r1 : ∀ W, (Instr.sliceAt 9 (S s) none (some (.int .i64 64)) none).run Tryz.prog W = .ok (S (s.take 64)) W)
    (r3 : ∀ W, (Instr.sliceAt 9 (S s) (some (.int .i64 64)) none none).run Tryz.prog W = .ok (S (s.drop 64)) W)
    (r6 : ∀ c L W, Wd c L W → L 6 = false → L 3 = true → L 4 = true → L 5 = true → Calls Tryz.prog 16 #[(S (s.drop 64)), (I at_), (I by_)] W fun eg w' => ∃ c', (∀ j, L j = true → vrpz21 s x at_ by_ g r b e c' j = vrpz21 s x at_ by_ g r b e c j) ∧ eg = .returned (vrpz21 s x at_ by_ g r b e c' 6) ∧ Wd c' (upd L 6) w')
    (r7 : ∀ c L W, Wd c L W → L 7 = false → L 1 = true → L 6 = true → ∃ c' W', (∀ j, L j = true → vrpz21 s x at_ by_ g r b e c' j = vrpz21 s x at_ by_ g r b e c j) ∧ (do eqGuard .add 9 (.tmp 149) (.tmp 154) (S (s.take 64)) (S c); binOp .add 9 (S (s.take 64)) (S c)).run Tryz.prog W = .ok (vrpz21 s x at_ by_ g r b e c' 7) W' ∧ Wd c' (upd L 7) W')
    (r8 : ∀ c L W, Wd c L W → L 8 = false → L 7 = true → Calls Tryz.prog 25 #[(S (s.take 64 ++ c))] W fun eg w' => ∃ c', (∀ j, L j = true → vrpz21 s x at_ by_ g r b e c' j = vrpz21 s x at_ by_ g r b e c j) ∧ eg = .returned (vrpz21 s x at_ by_ g r b e c' 8) ∧ Wd c' (upd L 8) w')
    (r10 : ∀ W, (Instr.extract (.tuple #[I g, I r, I b, S x, I e]) 0).run Tryz.prog W = .ok (I g) W)
    (r11 : ∀ W, (Instr.extract (.tuple #[I g, I r, I b, S x, I e]) 1).run Tryz.prog W = .ok (I r) W)
    (r12 : ∀ W, (Instr.extract (.tuple #[I g, I r, I b, S x, I e]) 2).run Tryz.prog W = .ok (I b) W)
    (r13 : ∀ W, (Instr.extract (.tuple #[I g, I r, I b, S x, I e]) 3).run Tryz.prog W = .ok (S x) W)
    (r14 : ∀ W, (Instr.extract (.tuple #[I g, I r, I b, S x, I e]) 4).run Tryz.prog W = .ok (I e) W)
    (hend : ∀ c L W, (∀ i, i < 20 → L i = true) → Wd c L W → Q .normal ((((((((((((((((((((a0.put (some 148) (S s)).put (some 149) (S (s.take 64))).put (some 150) (S s)).put (some 151) (S (s.drop 64))).put (some 152) (I at_)).put (some 153) (I by_)).put (some 154) (S c)).put (some 155) (S (s.take 64 ++ c))).put (some 156) (.tuple #[I g, I r, I b, S x, I e])).put (some 147) (.tuple #[I g, I r, I b, S x, I e])).put (some 157) (I g)).put (some 158) (I r)).put (some 159) (I b)).put (some 160) (S x)).put (some 161) (I e)).put (some 33) (I g)).put (some 34) (I r)).put (some 35) (I b)).put (some 36) (S x)).put (some 37) (I e)) W) : (Code.region id ops true).wp Tryz.prog Q a0 w := by
  let val : Bs → Nat → Value := vrpz21 s x at_ by_ g r b e
  have hosz : ops.size = 20 := by
    have := congrArg List.length htab
    simpa [rpz21T] using this
  have hds : ∀ i s, (rpz21T[i]?).bind (·.2.1) = some s → dstOf ops i = some s := fun i s hi => by rw [tab_dst htab, hi]
  have hdisB : disL rpz21T = true := by rfl
  have hdis := disL_of htab hdisB
  have hold : ∀ s, rpz21T.all (fun x => !(x.2.1 == some s)) = true → (List.range ops.size).all (fun j => !(dstOf ops j == some s)) = true := fun s h => holdL htab s h
  refine region_detX val Wd (hac_of hac) hdis h0 ?_ ?_
  rotate_left
  · intro c L W hall hW
    have := hend c L W (by rw [← hosz]; exact hall) hW
    have e : frm ops a0 (val c) (fun _ => true) ops.size = ((((((((((((((((((((a0.put (some 148) (S s)).put (some 149) (S (s.take 64))).put (some 150) (S s)).put (some 151) (S (s.drop 64))).put (some 152) (I at_)).put (some 153) (I by_)).put (some 154) (S c)).put (some 155) (S (s.take 64 ++ c))).put (some 156) (.tuple #[I g, I r, I b, S x, I e])).put (some 147) (.tuple #[I g, I r, I b, S x, I e])).put (some 157) (I g)).put (some 158) (I r)).put (some 159) (I b)).put (some 160) (S x)).put (some 161) (I e)).put (some 33) (I g)).put (some 34) (I r)).put (some 35) (I b)).put (some 36) (S x)).put (some 37) (I e)) := by
      rw [hosz]
      simp only [frm, if_true]
      rw [tab_dst htab 0, tab_dst htab 1, tab_dst htab 2, tab_dst htab 3, tab_dst htab 4, tab_dst htab 5, tab_dst htab 6, tab_dst htab 7, tab_dst htab 8, tab_dst htab 9, tab_dst htab 10, tab_dst htab 11, tab_dst htab 12, tab_dst htab 13, tab_dst htab 14, tab_dst htab 15, tab_dst htab 16, tab_dst htab 17, tab_dst htab 18, tab_dst htab 19]
      rfl
    rw [e]
    exact this
  intro i o ho c L a w' hL hd ha hW
  have hi : i < 20 := by rw [← hosz]; exact (Array.getElem?_eq_some_iff.1 ho).1
  match i, ho, hL, hi with
  | 0, ho, hL, _ =>
    obtain ⟨hop, hdst, hgd⟩ := tab_at htab ho (show rpz21T[0]? = _ from rfl)
    simp only at hop hgd
    have h0 := frm_old (val := val c) ha 25 _ (hold 25 rfl) o25
    exact doesX_of (doesL_run ho (wanted_none hgd) (hpure 0 (by decide) c L w' hW) (by rw [run_move _ _ _ hop]; exact congrArg (fun v => Result.ok (Next.value v) w') (eval_of h0)))
  | 1, ho, hL, _ =>
    obtain ⟨hop, hdst, hgd⟩ := tab_at htab ho (show rpz21T[1]? = _ from rfl)
    simp only at hop hgd
    have h0 := frm_at (val := val c) hdis ha 0 148 (hds 0 148 rfl) (by omega) (depl_of hdep 1 0 (by decide) ho hd)
    exact doesX_of (doesL_run ho (wanted_none hgd) (hpure 1 (by decide) c L w' hW) (g_sl hop (eval_of h0) rfl (congrArg some rfl) rfl (r1 w')))
  | 2, ho, hL, _ =>
    obtain ⟨hop, hdst, hgd⟩ := tab_at htab ho (show rpz21T[2]? = _ from rfl)
    simp only at hop hgd
    have h0 := frm_old (val := val c) ha 25 _ (hold 25 rfl) o25
    exact doesX_of (doesL_run ho (wanted_none hgd) (hpure 2 (by decide) c L w' hW) (by rw [run_move _ _ _ hop]; exact congrArg (fun v => Result.ok (Next.value v) w') (eval_of h0)))
  | 3, ho, hL, _ =>
    obtain ⟨hop, hdst, hgd⟩ := tab_at htab ho (show rpz21T[3]? = _ from rfl)
    simp only at hop hgd
    have h0 := frm_at (val := val c) hdis ha 2 150 (hds 2 150 rfl) (by omega) (depl_of hdep 3 2 (by decide) ho hd)
    exact doesX_of (doesL_run ho (wanted_none hgd) (hpure 3 (by decide) c L w' hW) (g_sl hop (eval_of h0) (congrArg some rfl) rfl rfl (r3 w')))
  | 4, ho, hL, _ =>
    obtain ⟨hop, hdst, hgd⟩ := tab_at htab ho (show rpz21T[4]? = _ from rfl)
    simp only at hop hgd
    have h0 := frm_old (val := val c) ha 5 _ (hold 5 rfl) o5
    exact doesX_of (doesL_run ho (wanted_none hgd) (hpure 4 (by decide) c L w' hW) (by rw [run_move _ _ _ hop]; exact congrArg (fun v => Result.ok (Next.value v) w') (eval_of h0)))
  | 5, ho, hL, _ =>
    obtain ⟨hop, hdst, hgd⟩ := tab_at htab ho (show rpz21T[5]? = _ from rfl)
    simp only at hop hgd
    have h0 := frm_old (val := val c) ha 6 _ (hold 6 rfl) o6
    exact doesX_of (doesL_run ho (wanted_none hgd) (hpure 5 (by decide) c L w' hW) (by rw [run_move _ _ _ hop]; exact congrArg (fun v => Result.ok (Next.value v) w') (eval_of h0)))
  | 6, ho, hL, _ =>
    obtain ⟨hop, hdst, hgd⟩ := tab_at htab ho (show rpz21T[6]? = _ from rfl)
    simp only at hop hgd
    have h0 := frm_at (val := val c) hdis ha 3 151 (hds 3 151 rfl) (by omega) (depl_of hdep 6 3 (by decide) ho hd)
    have h1 := frm_at (val := val c) hdis ha 4 152 (hds 4 152 rfl) (by omega) (depl_of hdep 6 4 (by decide) ho hd)
    have h2 := frm_at (val := val c) hdis ha 5 153 (hds 5 153 rfl) (by omega) (depl_of hdep 6 5 (by decide) ho hd)
    refine doesX_call ho (wanted_none hgd) 16 #[(S (s.drop 64)), (I at_), (I by_)] ?_ (r6 c L w' hW hL (depl_of hdep 6 3 (by decide) ho hd) (depl_of hdep 6 4 (by decide) ho hd) (depl_of hdep 6 5 (by decide) ho hd))
    rw [run_calls Tryz.func16 (by kernel_rfl) rfl _ _ _ _ hop rfl]
    simp only [List.map_toArray, List.map_cons, List.map_nil, eval_of h0, eval_of h1, eval_of h2]
    all_goals rfl
  | 7, ho, hL, _ =>
    obtain ⟨hop, hdst, hgd⟩ := tab_at htab ho (show rpz21T[7]? = _ from rfl)
    simp only at hop hgd
    have h0 := frm_at (val := val c) hdis ha 1 149 (hds 1 149 rfl) (by omega) (depl_of hdep 7 1 (by decide) ho hd)
    have h1 := frm_at (val := val c) hdis ha 6 154 (hds 6 154 rfl) (by omega) (depl_of hdep 7 6 (by decide) ho hd)
    obtain ⟨c', W', q0, q1, q2⟩ := r7 c L w' hW hL (depl_of hdep 7 1 (by decide) ho hd) (depl_of hdep 7 6 (by decide) ho hd)
    exact doesX_runw ho (wanted_none hgd) c' q0 q2 (g_bin hop (eval_of h0) (eval_of h1) q1)
  | 8, ho, hL, _ =>
    obtain ⟨hop, hdst, hgd⟩ := tab_at htab ho (show rpz21T[8]? = _ from rfl)
    simp only at hop hgd
    have h0 := frm_at (val := val c) hdis ha 7 155 (hds 7 155 rfl) (by omega) (depl_of hdep 8 7 (by decide) ho hd)
    refine doesX_call ho (wanted_none hgd) 25 #[(S (s.take 64 ++ c))] ?_ (r8 c L w' hW hL (depl_of hdep 8 7 (by decide) ho hd))
    rw [run_calls Tryz.func25 (by kernel_rfl) rfl _ _ _ _ hop rfl]
    simp only [List.map_toArray, List.map_cons, List.map_nil, eval_of h0]
    all_goals rfl
  | 9, ho, hL, _ =>
    obtain ⟨hop, hdst, hgd⟩ := tab_at htab ho (show rpz21T[9]? = _ from rfl)
    simp only at hop hgd
    have h0 := frm_at (val := val c) hdis ha 8 156 (hds 8 156 rfl) (by omega) (depl_of hdep 9 8 (by decide) ho hd)
    exact doesX_of (doesL_run ho (wanted_none hgd) (hpure 9 (by decide) c L w' hW) (by rw [run_move _ _ _ hop]; exact congrArg (fun v => Result.ok (Next.value v) w') (eval_of h0)))
  | 10, ho, hL, _ =>
    obtain ⟨hop, hdst, hgd⟩ := tab_at htab ho (show rpz21T[10]? = _ from rfl)
    simp only at hop hgd
    have h0 := frm_at (val := val c) hdis ha 9 147 (hds 9 147 rfl) (by omega) (depl_of hdep 10 9 (by decide) ho hd)
    exact doesX_of (doesL_run ho (wanted_none hgd) (hpure 10 (by decide) c L w' hW) (g_ext hop (eval_of h0) (r10 w')))
  | 11, ho, hL, _ =>
    obtain ⟨hop, hdst, hgd⟩ := tab_at htab ho (show rpz21T[11]? = _ from rfl)
    simp only at hop hgd
    have h0 := frm_at (val := val c) hdis ha 9 147 (hds 9 147 rfl) (by omega) (depl_of hdep 11 9 (by decide) ho hd)
    exact doesX_of (doesL_run ho (wanted_none hgd) (hpure 11 (by decide) c L w' hW) (g_ext hop (eval_of h0) (r11 w')))
  | 12, ho, hL, _ =>
    obtain ⟨hop, hdst, hgd⟩ := tab_at htab ho (show rpz21T[12]? = _ from rfl)
    simp only at hop hgd
    have h0 := frm_at (val := val c) hdis ha 9 147 (hds 9 147 rfl) (by omega) (depl_of hdep 12 9 (by decide) ho hd)
    exact doesX_of (doesL_run ho (wanted_none hgd) (hpure 12 (by decide) c L w' hW) (g_ext hop (eval_of h0) (r12 w')))
  | 13, ho, hL, _ =>
    obtain ⟨hop, hdst, hgd⟩ := tab_at htab ho (show rpz21T[13]? = _ from rfl)
    simp only at hop hgd
    have h0 := frm_at (val := val c) hdis ha 9 147 (hds 9 147 rfl) (by omega) (depl_of hdep 13 9 (by decide) ho hd)
    exact doesX_of (doesL_run ho (wanted_none hgd) (hpure 13 (by decide) c L w' hW) (g_ext hop (eval_of h0) (r13 w')))
  | 14, ho, hL, _ =>
    obtain ⟨hop, hdst, hgd⟩ := tab_at htab ho (show rpz21T[14]? = _ from rfl)
    simp only at hop hgd
    have h0 := frm_at (val := val c) hdis ha 9 147 (hds 9 147 rfl) (by omega) (depl_of hdep 14 9 (by decide) ho hd)
    exact doesX_of (doesL_run ho (wanted_none hgd) (hpure 14 (by decide) c L w' hW) (g_ext hop (eval_of h0) (r14 w')))
  | 15, ho, hL, _ =>
    obtain ⟨hop, hdst, hgd⟩ := tab_at htab ho (show rpz21T[15]? = _ from rfl)
    simp only at hop hgd
    have h0 := frm_at (val := val c) hdis ha 10 157 (hds 10 157 rfl) (by omega) (depl_of hdep 15 10 (by decide) ho hd)
    exact doesX_of (doesL_run ho (wanted_none hgd) (hpure 15 (by decide) c L w' hW) (by rw [run_assign _ _ _ hop]; exact congrArg (fun v => Result.ok (Next.value v) w') (eval_of h0)))
  | 16, ho, hL, _ =>
    obtain ⟨hop, hdst, hgd⟩ := tab_at htab ho (show rpz21T[16]? = _ from rfl)
    simp only at hop hgd
    have h0 := frm_at (val := val c) hdis ha 11 158 (hds 11 158 rfl) (by omega) (depl_of hdep 16 11 (by decide) ho hd)
    exact doesX_of (doesL_run ho (wanted_none hgd) (hpure 16 (by decide) c L w' hW) (by rw [run_assign _ _ _ hop]; exact congrArg (fun v => Result.ok (Next.value v) w') (eval_of h0)))
  | 17, ho, hL, _ =>
    obtain ⟨hop, hdst, hgd⟩ := tab_at htab ho (show rpz21T[17]? = _ from rfl)
    simp only at hop hgd
    have h0 := frm_at (val := val c) hdis ha 12 159 (hds 12 159 rfl) (by omega) (depl_of hdep 17 12 (by decide) ho hd)
    exact doesX_of (doesL_run ho (wanted_none hgd) (hpure 17 (by decide) c L w' hW) (by rw [run_assign _ _ _ hop]; exact congrArg (fun v => Result.ok (Next.value v) w') (eval_of h0)))
  | 18, ho, hL, _ =>
    obtain ⟨hop, hdst, hgd⟩ := tab_at htab ho (show rpz21T[18]? = _ from rfl)
    simp only at hop hgd
    have h0 := frm_at (val := val c) hdis ha 13 160 (hds 13 160 rfl) (by omega) (depl_of hdep 18 13 (by decide) ho hd)
    exact doesX_of (doesL_run ho (wanted_none hgd) (hpure 18 (by decide) c L w' hW) (by rw [run_assign _ _ _ hop]; exact congrArg (fun v => Result.ok (Next.value v) w') (eval_of h0)))
  | 19, ho, hL, _ =>
    obtain ⟨hop, hdst, hgd⟩ := tab_at htab ho (show rpz21T[19]? = _ from rfl)
    simp only at hop hgd
    have h0 := frm_at (val := val c) hdis ha 14 161 (hds 14 161 rfl) (by omega) (depl_of hdep 19 14 (by decide) ho hd)
    exact doesX_of (doesL_run ho (wanted_none hgd) (hpure 19 (by decide) c L w' hW) (by rw [run_assign _ _ _ hop]; exact congrArg (fun v => Result.ok (Next.value v) w') (eval_of h0)))
  | (i + 20), ho, hL, hi => exact absurd hi (by omega)
end Go.Proofs.YtjopnhhdemfniaaGreatDoor
