import Derived.Test.YtjopnhhdemfniaaGreatDoorZdetl
namespace Go.Proofs.YtjopnhhdemfniaaGreatDoor
open Go.RowKit
def vrny27 (g n cap kk n1 c1 n2 c2 : Nat) (ad1 ad2 : Option Addr) (c : Value) (i : Nat) : Value := match i with
  | 0 => (.slice (some ⟨g, 0, none⟩) n cap)
  | 1 => (.int .i64 (kk : Int))
  | 2 => (.slice ad1 n1 c1)
  | 3 => (.slice (some ⟨g, 0, none⟩) n cap)
  | 4 => (.int .i64 (kk : Int))
  | 5 => (.int .i64 ((kk : Int) + 1))
  | 6 => (.slice ad2 n2 c2)
  | 7 => c
  | 8 => c
  | _ => undef
def rny27T : List (Op × Option Tmp × Option (Nat × Bool)) := [
  (.move (.tmp 15), some 105, none),
  (.move (.tmp 16), some 106, none),
  (.slice 27 (.tmp 105) none (some (.tmp 106)) none, some 107, none),
  (.move (.tmp 15), some 108, none),
  (.move (.tmp 16), some 109, none),
  (.binOp .add 3 (.tmp 109) (.const (.int .i64 1)) 3, some 110, none),
  (.slice 27 (.tmp 108) (some (.tmp 110)) none none, some 111, none),
  (.call { callee := .builtin .append, args := #[(.tmp 107), (.tmp 111)], argTypes := #[27, 27] }, some 112, none),
  (.assign (.tmp 112), some 15, none)]
def rny27D : List (Nat × Nat) := [(2, 0), (2, 1), (5, 4), (6, 3), (6, 5), (7, 2), (7, 6), (8, 7)]
set_option maxHeartbeats 4000000 in
theorem rny27 {ops : Array Oper} {id : Nat} {Q : Exit → Act → World → Prop} (g n cap kk n1 c1 n2 c2 : Nat) (ad1 ad2 : Option Addr) (htab : ops.toList.map (fun o => (o.op, o.dst, o.guard)) = rny27T) (hdep : deplB rny27D ops = true) (hac : acB ops = true)
    (a0 : Act) (w : World) (hsz : 113 ≤ a0.tmps.size) (o15 : a0.tmps[15]? = some (.slice (some ⟨g, 0, none⟩) n cap)) (o16 : a0.tmps[16]? = some (.int .i64 (kk : Int)))
    (Wd : Value → (Nat → Bool) → World → Prop) (h0 : ∃ c, Wd c (fun _ => false) w.drew) (hpure : ∀ i, i ∉ ([2, 6, 7, 8] : List Nat) → ∀ c L W, Wd c L W → Wd c (upd L i) W)
    (e0 : ∀ c L W, Wd c L W → L 0 = false → L 8 = false)
    (r2 : ∀ W, (Instr.sliceAt 27 (.slice (some ⟨g, 0, none⟩) n cap) none (some (.int .i64 (kk : Int))) none).run Tryz.prog W = .ok (.slice ad1 n1 c1) W)
    (e2 : ∀ c L W, Wd c L W → L 2 = false → L 0 = true → L 1 = true → Wd c (upd L 2) W)
    (e3 : ∀ c L W, Wd c L W → L 3 = false → L 8 = false)
    (r5 : ∀ W, (do eqGuard .add 3 (.tmp 109) (.const (.int .i64 1)) (.int .i64 (kk : Int)) (.int .i64 1); binOp .add 3 (.int .i64 (kk : Int)) (.int .i64 1)).run Tryz.prog W = .ok (.int .i64 ((kk : Int) + 1)) W)
    (r6 : ∀ W, (Instr.sliceAt 27 (.slice (some ⟨g, 0, none⟩) n cap) (some (.int .i64 ((kk : Int) + 1))) none none).run Tryz.prog W = .ok (.slice ad2 n2 c2) W)
    (e6 : ∀ c L W, Wd c L W → L 6 = false → L 3 = true → L 5 = true → Wd c (upd L 6) W)
    (r7 : ∀ T, ∀ c L W, Wd c L W → L 7 = false → L 2 = true → L 6 = true → ∃ c' W', (∀ j, L j = true → vrny27 g n cap kk n1 c1 n2 c2 ad1 ad2 c' j = vrny27 g n cap kk n1 c1 n2 c2 ad1 ad2 c j) ∧ (Builtin.append_ #[27, 27] T #[(.slice ad1 n1 c1), (.slice ad2 n2 c2)]).run Tryz.prog W = .ok (vrny27 g n cap kk n1 c1 n2 c2 ad1 ad2 c' 7) W' ∧ Wd c' (upd L 7) W')
    (r8 : ∀ c L W, Wd c L W → L 8 = false → L 7 = true → Wd c (upd L 8) W)
    (hend : ∀ c L W, (∀ i, i < 9 → L i = true) → Wd c L W → Q .normal (((((((((a0.put (some 105) (.slice (some ⟨g, 0, none⟩) n cap)).put (some 106) (.int .i64 (kk : Int))).put (some 107) (.slice ad1 n1 c1)).put (some 108) (.slice (some ⟨g, 0, none⟩) n cap)).put (some 109) (.int .i64 (kk : Int))).put (some 110) (.int .i64 ((kk : Int) + 1))).put (some 111) (.slice ad2 n2 c2)).put (some 112) c).put (some 15) c) W) : (Code.region id ops true).wp Tryz.prog Q a0 w := by
  let val : Value → Nat → Value := vrny27 g n cap kk n1 c1 n2 c2 ad1 ad2
  have hosz : ops.size = 9 := by
    have := congrArg List.length htab
    simpa [rny27T] using this
  have hds : ∀ i s, (rny27T[i]?).bind (·.2.1) = some s → dstOf ops i = some s := fun i s hi => by rw [tab_dst htab, hi]
  have hdisB : disL rny27T = true := by rfl
  have hdis := disL_of htab hdisB
  have hold : ∀ s, rny27T.all (fun x => !(x.2.1 == some s)) = true → (List.range ops.size).all (fun j => !(dstOf ops j == some s)) = true := fun s h => holdL htab s h
  refine region_detX val Wd (hac_of hac) hdis h0 ?_ ?_
  rotate_left
  · intro c L W hall hW
    have := hend c L W (by rw [← hosz]; exact hall) hW
    have e : frm ops a0 (val c) (fun _ => true) ops.size = (((((((((a0.put (some 105) (.slice (some ⟨g, 0, none⟩) n cap)).put (some 106) (.int .i64 (kk : Int))).put (some 107) (.slice ad1 n1 c1)).put (some 108) (.slice (some ⟨g, 0, none⟩) n cap)).put (some 109) (.int .i64 (kk : Int))).put (some 110) (.int .i64 ((kk : Int) + 1))).put (some 111) (.slice ad2 n2 c2)).put (some 112) c).put (some 15) c) := by
      rw [hosz]
      simp only [frm, if_true]
      rw [tab_dst htab 0, tab_dst htab 1, tab_dst htab 2, tab_dst htab 3, tab_dst htab 4, tab_dst htab 5, tab_dst htab 6, tab_dst htab 7, tab_dst htab 8]
      rfl
    rw [e]
    exact this
  intro i o ho c L a w' hL hd ha hW
  have hi : i < 9 := by rw [← hosz]; exact (Array.getElem?_eq_some_iff.1 ho).1
  match i, ho, hL, hi with
  | 0, ho, hL, _ =>
    obtain ⟨hop, hdst, hgd⟩ := tab_at htab ho (show rny27T[0]? = _ from rfl)
    simp only at hop hgd
    have h0 : a.tmps[15]? = some (.slice (some ⟨g, 0, none⟩) n cap) := by rw [ha, frm_late a0 (val c) L 15 8 (e0 c L w' hW hL) ops.size (late_of htab (by rfl))]; exact o15
    exact doesX_of (doesL_run ho (wanted_none hgd) (hpure 0 (by decide) c L w' hW) (by rw [run_move _ _ _ hop]; exact congrArg (fun v => Result.ok (Next.value v) w') (eval_of h0)))
  | 1, ho, hL, _ =>
    obtain ⟨hop, hdst, hgd⟩ := tab_at htab ho (show rny27T[1]? = _ from rfl)
    simp only at hop hgd
    have h0 := frm_old (val := val c) ha 16 _ (hold 16 rfl) o16
    exact doesX_of (doesL_run ho (wanted_none hgd) (hpure 1 (by decide) c L w' hW) (by rw [run_move _ _ _ hop]; exact congrArg (fun v => Result.ok (Next.value v) w') (eval_of h0)))
  | 2, ho, hL, _ =>
    obtain ⟨hop, hdst, hgd⟩ := tab_at htab ho (show rny27T[2]? = _ from rfl)
    simp only at hop hgd
    have h0 := frm_at (val := val c) hdis ha 0 105 (hds 0 105 rfl) (by omega) (depl_of hdep 2 0 (by decide) ho hd)
    have h1 := frm_at (val := val c) hdis ha 1 106 (hds 1 106 rfl) (by omega) (depl_of hdep 2 1 (by decide) ho hd)
    exact doesX_of (doesL_run ho (wanted_none hgd) (e2 c L w' hW hL (depl_of hdep 2 0 (by decide) ho hd) (depl_of hdep 2 1 (by decide) ho hd)) (g_sl hop (eval_of h0) rfl (congrArg some (eval_of h1)) rfl (r2 w')))
  | 3, ho, hL, _ =>
    obtain ⟨hop, hdst, hgd⟩ := tab_at htab ho (show rny27T[3]? = _ from rfl)
    simp only at hop hgd
    have h0 : a.tmps[15]? = some (.slice (some ⟨g, 0, none⟩) n cap) := by rw [ha, frm_late a0 (val c) L 15 8 (e3 c L w' hW hL) ops.size (late_of htab (by rfl))]; exact o15
    exact doesX_of (doesL_run ho (wanted_none hgd) (hpure 3 (by decide) c L w' hW) (by rw [run_move _ _ _ hop]; exact congrArg (fun v => Result.ok (Next.value v) w') (eval_of h0)))
  | 4, ho, hL, _ =>
    obtain ⟨hop, hdst, hgd⟩ := tab_at htab ho (show rny27T[4]? = _ from rfl)
    simp only at hop hgd
    have h0 := frm_old (val := val c) ha 16 _ (hold 16 rfl) o16
    exact doesX_of (doesL_run ho (wanted_none hgd) (hpure 4 (by decide) c L w' hW) (by rw [run_move _ _ _ hop]; exact congrArg (fun v => Result.ok (Next.value v) w') (eval_of h0)))
  | 5, ho, hL, _ =>
    obtain ⟨hop, hdst, hgd⟩ := tab_at htab ho (show rny27T[5]? = _ from rfl)
    simp only at hop hgd
    have h0 := frm_at (val := val c) hdis ha 4 109 (hds 4 109 rfl) (by omega) (depl_of hdep 5 4 (by decide) ho hd)
    exact doesX_of (doesL_run ho (wanted_none hgd) (hpure 5 (by decide) c L w' hW) (g_bin hop (eval_of h0) rfl (r5 w')))
  | 6, ho, hL, _ =>
    obtain ⟨hop, hdst, hgd⟩ := tab_at htab ho (show rny27T[6]? = _ from rfl)
    simp only at hop hgd
    have h0 := frm_at (val := val c) hdis ha 3 108 (hds 3 108 rfl) (by omega) (depl_of hdep 6 3 (by decide) ho hd)
    have h1 := frm_at (val := val c) hdis ha 5 110 (hds 5 110 rfl) (by omega) (depl_of hdep 6 5 (by decide) ho hd)
    exact doesX_of (doesL_run ho (wanted_none hgd) (e6 c L w' hW hL (depl_of hdep 6 3 (by decide) ho hd) (depl_of hdep 6 5 (by decide) ho hd)) (g_sl hop (eval_of h0) (congrArg some (eval_of h1)) rfl rfl (r6 w')))
  | 7, ho, hL, _ =>
    obtain ⟨hop, hdst, hgd⟩ := tab_at htab ho (show rny27T[7]? = _ from rfl)
    simp only at hop hgd
    have h0 := frm_at (val := val c) hdis ha 2 107 (hds 2 107 rfl) (by omega) (depl_of hdep 7 2 (by decide) ho hd)
    have h1 := frm_at (val := val c) hdis ha 6 111 (hds 6 111 rfl) (by omega) (depl_of hdep 7 6 (by decide) ho hd)
    obtain ⟨c', W', q0, q1, q2⟩ := r7 _ c L w' hW hL (depl_of hdep 7 2 (by decide) ho hd) (depl_of hdep 7 6 (by decide) ho hd)
    exact doesX_runw ho (wanted_none hgd) c' q0 q2 (g_app hop (eval_of h0) (eval_of h1) q1)
  | 8, ho, hL, _ =>
    obtain ⟨hop, hdst, hgd⟩ := tab_at htab ho (show rny27T[8]? = _ from rfl)
    simp only at hop hgd
    have h0 := frm_at (val := val c) hdis ha 7 112 (hds 7 112 rfl) (by omega) (depl_of hdep 8 7 (by decide) ho hd)
    exact doesX_of (doesL_run ho (wanted_none hgd) (r8 c L w' hW hL (depl_of hdep 8 7 (by decide) ho hd)) (by rw [run_assign _ _ _ hop]; exact congrArg (fun v => Result.ok (Next.value v) w') (eval_of h0)))
  | (i + 9), ho, hL, hi => exact absurd hi (by omega)
end Go.Proofs.YtjopnhhdemfniaaGreatDoor
