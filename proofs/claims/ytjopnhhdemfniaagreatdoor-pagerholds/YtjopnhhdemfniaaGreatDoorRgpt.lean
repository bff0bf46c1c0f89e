import Derived.Test.YtjopnhhdemfniaaGreatDoorZdetl
namespace Go.Proofs.YtjopnhhdemfniaaGreatDoor
open Go.RowKit
def vrtr13 (_X n cap g oo nn cc : Nat) (aa : Option Addr) (pp : Array Value) (r : Int) (c : Cav) (i : Nat) : Value := match i with
  | 0 => (.slice aa n cap)
  | 1 => (.agg pp)
  | 2 => (.slice (some ⟨c.a, 0, none⟩) 1 1)
  | 3 => c.v
  | 4 => (.slice (some ⟨g, oo, none⟩) (nn + 1) cc)
  | 5 => (.int .i64 ((nn : Int) + 1))
  | 6 => (.int .i64 (nn : Int))
  | 7 => (.pointer (some ⟨g, oo + nn, none⟩))
  | 8 => (I r)
  | 9 => c.v
  | 10 => (I r)
  | _ => undef
def rtr13T : List (Op × Option Tmp × Option (Nat × Bool)) := [
  (.move (.tmp 8), some 56, none),
  (.load 24 (.tmp 12), some 57, none),
  (.buildSlice 27 1 #[(0, (.tmp 57))], some 58, none),
  (.call { callee := .builtin .append, args := #[(.tmp 56), (.tmp 58)], argTypes := #[27, 27] }, some 59, none),
  (.move (.tmp 0), some 60, none),
  (.move (.tmp 10), some 61, none),
  (.binOp .sub 3 (.tmp 61) (.const (.int .i64 1)) 3, some 62, none),
  (.indexAddr 22 (.tmp 60) (.tmp 62), some 63, none),
  (.load 3 (.tmp 63), some 64, none),
  (.assign (.tmp 59), some 6, none),
  (.assign (.tmp 64), some 7, none)]
def rtr13D : List (Nat × Nat) := [(2, 1), (3, 0), (3, 2), (6, 5), (7, 4), (7, 6), (8, 7), (9, 3), (10, 8)]
set_option maxHeartbeats 4000000 in
theorem rtr13 {ops : Array Oper} {id : Nat} {Q : Exit → Act → World → Prop} (X n cap g oo nn cc : Nat) (aa : Option Addr) (pp : Array Value) (r : Int) (htab : ops.toList.map (fun o => (o.op, o.dst, o.guard)) = rtr13T) (hdep : deplB rtr13D ops = true) (hac : acB ops = true)
    (a0 : Act) (w : World) (hsz : 65 ≤ a0.tmps.size) (o0 : a0.tmps[0]? = some (.slice (some ⟨g, oo, none⟩) (nn + 1) cc)) (o8 : a0.tmps[8]? = some (.slice aa n cap)) (o10 : a0.tmps[10]? = some (.int .i64 ((nn : Int) + 1))) (o12 : a0.tmps[12]? = some (.pointer (some ⟨X, 0, none⟩)))
    (Wd : Cav → (Nat → Bool) → World → Prop) (h0 : ∃ c, Wd c (fun _ => false) w.drew) (hpure : ∀ i, i ∉ ([2, 3, 9] : List Nat) → ∀ c L W, Wd c L W → Wd c (upd L i) W)
    (r1 : ∀ c L W, Wd c L W → L 1 = false → (Instr.loadAt 24 (.pointer (some ⟨X, 0, none⟩))).run Tryz.prog W = .ok (.agg pp) W)
    (r2 : ∀ c L W, Wd c L W → L 2 = false → L 1 = true → ∃ c' W', (∀ j, L j = true → vrtr13 X n cap g oo nn cc aa pp r c' j = vrtr13 X n cap g oo nn cc aa pp r c j) ∧ (Instr.buildSlice 27 1 #[(0, (.agg pp))]).run Tryz.prog W = .ok (vrtr13 X n cap g oo nn cc aa pp r c' 2) W' ∧ Wd c' (upd L 2) W')
    (r3 : ∀ T, ∀ c L W, Wd c L W → L 3 = false → L 0 = true → L 2 = true → ∃ c' W', (∀ j, L j = true → vrtr13 X n cap g oo nn cc aa pp r c' j = vrtr13 X n cap g oo nn cc aa pp r c j) ∧ (Builtin.append_ #[27, 27] T #[(.slice aa n cap), (.slice (some ⟨c.a, 0, none⟩) 1 1)]).run Tryz.prog W = .ok (vrtr13 X n cap g oo nn cc aa pp r c' 3) W' ∧ Wd c' (upd L 3) W')
    (r6 : ∀ W, (do eqGuard .sub 3 (.tmp 61) (.const (.int .i64 1)) (.int .i64 ((nn : Int) + 1)) (.int .i64 1); binOp .sub 3 (.int .i64 ((nn : Int) + 1)) (.int .i64 1)).run Tryz.prog W = .ok (.int .i64 (nn : Int)) W)
    (r7 : ∀ W, (Instr.indexAt 22 (.slice (some ⟨g, oo, none⟩) (nn + 1) cc) (.int .i64 (nn : Int))).run Tryz.prog W = .ok (.pointer (some ⟨g, oo + nn, none⟩)) W)
    (r8 : ∀ c L W, Wd c L W → L 8 = false → L 7 = true → (Instr.loadAt 3 (.pointer (some ⟨g, oo + nn, none⟩))).run Tryz.prog W = .ok (I r) W)
    (r9 : ∀ c L W, Wd c L W → L 9 = false → L 3 = true → Wd c (upd L 9) W)
    (hend : ∀ c L W, (∀ i, i < 11 → L i = true) → Wd c L W → Q .normal (((((((((((a0.put (some 56) (.slice aa n cap)).put (some 57) (.agg pp)).put (some 58) (.slice (some ⟨c.a, 0, none⟩) 1 1)).put (some 59) c.v).put (some 60) (.slice (some ⟨g, oo, none⟩) (nn + 1) cc)).put (some 61) (.int .i64 ((nn : Int) + 1))).put (some 62) (.int .i64 (nn : Int))).put (some 63) (.pointer (some ⟨g, oo + nn, none⟩))).put (some 64) (I r)).put (some 6) c.v).put (some 7) (I r)) W) : (Code.region id ops true).wp Tryz.prog Q a0 w := by
  let val : Cav → Nat → Value := vrtr13 X n cap g oo nn cc aa pp r
  have hosz : ops.size = 11 := by
    have := congrArg List.length htab
    simpa [rtr13T] using this
  have hds : ∀ i s, (rtr13T[i]?).bind (·.2.1) = some s → dstOf ops i = some s := fun i s hi => by rw [tab_dst htab, hi]
  have hdisB : disL rtr13T = true := by rfl
  have hdis := disL_of htab hdisB
  have hold : ∀ s, rtr13T.all (fun x => !(x.2.1 == some s)) = true → (List.range ops.size).all (fun j => !(dstOf ops j == some s)) = true := fun s h => holdL htab s h
  refine region_detX val Wd (hac_of hac) hdis h0 ?_ ?_
  rotate_left
  · intro c L W hall hW
    have := hend c L W (by rw [← hosz]; exact hall) hW
    have e : frm ops a0 (val c) (fun _ => true) ops.size = (((((((((((a0.put (some 56) (.slice aa n cap)).put (some 57) (.agg pp)).put (some 58) (.slice (some ⟨c.a, 0, none⟩) 1 1)).put (some 59) c.v).put (some 60) (.slice (some ⟨g, oo, none⟩) (nn + 1) cc)).put (some 61) (.int .i64 ((nn : Int) + 1))).put (some 62) (.int .i64 (nn : Int))).put (some 63) (.pointer (some ⟨g, oo + nn, none⟩))).put (some 64) (I r)).put (some 6) c.v).put (some 7) (I r)) := by
      rw [hosz]
      simp only [frm, if_true]
      rw [tab_dst htab 0, tab_dst htab 1, tab_dst htab 2, tab_dst htab 3, tab_dst htab 4, tab_dst htab 5, tab_dst htab 6, tab_dst htab 7, tab_dst htab 8, tab_dst htab 9, tab_dst htab 10]
      rfl
    rw [e]
    exact this
  intro i o ho c L a w' hL hd ha hW
  have hi : i < 11 := by rw [← hosz]; exact (Array.getElem?_eq_some_iff.1 ho).1
  match i, ho, hL, hi with
  | 0, ho, hL, _ =>
    obtain ⟨hop, hdst, hgd⟩ := tab_at htab ho (show rtr13T[0]? = _ from rfl)
    simp only at hop hgd
    have h0 := frm_old (val := val c) ha 8 _ (hold 8 rfl) o8
    exact doesX_of (doesL_run ho (wanted_none hgd) (hpure 0 (by decide) c L w' hW) (by rw [run_move _ _ _ hop]; exact congrArg (fun v => Result.ok (Next.value v) w') (eval_of h0)))
  | 1, ho, hL, _ =>
    obtain ⟨hop, hdst, hgd⟩ := tab_at htab ho (show rtr13T[1]? = _ from rfl)
    simp only at hop hgd
    have h0 := frm_old (val := val c) ha 12 _ (hold 12 rfl) o12
    exact doesX_of (doesL_run ho (wanted_none hgd) (hpure 1 (by decide) c L w' hW) (g_load hop (eval_of h0) (r1 c L w' hW hL)))
  | 2, ho, hL, _ =>
    obtain ⟨hop, hdst, hgd⟩ := tab_at htab ho (show rtr13T[2]? = _ from rfl)
    simp only at hop hgd
    have h0 := frm_at (val := val c) hdis ha 1 57 (hds 1 57 rfl) (by omega) (depl_of hdep 2 1 (by decide) ho hd)
    obtain ⟨c', W', q0, q1, q2⟩ := r2 c L w' hW hL (depl_of hdep 2 1 (by decide) ho hd)
    exact doesX_runw ho (wanted_none hgd) c' q0 q2 (g_bs hop (by simp only [List.map_toArray, List.map_cons, List.map_nil, eval_of h0]; first | done | rfl) q1)
  | 3, ho, hL, _ =>
    obtain ⟨hop, hdst, hgd⟩ := tab_at htab ho (show rtr13T[3]? = _ from rfl)
    simp only at hop hgd
    have h0 := frm_at (val := val c) hdis ha 0 56 (hds 0 56 rfl) (by omega) (depl_of hdep 3 0 (by decide) ho hd)
    have h1 := frm_at (val := val c) hdis ha 2 58 (hds 2 58 rfl) (by omega) (depl_of hdep 3 2 (by decide) ho hd)
    obtain ⟨c', W', q0, q1, q2⟩ := r3 _ c L w' hW hL (depl_of hdep 3 0 (by decide) ho hd) (depl_of hdep 3 2 (by decide) ho hd)
    exact doesX_runw ho (wanted_none hgd) c' q0 q2 (g_app hop (eval_of h0) (eval_of h1) q1)
  | 4, ho, hL, _ =>
    obtain ⟨hop, hdst, hgd⟩ := tab_at htab ho (show rtr13T[4]? = _ from rfl)
    simp only at hop hgd
    have h0 := frm_old (val := val c) ha 0 _ (hold 0 rfl) o0
    exact doesX_of (doesL_run ho (wanted_none hgd) (hpure 4 (by decide) c L w' hW) (by rw [run_move _ _ _ hop]; exact congrArg (fun v => Result.ok (Next.value v) w') (eval_of h0)))
  | 5, ho, hL, _ =>
    obtain ⟨hop, hdst, hgd⟩ := tab_at htab ho (show rtr13T[5]? = _ from rfl)
    simp only at hop hgd
    have h0 := frm_old (val := val c) ha 10 _ (hold 10 rfl) o10
    exact doesX_of (doesL_run ho (wanted_none hgd) (hpure 5 (by decide) c L w' hW) (by rw [run_move _ _ _ hop]; exact congrArg (fun v => Result.ok (Next.value v) w') (eval_of h0)))
  | 6, ho, hL, _ =>
    obtain ⟨hop, hdst, hgd⟩ := tab_at htab ho (show rtr13T[6]? = _ from rfl)
    simp only at hop hgd
    have h0 := frm_at (val := val c) hdis ha 5 61 (hds 5 61 rfl) (by omega) (depl_of hdep 6 5 (by decide) ho hd)
    exact doesX_of (doesL_run ho (wanted_none hgd) (hpure 6 (by decide) c L w' hW) (g_bin hop (eval_of h0) rfl (r6 w')))
  | 7, ho, hL, _ =>
    obtain ⟨hop, hdst, hgd⟩ := tab_at htab ho (show rtr13T[7]? = _ from rfl)
    simp only at hop hgd
    have h0 := frm_at (val := val c) hdis ha 4 60 (hds 4 60 rfl) (by omega) (depl_of hdep 7 4 (by decide) ho hd)
    have h1 := frm_at (val := val c) hdis ha 6 62 (hds 6 62 rfl) (by omega) (depl_of hdep 7 6 (by decide) ho hd)
    exact doesX_of (doesL_run ho (wanted_none hgd) (hpure 7 (by decide) c L w' hW) (g_ixa hop (eval_of h0) (eval_of h1) (r7 w')))
  | 8, ho, hL, _ =>
    obtain ⟨hop, hdst, hgd⟩ := tab_at htab ho (show rtr13T[8]? = _ from rfl)
    simp only at hop hgd
    have h0 := frm_at (val := val c) hdis ha 7 63 (hds 7 63 rfl) (by omega) (depl_of hdep 8 7 (by decide) ho hd)
    exact doesX_of (doesL_run ho (wanted_none hgd) (hpure 8 (by decide) c L w' hW) (g_load hop (eval_of h0) (r8 c L w' hW hL (depl_of hdep 8 7 (by decide) ho hd))))
  | 9, ho, hL, _ =>
    obtain ⟨hop, hdst, hgd⟩ := tab_at htab ho (show rtr13T[9]? = _ from rfl)
    simp only at hop hgd
    have h0 := frm_at (val := val c) hdis ha 3 59 (hds 3 59 rfl) (by omega) (depl_of hdep 9 3 (by decide) ho hd)
    exact doesX_of (doesL_run ho (wanted_none hgd) (r9 c L w' hW hL (depl_of hdep 9 3 (by decide) ho hd)) (by rw [run_assign _ _ _ hop]; exact congrArg (fun v => Result.ok (Next.value v) w') (eval_of h0)))
  | 10, ho, hL, _ =>
    obtain ⟨hop, hdst, hgd⟩ := tab_at htab ho (show rtr13T[10]? = _ from rfl)
    simp only at hop hgd
    have h0 := frm_at (val := val c) hdis ha 8 64 (hds 8 64 rfl) (by omega) (depl_of hdep 10 8 (by decide) ho hd)
    exact doesX_of (doesL_run ho (wanted_none hgd) (hpure 10 (by decide) c L w' hW) (by rw [run_assign _ _ _ hop]; exact congrArg (fun v => Result.ok (Next.value v) w') (eval_of h0)))
  | (i + 11), ho, hL, hi => exact absurd hi (by omega)
end Go.Proofs.YtjopnhhdemfniaaGreatDoor
