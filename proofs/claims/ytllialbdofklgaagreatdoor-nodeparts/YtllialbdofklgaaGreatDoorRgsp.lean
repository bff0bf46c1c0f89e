import Derived.Test.YtllialbdofklgaaGreatDoorRgsd
namespace Go.Proofs.YtllialbdofklgaaGreatDoor
open Go.RowKit
/-- Where two nodes' lists come to lie. -/
structure Ch6 where
  p1 : Option Addr
  c1 : Nat
  p2 : Option Addr
  c2 : Nat
  p3 : Option Addr
  c3 : Nat
  q1 : Option Addr
  d1 : Nat
  q2 : Option Addr
  d2 : Nat
  q3 : Option Addr
  d3 : Nat
def vsp (kl kc vl vc il ic xl xc yl yc zl zc xm xd ym yd zm zd ii : Nat) (ka va ia xa ya za xb yb zb : Option Addr) (lf : Bool) (key : Bs) (c : Ch6) (i : Nat) : Value := match i with
  | 0 => (.agg #[.bool lf, .slice xa xl xc, .slice ya yl yc, .slice za zl zc])
  | 1 => (.agg #[.bool lf, .slice c.p1 xl c.c1, .slice c.p2 yl c.c2, .slice c.p3 zl c.c3])
  | 2 => (.agg #[.bool lf, .slice ka kl kc, .slice va vl vc, .slice ia il ic])
  | 3 => (I ii)
  | 4 => (S key)
  | 5 => (.agg #[.bool lf, .slice xb xm xd, .slice yb ym yd, .slice zb zm zd])
  | 6 => (.agg #[.bool lf, .slice c.q1 xm c.d1, .slice c.q2 ym c.d2, .slice c.q3 zm c.d3])
  | 7 => undef
  | 8 => (S key)
  | 9 => undef
  | 10 => (.int .i64 0)
  | _ => undef
def rspT : List (Op × Option Tmp × Option (Nat × Bool)) := [
  (.load 25 (.tmp 8), some 25, none),
  (.call { callee := .value (.func 67), args := #[(.tmp 25)], argTypes := #[25] }, some 26, none),
  (.load 25 (.tmp 1), some 27, none),
  (.move (.tmp 7), some 28, none),
  (.call { callee := .value (.func 68), args := #[(.tmp 27), (.tmp 28)], argTypes := #[25, 3] }, some 29, none),
  (.load 25 (.tmp 9), some 30, none),
  (.call { callee := .value (.func 67), args := #[(.tmp 30)], argTypes := #[25] }, some 31, none),
  (.store 25 (.tmp 2) (.tmp 26), none, none),
  (.assign (.tmp 29), some 3, none),
  (.store 25 (.tmp 4) (.tmp 31), none, none),
  (.assign (.const (.int .i64 0)), some 5, none)]
def rspD : List (Nat × Nat) := [(1, 0), (4, 2), (4, 3), (6, 5), (7, 1), (8, 4), (9, 6)]
set_option maxHeartbeats 2000000 in
theorem rsp {ops : Array Oper} {id : Nat} {Q : Exit → Act → World → Prop} (X Y Z A D kl kc vl vc il ic xl xc yl yc zl zc xm xd ym yd zm zd ii : Nat) (ka va ia xa ya za xb yb zb : Option Addr) (lf : Bool) (key : Bs) (htab : ops.toList.map (fun o => (o.op, o.dst, o.guard)) = rspT) (hdep : deplB rspD ops = true) (hac : acB ops = true)
    (a0 : Act) (w : World) (hsz : 32 ≤ a0.tmps.size) (o1 : a0.tmps[1]? = some (.pointer (some ⟨X, 0, none⟩))) (o2 : a0.tmps[2]? = some (.pointer (some ⟨A, 0, none⟩))) (o4 : a0.tmps[4]? = some (.pointer (some ⟨D, 0, none⟩))) (o7 : a0.tmps[7]? = some (I ii)) (o8 : a0.tmps[8]? = some (.pointer (some ⟨Y, 0, none⟩))) (o9 : a0.tmps[9]? = some (.pointer (some ⟨Z, 0, none⟩)))
    (Wd : Ch6 → (Nat → Bool) → World → Prop) (h0 : ∃ c, Wd c (fun _ => false) w.drew) (hpure : ∀ i, i ∉ ([1, 4, 6, 7, 9] : List Nat) → ∀ c L W, Wd c L W → Wd c (upd L i) W)
    (l0 : ∀ c L W, Wd c L W → W.cell? ⟨Y, 0, none⟩ = some (.bool lf) ∧ W.cell? ⟨Y, 1, none⟩ = some (.slice xa xl xc) ∧ W.cell? ⟨Y, 2, none⟩ = some (.slice ya yl yc) ∧ W.cell? ⟨Y, 3, none⟩ = some (.slice za zl zc))
    (l2 : ∀ c L W, Wd c L W → W.cell? ⟨X, 0, none⟩ = some (.bool lf) ∧ W.cell? ⟨X, 1, none⟩ = some (.slice ka kl kc) ∧ W.cell? ⟨X, 2, none⟩ = some (.slice va vl vc) ∧ W.cell? ⟨X, 3, none⟩ = some (.slice ia il ic))
    (l5 : ∀ c L W, Wd c L W → W.cell? ⟨Z, 0, none⟩ = some (.bool lf) ∧ W.cell? ⟨Z, 1, none⟩ = some (.slice xb xm xd) ∧ W.cell? ⟨Z, 2, none⟩ = some (.slice yb ym yd) ∧ W.cell? ⟨Z, 3, none⟩ = some (.slice zb zm zd))
    (c1 : ∀ c L W, Wd c L W → L 1 = false → Calls Tryz.prog 67 #[(.agg #[.bool lf, .slice xa xl xc, .slice ya yl yc, .slice za zl zc])] W fun e w' => ∃ c' : Ch6, (∀ j, L j = true → vsp kl kc vl vc il ic xl xc yl yc zl zc xm xd ym yd zm zd ii ka va ia xa ya za xb yb zb lf key c' j = vsp kl kc vl vc il ic xl xc yl yc zl zc xm xd ym yd zm zd ii ka va ia xa ya za xb yb zb lf key c j) ∧ e = .returned (.agg #[.bool lf, .slice c'.p1 xl c'.c1, .slice c'.p2 yl c'.c2, .slice c'.p3 zl c'.c3]) ∧ Wd c' (upd L 1) w')
    (c4 : ∀ c L W, Wd c L W → L 4 = false → Calls Tryz.prog 68 #[(.agg #[.bool lf, .slice ka kl kc, .slice va vl vc, .slice ia il ic]), I ii] W fun e w' => e = .returned (S key) ∧ Wd c (upd L 4) w')
    (c6 : ∀ c L W, Wd c L W → L 6 = false → Calls Tryz.prog 67 #[(.agg #[.bool lf, .slice xb xm xd, .slice yb ym yd, .slice zb zm zd])] W fun e w' => ∃ c' : Ch6, (∀ j, L j = true → vsp kl kc vl vc il ic xl xc yl yc zl zc xm xd ym yd zm zd ii ka va ia xa ya za xb yb zb lf key c' j = vsp kl kc vl vc il ic xl xc yl yc zl zc xm xd ym yd zm zd ii ka va ia xa ya za xb yb zb lf key c j) ∧ e = .returned (.agg #[.bool lf, .slice c'.q1 xm c'.d1, .slice c'.q2 ym c'.d2, .slice c'.q3 zm c'.d3]) ∧ Wd c' (upd L 6) w')
    (n7 : ∀ c L W, Wd c L W → L 7 = false → L 1 = true → Wd c (upd L 7) ((((W.setCell ⟨A, 0, none⟩ (.bool lf)).setCell ⟨A, 1, none⟩ (.slice c.p1 xl c.c1)).setCell ⟨A, 2, none⟩ (.slice c.p2 yl c.c2)).setCell ⟨A, 3, none⟩ (.slice c.p3 zl c.c3)) ∧ W.heap[A]? = some (.cells #[.bool false, .slice none 0 0, .slice none 0 0, .slice none 0 0] 25 (0, 0)))
    (n9 : ∀ c L W, Wd c L W → L 9 = false → L 6 = true → Wd c (upd L 9) ((((W.setCell ⟨D, 0, none⟩ (.bool lf)).setCell ⟨D, 1, none⟩ (.slice c.q1 xm c.d1)).setCell ⟨D, 2, none⟩ (.slice c.q2 ym c.d2)).setCell ⟨D, 3, none⟩ (.slice c.q3 zm c.d3)) ∧ W.heap[D]? = some (.cells #[.bool false, .slice none 0 0, .slice none 0 0, .slice none 0 0] 25 (0, 0)))
    (hend : ∀ c L W, (∀ i, i < 11 → L i = true) → Wd c L W → Q .normal (((((((((a0.put (some 25) (.agg #[.bool lf, .slice xa xl xc, .slice ya yl yc, .slice za zl zc])).put (some 26) (.agg #[.bool lf, .slice c.p1 xl c.c1, .slice c.p2 yl c.c2, .slice c.p3 zl c.c3])).put (some 27) (.agg #[.bool lf, .slice ka kl kc, .slice va vl vc, .slice ia il ic])).put (some 28) (I ii)).put (some 29) (S key)).put (some 30) (.agg #[.bool lf, .slice xb xm xd, .slice yb ym yd, .slice zb zm zd])).put (some 31) (.agg #[.bool lf, .slice c.q1 xm c.d1, .slice c.q2 ym c.d2, .slice c.q3 zm c.d3])).put (some 3) (S key)).put (some 5) (.int .i64 0)) W) : (Code.region id ops true).wp Tryz.prog Q a0 w := by
  let val : Ch6 → Nat → Value := vsp kl kc vl vc il ic xl xc yl yc zl zc xm xd ym yd zm zd ii ka va ia xa ya za xb yb zb lf key
  have hosz : ops.size = 11 := by
    have := congrArg List.length htab
    simpa [rspT] using this
  have hds : ∀ i s, (rspT[i]?).bind (·.2.1) = some s → dstOf ops i = some s := fun i s hi => by rw [tab_dst htab, hi]
  have hdisB : disL rspT = true := by rfl
  have hdis := disL_of htab hdisB
  have hold : ∀ s, rspT.all (fun x => !(x.2.1 == some s)) = true → (List.range ops.size).all (fun j => !(dstOf ops j == some s)) = true := fun s h => holdL htab s h
  refine region_detX val Wd (hac_of hac) hdis h0 ?_ ?_
  rotate_left
  · intro c L W hall hW
    have := hend c L W (by rw [← hosz]; exact hall) hW
    have e : frm ops a0 (val c) (fun _ => true) ops.size = (((((((((a0.put (some 25) (.agg #[.bool lf, .slice xa xl xc, .slice ya yl yc, .slice za zl zc])).put (some 26) (.agg #[.bool lf, .slice c.p1 xl c.c1, .slice c.p2 yl c.c2, .slice c.p3 zl c.c3])).put (some 27) (.agg #[.bool lf, .slice ka kl kc, .slice va vl vc, .slice ia il ic])).put (some 28) (I ii)).put (some 29) (S key)).put (some 30) (.agg #[.bool lf, .slice xb xm xd, .slice yb ym yd, .slice zb zm zd])).put (some 31) (.agg #[.bool lf, .slice c.q1 xm c.d1, .slice c.q2 ym c.d2, .slice c.q3 zm c.d3])).put (some 3) (S key)).put (some 5) (.int .i64 0)) := by
      rw [hosz]
      simp only [frm, if_true]
      rw [tab_dst htab 0, tab_dst htab 1, tab_dst htab 2, tab_dst htab 3, tab_dst htab 4, tab_dst htab 5, tab_dst htab 6, (show dstOf ops 7 = none from (tab_dst htab 7).trans rfl), put_none, tab_dst htab 8, (show dstOf ops 9 = none from (tab_dst htab 9).trans rfl), put_none, tab_dst htab 10]
      rfl
    rw [e]
    exact this
  intro i o ho c L a w' hL hd ha hW
  have hi : i < 11 := by rw [← hosz]; exact (Array.getElem?_eq_some_iff.1 ho).1
  match i, ho, hL, hi with
  | 0, ho, hL, _ =>
    obtain ⟨hop, hdst, hgd⟩ := tab_at htab ho (show rspT[0]? = _ from rfl)
    simp only at hop hgd
    have h0 := frm_old (val := val c) ha 8 _ (hold 8 rfl) o8
    exact doesX_of (doesL_run ho (wanted_none hgd) (hpure 0 (by decide) c L w' hW) (run_ld25 _ _ _ hop _ _ _ _ _ (eval_of h0) _ (l0 c L w' hW).1 (l0 c L w' hW).2.1 (l0 c L w' hW).2.2.1 (l0 c L w' hW).2.2.2))
  | 1, ho, hL, _ =>
    obtain ⟨hop, hdst, hgd⟩ := tab_at htab ho (show rspT[1]? = _ from rfl)
    simp only at hop hgd
    have h0 := frm_at (val := val c) hdis ha 0 25 (hds 0 25 rfl) (by omega) (depl_of hdep 1 0 (by decide) ho hd)
    refine doesX_call ho (wanted_none hgd) 67 #[.agg #[.bool lf, .slice xa xl xc, .slice ya yl yc, .slice za zl zc]] ?_ (c1 c L w' hW hL)
    rw [run_calls Tryz.func67 (by kernel_rfl) rfl _ _ _ _ hop rfl]
    simp only [List.map_toArray, List.map_cons, List.map_nil, eval_of h0]
    all_goals rfl
  | 2, ho, hL, _ =>
    obtain ⟨hop, hdst, hgd⟩ := tab_at htab ho (show rspT[2]? = _ from rfl)
    simp only at hop hgd
    have h0 := frm_old (val := val c) ha 1 _ (hold 1 rfl) o1
    exact doesX_of (doesL_run ho (wanted_none hgd) (hpure 2 (by decide) c L w' hW) (run_ld25 _ _ _ hop _ _ _ _ _ (eval_of h0) _ (l2 c L w' hW).1 (l2 c L w' hW).2.1 (l2 c L w' hW).2.2.1 (l2 c L w' hW).2.2.2))
  | 3, ho, hL, _ =>
    obtain ⟨hop, hdst, hgd⟩ := tab_at htab ho (show rspT[3]? = _ from rfl)
    simp only at hop hgd
    have h0 := frm_old (val := val c) ha 7 _ (hold 7 rfl) o7
    exact doesX_of (doesL_run ho (wanted_none hgd) (hpure 3 (by decide) c L w' hW) (by rw [run_move _ _ _ hop]; exact congrArg (fun v => Result.ok (Next.value v) w') (eval_of h0)))
  | 4, ho, hL, _ =>
    obtain ⟨hop, hdst, hgd⟩ := tab_at htab ho (show rspT[4]? = _ from rfl)
    simp only at hop hgd
    have h0 := frm_at (val := val c) hdis ha 2 27 (hds 2 27 rfl) (by omega) (depl_of hdep 4 2 (by decide) ho hd)
    have h1 := frm_at (val := val c) hdis ha 3 28 (hds 3 28 rfl) (by omega) (depl_of hdep 4 3 (by decide) ho hd)
    refine doesX_of (doesL_call ho (wanted_none hgd) 68 #[.agg #[.bool lf, .slice ka kl kc, .slice va vl vc, .slice ia il ic], I ii] ?_ (c4 c L w' hW hL))
    rw [run_calls Tryz.func68 (by kernel_rfl) rfl _ _ _ _ hop rfl]
    simp only [List.map_toArray, List.map_cons, List.map_nil, eval_of h0, eval_of h1]
    all_goals rfl
  | 5, ho, hL, _ =>
    obtain ⟨hop, hdst, hgd⟩ := tab_at htab ho (show rspT[5]? = _ from rfl)
    simp only at hop hgd
    have h0 := frm_old (val := val c) ha 9 _ (hold 9 rfl) o9
    exact doesX_of (doesL_run ho (wanted_none hgd) (hpure 5 (by decide) c L w' hW) (run_ld25 _ _ _ hop _ _ _ _ _ (eval_of h0) _ (l5 c L w' hW).1 (l5 c L w' hW).2.1 (l5 c L w' hW).2.2.1 (l5 c L w' hW).2.2.2))
  | 6, ho, hL, _ =>
    obtain ⟨hop, hdst, hgd⟩ := tab_at htab ho (show rspT[6]? = _ from rfl)
    simp only at hop hgd
    have h0 := frm_at (val := val c) hdis ha 5 30 (hds 5 30 rfl) (by omega) (depl_of hdep 6 5 (by decide) ho hd)
    refine doesX_call ho (wanted_none hgd) 67 #[.agg #[.bool lf, .slice xb xm xd, .slice yb ym yd, .slice zb zm zd]] ?_ (c6 c L w' hW hL)
    rw [run_calls Tryz.func67 (by kernel_rfl) rfl _ _ _ _ hop rfl]
    simp only [List.map_toArray, List.map_cons, List.map_nil, eval_of h0]
    all_goals rfl
  | 7, ho, hL, _ =>
    obtain ⟨hop, hdst, hgd⟩ := tab_at htab ho (show rspT[7]? = _ from rfl)
    simp only at hop hgd
    have h0 := frm_old (val := val c) ha 2 _ (hold 2 rfl) o2
    have h1 := frm_at (val := val c) hdis ha 1 26 (hds 1 26 rfl) (by omega) (depl_of hdep 7 1 (by decide) ho hd)
    obtain ⟨s1, s2⟩ := n7 c L w' hW hL (depl_of hdep 7 1 (by decide) ho hd)
    exact doesX_of (doesL_skp ho (wanted_none hgd) rfl s1 (run_st25 _ _ _ _ hop _ _ _ _ _ (eval_of h0) (eval_of h1) _ _ _ _ _ s2 ⟨rfl, rfl, rfl, rfl⟩))
  | 8, ho, hL, _ =>
    obtain ⟨hop, hdst, hgd⟩ := tab_at htab ho (show rspT[8]? = _ from rfl)
    simp only at hop hgd
    have h0 := frm_at (val := val c) hdis ha 4 29 (hds 4 29 rfl) (by omega) (depl_of hdep 8 4 (by decide) ho hd)
    exact doesX_of (doesL_run ho (wanted_none hgd) (hpure 8 (by decide) c L w' hW) (by rw [run_assign _ _ _ hop]; exact congrArg (fun v => Result.ok (Next.value v) w') (eval_of h0)))
  | 9, ho, hL, _ =>
    obtain ⟨hop, hdst, hgd⟩ := tab_at htab ho (show rspT[9]? = _ from rfl)
    simp only at hop hgd
    have h0 := frm_old (val := val c) ha 4 _ (hold 4 rfl) o4
    have h1 := frm_at (val := val c) hdis ha 6 31 (hds 6 31 rfl) (by omega) (depl_of hdep 9 6 (by decide) ho hd)
    obtain ⟨s1, s2⟩ := n9 c L w' hW hL (depl_of hdep 9 6 (by decide) ho hd)
    exact doesX_of (doesL_skp ho (wanted_none hgd) rfl s1 (run_st25 _ _ _ _ hop _ _ _ _ _ (eval_of h0) (eval_of h1) _ _ _ _ _ s2 ⟨rfl, rfl, rfl, rfl⟩))
  | 10, ho, hL, _ =>
    obtain ⟨hop, hdst, hgd⟩ := tab_at htab ho (show rspT[10]? = _ from rfl)
    simp only at hop hgd
    exact doesX_of (doesL_run ho (wanted_none hgd) (hpure 10 (by decide) c L w' hW) (by rw [run_assign _ _ _ hop]; exact congrArg (fun v => Result.ok (Next.value v) w') rfl))
  | (i + 11), ho, hL, hi => exact absurd hi (by omega)
end Go.Proofs.YtllialbdofklgaaGreatDoor
