import Derived.Test.YthddilflldkmfaaDoorOpx
namespace Go.Proofs.YthddilflldkmfaaDoor
open Go.RowKit Go.Lib
def rmc0T : List (Op × Option Tmp × Option (Nat × Bool)) := [
  (.move (.tmp 8), some 104, none),
  (.move (.tmp 104), some 105, none),
  (.move (.tmp 9), some 106, some (1, true)),
  (.move (.tmp 10), some 107, some (1, true)),
  (.indexAddr 31 (.tmp 106) (.tmp 107), some 108, some (1, true)),
  (.load 3 (.tmp 108), some 109, some (1, true)),
  (.fieldAddr 33 (.tmp 5) 5, some 110, some (1, true)),
  (.load 31 (.tmp 110), some 111, some (1, true)),
  (.move (.tmp 10), some 112, some (1, true)),
  (.indexAddr 31 (.tmp 111) (.tmp 112), some 113, some (1, true)),
  (.load 3 (.tmp 113), some 114, some (1, true)),
  (.binOp .eql 3 (.tmp 109) (.tmp 114) 3, some 115, some (1, true)),
  (.pick (.tmp 105) (.tmp 115) (.const (.bool false)), some 116, none),
  (.assign (.tmp 116), some 8, none)]
def rmc0D : List (Nat × Nat) := [(1, 0), (2, 1), (3, 1), (4, 1), (4, 2), (4, 3), (5, 1), (5, 4), (6, 1), (7, 1), (7, 6), (8, 1), (9, 1), (9, 7), (9, 8), (10, 1), (10, 9), (11, 1), (11, 5), (11, 10), (12, 1), (12, 11), (13, 0), (13, 12)]
set_option maxHeartbeats 2000000 in
theorem rmc0 {ops : Array Oper} {id : Nat} {Q : Exit → Act → World → Prop} (g n cap u gl ql ln lc k : Nat) (c : Int)  (htab : ops.toList.map (fun o => (o.op, o.dst, o.guard)) = rmc0T) (hdep : deplB rmc0D ops = true) (hac : acB ops = true)
    (a0 : Act) (w : World) (hsz : 117 ≤ a0.tmps.size) (o5 : a0.tmps[5]? = some (.pointer (some ⟨u, 0, none⟩))) (o8 : a0.tmps[8]? = some (.bool true)) (o9 : a0.tmps[9]? = some (.slice (some ⟨g, 0, none⟩) n cap)) (o10 : a0.tmps[10]? = some (.int .i64 (k : Int)))
    (Wd : (Nat → Bool) → World → Prop) (h0 : Wd (fun _ => false) w.drew) (hpure : ∀ i, i ∉ ([13] : List Nat) → ∀ L W, Wd L W → Wd (upd L i) W)
    (hcl13 : ∀ L W, Wd L W → L 13 = true → L 0 = true) (hpure13 : ∀ L W, Wd L W → L 0 = true → Wd (upd L 13) W) (i4 : k < n) (i9 : k < ln)
    (l5 : ∀ L W, Wd L W → W.cell? ⟨g, 0 + k, none⟩ = some (.int .i64 c)) (l7 : ∀ L W, Wd L W → W.cell? ⟨u, 0 + 5, none⟩ = some (.slice (some ⟨gl, ql, none⟩) ln lc)) (l10 : ∀ L W, Wd L W → W.cell? ⟨gl, ql + k, none⟩ = some (.int .i64 c))
    (hend : ∀ L W, (∀ i, i < 14 → L i = true) → Wd L W → Q .normal ((((((((((((((a0.put (some 104) (.bool true)).put (some 105) (.bool true)).put (some 106) (.slice (some ⟨g, 0, none⟩) n cap)).put (some 107) (.int .i64 (k : Int))).put (some 108) (.pointer (some ⟨g, 0 + k, none⟩))).put (some 109) (.int .i64 c)).put (some 110) (.pointer (some ⟨u, 0 + 5, none⟩))).put (some 111) (.slice (some ⟨gl, ql, none⟩) ln lc)).put (some 112) (.int .i64 (k : Int))).put (some 113) (.pointer (some ⟨gl, ql + k, none⟩))).put (some 114) (.int .i64 c)).put (some 115) (.bool true)).put (some 116) (.bool true)).put (some 8) (.bool true)) W) : (Code.region id ops true).wp Tryd.prog Q a0 w := by
  let val : Nat → Value := fun i => match i with
    | 0 => (.bool true)
    | 1 => (.bool true)
    | 2 => (.slice (some ⟨g, 0, none⟩) n cap)
    | 3 => (.int .i64 (k : Int))
    | 4 => (.pointer (some ⟨g, 0 + k, none⟩))
    | 5 => (.int .i64 c)
    | 6 => (.pointer (some ⟨u, 0 + 5, none⟩))
    | 7 => (.slice (some ⟨gl, ql, none⟩) ln lc)
    | 8 => (.int .i64 (k : Int))
    | 9 => (.pointer (some ⟨gl, ql + k, none⟩))
    | 10 => (.int .i64 c)
    | 11 => (.bool true)
    | 12 => (.bool true)
    | 13 => (.bool true)
    | _ => undef
  have hosz : ops.size = 14 := by
    have := congrArg List.length htab
    simpa [rmc0T] using this
  have hds : ∀ i s, (rmc0T[i]?).bind (·.2.1) = some s → dstOf ops i = some s := fun i s hi => by rw [tab_dst htab, hi]
  have hdisB : disL rmc0T = true := by rfl
  have hdis := disL_of htab hdisB
  have hold : ∀ s, rmc0T.all (fun x => !(x.2.1 == some s)) = true → (List.range ops.size).all (fun j => !(dstOf ops j == some s)) = true := fun s h => holdL htab s h
  refine region_detL val Wd (hac_of hac) hdis h0 ?_ ?_
  rotate_left
  · intro L W hall hW
    have := hend L W (by rw [← hosz]; exact hall) hW
    have e : frm ops a0 val (fun _ => true) ops.size = ((((((((((((((a0.put (some 104) (.bool true)).put (some 105) (.bool true)).put (some 106) (.slice (some ⟨g, 0, none⟩) n cap)).put (some 107) (.int .i64 (k : Int))).put (some 108) (.pointer (some ⟨g, 0 + k, none⟩))).put (some 109) (.int .i64 c)).put (some 110) (.pointer (some ⟨u, 0 + 5, none⟩))).put (some 111) (.slice (some ⟨gl, ql, none⟩) ln lc)).put (some 112) (.int .i64 (k : Int))).put (some 113) (.pointer (some ⟨gl, ql + k, none⟩))).put (some 114) (.int .i64 c)).put (some 115) (.bool true)).put (some 116) (.bool true)).put (some 8) (.bool true)) := by
      rw [hosz]
      simp only [frm, if_true]
      rw [tab_dst htab 0, tab_dst htab 1, tab_dst htab 2, tab_dst htab 3, tab_dst htab 4, tab_dst htab 5, tab_dst htab 6, tab_dst htab 7, tab_dst htab 8, tab_dst htab 9, tab_dst htab 10, tab_dst htab 11, tab_dst htab 12, tab_dst htab 13]
      rfl
    rw [e]
    exact this
  intro i o ho L a w' hL hd ha hW
  have hi : i < 14 := by rw [← hosz]; exact (Array.getElem?_eq_some_iff.1 ho).1
  match i, ho, hL, hi with
  | 0, ho, hL, _ =>
    obtain ⟨hop, hdst, hgd⟩ := tab_at htab ho (show rmc0T[0]? = _ from rfl)
    simp only at hop hgd
    have h0 : a.tmps[8]? = some (.bool true) := by rw [ha, frm_late a0 val L 8 13 (Bool.eq_false_iff.2 (fun h => by have := hcl13 L w' hW h; rw [hL] at this; cases this)) ops.size (late_of htab (by rfl))]; exact o8
    exact doesL_run ho (wanted_none hgd) (hpure 0 (by decide) L w' hW) (by rw [run_move _ _ _ hop]; exact congrArg (fun v => Result.ok (Next.value v) w') (eval_of h0))
  | 1, ho, hL, _ =>
    obtain ⟨hop, hdst, hgd⟩ := tab_at htab ho (show rmc0T[1]? = _ from rfl)
    simp only at hop hgd
    have h0 := frm_at hdis ha 0 104 (hds 0 104 rfl) (by omega) (depl_of hdep 1 0 (by decide) ho hd)
    exact doesL_run ho (wanted_none hgd) (hpure 1 (by decide) L w' hW) (by rw [run_move _ _ _ hop]; exact congrArg (fun v => Result.ok (Next.value v) w') (eval_of h0))
  | 2, ho, hL, _ =>
    obtain ⟨hop, hdst, hgd⟩ := tab_at htab ho (show rmc0T[2]? = _ from rfl)
    simp only at hop hgd
    have hg := frm_at hdis ha 1 105 (hds 1 105 rfl) (by omega) (depl_of hdep 2 1 (by decide) ho hd)
    have h0 := frm_old ha 9 _ (hold 9 rfl) o9
    exact doesL_run ho (wanted_at (b := true) hgd (hds 1 105 rfl) hg) (hpure 2 (by decide) L w' hW) (by rw [run_move _ _ _ hop]; exact congrArg (fun v => Result.ok (Next.value v) w') (eval_of h0))
  | 3, ho, hL, _ =>
    obtain ⟨hop, hdst, hgd⟩ := tab_at htab ho (show rmc0T[3]? = _ from rfl)
    simp only at hop hgd
    have hg := frm_at hdis ha 1 105 (hds 1 105 rfl) (by omega) (depl_of hdep 3 1 (by decide) ho hd)
    have h0 := frm_old ha 10 _ (hold 10 rfl) o10
    exact doesL_run ho (wanted_at (b := true) hgd (hds 1 105 rfl) hg) (hpure 3 (by decide) L w' hW) (by rw [run_move _ _ _ hop]; exact congrArg (fun v => Result.ok (Next.value v) w') (eval_of h0))
  | 4, ho, hL, _ =>
    obtain ⟨hop, hdst, hgd⟩ := tab_at htab ho (show rmc0T[4]? = _ from rfl)
    simp only at hop hgd
    have hg := frm_at hdis ha 1 105 (hds 1 105 rfl) (by omega) (depl_of hdep 4 1 (by decide) ho hd)
    have h0 := frm_at hdis ha 2 106 (hds 2 106 rfl) (by omega) (depl_of hdep 4 2 (by decide) ho hd)
    have h1 := frm_at hdis ha 3 107 (hds 3 107 rfl) (by omega) (depl_of hdep 4 3 (by decide) ho hd)
    exact doesL_run ho (wanted_at (b := true) hgd (hds 1 105 rfl) hg) (hpure 4 (by decide) L w' hW) (run_ia31 _ _ _ _ hop _ _ _ _ _ i4 (eval_of h0) (eval_of h1) _)
  | 5, ho, hL, _ =>
    obtain ⟨hop, hdst, hgd⟩ := tab_at htab ho (show rmc0T[5]? = _ from rfl)
    simp only at hop hgd
    have hg := frm_at hdis ha 1 105 (hds 1 105 rfl) (by omega) (depl_of hdep 5 1 (by decide) ho hd)
    have h0 := frm_at hdis ha 4 108 (hds 4 108 rfl) (by omega) (depl_of hdep 5 4 (by decide) ho hd)
    exact doesL_run ho (wanted_at (b := true) hgd (hds 1 105 rfl) hg) (hpure 5 (by decide) L w' hW) (run_ld3 _ _ _ hop _ _ (eval_of h0) _ (l5 L w' hW))
  | 6, ho, hL, _ =>
    obtain ⟨hop, hdst, hgd⟩ := tab_at htab ho (show rmc0T[6]? = _ from rfl)
    simp only at hop hgd
    have hg := frm_at hdis ha 1 105 (hds 1 105 rfl) (by omega) (depl_of hdep 6 1 (by decide) ho hd)
    have h0 := frm_old ha 5 _ (hold 5 rfl) o5
    exact doesL_run ho (wanted_at (b := true) hgd (hds 1 105 rfl) hg) (hpure 6 (by decide) L w' hW) (run_f33 _ _ _ 5 (by decide) hop _ _ (eval_of h0) _)
  | 7, ho, hL, _ =>
    obtain ⟨hop, hdst, hgd⟩ := tab_at htab ho (show rmc0T[7]? = _ from rfl)
    simp only at hop hgd
    have hg := frm_at hdis ha 1 105 (hds 1 105 rfl) (by omega) (depl_of hdep 7 1 (by decide) ho hd)
    have h0 := frm_at hdis ha 6 110 (hds 6 110 rfl) (by omega) (depl_of hdep 7 6 (by decide) ho hd)
    exact doesL_run ho (wanted_at (b := true) hgd (hds 1 105 rfl) hg) (hpure 7 (by decide) L w' hW) (run_ld31 _ _ _ hop _ _ (eval_of h0) _ (l7 L w' hW))
  | 8, ho, hL, _ =>
    obtain ⟨hop, hdst, hgd⟩ := tab_at htab ho (show rmc0T[8]? = _ from rfl)
    simp only at hop hgd
    have hg := frm_at hdis ha 1 105 (hds 1 105 rfl) (by omega) (depl_of hdep 8 1 (by decide) ho hd)
    have h0 := frm_old ha 10 _ (hold 10 rfl) o10
    exact doesL_run ho (wanted_at (b := true) hgd (hds 1 105 rfl) hg) (hpure 8 (by decide) L w' hW) (by rw [run_move _ _ _ hop]; exact congrArg (fun v => Result.ok (Next.value v) w') (eval_of h0))
  | 9, ho, hL, _ =>
    obtain ⟨hop, hdst, hgd⟩ := tab_at htab ho (show rmc0T[9]? = _ from rfl)
    simp only at hop hgd
    have hg := frm_at hdis ha 1 105 (hds 1 105 rfl) (by omega) (depl_of hdep 9 1 (by decide) ho hd)
    have h0 := frm_at hdis ha 7 111 (hds 7 111 rfl) (by omega) (depl_of hdep 9 7 (by decide) ho hd)
    have h1 := frm_at hdis ha 8 112 (hds 8 112 rfl) (by omega) (depl_of hdep 9 8 (by decide) ho hd)
    exact doesL_run ho (wanted_at (b := true) hgd (hds 1 105 rfl) hg) (hpure 9 (by decide) L w' hW) (run_ia31 _ _ _ _ hop _ _ _ _ _ i9 (eval_of h0) (eval_of h1) _)
  | 10, ho, hL, _ =>
    obtain ⟨hop, hdst, hgd⟩ := tab_at htab ho (show rmc0T[10]? = _ from rfl)
    simp only at hop hgd
    have hg := frm_at hdis ha 1 105 (hds 1 105 rfl) (by omega) (depl_of hdep 10 1 (by decide) ho hd)
    have h0 := frm_at hdis ha 9 113 (hds 9 113 rfl) (by omega) (depl_of hdep 10 9 (by decide) ho hd)
    exact doesL_run ho (wanted_at (b := true) hgd (hds 1 105 rfl) hg) (hpure 10 (by decide) L w' hW) (run_ld3 _ _ _ hop _ _ (eval_of h0) _ (l10 L w' hW))
  | 11, ho, hL, _ =>
    obtain ⟨hop, hdst, hgd⟩ := tab_at htab ho (show rmc0T[11]? = _ from rfl)
    simp only at hop hgd
    have hg := frm_at hdis ha 1 105 (hds 1 105 rfl) (by omega) (depl_of hdep 11 1 (by decide) ho hd)
    have h0 := frm_at hdis ha 5 109 (hds 5 109 rfl) (by omega) (depl_of hdep 11 5 (by decide) ho hd)
    have h1 := frm_at hdis ha 10 114 (hds 10 114 rfl) (by omega) (depl_of hdep 11 10 (by decide) ho hd)
    exact doesL_run ho (wanted_at (b := true) hgd (hds 1 105 rfl) hg) (hpure 11 (by decide) L w' hW) (run_same _ _ _ _ _ _ hop _ (eval_of h0) (eval_of h1) _)
  | 12, ho, hL, _ =>
    obtain ⟨hop, hdst, hgd⟩ := tab_at htab ho (show rmc0T[12]? = _ from rfl)
    simp only at hop hgd
    have h0 := frm_at hdis ha 1 105 (hds 1 105 rfl) (by omega) (depl_of hdep 12 1 (by decide) ho hd)
    have h1 := frm_at hdis ha 11 115 (hds 11 115 rfl) (by omega) (depl_of hdep 12 11 (by decide) ho hd)
    exact doesL_run ho (wanted_none hgd) (hpure 12 (by decide) L w' hW) (by rw [run_pick _ _ _ _ _ hop true (eval_of h0)]; exact congrArg (fun v => Result.ok (Next.value v) w') (eval_of h1))
  | 13, ho, hL, _ =>
    obtain ⟨hop, hdst, hgd⟩ := tab_at htab ho (show rmc0T[13]? = _ from rfl)
    simp only at hop hgd
    have h0 := frm_at hdis ha 12 116 (hds 12 116 rfl) (by omega) (depl_of hdep 13 12 (by decide) ho hd)
    exact doesL_run ho (wanted_none hgd) (hpure13 L w' hW (depl_of hdep 13 0 (by decide) ho hd)) (by rw [run_assign _ _ _ hop]; exact congrArg (fun v => Result.ok (Next.value v) w') (eval_of h0))
  | (i + 14), ho, hL, hi => exact absurd hi (by omega)
def rmz0T : List (Op × Option Tmp × Option (Nat × Bool)) := [
  (.move (.tmp 1), some 117, none),
  (.fieldAddr 33 (.tmp 5) 2, some 118, none),
  (.load 3 (.tmp 118), some 119, none),
  (.fieldAddr 33 (.tmp 5) 5, some 120, none),
  (.load 31 (.tmp 120), some 121, none),
  (.move (.tmp 10), some 122, none),
  (.indexAddr 31 (.tmp 121) (.tmp 122), some 123, none),
  (.load 3 (.tmp 123), some 124, none),
  (.call { callee := .value (.func 14), args := #[(.tmp 117), (.tmp 119), (.tmp 124)], argTypes := #[28, 3, 3] }, some 125, none)]
def rmz0D : List (Nat × Nat) := [(2, 1), (4, 3), (6, 4), (6, 5), (7, 6), (8, 0), (8, 2), (8, 7)]
set_option maxHeartbeats 2000000 in
theorem rmz0 {ops : Array Oper} {id : Nat} {Q : Exit → Act → World → Prop} (z u gl ql ln lc k : Nat) (size c : Int)  (htab : ops.toList.map (fun o => (o.op, o.dst, o.guard)) = rmz0T) (hdep : deplB rmz0D ops = true) (hac : acB ops = true)
    (a0 : Act) (w : World) (hsz : 126 ≤ a0.tmps.size) (o1 : a0.tmps[1]? = some (.pointer (some ⟨z, 0, none⟩))) (o5 : a0.tmps[5]? = some (.pointer (some ⟨u, 0, none⟩))) (o10 : a0.tmps[10]? = some (.int .i64 (k : Int)))
    (Wd : (Nat → Bool) → World → Prop) (h0 : Wd (fun _ => false) w.drew) (hpure : ∀ i, i ∉ ([8] : List Nat) → ∀ L W, Wd L W → Wd (upd L i) W)
    (i6 : k < ln) (l2 : ∀ L W, Wd L W → W.cell? ⟨u, 0 + 2, none⟩ = some (.int .i64 size)) (l4 : ∀ L W, Wd L W → W.cell? ⟨u, 0 + 5, none⟩ = some (.slice (some ⟨gl, ql, none⟩) ln lc)) (l7 : ∀ L W, Wd L W → W.cell? ⟨gl, ql + k, none⟩ = some (.int .i64 c))
    (c8 : ∀ L W, Wd L W → L 8 = false → Calls Tryd.prog 14 #[(.pointer (some ⟨z, 0, none⟩)), .int .i64 size, .int .i64 c] W fun e w' => e = .returned (.tuple #[]) ∧ Wd (upd L 8) w')
    (hend : ∀ L W, (∀ i, i < 9 → L i = true) → Wd L W → Q .normal (((((((((a0.put (some 117) (.pointer (some ⟨z, 0, none⟩))).put (some 118) (.pointer (some ⟨u, 0 + 2, none⟩))).put (some 119) (.int .i64 size)).put (some 120) (.pointer (some ⟨u, 0 + 5, none⟩))).put (some 121) (.slice (some ⟨gl, ql, none⟩) ln lc)).put (some 122) (.int .i64 (k : Int))).put (some 123) (.pointer (some ⟨gl, ql + k, none⟩))).put (some 124) (.int .i64 c)).put (some 125) (.tuple #[])) W) : (Code.region id ops true).wp Tryd.prog Q a0 w := by
  let val : Nat → Value := fun i => match i with
    | 0 => (.pointer (some ⟨z, 0, none⟩))
    | 1 => (.pointer (some ⟨u, 0 + 2, none⟩))
    | 2 => (.int .i64 size)
    | 3 => (.pointer (some ⟨u, 0 + 5, none⟩))
    | 4 => (.slice (some ⟨gl, ql, none⟩) ln lc)
    | 5 => (.int .i64 (k : Int))
    | 6 => (.pointer (some ⟨gl, ql + k, none⟩))
    | 7 => (.int .i64 c)
    | 8 => (.tuple #[])
    | _ => undef
  have hosz : ops.size = 9 := by
    have := congrArg List.length htab
    simpa [rmz0T] using this
  have hds : ∀ i s, (rmz0T[i]?).bind (·.2.1) = some s → dstOf ops i = some s := fun i s hi => by rw [tab_dst htab, hi]
  have hdisB : disL rmz0T = true := by rfl
  have hdis := disL_of htab hdisB
  have hold : ∀ s, rmz0T.all (fun x => !(x.2.1 == some s)) = true → (List.range ops.size).all (fun j => !(dstOf ops j == some s)) = true := fun s h => holdL htab s h
  refine region_detL val Wd (hac_of hac) hdis h0 ?_ ?_
  rotate_left
  · intro L W hall hW
    have := hend L W (by rw [← hosz]; exact hall) hW
    have e : frm ops a0 val (fun _ => true) ops.size = (((((((((a0.put (some 117) (.pointer (some ⟨z, 0, none⟩))).put (some 118) (.pointer (some ⟨u, 0 + 2, none⟩))).put (some 119) (.int .i64 size)).put (some 120) (.pointer (some ⟨u, 0 + 5, none⟩))).put (some 121) (.slice (some ⟨gl, ql, none⟩) ln lc)).put (some 122) (.int .i64 (k : Int))).put (some 123) (.pointer (some ⟨gl, ql + k, none⟩))).put (some 124) (.int .i64 c)).put (some 125) (.tuple #[])) := by
      rw [hosz]
      simp only [frm, if_true]
      rw [tab_dst htab 0, tab_dst htab 1, tab_dst htab 2, tab_dst htab 3, tab_dst htab 4, tab_dst htab 5, tab_dst htab 6, tab_dst htab 7, tab_dst htab 8]
      rfl
    rw [e]
    exact this
  intro i o ho L a w' hL hd ha hW
  have hi : i < 9 := by rw [← hosz]; exact (Array.getElem?_eq_some_iff.1 ho).1
  match i, ho, hL, hi with
  | 0, ho, hL, _ =>
    obtain ⟨hop, hdst, hgd⟩ := tab_at htab ho (show rmz0T[0]? = _ from rfl)
    simp only at hop hgd
    have h0 := frm_old ha 1 _ (hold 1 rfl) o1
    exact doesL_run ho (wanted_none hgd) (hpure 0 (by decide) L w' hW) (by rw [run_move _ _ _ hop]; exact congrArg (fun v => Result.ok (Next.value v) w') (eval_of h0))
  | 1, ho, hL, _ =>
    obtain ⟨hop, hdst, hgd⟩ := tab_at htab ho (show rmz0T[1]? = _ from rfl)
    simp only at hop hgd
    have h0 := frm_old ha 5 _ (hold 5 rfl) o5
    exact doesL_run ho (wanted_none hgd) (hpure 1 (by decide) L w' hW) (run_f33 _ _ _ 2 (by decide) hop _ _ (eval_of h0) _)
  | 2, ho, hL, _ =>
    obtain ⟨hop, hdst, hgd⟩ := tab_at htab ho (show rmz0T[2]? = _ from rfl)
    simp only at hop hgd
    have h0 := frm_at hdis ha 1 118 (hds 1 118 rfl) (by omega) (depl_of hdep 2 1 (by decide) ho hd)
    exact doesL_run ho (wanted_none hgd) (hpure 2 (by decide) L w' hW) (run_ld3 _ _ _ hop _ _ (eval_of h0) _ (l2 L w' hW))
  | 3, ho, hL, _ =>
    obtain ⟨hop, hdst, hgd⟩ := tab_at htab ho (show rmz0T[3]? = _ from rfl)
    simp only at hop hgd
    have h0 := frm_old ha 5 _ (hold 5 rfl) o5
    exact doesL_run ho (wanted_none hgd) (hpure 3 (by decide) L w' hW) (run_f33 _ _ _ 5 (by decide) hop _ _ (eval_of h0) _)
  | 4, ho, hL, _ =>
    obtain ⟨hop, hdst, hgd⟩ := tab_at htab ho (show rmz0T[4]? = _ from rfl)
    simp only at hop hgd
    have h0 := frm_at hdis ha 3 120 (hds 3 120 rfl) (by omega) (depl_of hdep 4 3 (by decide) ho hd)
    exact doesL_run ho (wanted_none hgd) (hpure 4 (by decide) L w' hW) (run_ld31 _ _ _ hop _ _ (eval_of h0) _ (l4 L w' hW))
  | 5, ho, hL, _ =>
    obtain ⟨hop, hdst, hgd⟩ := tab_at htab ho (show rmz0T[5]? = _ from rfl)
    simp only at hop hgd
    have h0 := frm_old ha 10 _ (hold 10 rfl) o10
    exact doesL_run ho (wanted_none hgd) (hpure 5 (by decide) L w' hW) (by rw [run_move _ _ _ hop]; exact congrArg (fun v => Result.ok (Next.value v) w') (eval_of h0))
  | 6, ho, hL, _ =>
    obtain ⟨hop, hdst, hgd⟩ := tab_at htab ho (show rmz0T[6]? = _ from rfl)
    simp only at hop hgd
    have h0 := frm_at hdis ha 4 121 (hds 4 121 rfl) (by omega) (depl_of hdep 6 4 (by decide) ho hd)
    have h1 := frm_at hdis ha 5 122 (hds 5 122 rfl) (by omega) (depl_of hdep 6 5 (by decide) ho hd)
    exact doesL_run ho (wanted_none hgd) (hpure 6 (by decide) L w' hW) (run_ia31 _ _ _ _ hop _ _ _ _ _ i6 (eval_of h0) (eval_of h1) _)
  | 7, ho, hL, _ =>
    obtain ⟨hop, hdst, hgd⟩ := tab_at htab ho (show rmz0T[7]? = _ from rfl)
    simp only at hop hgd
    have h0 := frm_at hdis ha 6 123 (hds 6 123 rfl) (by omega) (depl_of hdep 7 6 (by decide) ho hd)
    exact doesL_run ho (wanted_none hgd) (hpure 7 (by decide) L w' hW) (run_ld3 _ _ _ hop _ _ (eval_of h0) _ (l7 L w' hW))
  | 8, ho, hL, _ =>
    obtain ⟨hop, hdst, hgd⟩ := tab_at htab ho (show rmz0T[8]? = _ from rfl)
    simp only at hop hgd
    have h0 := frm_at hdis ha 0 117 (hds 0 117 rfl) (by omega) (depl_of hdep 8 0 (by decide) ho hd)
    have h1 := frm_at hdis ha 2 119 (hds 2 119 rfl) (by omega) (depl_of hdep 8 2 (by decide) ho hd)
    have h2 := frm_at hdis ha 7 124 (hds 7 124 rfl) (by omega) (depl_of hdep 8 7 (by decide) ho hd)
    refine doesL_call ho (wanted_none hgd) 14 #[(.pointer (some ⟨z, 0, none⟩)), .int .i64 size, .int .i64 c] ?_ (c8 L w' hW hL)
    rw [run_calls Tryd.func14 (by kernel_rfl) rfl _ _ _ _ hop rfl]
    simp only [List.map_toArray, List.map_cons, List.map_nil, eval_of h0, eval_of h1, eval_of h2]
    all_goals rfl
  | (i + 9), ho, hL, hi => exact absurd hi (by omega)
def rmc1T : List (Op × Option Tmp × Option (Nat × Bool)) := [
  (.move (.tmp 8), some 170, none),
  (.move (.tmp 170), some 171, none),
  (.move (.tmp 11), some 172, some (1, true)),
  (.move (.tmp 13), some 173, some (1, true)),
  (.indexAddr 82 (.tmp 172) (.tmp 173), some 174, some (1, true)),
  (.load 21 (.tmp 174), some 175, some (1, true)),
  (.fieldAddr 33 (.tmp 5) 5, some 176, some (1, true)),
  (.load 31 (.tmp 176), some 177, some (1, true)),
  (.move (.tmp 13), some 178, some (1, true)),
  (.indexAddr 31 (.tmp 177) (.tmp 178), some 179, some (1, true)),
  (.load 3 (.tmp 179), some 180, some (1, true)),
  (.convert 3 21 (.tmp 180), some 181, some (1, true)),
  (.binOp .eql 21 (.tmp 175) (.tmp 181) 21, some 182, some (1, true)),
  (.pick (.tmp 171) (.tmp 182) (.const (.bool false)), some 183, none),
  (.assign (.tmp 183), some 8, none)]
def rmc1D : List (Nat × Nat) := [(1, 0), (2, 1), (3, 1), (4, 1), (4, 2), (4, 3), (5, 1), (5, 4), (6, 1), (7, 1), (7, 6), (8, 1), (9, 1), (9, 7), (9, 8), (10, 1), (10, 9), (11, 1), (11, 10), (12, 1), (12, 5), (12, 11), (13, 1), (13, 12), (14, 0), (14, 13)]
set_option maxHeartbeats 2000000 in
theorem rmc1 {ops : Array Oper} {id : Nat} {Q : Exit → Act → World → Prop} (g n cap u gl ql ln lc k : Nat) (c : Int) (x : Int) (htab : ops.toList.map (fun o => (o.op, o.dst, o.guard)) = rmc1T) (hdep : deplB rmc1D ops = true) (hac : acB ops = true)
    (a0 : Act) (w : World) (hsz : 184 ≤ a0.tmps.size) (o5 : a0.tmps[5]? = some (.pointer (some ⟨u, 0, none⟩))) (o8 : a0.tmps[8]? = some (.bool true)) (o11 : a0.tmps[11]? = some (.slice (some ⟨g, 0, none⟩) n cap)) (o13 : a0.tmps[13]? = some (.int .i64 (k : Int)))
    (Wd : (Nat → Bool) → World → Prop) (h0 : Wd (fun _ => false) w.drew) (hpure : ∀ i, i ∉ ([14] : List Nat) → ∀ L W, Wd L W → Wd (upd L i) W)
    (hcl14 : ∀ L W, Wd L W → L 14 = true → L 0 = true) (hpure14 : ∀ L W, Wd L W → L 0 = true → Wd (upd L 14) W) (i4 : k < n) (i9 : k < ln)
    (l5 : ∀ L W, Wd L W → W.cell? ⟨g, 0 + k, none⟩ = some (.int .i32 c)) (l7 : ∀ L W, Wd L W → W.cell? ⟨u, 0 + 5, none⟩ = some (.slice (some ⟨gl, ql, none⟩) ln lc)) (l10 : ∀ L W, Wd L W → W.cell? ⟨gl, ql + k, none⟩ = some (.int .i64 x)) (v11 : Value.int .i32 (IntKind.i32.wrap x) = .int .i32 c)
    (hend : ∀ L W, (∀ i, i < 15 → L i = true) → Wd L W → Q .normal (((((((((((((((a0.put (some 170) (.bool true)).put (some 171) (.bool true)).put (some 172) (.slice (some ⟨g, 0, none⟩) n cap)).put (some 173) (.int .i64 (k : Int))).put (some 174) (.pointer (some ⟨g, 0 + k, none⟩))).put (some 175) (.int .i32 c)).put (some 176) (.pointer (some ⟨u, 0 + 5, none⟩))).put (some 177) (.slice (some ⟨gl, ql, none⟩) ln lc)).put (some 178) (.int .i64 (k : Int))).put (some 179) (.pointer (some ⟨gl, ql + k, none⟩))).put (some 180) (.int .i64 x)).put (some 181) (.int .i32 c)).put (some 182) (.bool true)).put (some 183) (.bool true)).put (some 8) (.bool true)) W) : (Code.region id ops true).wp Tryd.prog Q a0 w := by
  let val : Nat → Value := fun i => match i with
    | 0 => (.bool true)
    | 1 => (.bool true)
    | 2 => (.slice (some ⟨g, 0, none⟩) n cap)
    | 3 => (.int .i64 (k : Int))
    | 4 => (.pointer (some ⟨g, 0 + k, none⟩))
    | 5 => (.int .i32 c)
    | 6 => (.pointer (some ⟨u, 0 + 5, none⟩))
    | 7 => (.slice (some ⟨gl, ql, none⟩) ln lc)
    | 8 => (.int .i64 (k : Int))
    | 9 => (.pointer (some ⟨gl, ql + k, none⟩))
    | 10 => (.int .i64 x)
    | 11 => (.int .i32 c)
    | 12 => (.bool true)
    | 13 => (.bool true)
    | 14 => (.bool true)
    | _ => undef
  have hosz : ops.size = 15 := by
    have := congrArg List.length htab
    simpa [rmc1T] using this
  have hds : ∀ i s, (rmc1T[i]?).bind (·.2.1) = some s → dstOf ops i = some s := fun i s hi => by rw [tab_dst htab, hi]
  have hdisB : disL rmc1T = true := by rfl
  have hdis := disL_of htab hdisB
  have hold : ∀ s, rmc1T.all (fun x => !(x.2.1 == some s)) = true → (List.range ops.size).all (fun j => !(dstOf ops j == some s)) = true := fun s h => holdL htab s h
  refine region_detL val Wd (hac_of hac) hdis h0 ?_ ?_
  rotate_left
  · intro L W hall hW
    have := hend L W (by rw [← hosz]; exact hall) hW
    have e : frm ops a0 val (fun _ => true) ops.size = (((((((((((((((a0.put (some 170) (.bool true)).put (some 171) (.bool true)).put (some 172) (.slice (some ⟨g, 0, none⟩) n cap)).put (some 173) (.int .i64 (k : Int))).put (some 174) (.pointer (some ⟨g, 0 + k, none⟩))).put (some 175) (.int .i32 c)).put (some 176) (.pointer (some ⟨u, 0 + 5, none⟩))).put (some 177) (.slice (some ⟨gl, ql, none⟩) ln lc)).put (some 178) (.int .i64 (k : Int))).put (some 179) (.pointer (some ⟨gl, ql + k, none⟩))).put (some 180) (.int .i64 x)).put (some 181) (.int .i32 c)).put (some 182) (.bool true)).put (some 183) (.bool true)).put (some 8) (.bool true)) := by
      rw [hosz]
      simp only [frm, if_true]
      rw [tab_dst htab 0, tab_dst htab 1, tab_dst htab 2, tab_dst htab 3, tab_dst htab 4, tab_dst htab 5, tab_dst htab 6, tab_dst htab 7, tab_dst htab 8, tab_dst htab 9, tab_dst htab 10, tab_dst htab 11, tab_dst htab 12, tab_dst htab 13, tab_dst htab 14]
      rfl
    rw [e]
    exact this
  intro i o ho L a w' hL hd ha hW
  have hi : i < 15 := by rw [← hosz]; exact (Array.getElem?_eq_some_iff.1 ho).1
  match i, ho, hL, hi with
  | 0, ho, hL, _ =>
    obtain ⟨hop, hdst, hgd⟩ := tab_at htab ho (show rmc1T[0]? = _ from rfl)
    simp only at hop hgd
    have h0 : a.tmps[8]? = some (.bool true) := by rw [ha, frm_late a0 val L 8 14 (Bool.eq_false_iff.2 (fun h => by have := hcl14 L w' hW h; rw [hL] at this; cases this)) ops.size (late_of htab (by rfl))]; exact o8
    exact doesL_run ho (wanted_none hgd) (hpure 0 (by decide) L w' hW) (by rw [run_move _ _ _ hop]; exact congrArg (fun v => Result.ok (Next.value v) w') (eval_of h0))
  | 1, ho, hL, _ =>
    obtain ⟨hop, hdst, hgd⟩ := tab_at htab ho (show rmc1T[1]? = _ from rfl)
    simp only at hop hgd
    have h0 := frm_at hdis ha 0 170 (hds 0 170 rfl) (by omega) (depl_of hdep 1 0 (by decide) ho hd)
    exact doesL_run ho (wanted_none hgd) (hpure 1 (by decide) L w' hW) (by rw [run_move _ _ _ hop]; exact congrArg (fun v => Result.ok (Next.value v) w') (eval_of h0))
  | 2, ho, hL, _ =>
    obtain ⟨hop, hdst, hgd⟩ := tab_at htab ho (show rmc1T[2]? = _ from rfl)
    simp only at hop hgd
    have hg := frm_at hdis ha 1 171 (hds 1 171 rfl) (by omega) (depl_of hdep 2 1 (by decide) ho hd)
    have h0 := frm_old ha 11 _ (hold 11 rfl) o11
    exact doesL_run ho (wanted_at (b := true) hgd (hds 1 171 rfl) hg) (hpure 2 (by decide) L w' hW) (by rw [run_move _ _ _ hop]; exact congrArg (fun v => Result.ok (Next.value v) w') (eval_of h0))
  | 3, ho, hL, _ =>
    obtain ⟨hop, hdst, hgd⟩ := tab_at htab ho (show rmc1T[3]? = _ from rfl)
    simp only at hop hgd
    have hg := frm_at hdis ha 1 171 (hds 1 171 rfl) (by omega) (depl_of hdep 3 1 (by decide) ho hd)
    have h0 := frm_old ha 13 _ (hold 13 rfl) o13
    exact doesL_run ho (wanted_at (b := true) hgd (hds 1 171 rfl) hg) (hpure 3 (by decide) L w' hW) (by rw [run_move _ _ _ hop]; exact congrArg (fun v => Result.ok (Next.value v) w') (eval_of h0))
  | 4, ho, hL, _ =>
    obtain ⟨hop, hdst, hgd⟩ := tab_at htab ho (show rmc1T[4]? = _ from rfl)
    simp only at hop hgd
    have hg := frm_at hdis ha 1 171 (hds 1 171 rfl) (by omega) (depl_of hdep 4 1 (by decide) ho hd)
    have h0 := frm_at hdis ha 2 172 (hds 2 172 rfl) (by omega) (depl_of hdep 4 2 (by decide) ho hd)
    have h1 := frm_at hdis ha 3 173 (hds 3 173 rfl) (by omega) (depl_of hdep 4 3 (by decide) ho hd)
    exact doesL_run ho (wanted_at (b := true) hgd (hds 1 171 rfl) hg) (hpure 4 (by decide) L w' hW) (run_ia82 _ _ _ _ hop _ _ _ _ _ i4 (eval_of h0) (eval_of h1) _)
  | 5, ho, hL, _ =>
    obtain ⟨hop, hdst, hgd⟩ := tab_at htab ho (show rmc1T[5]? = _ from rfl)
    simp only at hop hgd
    have hg := frm_at hdis ha 1 171 (hds 1 171 rfl) (by omega) (depl_of hdep 5 1 (by decide) ho hd)
    have h0 := frm_at hdis ha 4 174 (hds 4 174 rfl) (by omega) (depl_of hdep 5 4 (by decide) ho hd)
    exact doesL_run ho (wanted_at (b := true) hgd (hds 1 171 rfl) hg) (hpure 5 (by decide) L w' hW) (run_ld21 _ _ _ hop _ _ (eval_of h0) _ (l5 L w' hW))
  | 6, ho, hL, _ =>
    obtain ⟨hop, hdst, hgd⟩ := tab_at htab ho (show rmc1T[6]? = _ from rfl)
    simp only at hop hgd
    have hg := frm_at hdis ha 1 171 (hds 1 171 rfl) (by omega) (depl_of hdep 6 1 (by decide) ho hd)
    have h0 := frm_old ha 5 _ (hold 5 rfl) o5
    exact doesL_run ho (wanted_at (b := true) hgd (hds 1 171 rfl) hg) (hpure 6 (by decide) L w' hW) (run_f33 _ _ _ 5 (by decide) hop _ _ (eval_of h0) _)
  | 7, ho, hL, _ =>
    obtain ⟨hop, hdst, hgd⟩ := tab_at htab ho (show rmc1T[7]? = _ from rfl)
    simp only at hop hgd
    have hg := frm_at hdis ha 1 171 (hds 1 171 rfl) (by omega) (depl_of hdep 7 1 (by decide) ho hd)
    have h0 := frm_at hdis ha 6 176 (hds 6 176 rfl) (by omega) (depl_of hdep 7 6 (by decide) ho hd)
    exact doesL_run ho (wanted_at (b := true) hgd (hds 1 171 rfl) hg) (hpure 7 (by decide) L w' hW) (run_ld31 _ _ _ hop _ _ (eval_of h0) _ (l7 L w' hW))
  | 8, ho, hL, _ =>
    obtain ⟨hop, hdst, hgd⟩ := tab_at htab ho (show rmc1T[8]? = _ from rfl)
    simp only at hop hgd
    have hg := frm_at hdis ha 1 171 (hds 1 171 rfl) (by omega) (depl_of hdep 8 1 (by decide) ho hd)
    have h0 := frm_old ha 13 _ (hold 13 rfl) o13
    exact doesL_run ho (wanted_at (b := true) hgd (hds 1 171 rfl) hg) (hpure 8 (by decide) L w' hW) (by rw [run_move _ _ _ hop]; exact congrArg (fun v => Result.ok (Next.value v) w') (eval_of h0))
  | 9, ho, hL, _ =>
    obtain ⟨hop, hdst, hgd⟩ := tab_at htab ho (show rmc1T[9]? = _ from rfl)
    simp only at hop hgd
    have hg := frm_at hdis ha 1 171 (hds 1 171 rfl) (by omega) (depl_of hdep 9 1 (by decide) ho hd)
    have h0 := frm_at hdis ha 7 177 (hds 7 177 rfl) (by omega) (depl_of hdep 9 7 (by decide) ho hd)
    have h1 := frm_at hdis ha 8 178 (hds 8 178 rfl) (by omega) (depl_of hdep 9 8 (by decide) ho hd)
    exact doesL_run ho (wanted_at (b := true) hgd (hds 1 171 rfl) hg) (hpure 9 (by decide) L w' hW) (run_ia31 _ _ _ _ hop _ _ _ _ _ i9 (eval_of h0) (eval_of h1) _)
  | 10, ho, hL, _ =>
    obtain ⟨hop, hdst, hgd⟩ := tab_at htab ho (show rmc1T[10]? = _ from rfl)
    simp only at hop hgd
    have hg := frm_at hdis ha 1 171 (hds 1 171 rfl) (by omega) (depl_of hdep 10 1 (by decide) ho hd)
    have h0 := frm_at hdis ha 9 179 (hds 9 179 rfl) (by omega) (depl_of hdep 10 9 (by decide) ho hd)
    exact doesL_run ho (wanted_at (b := true) hgd (hds 1 171 rfl) hg) (hpure 10 (by decide) L w' hW) (run_ld3 _ _ _ hop _ _ (eval_of h0) _ (l10 L w' hW))
  | 11, ho, hL, _ =>
    obtain ⟨hop, hdst, hgd⟩ := tab_at htab ho (show rmc1T[11]? = _ from rfl)
    simp only at hop hgd
    have hg := frm_at hdis ha 1 171 (hds 1 171 rfl) (by omega) (depl_of hdep 11 1 (by decide) ho hd)
    have h0 := frm_at hdis ha 10 180 (hds 10 180 rfl) (by omega) (depl_of hdep 11 10 (by decide) ho hd)
    exact doesL_run ho (wanted_at (b := true) hgd (hds 1 171 rfl) hg) (hpure 11 (by decide) L w' hW) ((run_cv3_21 _ _ _ hop _ (eval_of h0) _).trans (congrArg (fun v => Result.ok (Next.value v) w') v11))
  | 12, ho, hL, _ =>
    obtain ⟨hop, hdst, hgd⟩ := tab_at htab ho (show rmc1T[12]? = _ from rfl)
    simp only at hop hgd
    have hg := frm_at hdis ha 1 171 (hds 1 171 rfl) (by omega) (depl_of hdep 12 1 (by decide) ho hd)
    have h0 := frm_at hdis ha 5 175 (hds 5 175 rfl) (by omega) (depl_of hdep 12 5 (by decide) ho hd)
    have h1 := frm_at hdis ha 11 181 (hds 11 181 rfl) (by omega) (depl_of hdep 12 11 (by decide) ho hd)
    exact doesL_run ho (wanted_at (b := true) hgd (hds 1 171 rfl) hg) (hpure 12 (by decide) L w' hW) (run_sameK _ _ _ _ _ _ hop _ _ (eval_of h0) (eval_of h1) _)
  | 13, ho, hL, _ =>
    obtain ⟨hop, hdst, hgd⟩ := tab_at htab ho (show rmc1T[13]? = _ from rfl)
    simp only at hop hgd
    have h0 := frm_at hdis ha 1 171 (hds 1 171 rfl) (by omega) (depl_of hdep 13 1 (by decide) ho hd)
    have h1 := frm_at hdis ha 12 182 (hds 12 182 rfl) (by omega) (depl_of hdep 13 12 (by decide) ho hd)
    exact doesL_run ho (wanted_none hgd) (hpure 13 (by decide) L w' hW) (by rw [run_pick _ _ _ _ _ hop true (eval_of h0)]; exact congrArg (fun v => Result.ok (Next.value v) w') (eval_of h1))
  | 14, ho, hL, _ =>
    obtain ⟨hop, hdst, hgd⟩ := tab_at htab ho (show rmc1T[14]? = _ from rfl)
    simp only at hop hgd
    have h0 := frm_at hdis ha 13 183 (hds 13 183 rfl) (by omega) (depl_of hdep 14 13 (by decide) ho hd)
    exact doesL_run ho (wanted_none hgd) (hpure14 L w' hW (depl_of hdep 14 0 (by decide) ho hd)) (by rw [run_assign _ _ _ hop]; exact congrArg (fun v => Result.ok (Next.value v) w') (eval_of h0))
  | (i + 15), ho, hL, hi => exact absurd hi (by omega)
def rmz1T : List (Op × Option Tmp × Option (Nat × Bool)) := [
  (.move (.tmp 1), some 184, none),
  (.fieldAddr 33 (.tmp 5) 2, some 185, none),
  (.load 3 (.tmp 185), some 186, none),
  (.fieldAddr 33 (.tmp 5) 5, some 187, none),
  (.load 31 (.tmp 187), some 188, none),
  (.move (.tmp 13), some 189, none),
  (.indexAddr 31 (.tmp 188) (.tmp 189), some 190, none),
  (.load 3 (.tmp 190), some 191, none),
  (.convert 3 21 (.tmp 191), some 192, none),
  (.convert 21 3 (.tmp 192), some 193, none),
  (.call { callee := .value (.func 14), args := #[(.tmp 184), (.tmp 186), (.tmp 193)], argTypes := #[28, 3, 3] }, some 194, none)]
def rmz1D : List (Nat × Nat) := [(2, 1), (4, 3), (6, 4), (6, 5), (7, 6), (8, 7), (9, 8), (10, 0), (10, 2), (10, 9)]
set_option maxHeartbeats 2000000 in
theorem rmz1 {ops : Array Oper} {id : Nat} {Q : Exit → Act → World → Prop} (z u gl ql ln lc k : Nat) (size c : Int) (x : Int) (htab : ops.toList.map (fun o => (o.op, o.dst, o.guard)) = rmz1T) (hdep : deplB rmz1D ops = true) (hac : acB ops = true)
    (a0 : Act) (w : World) (hsz : 195 ≤ a0.tmps.size) (o1 : a0.tmps[1]? = some (.pointer (some ⟨z, 0, none⟩))) (o5 : a0.tmps[5]? = some (.pointer (some ⟨u, 0, none⟩))) (o13 : a0.tmps[13]? = some (.int .i64 (k : Int)))
    (Wd : (Nat → Bool) → World → Prop) (h0 : Wd (fun _ => false) w.drew) (hpure : ∀ i, i ∉ ([10] : List Nat) → ∀ L W, Wd L W → Wd (upd L i) W)
    (i6 : k < ln) (l2 : ∀ L W, Wd L W → W.cell? ⟨u, 0 + 2, none⟩ = some (.int .i64 size)) (l4 : ∀ L W, Wd L W → W.cell? ⟨u, 0 + 5, none⟩ = some (.slice (some ⟨gl, ql, none⟩) ln lc)) (l7 : ∀ L W, Wd L W → W.cell? ⟨gl, ql + k, none⟩ = some (.int .i64 x)) (v8 : Value.int .i32 (IntKind.i32.wrap x) = .int .i32 c) (v9 : Value.int .i64 (IntKind.i64.wrap c) = .int .i64 c)
    (c10 : ∀ L W, Wd L W → L 10 = false → Calls Tryd.prog 14 #[(.pointer (some ⟨z, 0, none⟩)), .int .i64 size, .int .i64 c] W fun e w' => e = .returned (.tuple #[]) ∧ Wd (upd L 10) w')
    (hend : ∀ L W, (∀ i, i < 11 → L i = true) → Wd L W → Q .normal (((((((((((a0.put (some 184) (.pointer (some ⟨z, 0, none⟩))).put (some 185) (.pointer (some ⟨u, 0 + 2, none⟩))).put (some 186) (.int .i64 size)).put (some 187) (.pointer (some ⟨u, 0 + 5, none⟩))).put (some 188) (.slice (some ⟨gl, ql, none⟩) ln lc)).put (some 189) (.int .i64 (k : Int))).put (some 190) (.pointer (some ⟨gl, ql + k, none⟩))).put (some 191) (.int .i64 x)).put (some 192) (.int .i32 c)).put (some 193) (.int .i64 c)).put (some 194) (.tuple #[])) W) : (Code.region id ops true).wp Tryd.prog Q a0 w := by
  let val : Nat → Value := fun i => match i with
    | 0 => (.pointer (some ⟨z, 0, none⟩))
    | 1 => (.pointer (some ⟨u, 0 + 2, none⟩))
    | 2 => (.int .i64 size)
    | 3 => (.pointer (some ⟨u, 0 + 5, none⟩))
    | 4 => (.slice (some ⟨gl, ql, none⟩) ln lc)
    | 5 => (.int .i64 (k : Int))
    | 6 => (.pointer (some ⟨gl, ql + k, none⟩))
    | 7 => (.int .i64 x)
    | 8 => (.int .i32 c)
    | 9 => (.int .i64 c)
    | 10 => (.tuple #[])
    | _ => undef
  have hosz : ops.size = 11 := by
    have := congrArg List.length htab
    simpa [rmz1T] using this
  have hds : ∀ i s, (rmz1T[i]?).bind (·.2.1) = some s → dstOf ops i = some s := fun i s hi => by rw [tab_dst htab, hi]
  have hdisB : disL rmz1T = true := by rfl
  have hdis := disL_of htab hdisB
  have hold : ∀ s, rmz1T.all (fun x => !(x.2.1 == some s)) = true → (List.range ops.size).all (fun j => !(dstOf ops j == some s)) = true := fun s h => holdL htab s h
  refine region_detL val Wd (hac_of hac) hdis h0 ?_ ?_
  rotate_left
  · intro L W hall hW
    have := hend L W (by rw [← hosz]; exact hall) hW
    have e : frm ops a0 val (fun _ => true) ops.size = (((((((((((a0.put (some 184) (.pointer (some ⟨z, 0, none⟩))).put (some 185) (.pointer (some ⟨u, 0 + 2, none⟩))).put (some 186) (.int .i64 size)).put (some 187) (.pointer (some ⟨u, 0 + 5, none⟩))).put (some 188) (.slice (some ⟨gl, ql, none⟩) ln lc)).put (some 189) (.int .i64 (k : Int))).put (some 190) (.pointer (some ⟨gl, ql + k, none⟩))).put (some 191) (.int .i64 x)).put (some 192) (.int .i32 c)).put (some 193) (.int .i64 c)).put (some 194) (.tuple #[])) := by
      rw [hosz]
      simp only [frm, if_true]
      rw [tab_dst htab 0, tab_dst htab 1, tab_dst htab 2, tab_dst htab 3, tab_dst htab 4, tab_dst htab 5, tab_dst htab 6, tab_dst htab 7, tab_dst htab 8, tab_dst htab 9, tab_dst htab 10]
      rfl
    rw [e]
    exact this
  intro i o ho L a w' hL hd ha hW
  have hi : i < 11 := by rw [← hosz]; exact (Array.getElem?_eq_some_iff.1 ho).1
  match i, ho, hL, hi with
  | 0, ho, hL, _ =>
    obtain ⟨hop, hdst, hgd⟩ := tab_at htab ho (show rmz1T[0]? = _ from rfl)
    simp only at hop hgd
    have h0 := frm_old ha 1 _ (hold 1 rfl) o1
    exact doesL_run ho (wanted_none hgd) (hpure 0 (by decide) L w' hW) (by rw [run_move _ _ _ hop]; exact congrArg (fun v => Result.ok (Next.value v) w') (eval_of h0))
  | 1, ho, hL, _ =>
    obtain ⟨hop, hdst, hgd⟩ := tab_at htab ho (show rmz1T[1]? = _ from rfl)
    simp only at hop hgd
    have h0 := frm_old ha 5 _ (hold 5 rfl) o5
    exact doesL_run ho (wanted_none hgd) (hpure 1 (by decide) L w' hW) (run_f33 _ _ _ 2 (by decide) hop _ _ (eval_of h0) _)
  | 2, ho, hL, _ =>
    obtain ⟨hop, hdst, hgd⟩ := tab_at htab ho (show rmz1T[2]? = _ from rfl)
    simp only at hop hgd
    have h0 := frm_at hdis ha 1 185 (hds 1 185 rfl) (by omega) (depl_of hdep 2 1 (by decide) ho hd)
    exact doesL_run ho (wanted_none hgd) (hpure 2 (by decide) L w' hW) (run_ld3 _ _ _ hop _ _ (eval_of h0) _ (l2 L w' hW))
  | 3, ho, hL, _ =>
    obtain ⟨hop, hdst, hgd⟩ := tab_at htab ho (show rmz1T[3]? = _ from rfl)
    simp only at hop hgd
    have h0 := frm_old ha 5 _ (hold 5 rfl) o5
    exact doesL_run ho (wanted_none hgd) (hpure 3 (by decide) L w' hW) (run_f33 _ _ _ 5 (by decide) hop _ _ (eval_of h0) _)
  | 4, ho, hL, _ =>
    obtain ⟨hop, hdst, hgd⟩ := tab_at htab ho (show rmz1T[4]? = _ from rfl)
    simp only at hop hgd
    have h0 := frm_at hdis ha 3 187 (hds 3 187 rfl) (by omega) (depl_of hdep 4 3 (by decide) ho hd)
    exact doesL_run ho (wanted_none hgd) (hpure 4 (by decide) L w' hW) (run_ld31 _ _ _ hop _ _ (eval_of h0) _ (l4 L w' hW))
  | 5, ho, hL, _ =>
    obtain ⟨hop, hdst, hgd⟩ := tab_at htab ho (show rmz1T[5]? = _ from rfl)
    simp only at hop hgd
    have h0 := frm_old ha 13 _ (hold 13 rfl) o13
    exact doesL_run ho (wanted_none hgd) (hpure 5 (by decide) L w' hW) (by rw [run_move _ _ _ hop]; exact congrArg (fun v => Result.ok (Next.value v) w') (eval_of h0))
  | 6, ho, hL, _ =>
    obtain ⟨hop, hdst, hgd⟩ := tab_at htab ho (show rmz1T[6]? = _ from rfl)
    simp only at hop hgd
    have h0 := frm_at hdis ha 4 188 (hds 4 188 rfl) (by omega) (depl_of hdep 6 4 (by decide) ho hd)
    have h1 := frm_at hdis ha 5 189 (hds 5 189 rfl) (by omega) (depl_of hdep 6 5 (by decide) ho hd)
    exact doesL_run ho (wanted_none hgd) (hpure 6 (by decide) L w' hW) (run_ia31 _ _ _ _ hop _ _ _ _ _ i6 (eval_of h0) (eval_of h1) _)
  | 7, ho, hL, _ =>
    obtain ⟨hop, hdst, hgd⟩ := tab_at htab ho (show rmz1T[7]? = _ from rfl)
    simp only at hop hgd
    have h0 := frm_at hdis ha 6 190 (hds 6 190 rfl) (by omega) (depl_of hdep 7 6 (by decide) ho hd)
    exact doesL_run ho (wanted_none hgd) (hpure 7 (by decide) L w' hW) (run_ld3 _ _ _ hop _ _ (eval_of h0) _ (l7 L w' hW))
  | 8, ho, hL, _ =>
    obtain ⟨hop, hdst, hgd⟩ := tab_at htab ho (show rmz1T[8]? = _ from rfl)
    simp only at hop hgd
    have h0 := frm_at hdis ha 7 191 (hds 7 191 rfl) (by omega) (depl_of hdep 8 7 (by decide) ho hd)
    exact doesL_run ho (wanted_none hgd) (hpure 8 (by decide) L w' hW) ((run_cv3_21 _ _ _ hop _ (eval_of h0) _).trans (congrArg (fun v => Result.ok (Next.value v) w') v8))
  | 9, ho, hL, _ =>
    obtain ⟨hop, hdst, hgd⟩ := tab_at htab ho (show rmz1T[9]? = _ from rfl)
    simp only at hop hgd
    have h0 := frm_at hdis ha 8 192 (hds 8 192 rfl) (by omega) (depl_of hdep 9 8 (by decide) ho hd)
    exact doesL_run ho (wanted_none hgd) (hpure 9 (by decide) L w' hW) ((run_cv21_3 _ _ _ hop _ (eval_of h0) _).trans (congrArg (fun v => Result.ok (Next.value v) w') v9))
  | 10, ho, hL, _ =>
    obtain ⟨hop, hdst, hgd⟩ := tab_at htab ho (show rmz1T[10]? = _ from rfl)
    simp only at hop hgd
    have h0 := frm_at hdis ha 0 184 (hds 0 184 rfl) (by omega) (depl_of hdep 10 0 (by decide) ho hd)
    have h1 := frm_at hdis ha 2 186 (hds 2 186 rfl) (by omega) (depl_of hdep 10 2 (by decide) ho hd)
    have h2 := frm_at hdis ha 9 193 (hds 9 193 rfl) (by omega) (depl_of hdep 10 9 (by decide) ho hd)
    refine doesL_call ho (wanted_none hgd) 14 #[(.pointer (some ⟨z, 0, none⟩)), .int .i64 size, .int .i64 c] ?_ (c10 L w' hW hL)
    rw [run_calls Tryd.func14 (by kernel_rfl) rfl _ _ _ _ hop rfl]
    simp only [List.map_toArray, List.map_cons, List.map_nil, eval_of h0, eval_of h1, eval_of h2]
    all_goals rfl
  | (i + 11), ho, hL, hi => exact absurd hi (by omega)
def rmc2T : List (Op × Option Tmp × Option (Nat × Bool)) := [
  (.move (.tmp 8), some 222, none),
  (.move (.tmp 222), some 223, none),
  (.move (.tmp 14), some 224, some (1, true)),
  (.move (.tmp 16), some 225, some (1, true)),
  (.indexAddr 84 (.tmp 224) (.tmp 225), some 226, some (1, true)),
  (.load 2 (.tmp 226), some 227, some (1, true)),
  (.fieldAddr 33 (.tmp 5) 5, some 228, some (1, true)),
  (.load 31 (.tmp 228), some 229, some (1, true)),
  (.move (.tmp 16), some 230, some (1, true)),
  (.indexAddr 31 (.tmp 229) (.tmp 230), some 231, some (1, true)),
  (.load 3 (.tmp 231), some 232, some (1, true)),
  (.binOp .eql 2 (.tmp 227) (.tmp 232) 2, some 233, some (1, true)),
  (.pick (.tmp 223) (.tmp 233) (.const (.bool false)), some 234, none),
  (.assign (.tmp 234), some 8, none)]
def rmc2D : List (Nat × Nat) := [(1, 0), (2, 1), (3, 1), (4, 1), (4, 2), (4, 3), (5, 1), (5, 4), (6, 1), (7, 1), (7, 6), (8, 1), (9, 1), (9, 7), (9, 8), (10, 1), (10, 9), (11, 1), (11, 5), (11, 10), (12, 1), (12, 11), (13, 0), (13, 12)]
set_option maxHeartbeats 2000000 in
theorem rmc2 {ops : Array Oper} {id : Nat} {Q : Exit → Act → World → Prop} (g n cap u gl ql ln lc k : Nat) (c : Int)  (htab : ops.toList.map (fun o => (o.op, o.dst, o.guard)) = rmc2T) (hdep : deplB rmc2D ops = true) (hac : acB ops = true)
    (a0 : Act) (w : World) (hsz : 235 ≤ a0.tmps.size) (o5 : a0.tmps[5]? = some (.pointer (some ⟨u, 0, none⟩))) (o8 : a0.tmps[8]? = some (.bool true)) (o14 : a0.tmps[14]? = some (.slice (some ⟨g, 0, none⟩) n cap)) (o16 : a0.tmps[16]? = some (.int .i64 (k : Int)))
    (Wd : (Nat → Bool) → World → Prop) (h0 : Wd (fun _ => false) w.drew) (hpure : ∀ i, i ∉ ([13] : List Nat) → ∀ L W, Wd L W → Wd (upd L i) W)
    (hcl13 : ∀ L W, Wd L W → L 13 = true → L 0 = true) (hpure13 : ∀ L W, Wd L W → L 0 = true → Wd (upd L 13) W) (i4 : k < n) (i9 : k < ln)
    (l5 : ∀ L W, Wd L W → W.cell? ⟨g, 0 + k, none⟩ = some (.int .i64 c)) (l7 : ∀ L W, Wd L W → W.cell? ⟨u, 0 + 5, none⟩ = some (.slice (some ⟨gl, ql, none⟩) ln lc)) (l10 : ∀ L W, Wd L W → W.cell? ⟨gl, ql + k, none⟩ = some (.int .i64 c))
    (hend : ∀ L W, (∀ i, i < 14 → L i = true) → Wd L W → Q .normal ((((((((((((((a0.put (some 222) (.bool true)).put (some 223) (.bool true)).put (some 224) (.slice (some ⟨g, 0, none⟩) n cap)).put (some 225) (.int .i64 (k : Int))).put (some 226) (.pointer (some ⟨g, 0 + k, none⟩))).put (some 227) (.int .i64 c)).put (some 228) (.pointer (some ⟨u, 0 + 5, none⟩))).put (some 229) (.slice (some ⟨gl, ql, none⟩) ln lc)).put (some 230) (.int .i64 (k : Int))).put (some 231) (.pointer (some ⟨gl, ql + k, none⟩))).put (some 232) (.int .i64 c)).put (some 233) (.bool true)).put (some 234) (.bool true)).put (some 8) (.bool true)) W) : (Code.region id ops true).wp Tryd.prog Q a0 w := by
  let val : Nat → Value := fun i => match i with
    | 0 => (.bool true)
    | 1 => (.bool true)
    | 2 => (.slice (some ⟨g, 0, none⟩) n cap)
    | 3 => (.int .i64 (k : Int))
    | 4 => (.pointer (some ⟨g, 0 + k, none⟩))
    | 5 => (.int .i64 c)
    | 6 => (.pointer (some ⟨u, 0 + 5, none⟩))
    | 7 => (.slice (some ⟨gl, ql, none⟩) ln lc)
    | 8 => (.int .i64 (k : Int))
    | 9 => (.pointer (some ⟨gl, ql + k, none⟩))
    | 10 => (.int .i64 c)
    | 11 => (.bool true)
    | 12 => (.bool true)
    | 13 => (.bool true)
    | _ => undef
  have hosz : ops.size = 14 := by
    have := congrArg List.length htab
    simpa [rmc2T] using this
  have hds : ∀ i s, (rmc2T[i]?).bind (·.2.1) = some s → dstOf ops i = some s := fun i s hi => by rw [tab_dst htab, hi]
  have hdisB : disL rmc2T = true := by rfl
  have hdis := disL_of htab hdisB
  have hold : ∀ s, rmc2T.all (fun x => !(x.2.1 == some s)) = true → (List.range ops.size).all (fun j => !(dstOf ops j == some s)) = true := fun s h => holdL htab s h
  refine region_detL val Wd (hac_of hac) hdis h0 ?_ ?_
  rotate_left
  · intro L W hall hW
    have := hend L W (by rw [← hosz]; exact hall) hW
    have e : frm ops a0 val (fun _ => true) ops.size = ((((((((((((((a0.put (some 222) (.bool true)).put (some 223) (.bool true)).put (some 224) (.slice (some ⟨g, 0, none⟩) n cap)).put (some 225) (.int .i64 (k : Int))).put (some 226) (.pointer (some ⟨g, 0 + k, none⟩))).put (some 227) (.int .i64 c)).put (some 228) (.pointer (some ⟨u, 0 + 5, none⟩))).put (some 229) (.slice (some ⟨gl, ql, none⟩) ln lc)).put (some 230) (.int .i64 (k : Int))).put (some 231) (.pointer (some ⟨gl, ql + k, none⟩))).put (some 232) (.int .i64 c)).put (some 233) (.bool true)).put (some 234) (.bool true)).put (some 8) (.bool true)) := by
      rw [hosz]
      simp only [frm, if_true]
      rw [tab_dst htab 0, tab_dst htab 1, tab_dst htab 2, tab_dst htab 3, tab_dst htab 4, tab_dst htab 5, tab_dst htab 6, tab_dst htab 7, tab_dst htab 8, tab_dst htab 9, tab_dst htab 10, tab_dst htab 11, tab_dst htab 12, tab_dst htab 13]
      rfl
    rw [e]
    exact this
  intro i o ho L a w' hL hd ha hW
  have hi : i < 14 := by rw [← hosz]; exact (Array.getElem?_eq_some_iff.1 ho).1
  match i, ho, hL, hi with
  | 0, ho, hL, _ =>
    obtain ⟨hop, hdst, hgd⟩ := tab_at htab ho (show rmc2T[0]? = _ from rfl)
    simp only at hop hgd
    have h0 : a.tmps[8]? = some (.bool true) := by rw [ha, frm_late a0 val L 8 13 (Bool.eq_false_iff.2 (fun h => by have := hcl13 L w' hW h; rw [hL] at this; cases this)) ops.size (late_of htab (by rfl))]; exact o8
    exact doesL_run ho (wanted_none hgd) (hpure 0 (by decide) L w' hW) (by rw [run_move _ _ _ hop]; exact congrArg (fun v => Result.ok (Next.value v) w') (eval_of h0))
  | 1, ho, hL, _ =>
    obtain ⟨hop, hdst, hgd⟩ := tab_at htab ho (show rmc2T[1]? = _ from rfl)
    simp only at hop hgd
    have h0 := frm_at hdis ha 0 222 (hds 0 222 rfl) (by omega) (depl_of hdep 1 0 (by decide) ho hd)
    exact doesL_run ho (wanted_none hgd) (hpure 1 (by decide) L w' hW) (by rw [run_move _ _ _ hop]; exact congrArg (fun v => Result.ok (Next.value v) w') (eval_of h0))
  | 2, ho, hL, _ =>
    obtain ⟨hop, hdst, hgd⟩ := tab_at htab ho (show rmc2T[2]? = _ from rfl)
    simp only at hop hgd
    have hg := frm_at hdis ha 1 223 (hds 1 223 rfl) (by omega) (depl_of hdep 2 1 (by decide) ho hd)
    have h0 := frm_old ha 14 _ (hold 14 rfl) o14
    exact doesL_run ho (wanted_at (b := true) hgd (hds 1 223 rfl) hg) (hpure 2 (by decide) L w' hW) (by rw [run_move _ _ _ hop]; exact congrArg (fun v => Result.ok (Next.value v) w') (eval_of h0))
  | 3, ho, hL, _ =>
    obtain ⟨hop, hdst, hgd⟩ := tab_at htab ho (show rmc2T[3]? = _ from rfl)
    simp only at hop hgd
    have hg := frm_at hdis ha 1 223 (hds 1 223 rfl) (by omega) (depl_of hdep 3 1 (by decide) ho hd)
    have h0 := frm_old ha 16 _ (hold 16 rfl) o16
    exact doesL_run ho (wanted_at (b := true) hgd (hds 1 223 rfl) hg) (hpure 3 (by decide) L w' hW) (by rw [run_move _ _ _ hop]; exact congrArg (fun v => Result.ok (Next.value v) w') (eval_of h0))
  | 4, ho, hL, _ =>
    obtain ⟨hop, hdst, hgd⟩ := tab_at htab ho (show rmc2T[4]? = _ from rfl)
    simp only at hop hgd
    have hg := frm_at hdis ha 1 223 (hds 1 223 rfl) (by omega) (depl_of hdep 4 1 (by decide) ho hd)
    have h0 := frm_at hdis ha 2 224 (hds 2 224 rfl) (by omega) (depl_of hdep 4 2 (by decide) ho hd)
    have h1 := frm_at hdis ha 3 225 (hds 3 225 rfl) (by omega) (depl_of hdep 4 3 (by decide) ho hd)
    exact doesL_run ho (wanted_at (b := true) hgd (hds 1 223 rfl) hg) (hpure 4 (by decide) L w' hW) (run_ia84 _ _ _ _ hop _ _ _ _ _ i4 (eval_of h0) (eval_of h1) _)
  | 5, ho, hL, _ =>
    obtain ⟨hop, hdst, hgd⟩ := tab_at htab ho (show rmc2T[5]? = _ from rfl)
    simp only at hop hgd
    have hg := frm_at hdis ha 1 223 (hds 1 223 rfl) (by omega) (depl_of hdep 5 1 (by decide) ho hd)
    have h0 := frm_at hdis ha 4 226 (hds 4 226 rfl) (by omega) (depl_of hdep 5 4 (by decide) ho hd)
    exact doesL_run ho (wanted_at (b := true) hgd (hds 1 223 rfl) hg) (hpure 5 (by decide) L w' hW) (run_ld2 _ _ _ hop _ _ (eval_of h0) _ (l5 L w' hW))
  | 6, ho, hL, _ =>
    obtain ⟨hop, hdst, hgd⟩ := tab_at htab ho (show rmc2T[6]? = _ from rfl)
    simp only at hop hgd
    have hg := frm_at hdis ha 1 223 (hds 1 223 rfl) (by omega) (depl_of hdep 6 1 (by decide) ho hd)
    have h0 := frm_old ha 5 _ (hold 5 rfl) o5
    exact doesL_run ho (wanted_at (b := true) hgd (hds 1 223 rfl) hg) (hpure 6 (by decide) L w' hW) (run_f33 _ _ _ 5 (by decide) hop _ _ (eval_of h0) _)
  | 7, ho, hL, _ =>
    obtain ⟨hop, hdst, hgd⟩ := tab_at htab ho (show rmc2T[7]? = _ from rfl)
    simp only at hop hgd
    have hg := frm_at hdis ha 1 223 (hds 1 223 rfl) (by omega) (depl_of hdep 7 1 (by decide) ho hd)
    have h0 := frm_at hdis ha 6 228 (hds 6 228 rfl) (by omega) (depl_of hdep 7 6 (by decide) ho hd)
    exact doesL_run ho (wanted_at (b := true) hgd (hds 1 223 rfl) hg) (hpure 7 (by decide) L w' hW) (run_ld31 _ _ _ hop _ _ (eval_of h0) _ (l7 L w' hW))
  | 8, ho, hL, _ =>
    obtain ⟨hop, hdst, hgd⟩ := tab_at htab ho (show rmc2T[8]? = _ from rfl)
    simp only at hop hgd
    have hg := frm_at hdis ha 1 223 (hds 1 223 rfl) (by omega) (depl_of hdep 8 1 (by decide) ho hd)
    have h0 := frm_old ha 16 _ (hold 16 rfl) o16
    exact doesL_run ho (wanted_at (b := true) hgd (hds 1 223 rfl) hg) (hpure 8 (by decide) L w' hW) (by rw [run_move _ _ _ hop]; exact congrArg (fun v => Result.ok (Next.value v) w') (eval_of h0))
  | 9, ho, hL, _ =>
    obtain ⟨hop, hdst, hgd⟩ := tab_at htab ho (show rmc2T[9]? = _ from rfl)
    simp only at hop hgd
    have hg := frm_at hdis ha 1 223 (hds 1 223 rfl) (by omega) (depl_of hdep 9 1 (by decide) ho hd)
    have h0 := frm_at hdis ha 7 229 (hds 7 229 rfl) (by omega) (depl_of hdep 9 7 (by decide) ho hd)
    have h1 := frm_at hdis ha 8 230 (hds 8 230 rfl) (by omega) (depl_of hdep 9 8 (by decide) ho hd)
    exact doesL_run ho (wanted_at (b := true) hgd (hds 1 223 rfl) hg) (hpure 9 (by decide) L w' hW) (run_ia31 _ _ _ _ hop _ _ _ _ _ i9 (eval_of h0) (eval_of h1) _)
  | 10, ho, hL, _ =>
    obtain ⟨hop, hdst, hgd⟩ := tab_at htab ho (show rmc2T[10]? = _ from rfl)
    simp only at hop hgd
    have hg := frm_at hdis ha 1 223 (hds 1 223 rfl) (by omega) (depl_of hdep 10 1 (by decide) ho hd)
    have h0 := frm_at hdis ha 9 231 (hds 9 231 rfl) (by omega) (depl_of hdep 10 9 (by decide) ho hd)
    exact doesL_run ho (wanted_at (b := true) hgd (hds 1 223 rfl) hg) (hpure 10 (by decide) L w' hW) (run_ld3 _ _ _ hop _ _ (eval_of h0) _ (l10 L w' hW))
  | 11, ho, hL, _ =>
    obtain ⟨hop, hdst, hgd⟩ := tab_at htab ho (show rmc2T[11]? = _ from rfl)
    simp only at hop hgd
    have hg := frm_at hdis ha 1 223 (hds 1 223 rfl) (by omega) (depl_of hdep 11 1 (by decide) ho hd)
    have h0 := frm_at hdis ha 5 227 (hds 5 227 rfl) (by omega) (depl_of hdep 11 5 (by decide) ho hd)
    have h1 := frm_at hdis ha 10 232 (hds 10 232 rfl) (by omega) (depl_of hdep 11 10 (by decide) ho hd)
    exact doesL_run ho (wanted_at (b := true) hgd (hds 1 223 rfl) hg) (hpure 11 (by decide) L w' hW) (run_same _ _ _ _ _ _ hop _ (eval_of h0) (eval_of h1) _)
  | 12, ho, hL, _ =>
    obtain ⟨hop, hdst, hgd⟩ := tab_at htab ho (show rmc2T[12]? = _ from rfl)
    simp only at hop hgd
    have h0 := frm_at hdis ha 1 223 (hds 1 223 rfl) (by omega) (depl_of hdep 12 1 (by decide) ho hd)
    have h1 := frm_at hdis ha 11 233 (hds 11 233 rfl) (by omega) (depl_of hdep 12 11 (by decide) ho hd)
    exact doesL_run ho (wanted_none hgd) (hpure 12 (by decide) L w' hW) (by rw [run_pick _ _ _ _ _ hop true (eval_of h0)]; exact congrArg (fun v => Result.ok (Next.value v) w') (eval_of h1))
  | 13, ho, hL, _ =>
    obtain ⟨hop, hdst, hgd⟩ := tab_at htab ho (show rmc2T[13]? = _ from rfl)
    simp only at hop hgd
    have h0 := frm_at hdis ha 12 234 (hds 12 234 rfl) (by omega) (depl_of hdep 13 12 (by decide) ho hd)
    exact doesL_run ho (wanted_none hgd) (hpure13 L w' hW (depl_of hdep 13 0 (by decide) ho hd)) (by rw [run_assign _ _ _ hop]; exact congrArg (fun v => Result.ok (Next.value v) w') (eval_of h0))
  | (i + 14), ho, hL, hi => exact absurd hi (by omega)
def rmz2T : List (Op × Option Tmp × Option (Nat × Bool)) := [
  (.move (.tmp 1), some 235, none),
  (.fieldAddr 33 (.tmp 5) 2, some 236, none),
  (.load 3 (.tmp 236), some 237, none),
  (.fieldAddr 33 (.tmp 5) 5, some 238, none),
  (.load 31 (.tmp 238), some 239, none),
  (.move (.tmp 16), some 240, none),
  (.indexAddr 31 (.tmp 239) (.tmp 240), some 241, none),
  (.load 3 (.tmp 241), some 242, none),
  (.call { callee := .value (.func 14), args := #[(.tmp 235), (.tmp 237), (.tmp 242)], argTypes := #[28, 3, 3] }, some 243, none)]
def rmz2D : List (Nat × Nat) := [(2, 1), (4, 3), (6, 4), (6, 5), (7, 6), (8, 0), (8, 2), (8, 7)]
set_option maxHeartbeats 2000000 in
theorem rmz2 {ops : Array Oper} {id : Nat} {Q : Exit → Act → World → Prop} (z u gl ql ln lc k : Nat) (size c : Int)  (htab : ops.toList.map (fun o => (o.op, o.dst, o.guard)) = rmz2T) (hdep : deplB rmz2D ops = true) (hac : acB ops = true)
    (a0 : Act) (w : World) (hsz : 244 ≤ a0.tmps.size) (o1 : a0.tmps[1]? = some (.pointer (some ⟨z, 0, none⟩))) (o5 : a0.tmps[5]? = some (.pointer (some ⟨u, 0, none⟩))) (o16 : a0.tmps[16]? = some (.int .i64 (k : Int)))
    (Wd : (Nat → Bool) → World → Prop) (h0 : Wd (fun _ => false) w.drew) (hpure : ∀ i, i ∉ ([8] : List Nat) → ∀ L W, Wd L W → Wd (upd L i) W)
    (i6 : k < ln) (l2 : ∀ L W, Wd L W → W.cell? ⟨u, 0 + 2, none⟩ = some (.int .i64 size)) (l4 : ∀ L W, Wd L W → W.cell? ⟨u, 0 + 5, none⟩ = some (.slice (some ⟨gl, ql, none⟩) ln lc)) (l7 : ∀ L W, Wd L W → W.cell? ⟨gl, ql + k, none⟩ = some (.int .i64 c))
    (c8 : ∀ L W, Wd L W → L 8 = false → Calls Tryd.prog 14 #[(.pointer (some ⟨z, 0, none⟩)), .int .i64 size, .int .i64 c] W fun e w' => e = .returned (.tuple #[]) ∧ Wd (upd L 8) w')
    (hend : ∀ L W, (∀ i, i < 9 → L i = true) → Wd L W → Q .normal (((((((((a0.put (some 235) (.pointer (some ⟨z, 0, none⟩))).put (some 236) (.pointer (some ⟨u, 0 + 2, none⟩))).put (some 237) (.int .i64 size)).put (some 238) (.pointer (some ⟨u, 0 + 5, none⟩))).put (some 239) (.slice (some ⟨gl, ql, none⟩) ln lc)).put (some 240) (.int .i64 (k : Int))).put (some 241) (.pointer (some ⟨gl, ql + k, none⟩))).put (some 242) (.int .i64 c)).put (some 243) (.tuple #[])) W) : (Code.region id ops true).wp Tryd.prog Q a0 w := by
  let val : Nat → Value := fun i => match i with
    | 0 => (.pointer (some ⟨z, 0, none⟩))
    | 1 => (.pointer (some ⟨u, 0 + 2, none⟩))
    | 2 => (.int .i64 size)
    | 3 => (.pointer (some ⟨u, 0 + 5, none⟩))
    | 4 => (.slice (some ⟨gl, ql, none⟩) ln lc)
    | 5 => (.int .i64 (k : Int))
    | 6 => (.pointer (some ⟨gl, ql + k, none⟩))
    | 7 => (.int .i64 c)
    | 8 => (.tuple #[])
    | _ => undef
  have hosz : ops.size = 9 := by
    have := congrArg List.length htab
    simpa [rmz2T] using this
  have hds : ∀ i s, (rmz2T[i]?).bind (·.2.1) = some s → dstOf ops i = some s := fun i s hi => by rw [tab_dst htab, hi]
  have hdisB : disL rmz2T = true := by rfl
  have hdis := disL_of htab hdisB
  have hold : ∀ s, rmz2T.all (fun x => !(x.2.1 == some s)) = true → (List.range ops.size).all (fun j => !(dstOf ops j == some s)) = true := fun s h => holdL htab s h
  refine region_detL val Wd (hac_of hac) hdis h0 ?_ ?_
  rotate_left
  · intro L W hall hW
    have := hend L W (by rw [← hosz]; exact hall) hW
    have e : frm ops a0 val (fun _ => true) ops.size = (((((((((a0.put (some 235) (.pointer (some ⟨z, 0, none⟩))).put (some 236) (.pointer (some ⟨u, 0 + 2, none⟩))).put (some 237) (.int .i64 size)).put (some 238) (.pointer (some ⟨u, 0 + 5, none⟩))).put (some 239) (.slice (some ⟨gl, ql, none⟩) ln lc)).put (some 240) (.int .i64 (k : Int))).put (some 241) (.pointer (some ⟨gl, ql + k, none⟩))).put (some 242) (.int .i64 c)).put (some 243) (.tuple #[])) := by
      rw [hosz]
      simp only [frm, if_true]
      rw [tab_dst htab 0, tab_dst htab 1, tab_dst htab 2, tab_dst htab 3, tab_dst htab 4, tab_dst htab 5, tab_dst htab 6, tab_dst htab 7, tab_dst htab 8]
      rfl
    rw [e]
    exact this
  intro i o ho L a w' hL hd ha hW
  have hi : i < 9 := by rw [← hosz]; exact (Array.getElem?_eq_some_iff.1 ho).1
  match i, ho, hL, hi with
  | 0, ho, hL, _ =>
    obtain ⟨hop, hdst, hgd⟩ := tab_at htab ho (show rmz2T[0]? = _ from rfl)
    simp only at hop hgd
    have h0 := frm_old ha 1 _ (hold 1 rfl) o1
    exact doesL_run ho (wanted_none hgd) (hpure 0 (by decide) L w' hW) (by rw [run_move _ _ _ hop]; exact congrArg (fun v => Result.ok (Next.value v) w') (eval_of h0))
  | 1, ho, hL, _ =>
    obtain ⟨hop, hdst, hgd⟩ := tab_at htab ho (show rmz2T[1]? = _ from rfl)
    simp only at hop hgd
    have h0 := frm_old ha 5 _ (hold 5 rfl) o5
    exact doesL_run ho (wanted_none hgd) (hpure 1 (by decide) L w' hW) (run_f33 _ _ _ 2 (by decide) hop _ _ (eval_of h0) _)
  | 2, ho, hL, _ =>
    obtain ⟨hop, hdst, hgd⟩ := tab_at htab ho (show rmz2T[2]? = _ from rfl)
    simp only at hop hgd
    have h0 := frm_at hdis ha 1 236 (hds 1 236 rfl) (by omega) (depl_of hdep 2 1 (by decide) ho hd)
    exact doesL_run ho (wanted_none hgd) (hpure 2 (by decide) L w' hW) (run_ld3 _ _ _ hop _ _ (eval_of h0) _ (l2 L w' hW))
  | 3, ho, hL, _ =>
    obtain ⟨hop, hdst, hgd⟩ := tab_at htab ho (show rmz2T[3]? = _ from rfl)
    simp only at hop hgd
    have h0 := frm_old ha 5 _ (hold 5 rfl) o5
    exact doesL_run ho (wanted_none hgd) (hpure 3 (by decide) L w' hW) (run_f33 _ _ _ 5 (by decide) hop _ _ (eval_of h0) _)
  | 4, ho, hL, _ =>
    obtain ⟨hop, hdst, hgd⟩ := tab_at htab ho (show rmz2T[4]? = _ from rfl)
    simp only at hop hgd
    have h0 := frm_at hdis ha 3 238 (hds 3 238 rfl) (by omega) (depl_of hdep 4 3 (by decide) ho hd)
    exact doesL_run ho (wanted_none hgd) (hpure 4 (by decide) L w' hW) (run_ld31 _ _ _ hop _ _ (eval_of h0) _ (l4 L w' hW))
  | 5, ho, hL, _ =>
    obtain ⟨hop, hdst, hgd⟩ := tab_at htab ho (show rmz2T[5]? = _ from rfl)
    simp only at hop hgd
    have h0 := frm_old ha 16 _ (hold 16 rfl) o16
    exact doesL_run ho (wanted_none hgd) (hpure 5 (by decide) L w' hW) (by rw [run_move _ _ _ hop]; exact congrArg (fun v => Result.ok (Next.value v) w') (eval_of h0))
  | 6, ho, hL, _ =>
    obtain ⟨hop, hdst, hgd⟩ := tab_at htab ho (show rmz2T[6]? = _ from rfl)
    simp only at hop hgd
    have h0 := frm_at hdis ha 4 239 (hds 4 239 rfl) (by omega) (depl_of hdep 6 4 (by decide) ho hd)
    have h1 := frm_at hdis ha 5 240 (hds 5 240 rfl) (by omega) (depl_of hdep 6 5 (by decide) ho hd)
    exact doesL_run ho (wanted_none hgd) (hpure 6 (by decide) L w' hW) (run_ia31 _ _ _ _ hop _ _ _ _ _ i6 (eval_of h0) (eval_of h1) _)
  | 7, ho, hL, _ =>
    obtain ⟨hop, hdst, hgd⟩ := tab_at htab ho (show rmz2T[7]? = _ from rfl)
    simp only at hop hgd
    have h0 := frm_at hdis ha 6 241 (hds 6 241 rfl) (by omega) (depl_of hdep 7 6 (by decide) ho hd)
    exact doesL_run ho (wanted_none hgd) (hpure 7 (by decide) L w' hW) (run_ld3 _ _ _ hop _ _ (eval_of h0) _ (l7 L w' hW))
  | 8, ho, hL, _ =>
    obtain ⟨hop, hdst, hgd⟩ := tab_at htab ho (show rmz2T[8]? = _ from rfl)
    simp only at hop hgd
    have h0 := frm_at hdis ha 0 235 (hds 0 235 rfl) (by omega) (depl_of hdep 8 0 (by decide) ho hd)
    have h1 := frm_at hdis ha 2 237 (hds 2 237 rfl) (by omega) (depl_of hdep 8 2 (by decide) ho hd)
    have h2 := frm_at hdis ha 7 242 (hds 7 242 rfl) (by omega) (depl_of hdep 8 7 (by decide) ho hd)
    refine doesL_call ho (wanted_none hgd) 14 #[(.pointer (some ⟨z, 0, none⟩)), .int .i64 size, .int .i64 c] ?_ (c8 L w' hW hL)
    rw [run_calls Tryd.func14 (by kernel_rfl) rfl _ _ _ _ hop rfl]
    simp only [List.map_toArray, List.map_cons, List.map_nil, eval_of h0, eval_of h1, eval_of h2]
    all_goals rfl
  | (i + 9), ho, hL, hi => exact absurd hi (by omega)
def rmc3T : List (Op × Option Tmp × Option (Nat × Bool)) := [
  (.move (.tmp 8), some 272, none),
  (.move (.tmp 272), some 273, none),
  (.move (.tmp 17), some 274, some (1, true)),
  (.move (.tmp 19), some 275, some (1, true)),
  (.indexAddr 68 (.tmp 274) (.tmp 275), some 276, some (1, true)),
  (.load 5 (.tmp 276), some 277, some (1, true)),
  (.fieldAddr 33 (.tmp 5) 5, some 278, some (1, true)),
  (.load 31 (.tmp 278), some 279, some (1, true)),
  (.move (.tmp 19), some 280, some (1, true)),
  (.indexAddr 31 (.tmp 279) (.tmp 280), some 281, some (1, true)),
  (.load 3 (.tmp 281), some 282, some (1, true)),
  (.convert 3 5 (.tmp 282), some 283, some (1, true)),
  (.binOp .eql 5 (.tmp 277) (.tmp 283) 5, some 284, some (1, true)),
  (.pick (.tmp 273) (.tmp 284) (.const (.bool false)), some 285, none),
  (.assign (.tmp 285), some 8, none)]
def rmc3D : List (Nat × Nat) := [(1, 0), (2, 1), (3, 1), (4, 1), (4, 2), (4, 3), (5, 1), (5, 4), (6, 1), (7, 1), (7, 6), (8, 1), (9, 1), (9, 7), (9, 8), (10, 1), (10, 9), (11, 1), (11, 10), (12, 1), (12, 5), (12, 11), (13, 1), (13, 12), (14, 0), (14, 13)]
set_option maxHeartbeats 2000000 in
theorem rmc3 {ops : Array Oper} {id : Nat} {Q : Exit → Act → World → Prop} (g n cap u gl ql ln lc k : Nat) (c : Int) (x : Int) (htab : ops.toList.map (fun o => (o.op, o.dst, o.guard)) = rmc3T) (hdep : deplB rmc3D ops = true) (hac : acB ops = true)
    (a0 : Act) (w : World) (hsz : 286 ≤ a0.tmps.size) (o5 : a0.tmps[5]? = some (.pointer (some ⟨u, 0, none⟩))) (o8 : a0.tmps[8]? = some (.bool true)) (o17 : a0.tmps[17]? = some (.slice (some ⟨g, 0, none⟩) n cap)) (o19 : a0.tmps[19]? = some (.int .i64 (k : Int)))
    (Wd : (Nat → Bool) → World → Prop) (h0 : Wd (fun _ => false) w.drew) (hpure : ∀ i, i ∉ ([14] : List Nat) → ∀ L W, Wd L W → Wd (upd L i) W)
    (hcl14 : ∀ L W, Wd L W → L 14 = true → L 0 = true) (hpure14 : ∀ L W, Wd L W → L 0 = true → Wd (upd L 14) W) (i4 : k < n) (i9 : k < ln)
    (l5 : ∀ L W, Wd L W → W.cell? ⟨g, 0 + k, none⟩ = some (.int .u8 c)) (l7 : ∀ L W, Wd L W → W.cell? ⟨u, 0 + 5, none⟩ = some (.slice (some ⟨gl, ql, none⟩) ln lc)) (l10 : ∀ L W, Wd L W → W.cell? ⟨gl, ql + k, none⟩ = some (.int .i64 x)) (v11 : Value.int .u8 (IntKind.u8.wrap x) = .int .u8 c)
    (hend : ∀ L W, (∀ i, i < 15 → L i = true) → Wd L W → Q .normal (((((((((((((((a0.put (some 272) (.bool true)).put (some 273) (.bool true)).put (some 274) (.slice (some ⟨g, 0, none⟩) n cap)).put (some 275) (.int .i64 (k : Int))).put (some 276) (.pointer (some ⟨g, 0 + k, none⟩))).put (some 277) (.int .u8 c)).put (some 278) (.pointer (some ⟨u, 0 + 5, none⟩))).put (some 279) (.slice (some ⟨gl, ql, none⟩) ln lc)).put (some 280) (.int .i64 (k : Int))).put (some 281) (.pointer (some ⟨gl, ql + k, none⟩))).put (some 282) (.int .i64 x)).put (some 283) (.int .u8 c)).put (some 284) (.bool true)).put (some 285) (.bool true)).put (some 8) (.bool true)) W) : (Code.region id ops true).wp Tryd.prog Q a0 w := by
  let val : Nat → Value := fun i => match i with
    | 0 => (.bool true)
    | 1 => (.bool true)
    | 2 => (.slice (some ⟨g, 0, none⟩) n cap)
    | 3 => (.int .i64 (k : Int))
    | 4 => (.pointer (some ⟨g, 0 + k, none⟩))
    | 5 => (.int .u8 c)
    | 6 => (.pointer (some ⟨u, 0 + 5, none⟩))
    | 7 => (.slice (some ⟨gl, ql, none⟩) ln lc)
    | 8 => (.int .i64 (k : Int))
    | 9 => (.pointer (some ⟨gl, ql + k, none⟩))
    | 10 => (.int .i64 x)
    | 11 => (.int .u8 c)
    | 12 => (.bool true)
    | 13 => (.bool true)
    | 14 => (.bool true)
    | _ => undef
  have hosz : ops.size = 15 := by
    have := congrArg List.length htab
    simpa [rmc3T] using this
  have hds : ∀ i s, (rmc3T[i]?).bind (·.2.1) = some s → dstOf ops i = some s := fun i s hi => by rw [tab_dst htab, hi]
  have hdisB : disL rmc3T = true := by rfl
  have hdis := disL_of htab hdisB
  have hold : ∀ s, rmc3T.all (fun x => !(x.2.1 == some s)) = true → (List.range ops.size).all (fun j => !(dstOf ops j == some s)) = true := fun s h => holdL htab s h
  refine region_detL val Wd (hac_of hac) hdis h0 ?_ ?_
  rotate_left
  · intro L W hall hW
    have := hend L W (by rw [← hosz]; exact hall) hW
    have e : frm ops a0 val (fun _ => true) ops.size = (((((((((((((((a0.put (some 272) (.bool true)).put (some 273) (.bool true)).put (some 274) (.slice (some ⟨g, 0, none⟩) n cap)).put (some 275) (.int .i64 (k : Int))).put (some 276) (.pointer (some ⟨g, 0 + k, none⟩))).put (some 277) (.int .u8 c)).put (some 278) (.pointer (some ⟨u, 0 + 5, none⟩))).put (some 279) (.slice (some ⟨gl, ql, none⟩) ln lc)).put (some 280) (.int .i64 (k : Int))).put (some 281) (.pointer (some ⟨gl, ql + k, none⟩))).put (some 282) (.int .i64 x)).put (some 283) (.int .u8 c)).put (some 284) (.bool true)).put (some 285) (.bool true)).put (some 8) (.bool true)) := by
      rw [hosz]
      simp only [frm, if_true]
      rw [tab_dst htab 0, tab_dst htab 1, tab_dst htab 2, tab_dst htab 3, tab_dst htab 4, tab_dst htab 5, tab_dst htab 6, tab_dst htab 7, tab_dst htab 8, tab_dst htab 9, tab_dst htab 10, tab_dst htab 11, tab_dst htab 12, tab_dst htab 13, tab_dst htab 14]
      rfl
    rw [e]
    exact this
  intro i o ho L a w' hL hd ha hW
  have hi : i < 15 := by rw [← hosz]; exact (Array.getElem?_eq_some_iff.1 ho).1
  match i, ho, hL, hi with
  | 0, ho, hL, _ =>
    obtain ⟨hop, hdst, hgd⟩ := tab_at htab ho (show rmc3T[0]? = _ from rfl)
    simp only at hop hgd
    have h0 : a.tmps[8]? = some (.bool true) := by rw [ha, frm_late a0 val L 8 14 (Bool.eq_false_iff.2 (fun h => by have := hcl14 L w' hW h; rw [hL] at this; cases this)) ops.size (late_of htab (by rfl))]; exact o8
    exact doesL_run ho (wanted_none hgd) (hpure 0 (by decide) L w' hW) (by rw [run_move _ _ _ hop]; exact congrArg (fun v => Result.ok (Next.value v) w') (eval_of h0))
  | 1, ho, hL, _ =>
    obtain ⟨hop, hdst, hgd⟩ := tab_at htab ho (show rmc3T[1]? = _ from rfl)
    simp only at hop hgd
    have h0 := frm_at hdis ha 0 272 (hds 0 272 rfl) (by omega) (depl_of hdep 1 0 (by decide) ho hd)
    exact doesL_run ho (wanted_none hgd) (hpure 1 (by decide) L w' hW) (by rw [run_move _ _ _ hop]; exact congrArg (fun v => Result.ok (Next.value v) w') (eval_of h0))
  | 2, ho, hL, _ =>
    obtain ⟨hop, hdst, hgd⟩ := tab_at htab ho (show rmc3T[2]? = _ from rfl)
    simp only at hop hgd
    have hg := frm_at hdis ha 1 273 (hds 1 273 rfl) (by omega) (depl_of hdep 2 1 (by decide) ho hd)
    have h0 := frm_old ha 17 _ (hold 17 rfl) o17
    exact doesL_run ho (wanted_at (b := true) hgd (hds 1 273 rfl) hg) (hpure 2 (by decide) L w' hW) (by rw [run_move _ _ _ hop]; exact congrArg (fun v => Result.ok (Next.value v) w') (eval_of h0))
  | 3, ho, hL, _ =>
    obtain ⟨hop, hdst, hgd⟩ := tab_at htab ho (show rmc3T[3]? = _ from rfl)
    simp only at hop hgd
    have hg := frm_at hdis ha 1 273 (hds 1 273 rfl) (by omega) (depl_of hdep 3 1 (by decide) ho hd)
    have h0 := frm_old ha 19 _ (hold 19 rfl) o19
    exact doesL_run ho (wanted_at (b := true) hgd (hds 1 273 rfl) hg) (hpure 3 (by decide) L w' hW) (by rw [run_move _ _ _ hop]; exact congrArg (fun v => Result.ok (Next.value v) w') (eval_of h0))
  | 4, ho, hL, _ =>
    obtain ⟨hop, hdst, hgd⟩ := tab_at htab ho (show rmc3T[4]? = _ from rfl)
    simp only at hop hgd
    have hg := frm_at hdis ha 1 273 (hds 1 273 rfl) (by omega) (depl_of hdep 4 1 (by decide) ho hd)
    have h0 := frm_at hdis ha 2 274 (hds 2 274 rfl) (by omega) (depl_of hdep 4 2 (by decide) ho hd)
    have h1 := frm_at hdis ha 3 275 (hds 3 275 rfl) (by omega) (depl_of hdep 4 3 (by decide) ho hd)
    exact doesL_run ho (wanted_at (b := true) hgd (hds 1 273 rfl) hg) (hpure 4 (by decide) L w' hW) (run_ia68 _ _ _ _ hop _ _ _ _ _ i4 (eval_of h0) (eval_of h1) _)
  | 5, ho, hL, _ =>
    obtain ⟨hop, hdst, hgd⟩ := tab_at htab ho (show rmc3T[5]? = _ from rfl)
    simp only at hop hgd
    have hg := frm_at hdis ha 1 273 (hds 1 273 rfl) (by omega) (depl_of hdep 5 1 (by decide) ho hd)
    have h0 := frm_at hdis ha 4 276 (hds 4 276 rfl) (by omega) (depl_of hdep 5 4 (by decide) ho hd)
    exact doesL_run ho (wanted_at (b := true) hgd (hds 1 273 rfl) hg) (hpure 5 (by decide) L w' hW) (run_ld5 _ _ _ hop _ _ (eval_of h0) _ (l5 L w' hW))
  | 6, ho, hL, _ =>
    obtain ⟨hop, hdst, hgd⟩ := tab_at htab ho (show rmc3T[6]? = _ from rfl)
    simp only at hop hgd
    have hg := frm_at hdis ha 1 273 (hds 1 273 rfl) (by omega) (depl_of hdep 6 1 (by decide) ho hd)
    have h0 := frm_old ha 5 _ (hold 5 rfl) o5
    exact doesL_run ho (wanted_at (b := true) hgd (hds 1 273 rfl) hg) (hpure 6 (by decide) L w' hW) (run_f33 _ _ _ 5 (by decide) hop _ _ (eval_of h0) _)
  | 7, ho, hL, _ =>
    obtain ⟨hop, hdst, hgd⟩ := tab_at htab ho (show rmc3T[7]? = _ from rfl)
    simp only at hop hgd
    have hg := frm_at hdis ha 1 273 (hds 1 273 rfl) (by omega) (depl_of hdep 7 1 (by decide) ho hd)
    have h0 := frm_at hdis ha 6 278 (hds 6 278 rfl) (by omega) (depl_of hdep 7 6 (by decide) ho hd)
    exact doesL_run ho (wanted_at (b := true) hgd (hds 1 273 rfl) hg) (hpure 7 (by decide) L w' hW) (run_ld31 _ _ _ hop _ _ (eval_of h0) _ (l7 L w' hW))
  | 8, ho, hL, _ =>
    obtain ⟨hop, hdst, hgd⟩ := tab_at htab ho (show rmc3T[8]? = _ from rfl)
    simp only at hop hgd
    have hg := frm_at hdis ha 1 273 (hds 1 273 rfl) (by omega) (depl_of hdep 8 1 (by decide) ho hd)
    have h0 := frm_old ha 19 _ (hold 19 rfl) o19
    exact doesL_run ho (wanted_at (b := true) hgd (hds 1 273 rfl) hg) (hpure 8 (by decide) L w' hW) (by rw [run_move _ _ _ hop]; exact congrArg (fun v => Result.ok (Next.value v) w') (eval_of h0))
  | 9, ho, hL, _ =>
    obtain ⟨hop, hdst, hgd⟩ := tab_at htab ho (show rmc3T[9]? = _ from rfl)
    simp only at hop hgd
    have hg := frm_at hdis ha 1 273 (hds 1 273 rfl) (by omega) (depl_of hdep 9 1 (by decide) ho hd)
    have h0 := frm_at hdis ha 7 279 (hds 7 279 rfl) (by omega) (depl_of hdep 9 7 (by decide) ho hd)
    have h1 := frm_at hdis ha 8 280 (hds 8 280 rfl) (by omega) (depl_of hdep 9 8 (by decide) ho hd)
    exact doesL_run ho (wanted_at (b := true) hgd (hds 1 273 rfl) hg) (hpure 9 (by decide) L w' hW) (run_ia31 _ _ _ _ hop _ _ _ _ _ i9 (eval_of h0) (eval_of h1) _)
  | 10, ho, hL, _ =>
    obtain ⟨hop, hdst, hgd⟩ := tab_at htab ho (show rmc3T[10]? = _ from rfl)
    simp only at hop hgd
    have hg := frm_at hdis ha 1 273 (hds 1 273 rfl) (by omega) (depl_of hdep 10 1 (by decide) ho hd)
    have h0 := frm_at hdis ha 9 281 (hds 9 281 rfl) (by omega) (depl_of hdep 10 9 (by decide) ho hd)
    exact doesL_run ho (wanted_at (b := true) hgd (hds 1 273 rfl) hg) (hpure 10 (by decide) L w' hW) (run_ld3 _ _ _ hop _ _ (eval_of h0) _ (l10 L w' hW))
  | 11, ho, hL, _ =>
    obtain ⟨hop, hdst, hgd⟩ := tab_at htab ho (show rmc3T[11]? = _ from rfl)
    simp only at hop hgd
    have hg := frm_at hdis ha 1 273 (hds 1 273 rfl) (by omega) (depl_of hdep 11 1 (by decide) ho hd)
    have h0 := frm_at hdis ha 10 282 (hds 10 282 rfl) (by omega) (depl_of hdep 11 10 (by decide) ho hd)
    exact doesL_run ho (wanted_at (b := true) hgd (hds 1 273 rfl) hg) (hpure 11 (by decide) L w' hW) ((run_cv3_5 _ _ _ hop _ (eval_of h0) _).trans (congrArg (fun v => Result.ok (Next.value v) w') v11))
  | 12, ho, hL, _ =>
    obtain ⟨hop, hdst, hgd⟩ := tab_at htab ho (show rmc3T[12]? = _ from rfl)
    simp only at hop hgd
    have hg := frm_at hdis ha 1 273 (hds 1 273 rfl) (by omega) (depl_of hdep 12 1 (by decide) ho hd)
    have h0 := frm_at hdis ha 5 277 (hds 5 277 rfl) (by omega) (depl_of hdep 12 5 (by decide) ho hd)
    have h1 := frm_at hdis ha 11 283 (hds 11 283 rfl) (by omega) (depl_of hdep 12 11 (by decide) ho hd)
    exact doesL_run ho (wanted_at (b := true) hgd (hds 1 273 rfl) hg) (hpure 12 (by decide) L w' hW) (run_sameK _ _ _ _ _ _ hop _ _ (eval_of h0) (eval_of h1) _)
  | 13, ho, hL, _ =>
    obtain ⟨hop, hdst, hgd⟩ := tab_at htab ho (show rmc3T[13]? = _ from rfl)
    simp only at hop hgd
    have h0 := frm_at hdis ha 1 273 (hds 1 273 rfl) (by omega) (depl_of hdep 13 1 (by decide) ho hd)
    have h1 := frm_at hdis ha 12 284 (hds 12 284 rfl) (by omega) (depl_of hdep 13 12 (by decide) ho hd)
    exact doesL_run ho (wanted_none hgd) (hpure 13 (by decide) L w' hW) (by rw [run_pick _ _ _ _ _ hop true (eval_of h0)]; exact congrArg (fun v => Result.ok (Next.value v) w') (eval_of h1))
  | 14, ho, hL, _ =>
    obtain ⟨hop, hdst, hgd⟩ := tab_at htab ho (show rmc3T[14]? = _ from rfl)
    simp only at hop hgd
    have h0 := frm_at hdis ha 13 285 (hds 13 285 rfl) (by omega) (depl_of hdep 14 13 (by decide) ho hd)
    exact doesL_run ho (wanted_none hgd) (hpure14 L w' hW (depl_of hdep 14 0 (by decide) ho hd)) (by rw [run_assign _ _ _ hop]; exact congrArg (fun v => Result.ok (Next.value v) w') (eval_of h0))
  | (i + 15), ho, hL, hi => exact absurd hi (by omega)
def rmz3T : List (Op × Option Tmp × Option (Nat × Bool)) := [
  (.move (.tmp 1), some 286, none),
  (.fieldAddr 33 (.tmp 5) 2, some 287, none),
  (.load 3 (.tmp 287), some 288, none),
  (.fieldAddr 33 (.tmp 5) 5, some 289, none),
  (.load 31 (.tmp 289), some 290, none),
  (.move (.tmp 19), some 291, none),
  (.indexAddr 31 (.tmp 290) (.tmp 291), some 292, none),
  (.load 3 (.tmp 292), some 293, none),
  (.convert 3 5 (.tmp 293), some 294, none),
  (.convert 5 3 (.tmp 294), some 295, none),
  (.call { callee := .value (.func 14), args := #[(.tmp 286), (.tmp 288), (.tmp 295)], argTypes := #[28, 3, 3] }, some 296, none)]
def rmz3D : List (Nat × Nat) := [(2, 1), (4, 3), (6, 4), (6, 5), (7, 6), (8, 7), (9, 8), (10, 0), (10, 2), (10, 9)]
set_option maxHeartbeats 2000000 in
theorem rmz3 {ops : Array Oper} {id : Nat} {Q : Exit → Act → World → Prop} (z u gl ql ln lc k : Nat) (size c : Int) (x : Int) (htab : ops.toList.map (fun o => (o.op, o.dst, o.guard)) = rmz3T) (hdep : deplB rmz3D ops = true) (hac : acB ops = true)
    (a0 : Act) (w : World) (hsz : 297 ≤ a0.tmps.size) (o1 : a0.tmps[1]? = some (.pointer (some ⟨z, 0, none⟩))) (o5 : a0.tmps[5]? = some (.pointer (some ⟨u, 0, none⟩))) (o19 : a0.tmps[19]? = some (.int .i64 (k : Int)))
    (Wd : (Nat → Bool) → World → Prop) (h0 : Wd (fun _ => false) w.drew) (hpure : ∀ i, i ∉ ([10] : List Nat) → ∀ L W, Wd L W → Wd (upd L i) W)
    (i6 : k < ln) (l2 : ∀ L W, Wd L W → W.cell? ⟨u, 0 + 2, none⟩ = some (.int .i64 size)) (l4 : ∀ L W, Wd L W → W.cell? ⟨u, 0 + 5, none⟩ = some (.slice (some ⟨gl, ql, none⟩) ln lc)) (l7 : ∀ L W, Wd L W → W.cell? ⟨gl, ql + k, none⟩ = some (.int .i64 x)) (v8 : Value.int .u8 (IntKind.u8.wrap x) = .int .u8 c) (v9 : Value.int .i64 (IntKind.i64.wrap c) = .int .i64 c)
    (c10 : ∀ L W, Wd L W → L 10 = false → Calls Tryd.prog 14 #[(.pointer (some ⟨z, 0, none⟩)), .int .i64 size, .int .i64 c] W fun e w' => e = .returned (.tuple #[]) ∧ Wd (upd L 10) w')
    (hend : ∀ L W, (∀ i, i < 11 → L i = true) → Wd L W → Q .normal (((((((((((a0.put (some 286) (.pointer (some ⟨z, 0, none⟩))).put (some 287) (.pointer (some ⟨u, 0 + 2, none⟩))).put (some 288) (.int .i64 size)).put (some 289) (.pointer (some ⟨u, 0 + 5, none⟩))).put (some 290) (.slice (some ⟨gl, ql, none⟩) ln lc)).put (some 291) (.int .i64 (k : Int))).put (some 292) (.pointer (some ⟨gl, ql + k, none⟩))).put (some 293) (.int .i64 x)).put (some 294) (.int .u8 c)).put (some 295) (.int .i64 c)).put (some 296) (.tuple #[])) W) : (Code.region id ops true).wp Tryd.prog Q a0 w := by
  let val : Nat → Value := fun i => match i with
    | 0 => (.pointer (some ⟨z, 0, none⟩))
    | 1 => (.pointer (some ⟨u, 0 + 2, none⟩))
    | 2 => (.int .i64 size)
    | 3 => (.pointer (some ⟨u, 0 + 5, none⟩))
    | 4 => (.slice (some ⟨gl, ql, none⟩) ln lc)
    | 5 => (.int .i64 (k : Int))
    | 6 => (.pointer (some ⟨gl, ql + k, none⟩))
    | 7 => (.int .i64 x)
    | 8 => (.int .u8 c)
    | 9 => (.int .i64 c)
    | 10 => (.tuple #[])
    | _ => undef
  have hosz : ops.size = 11 := by
    have := congrArg List.length htab
    simpa [rmz3T] using this
  have hds : ∀ i s, (rmz3T[i]?).bind (·.2.1) = some s → dstOf ops i = some s := fun i s hi => by rw [tab_dst htab, hi]
  have hdisB : disL rmz3T = true := by rfl
  have hdis := disL_of htab hdisB
  have hold : ∀ s, rmz3T.all (fun x => !(x.2.1 == some s)) = true → (List.range ops.size).all (fun j => !(dstOf ops j == some s)) = true := fun s h => holdL htab s h
  refine region_detL val Wd (hac_of hac) hdis h0 ?_ ?_
  rotate_left
  · intro L W hall hW
    have := hend L W (by rw [← hosz]; exact hall) hW
    have e : frm ops a0 val (fun _ => true) ops.size = (((((((((((a0.put (some 286) (.pointer (some ⟨z, 0, none⟩))).put (some 287) (.pointer (some ⟨u, 0 + 2, none⟩))).put (some 288) (.int .i64 size)).put (some 289) (.pointer (some ⟨u, 0 + 5, none⟩))).put (some 290) (.slice (some ⟨gl, ql, none⟩) ln lc)).put (some 291) (.int .i64 (k : Int))).put (some 292) (.pointer (some ⟨gl, ql + k, none⟩))).put (some 293) (.int .i64 x)).put (some 294) (.int .u8 c)).put (some 295) (.int .i64 c)).put (some 296) (.tuple #[])) := by
      rw [hosz]
      simp only [frm, if_true]
      rw [tab_dst htab 0, tab_dst htab 1, tab_dst htab 2, tab_dst htab 3, tab_dst htab 4, tab_dst htab 5, tab_dst htab 6, tab_dst htab 7, tab_dst htab 8, tab_dst htab 9, tab_dst htab 10]
      rfl
    rw [e]
    exact this
  intro i o ho L a w' hL hd ha hW
  have hi : i < 11 := by rw [← hosz]; exact (Array.getElem?_eq_some_iff.1 ho).1
  match i, ho, hL, hi with
  | 0, ho, hL, _ =>
    obtain ⟨hop, hdst, hgd⟩ := tab_at htab ho (show rmz3T[0]? = _ from rfl)
    simp only at hop hgd
    have h0 := frm_old ha 1 _ (hold 1 rfl) o1
    exact doesL_run ho (wanted_none hgd) (hpure 0 (by decide) L w' hW) (by rw [run_move _ _ _ hop]; exact congrArg (fun v => Result.ok (Next.value v) w') (eval_of h0))
  | 1, ho, hL, _ =>
    obtain ⟨hop, hdst, hgd⟩ := tab_at htab ho (show rmz3T[1]? = _ from rfl)
    simp only at hop hgd
    have h0 := frm_old ha 5 _ (hold 5 rfl) o5
    exact doesL_run ho (wanted_none hgd) (hpure 1 (by decide) L w' hW) (run_f33 _ _ _ 2 (by decide) hop _ _ (eval_of h0) _)
  | 2, ho, hL, _ =>
    obtain ⟨hop, hdst, hgd⟩ := tab_at htab ho (show rmz3T[2]? = _ from rfl)
    simp only at hop hgd
    have h0 := frm_at hdis ha 1 287 (hds 1 287 rfl) (by omega) (depl_of hdep 2 1 (by decide) ho hd)
    exact doesL_run ho (wanted_none hgd) (hpure 2 (by decide) L w' hW) (run_ld3 _ _ _ hop _ _ (eval_of h0) _ (l2 L w' hW))
  | 3, ho, hL, _ =>
    obtain ⟨hop, hdst, hgd⟩ := tab_at htab ho (show rmz3T[3]? = _ from rfl)
    simp only at hop hgd
    have h0 := frm_old ha 5 _ (hold 5 rfl) o5
    exact doesL_run ho (wanted_none hgd) (hpure 3 (by decide) L w' hW) (run_f33 _ _ _ 5 (by decide) hop _ _ (eval_of h0) _)
  | 4, ho, hL, _ =>
    obtain ⟨hop, hdst, hgd⟩ := tab_at htab ho (show rmz3T[4]? = _ from rfl)
    simp only at hop hgd
    have h0 := frm_at hdis ha 3 289 (hds 3 289 rfl) (by omega) (depl_of hdep 4 3 (by decide) ho hd)
    exact doesL_run ho (wanted_none hgd) (hpure 4 (by decide) L w' hW) (run_ld31 _ _ _ hop _ _ (eval_of h0) _ (l4 L w' hW))
  | 5, ho, hL, _ =>
    obtain ⟨hop, hdst, hgd⟩ := tab_at htab ho (show rmz3T[5]? = _ from rfl)
    simp only at hop hgd
    have h0 := frm_old ha 19 _ (hold 19 rfl) o19
    exact doesL_run ho (wanted_none hgd) (hpure 5 (by decide) L w' hW) (by rw [run_move _ _ _ hop]; exact congrArg (fun v => Result.ok (Next.value v) w') (eval_of h0))
  | 6, ho, hL, _ =>
    obtain ⟨hop, hdst, hgd⟩ := tab_at htab ho (show rmz3T[6]? = _ from rfl)
    simp only at hop hgd
    have h0 := frm_at hdis ha 4 290 (hds 4 290 rfl) (by omega) (depl_of hdep 6 4 (by decide) ho hd)
    have h1 := frm_at hdis ha 5 291 (hds 5 291 rfl) (by omega) (depl_of hdep 6 5 (by decide) ho hd)
    exact doesL_run ho (wanted_none hgd) (hpure 6 (by decide) L w' hW) (run_ia31 _ _ _ _ hop _ _ _ _ _ i6 (eval_of h0) (eval_of h1) _)
  | 7, ho, hL, _ =>
    obtain ⟨hop, hdst, hgd⟩ := tab_at htab ho (show rmz3T[7]? = _ from rfl)
    simp only at hop hgd
    have h0 := frm_at hdis ha 6 292 (hds 6 292 rfl) (by omega) (depl_of hdep 7 6 (by decide) ho hd)
    exact doesL_run ho (wanted_none hgd) (hpure 7 (by decide) L w' hW) (run_ld3 _ _ _ hop _ _ (eval_of h0) _ (l7 L w' hW))
  | 8, ho, hL, _ =>
    obtain ⟨hop, hdst, hgd⟩ := tab_at htab ho (show rmz3T[8]? = _ from rfl)
    simp only at hop hgd
    have h0 := frm_at hdis ha 7 293 (hds 7 293 rfl) (by omega) (depl_of hdep 8 7 (by decide) ho hd)
    exact doesL_run ho (wanted_none hgd) (hpure 8 (by decide) L w' hW) ((run_cv3_5 _ _ _ hop _ (eval_of h0) _).trans (congrArg (fun v => Result.ok (Next.value v) w') v8))
  | 9, ho, hL, _ =>
    obtain ⟨hop, hdst, hgd⟩ := tab_at htab ho (show rmz3T[9]? = _ from rfl)
    simp only at hop hgd
    have h0 := frm_at hdis ha 8 294 (hds 8 294 rfl) (by omega) (depl_of hdep 9 8 (by decide) ho hd)
    exact doesL_run ho (wanted_none hgd) (hpure 9 (by decide) L w' hW) ((run_cv5_3 _ _ _ hop _ (eval_of h0) _).trans (congrArg (fun v => Result.ok (Next.value v) w') v9))
  | 10, ho, hL, _ =>
    obtain ⟨hop, hdst, hgd⟩ := tab_at htab ho (show rmz3T[10]? = _ from rfl)
    simp only at hop hgd
    have h0 := frm_at hdis ha 0 286 (hds 0 286 rfl) (by omega) (depl_of hdep 10 0 (by decide) ho hd)
    have h1 := frm_at hdis ha 2 288 (hds 2 288 rfl) (by omega) (depl_of hdep 10 2 (by decide) ho hd)
    have h2 := frm_at hdis ha 9 295 (hds 9 295 rfl) (by omega) (depl_of hdep 10 9 (by decide) ho hd)
    refine doesL_call ho (wanted_none hgd) 14 #[(.pointer (some ⟨z, 0, none⟩)), .int .i64 size, .int .i64 c] ?_ (c10 L w' hW hL)
    rw [run_calls Tryd.func14 (by kernel_rfl) rfl _ _ _ _ hop rfl]
    simp only [List.map_toArray, List.map_cons, List.map_nil, eval_of h0, eval_of h1, eval_of h2]
    all_goals rfl
  | (i + 11), ho, hL, hi => exact absurd hi (by omega)
def rmc4T : List (Op × Option Tmp × Option (Nat × Bool)) := [
  (.move (.tmp 8), some 325, none),
  (.move (.tmp 325), some 326, none),
  (.move (.tmp 20), some 327, some (1, true)),
  (.move (.tmp 22), some 328, some (1, true)),
  (.indexAddr 87 (.tmp 327) (.tmp 328), some 329, some (1, true)),
  (.load 88 (.tmp 329), some 330, some (1, true)),
  (.fieldAddr 33 (.tmp 5) 5, some 331, some (1, true)),
  (.load 31 (.tmp 331), some 332, some (1, true)),
  (.move (.tmp 22), some 333, some (1, true)),
  (.indexAddr 31 (.tmp 332) (.tmp 333), some 334, some (1, true)),
  (.load 3 (.tmp 334), some 335, some (1, true)),
  (.convert 3 88 (.tmp 335), some 336, some (1, true)),
  (.binOp .eql 88 (.tmp 330) (.tmp 336) 88, some 337, some (1, true)),
  (.pick (.tmp 326) (.tmp 337) (.const (.bool false)), some 338, none),
  (.assign (.tmp 338), some 8, none)]
def rmc4D : List (Nat × Nat) := [(1, 0), (2, 1), (3, 1), (4, 1), (4, 2), (4, 3), (5, 1), (5, 4), (6, 1), (7, 1), (7, 6), (8, 1), (9, 1), (9, 7), (9, 8), (10, 1), (10, 9), (11, 1), (11, 10), (12, 1), (12, 5), (12, 11), (13, 1), (13, 12), (14, 0), (14, 13)]
set_option maxHeartbeats 2000000 in
theorem rmc4 {ops : Array Oper} {id : Nat} {Q : Exit → Act → World → Prop} (g n cap u gl ql ln lc k : Nat) (c : Int) (x : Int) (htab : ops.toList.map (fun o => (o.op, o.dst, o.guard)) = rmc4T) (hdep : deplB rmc4D ops = true) (hac : acB ops = true)
    (a0 : Act) (w : World) (hsz : 339 ≤ a0.tmps.size) (o5 : a0.tmps[5]? = some (.pointer (some ⟨u, 0, none⟩))) (o8 : a0.tmps[8]? = some (.bool true)) (o20 : a0.tmps[20]? = some (.slice (some ⟨g, 0, none⟩) n cap)) (o22 : a0.tmps[22]? = some (.int .i64 (k : Int)))
    (Wd : (Nat → Bool) → World → Prop) (h0 : Wd (fun _ => false) w.drew) (hpure : ∀ i, i ∉ ([14] : List Nat) → ∀ L W, Wd L W → Wd (upd L i) W)
    (hcl14 : ∀ L W, Wd L W → L 14 = true → L 0 = true) (hpure14 : ∀ L W, Wd L W → L 0 = true → Wd (upd L 14) W) (i4 : k < n) (i9 : k < ln)
    (l5 : ∀ L W, Wd L W → W.cell? ⟨g, 0 + k, none⟩ = some (.int .u16 c)) (l7 : ∀ L W, Wd L W → W.cell? ⟨u, 0 + 5, none⟩ = some (.slice (some ⟨gl, ql, none⟩) ln lc)) (l10 : ∀ L W, Wd L W → W.cell? ⟨gl, ql + k, none⟩ = some (.int .i64 x)) (v11 : Value.int .u16 (IntKind.u16.wrap x) = .int .u16 c)
    (hend : ∀ L W, (∀ i, i < 15 → L i = true) → Wd L W → Q .normal (((((((((((((((a0.put (some 325) (.bool true)).put (some 326) (.bool true)).put (some 327) (.slice (some ⟨g, 0, none⟩) n cap)).put (some 328) (.int .i64 (k : Int))).put (some 329) (.pointer (some ⟨g, 0 + k, none⟩))).put (some 330) (.int .u16 c)).put (some 331) (.pointer (some ⟨u, 0 + 5, none⟩))).put (some 332) (.slice (some ⟨gl, ql, none⟩) ln lc)).put (some 333) (.int .i64 (k : Int))).put (some 334) (.pointer (some ⟨gl, ql + k, none⟩))).put (some 335) (.int .i64 x)).put (some 336) (.int .u16 c)).put (some 337) (.bool true)).put (some 338) (.bool true)).put (some 8) (.bool true)) W) : (Code.region id ops true).wp Tryd.prog Q a0 w := by
  let val : Nat → Value := fun i => match i with
    | 0 => (.bool true)
    | 1 => (.bool true)
    | 2 => (.slice (some ⟨g, 0, none⟩) n cap)
    | 3 => (.int .i64 (k : Int))
    | 4 => (.pointer (some ⟨g, 0 + k, none⟩))
    | 5 => (.int .u16 c)
    | 6 => (.pointer (some ⟨u, 0 + 5, none⟩))
    | 7 => (.slice (some ⟨gl, ql, none⟩) ln lc)
    | 8 => (.int .i64 (k : Int))
    | 9 => (.pointer (some ⟨gl, ql + k, none⟩))
    | 10 => (.int .i64 x)
    | 11 => (.int .u16 c)
    | 12 => (.bool true)
    | 13 => (.bool true)
    | 14 => (.bool true)
    | _ => undef
  have hosz : ops.size = 15 := by
    have := congrArg List.length htab
    simpa [rmc4T] using this
  have hds : ∀ i s, (rmc4T[i]?).bind (·.2.1) = some s → dstOf ops i = some s := fun i s hi => by rw [tab_dst htab, hi]
  have hdisB : disL rmc4T = true := by rfl
  have hdis := disL_of htab hdisB
  have hold : ∀ s, rmc4T.all (fun x => !(x.2.1 == some s)) = true → (List.range ops.size).all (fun j => !(dstOf ops j == some s)) = true := fun s h => holdL htab s h
  refine region_detL val Wd (hac_of hac) hdis h0 ?_ ?_
  rotate_left
  · intro L W hall hW
    have := hend L W (by rw [← hosz]; exact hall) hW
    have e : frm ops a0 val (fun _ => true) ops.size = (((((((((((((((a0.put (some 325) (.bool true)).put (some 326) (.bool true)).put (some 327) (.slice (some ⟨g, 0, none⟩) n cap)).put (some 328) (.int .i64 (k : Int))).put (some 329) (.pointer (some ⟨g, 0 + k, none⟩))).put (some 330) (.int .u16 c)).put (some 331) (.pointer (some ⟨u, 0 + 5, none⟩))).put (some 332) (.slice (some ⟨gl, ql, none⟩) ln lc)).put (some 333) (.int .i64 (k : Int))).put (some 334) (.pointer (some ⟨gl, ql + k, none⟩))).put (some 335) (.int .i64 x)).put (some 336) (.int .u16 c)).put (some 337) (.bool true)).put (some 338) (.bool true)).put (some 8) (.bool true)) := by
      rw [hosz]
      simp only [frm, if_true]
      rw [tab_dst htab 0, tab_dst htab 1, tab_dst htab 2, tab_dst htab 3, tab_dst htab 4, tab_dst htab 5, tab_dst htab 6, tab_dst htab 7, tab_dst htab 8, tab_dst htab 9, tab_dst htab 10, tab_dst htab 11, tab_dst htab 12, tab_dst htab 13, tab_dst htab 14]
      rfl
    rw [e]
    exact this
  intro i o ho L a w' hL hd ha hW
  have hi : i < 15 := by rw [← hosz]; exact (Array.getElem?_eq_some_iff.1 ho).1
  match i, ho, hL, hi with
  | 0, ho, hL, _ =>
    obtain ⟨hop, hdst, hgd⟩ := tab_at htab ho (show rmc4T[0]? = _ from rfl)
    simp only at hop hgd
    have h0 : a.tmps[8]? = some (.bool true) := by rw [ha, frm_late a0 val L 8 14 (Bool.eq_false_iff.2 (fun h => by have := hcl14 L w' hW h; rw [hL] at this; cases this)) ops.size (late_of htab (by rfl))]; exact o8
    exact doesL_run ho (wanted_none hgd) (hpure 0 (by decide) L w' hW) (by rw [run_move _ _ _ hop]; exact congrArg (fun v => Result.ok (Next.value v) w') (eval_of h0))
  | 1, ho, hL, _ =>
    obtain ⟨hop, hdst, hgd⟩ := tab_at htab ho (show rmc4T[1]? = _ from rfl)
    simp only at hop hgd
    have h0 := frm_at hdis ha 0 325 (hds 0 325 rfl) (by omega) (depl_of hdep 1 0 (by decide) ho hd)
    exact doesL_run ho (wanted_none hgd) (hpure 1 (by decide) L w' hW) (by rw [run_move _ _ _ hop]; exact congrArg (fun v => Result.ok (Next.value v) w') (eval_of h0))
  | 2, ho, hL, _ =>
    obtain ⟨hop, hdst, hgd⟩ := tab_at htab ho (show rmc4T[2]? = _ from rfl)
    simp only at hop hgd
    have hg := frm_at hdis ha 1 326 (hds 1 326 rfl) (by omega) (depl_of hdep 2 1 (by decide) ho hd)
    have h0 := frm_old ha 20 _ (hold 20 rfl) o20
    exact doesL_run ho (wanted_at (b := true) hgd (hds 1 326 rfl) hg) (hpure 2 (by decide) L w' hW) (by rw [run_move _ _ _ hop]; exact congrArg (fun v => Result.ok (Next.value v) w') (eval_of h0))
  | 3, ho, hL, _ =>
    obtain ⟨hop, hdst, hgd⟩ := tab_at htab ho (show rmc4T[3]? = _ from rfl)
    simp only at hop hgd
    have hg := frm_at hdis ha 1 326 (hds 1 326 rfl) (by omega) (depl_of hdep 3 1 (by decide) ho hd)
    have h0 := frm_old ha 22 _ (hold 22 rfl) o22
    exact doesL_run ho (wanted_at (b := true) hgd (hds 1 326 rfl) hg) (hpure 3 (by decide) L w' hW) (by rw [run_move _ _ _ hop]; exact congrArg (fun v => Result.ok (Next.value v) w') (eval_of h0))
  | 4, ho, hL, _ =>
    obtain ⟨hop, hdst, hgd⟩ := tab_at htab ho (show rmc4T[4]? = _ from rfl)
    simp only at hop hgd
    have hg := frm_at hdis ha 1 326 (hds 1 326 rfl) (by omega) (depl_of hdep 4 1 (by decide) ho hd)
    have h0 := frm_at hdis ha 2 327 (hds 2 327 rfl) (by omega) (depl_of hdep 4 2 (by decide) ho hd)
    have h1 := frm_at hdis ha 3 328 (hds 3 328 rfl) (by omega) (depl_of hdep 4 3 (by decide) ho hd)
    exact doesL_run ho (wanted_at (b := true) hgd (hds 1 326 rfl) hg) (hpure 4 (by decide) L w' hW) (run_ia87 _ _ _ _ hop _ _ _ _ _ i4 (eval_of h0) (eval_of h1) _)
  | 5, ho, hL, _ =>
    obtain ⟨hop, hdst, hgd⟩ := tab_at htab ho (show rmc4T[5]? = _ from rfl)
    simp only at hop hgd
    have hg := frm_at hdis ha 1 326 (hds 1 326 rfl) (by omega) (depl_of hdep 5 1 (by decide) ho hd)
    have h0 := frm_at hdis ha 4 329 (hds 4 329 rfl) (by omega) (depl_of hdep 5 4 (by decide) ho hd)
    exact doesL_run ho (wanted_at (b := true) hgd (hds 1 326 rfl) hg) (hpure 5 (by decide) L w' hW) (run_ld88 _ _ _ hop _ _ (eval_of h0) _ (l5 L w' hW))
  | 6, ho, hL, _ =>
    obtain ⟨hop, hdst, hgd⟩ := tab_at htab ho (show rmc4T[6]? = _ from rfl)
    simp only at hop hgd
    have hg := frm_at hdis ha 1 326 (hds 1 326 rfl) (by omega) (depl_of hdep 6 1 (by decide) ho hd)
    have h0 := frm_old ha 5 _ (hold 5 rfl) o5
    exact doesL_run ho (wanted_at (b := true) hgd (hds 1 326 rfl) hg) (hpure 6 (by decide) L w' hW) (run_f33 _ _ _ 5 (by decide) hop _ _ (eval_of h0) _)
  | 7, ho, hL, _ =>
    obtain ⟨hop, hdst, hgd⟩ := tab_at htab ho (show rmc4T[7]? = _ from rfl)
    simp only at hop hgd
    have hg := frm_at hdis ha 1 326 (hds 1 326 rfl) (by omega) (depl_of hdep 7 1 (by decide) ho hd)
    have h0 := frm_at hdis ha 6 331 (hds 6 331 rfl) (by omega) (depl_of hdep 7 6 (by decide) ho hd)
    exact doesL_run ho (wanted_at (b := true) hgd (hds 1 326 rfl) hg) (hpure 7 (by decide) L w' hW) (run_ld31 _ _ _ hop _ _ (eval_of h0) _ (l7 L w' hW))
  | 8, ho, hL, _ =>
    obtain ⟨hop, hdst, hgd⟩ := tab_at htab ho (show rmc4T[8]? = _ from rfl)
    simp only at hop hgd
    have hg := frm_at hdis ha 1 326 (hds 1 326 rfl) (by omega) (depl_of hdep 8 1 (by decide) ho hd)
    have h0 := frm_old ha 22 _ (hold 22 rfl) o22
    exact doesL_run ho (wanted_at (b := true) hgd (hds 1 326 rfl) hg) (hpure 8 (by decide) L w' hW) (by rw [run_move _ _ _ hop]; exact congrArg (fun v => Result.ok (Next.value v) w') (eval_of h0))
  | 9, ho, hL, _ =>
    obtain ⟨hop, hdst, hgd⟩ := tab_at htab ho (show rmc4T[9]? = _ from rfl)
    simp only at hop hgd
    have hg := frm_at hdis ha 1 326 (hds 1 326 rfl) (by omega) (depl_of hdep 9 1 (by decide) ho hd)
    have h0 := frm_at hdis ha 7 332 (hds 7 332 rfl) (by omega) (depl_of hdep 9 7 (by decide) ho hd)
    have h1 := frm_at hdis ha 8 333 (hds 8 333 rfl) (by omega) (depl_of hdep 9 8 (by decide) ho hd)
    exact doesL_run ho (wanted_at (b := true) hgd (hds 1 326 rfl) hg) (hpure 9 (by decide) L w' hW) (run_ia31 _ _ _ _ hop _ _ _ _ _ i9 (eval_of h0) (eval_of h1) _)
  | 10, ho, hL, _ =>
    obtain ⟨hop, hdst, hgd⟩ := tab_at htab ho (show rmc4T[10]? = _ from rfl)
    simp only at hop hgd
    have hg := frm_at hdis ha 1 326 (hds 1 326 rfl) (by omega) (depl_of hdep 10 1 (by decide) ho hd)
    have h0 := frm_at hdis ha 9 334 (hds 9 334 rfl) (by omega) (depl_of hdep 10 9 (by decide) ho hd)
    exact doesL_run ho (wanted_at (b := true) hgd (hds 1 326 rfl) hg) (hpure 10 (by decide) L w' hW) (run_ld3 _ _ _ hop _ _ (eval_of h0) _ (l10 L w' hW))
  | 11, ho, hL, _ =>
    obtain ⟨hop, hdst, hgd⟩ := tab_at htab ho (show rmc4T[11]? = _ from rfl)
    simp only at hop hgd
    have hg := frm_at hdis ha 1 326 (hds 1 326 rfl) (by omega) (depl_of hdep 11 1 (by decide) ho hd)
    have h0 := frm_at hdis ha 10 335 (hds 10 335 rfl) (by omega) (depl_of hdep 11 10 (by decide) ho hd)
    exact doesL_run ho (wanted_at (b := true) hgd (hds 1 326 rfl) hg) (hpure 11 (by decide) L w' hW) ((run_cv3_88 _ _ _ hop _ (eval_of h0) _).trans (congrArg (fun v => Result.ok (Next.value v) w') v11))
  | 12, ho, hL, _ =>
    obtain ⟨hop, hdst, hgd⟩ := tab_at htab ho (show rmc4T[12]? = _ from rfl)
    simp only at hop hgd
    have hg := frm_at hdis ha 1 326 (hds 1 326 rfl) (by omega) (depl_of hdep 12 1 (by decide) ho hd)
    have h0 := frm_at hdis ha 5 330 (hds 5 330 rfl) (by omega) (depl_of hdep 12 5 (by decide) ho hd)
    have h1 := frm_at hdis ha 11 336 (hds 11 336 rfl) (by omega) (depl_of hdep 12 11 (by decide) ho hd)
    exact doesL_run ho (wanted_at (b := true) hgd (hds 1 326 rfl) hg) (hpure 12 (by decide) L w' hW) (run_sameK _ _ _ _ _ _ hop _ _ (eval_of h0) (eval_of h1) _)
  | 13, ho, hL, _ =>
    obtain ⟨hop, hdst, hgd⟩ := tab_at htab ho (show rmc4T[13]? = _ from rfl)
    simp only at hop hgd
    have h0 := frm_at hdis ha 1 326 (hds 1 326 rfl) (by omega) (depl_of hdep 13 1 (by decide) ho hd)
    have h1 := frm_at hdis ha 12 337 (hds 12 337 rfl) (by omega) (depl_of hdep 13 12 (by decide) ho hd)
    exact doesL_run ho (wanted_none hgd) (hpure 13 (by decide) L w' hW) (by rw [run_pick _ _ _ _ _ hop true (eval_of h0)]; exact congrArg (fun v => Result.ok (Next.value v) w') (eval_of h1))
  | 14, ho, hL, _ =>
    obtain ⟨hop, hdst, hgd⟩ := tab_at htab ho (show rmc4T[14]? = _ from rfl)
    simp only at hop hgd
    have h0 := frm_at hdis ha 13 338 (hds 13 338 rfl) (by omega) (depl_of hdep 14 13 (by decide) ho hd)
    exact doesL_run ho (wanted_none hgd) (hpure14 L w' hW (depl_of hdep 14 0 (by decide) ho hd)) (by rw [run_assign _ _ _ hop]; exact congrArg (fun v => Result.ok (Next.value v) w') (eval_of h0))
  | (i + 15), ho, hL, hi => exact absurd hi (by omega)
def rmz4T : List (Op × Option Tmp × Option (Nat × Bool)) := [
  (.move (.tmp 1), some 339, none),
  (.fieldAddr 33 (.tmp 5) 2, some 340, none),
  (.load 3 (.tmp 340), some 341, none),
  (.fieldAddr 33 (.tmp 5) 5, some 342, none),
  (.load 31 (.tmp 342), some 343, none),
  (.move (.tmp 22), some 344, none),
  (.indexAddr 31 (.tmp 343) (.tmp 344), some 345, none),
  (.load 3 (.tmp 345), some 346, none),
  (.convert 3 88 (.tmp 346), some 347, none),
  (.convert 88 3 (.tmp 347), some 348, none),
  (.call { callee := .value (.func 14), args := #[(.tmp 339), (.tmp 341), (.tmp 348)], argTypes := #[28, 3, 3] }, some 349, none)]
def rmz4D : List (Nat × Nat) := [(2, 1), (4, 3), (6, 4), (6, 5), (7, 6), (8, 7), (9, 8), (10, 0), (10, 2), (10, 9)]
set_option maxHeartbeats 2000000 in
theorem rmz4 {ops : Array Oper} {id : Nat} {Q : Exit → Act → World → Prop} (z u gl ql ln lc k : Nat) (size c : Int) (x : Int) (htab : ops.toList.map (fun o => (o.op, o.dst, o.guard)) = rmz4T) (hdep : deplB rmz4D ops = true) (hac : acB ops = true)
    (a0 : Act) (w : World) (hsz : 350 ≤ a0.tmps.size) (o1 : a0.tmps[1]? = some (.pointer (some ⟨z, 0, none⟩))) (o5 : a0.tmps[5]? = some (.pointer (some ⟨u, 0, none⟩))) (o22 : a0.tmps[22]? = some (.int .i64 (k : Int)))
    (Wd : (Nat → Bool) → World → Prop) (h0 : Wd (fun _ => false) w.drew) (hpure : ∀ i, i ∉ ([10] : List Nat) → ∀ L W, Wd L W → Wd (upd L i) W)
    (i6 : k < ln) (l2 : ∀ L W, Wd L W → W.cell? ⟨u, 0 + 2, none⟩ = some (.int .i64 size)) (l4 : ∀ L W, Wd L W → W.cell? ⟨u, 0 + 5, none⟩ = some (.slice (some ⟨gl, ql, none⟩) ln lc)) (l7 : ∀ L W, Wd L W → W.cell? ⟨gl, ql + k, none⟩ = some (.int .i64 x)) (v8 : Value.int .u16 (IntKind.u16.wrap x) = .int .u16 c) (v9 : Value.int .i64 (IntKind.i64.wrap c) = .int .i64 c)
    (c10 : ∀ L W, Wd L W → L 10 = false → Calls Tryd.prog 14 #[(.pointer (some ⟨z, 0, none⟩)), .int .i64 size, .int .i64 c] W fun e w' => e = .returned (.tuple #[]) ∧ Wd (upd L 10) w')
    (hend : ∀ L W, (∀ i, i < 11 → L i = true) → Wd L W → Q .normal (((((((((((a0.put (some 339) (.pointer (some ⟨z, 0, none⟩))).put (some 340) (.pointer (some ⟨u, 0 + 2, none⟩))).put (some 341) (.int .i64 size)).put (some 342) (.pointer (some ⟨u, 0 + 5, none⟩))).put (some 343) (.slice (some ⟨gl, ql, none⟩) ln lc)).put (some 344) (.int .i64 (k : Int))).put (some 345) (.pointer (some ⟨gl, ql + k, none⟩))).put (some 346) (.int .i64 x)).put (some 347) (.int .u16 c)).put (some 348) (.int .i64 c)).put (some 349) (.tuple #[])) W) : (Code.region id ops true).wp Tryd.prog Q a0 w := by
  let val : Nat → Value := fun i => match i with
    | 0 => (.pointer (some ⟨z, 0, none⟩))
    | 1 => (.pointer (some ⟨u, 0 + 2, none⟩))
    | 2 => (.int .i64 size)
    | 3 => (.pointer (some ⟨u, 0 + 5, none⟩))
    | 4 => (.slice (some ⟨gl, ql, none⟩) ln lc)
    | 5 => (.int .i64 (k : Int))
    | 6 => (.pointer (some ⟨gl, ql + k, none⟩))
    | 7 => (.int .i64 x)
    | 8 => (.int .u16 c)
    | 9 => (.int .i64 c)
    | 10 => (.tuple #[])
    | _ => undef
  have hosz : ops.size = 11 := by
    have := congrArg List.length htab
    simpa [rmz4T] using this
  have hds : ∀ i s, (rmz4T[i]?).bind (·.2.1) = some s → dstOf ops i = some s := fun i s hi => by rw [tab_dst htab, hi]
  have hdisB : disL rmz4T = true := by rfl
  have hdis := disL_of htab hdisB
  have hold : ∀ s, rmz4T.all (fun x => !(x.2.1 == some s)) = true → (List.range ops.size).all (fun j => !(dstOf ops j == some s)) = true := fun s h => holdL htab s h
  refine region_detL val Wd (hac_of hac) hdis h0 ?_ ?_
  rotate_left
  · intro L W hall hW
    have := hend L W (by rw [← hosz]; exact hall) hW
    have e : frm ops a0 val (fun _ => true) ops.size = (((((((((((a0.put (some 339) (.pointer (some ⟨z, 0, none⟩))).put (some 340) (.pointer (some ⟨u, 0 + 2, none⟩))).put (some 341) (.int .i64 size)).put (some 342) (.pointer (some ⟨u, 0 + 5, none⟩))).put (some 343) (.slice (some ⟨gl, ql, none⟩) ln lc)).put (some 344) (.int .i64 (k : Int))).put (some 345) (.pointer (some ⟨gl, ql + k, none⟩))).put (some 346) (.int .i64 x)).put (some 347) (.int .u16 c)).put (some 348) (.int .i64 c)).put (some 349) (.tuple #[])) := by
      rw [hosz]
      simp only [frm, if_true]
      rw [tab_dst htab 0, tab_dst htab 1, tab_dst htab 2, tab_dst htab 3, tab_dst htab 4, tab_dst htab 5, tab_dst htab 6, tab_dst htab 7, tab_dst htab 8, tab_dst htab 9, tab_dst htab 10]
      rfl
    rw [e]
    exact this
  intro i o ho L a w' hL hd ha hW
  have hi : i < 11 := by rw [← hosz]; exact (Array.getElem?_eq_some_iff.1 ho).1
  match i, ho, hL, hi with
  | 0, ho, hL, _ =>
    obtain ⟨hop, hdst, hgd⟩ := tab_at htab ho (show rmz4T[0]? = _ from rfl)
    simp only at hop hgd
    have h0 := frm_old ha 1 _ (hold 1 rfl) o1
    exact doesL_run ho (wanted_none hgd) (hpure 0 (by decide) L w' hW) (by rw [run_move _ _ _ hop]; exact congrArg (fun v => Result.ok (Next.value v) w') (eval_of h0))
  | 1, ho, hL, _ =>
    obtain ⟨hop, hdst, hgd⟩ := tab_at htab ho (show rmz4T[1]? = _ from rfl)
    simp only at hop hgd
    have h0 := frm_old ha 5 _ (hold 5 rfl) o5
    exact doesL_run ho (wanted_none hgd) (hpure 1 (by decide) L w' hW) (run_f33 _ _ _ 2 (by decide) hop _ _ (eval_of h0) _)
  | 2, ho, hL, _ =>
    obtain ⟨hop, hdst, hgd⟩ := tab_at htab ho (show rmz4T[2]? = _ from rfl)
    simp only at hop hgd
    have h0 := frm_at hdis ha 1 340 (hds 1 340 rfl) (by omega) (depl_of hdep 2 1 (by decide) ho hd)
    exact doesL_run ho (wanted_none hgd) (hpure 2 (by decide) L w' hW) (run_ld3 _ _ _ hop _ _ (eval_of h0) _ (l2 L w' hW))
  | 3, ho, hL, _ =>
    obtain ⟨hop, hdst, hgd⟩ := tab_at htab ho (show rmz4T[3]? = _ from rfl)
    simp only at hop hgd
    have h0 := frm_old ha 5 _ (hold 5 rfl) o5
    exact doesL_run ho (wanted_none hgd) (hpure 3 (by decide) L w' hW) (run_f33 _ _ _ 5 (by decide) hop _ _ (eval_of h0) _)
  | 4, ho, hL, _ =>
    obtain ⟨hop, hdst, hgd⟩ := tab_at htab ho (show rmz4T[4]? = _ from rfl)
    simp only at hop hgd
    have h0 := frm_at hdis ha 3 342 (hds 3 342 rfl) (by omega) (depl_of hdep 4 3 (by decide) ho hd)
    exact doesL_run ho (wanted_none hgd) (hpure 4 (by decide) L w' hW) (run_ld31 _ _ _ hop _ _ (eval_of h0) _ (l4 L w' hW))
  | 5, ho, hL, _ =>
    obtain ⟨hop, hdst, hgd⟩ := tab_at htab ho (show rmz4T[5]? = _ from rfl)
    simp only at hop hgd
    have h0 := frm_old ha 22 _ (hold 22 rfl) o22
    exact doesL_run ho (wanted_none hgd) (hpure 5 (by decide) L w' hW) (by rw [run_move _ _ _ hop]; exact congrArg (fun v => Result.ok (Next.value v) w') (eval_of h0))
  | 6, ho, hL, _ =>
    obtain ⟨hop, hdst, hgd⟩ := tab_at htab ho (show rmz4T[6]? = _ from rfl)
    simp only at hop hgd
    have h0 := frm_at hdis ha 4 343 (hds 4 343 rfl) (by omega) (depl_of hdep 6 4 (by decide) ho hd)
    have h1 := frm_at hdis ha 5 344 (hds 5 344 rfl) (by omega) (depl_of hdep 6 5 (by decide) ho hd)
    exact doesL_run ho (wanted_none hgd) (hpure 6 (by decide) L w' hW) (run_ia31 _ _ _ _ hop _ _ _ _ _ i6 (eval_of h0) (eval_of h1) _)
  | 7, ho, hL, _ =>
    obtain ⟨hop, hdst, hgd⟩ := tab_at htab ho (show rmz4T[7]? = _ from rfl)
    simp only at hop hgd
    have h0 := frm_at hdis ha 6 345 (hds 6 345 rfl) (by omega) (depl_of hdep 7 6 (by decide) ho hd)
    exact doesL_run ho (wanted_none hgd) (hpure 7 (by decide) L w' hW) (run_ld3 _ _ _ hop _ _ (eval_of h0) _ (l7 L w' hW))
  | 8, ho, hL, _ =>
    obtain ⟨hop, hdst, hgd⟩ := tab_at htab ho (show rmz4T[8]? = _ from rfl)
    simp only at hop hgd
    have h0 := frm_at hdis ha 7 346 (hds 7 346 rfl) (by omega) (depl_of hdep 8 7 (by decide) ho hd)
    exact doesL_run ho (wanted_none hgd) (hpure 8 (by decide) L w' hW) ((run_cv3_88 _ _ _ hop _ (eval_of h0) _).trans (congrArg (fun v => Result.ok (Next.value v) w') v8))
  | 9, ho, hL, _ =>
    obtain ⟨hop, hdst, hgd⟩ := tab_at htab ho (show rmz4T[9]? = _ from rfl)
    simp only at hop hgd
    have h0 := frm_at hdis ha 8 347 (hds 8 347 rfl) (by omega) (depl_of hdep 9 8 (by decide) ho hd)
    exact doesL_run ho (wanted_none hgd) (hpure 9 (by decide) L w' hW) ((run_cv88_3 _ _ _ hop _ (eval_of h0) _).trans (congrArg (fun v => Result.ok (Next.value v) w') v9))
  | 10, ho, hL, _ =>
    obtain ⟨hop, hdst, hgd⟩ := tab_at htab ho (show rmz4T[10]? = _ from rfl)
    simp only at hop hgd
    have h0 := frm_at hdis ha 0 339 (hds 0 339 rfl) (by omega) (depl_of hdep 10 0 (by decide) ho hd)
    have h1 := frm_at hdis ha 2 341 (hds 2 341 rfl) (by omega) (depl_of hdep 10 2 (by decide) ho hd)
    have h2 := frm_at hdis ha 9 348 (hds 9 348 rfl) (by omega) (depl_of hdep 10 9 (by decide) ho hd)
    refine doesL_call ho (wanted_none hgd) 14 #[(.pointer (some ⟨z, 0, none⟩)), .int .i64 size, .int .i64 c] ?_ (c10 L w' hW hL)
    rw [run_calls Tryd.func14 (by kernel_rfl) rfl _ _ _ _ hop rfl]
    simp only [List.map_toArray, List.map_cons, List.map_nil, eval_of h0, eval_of h1, eval_of h2]
    all_goals rfl
  | (i + 11), ho, hL, hi => exact absurd hi (by omega)
def rmc5T : List (Op × Option Tmp × Option (Nat × Bool)) := [
  (.move (.tmp 8), some 58, none),
  (.move (.tmp 58), some 59, none),
  (.move (.tmp 23), some 60, some (1, true)),
  (.move (.tmp 25), some 61, some (1, true)),
  (.indexAddr 90 (.tmp 60) (.tmp 61), some 62, some (1, true)),
  (.load 91 (.tmp 62), some 63, some (1, true)),
  (.fieldAddr 33 (.tmp 5) 5, some 64, some (1, true)),
  (.load 31 (.tmp 64), some 65, some (1, true)),
  (.move (.tmp 25), some 66, some (1, true)),
  (.indexAddr 31 (.tmp 65) (.tmp 66), some 67, some (1, true)),
  (.load 3 (.tmp 67), some 68, some (1, true)),
  (.convert 3 91 (.tmp 68), some 69, some (1, true)),
  (.binOp .eql 91 (.tmp 63) (.tmp 69) 91, some 70, some (1, true)),
  (.pick (.tmp 59) (.tmp 70) (.const (.bool false)), some 71, none),
  (.assign (.tmp 71), some 8, none)]
def rmc5D : List (Nat × Nat) := [(1, 0), (2, 1), (3, 1), (4, 1), (4, 2), (4, 3), (5, 1), (5, 4), (6, 1), (7, 1), (7, 6), (8, 1), (9, 1), (9, 7), (9, 8), (10, 1), (10, 9), (11, 1), (11, 10), (12, 1), (12, 5), (12, 11), (13, 1), (13, 12), (14, 0), (14, 13)]
set_option maxHeartbeats 2000000 in
theorem rmc5 {ops : Array Oper} {id : Nat} {Q : Exit → Act → World → Prop} (g n cap u gl ql ln lc k : Nat) (c : Int) (x : Int) (htab : ops.toList.map (fun o => (o.op, o.dst, o.guard)) = rmc5T) (hdep : deplB rmc5D ops = true) (hac : acB ops = true)
    (a0 : Act) (w : World) (hsz : 72 ≤ a0.tmps.size) (o5 : a0.tmps[5]? = some (.pointer (some ⟨u, 0, none⟩))) (o8 : a0.tmps[8]? = some (.bool true)) (o23 : a0.tmps[23]? = some (.slice (some ⟨g, 0, none⟩) n cap)) (o25 : a0.tmps[25]? = some (.int .i64 (k : Int)))
    (Wd : (Nat → Bool) → World → Prop) (h0 : Wd (fun _ => false) w.drew) (hpure : ∀ i, i ∉ ([14] : List Nat) → ∀ L W, Wd L W → Wd (upd L i) W)
    (hcl14 : ∀ L W, Wd L W → L 14 = true → L 0 = true) (hpure14 : ∀ L W, Wd L W → L 0 = true → Wd (upd L 14) W) (i4 : k < n) (i9 : k < ln)
    (l5 : ∀ L W, Wd L W → W.cell? ⟨g, 0 + k, none⟩ = some (.int .u32 c)) (l7 : ∀ L W, Wd L W → W.cell? ⟨u, 0 + 5, none⟩ = some (.slice (some ⟨gl, ql, none⟩) ln lc)) (l10 : ∀ L W, Wd L W → W.cell? ⟨gl, ql + k, none⟩ = some (.int .i64 x)) (v11 : Value.int .u32 (IntKind.u32.wrap x) = .int .u32 c)
    (hend : ∀ L W, (∀ i, i < 15 → L i = true) → Wd L W → Q .normal (((((((((((((((a0.put (some 58) (.bool true)).put (some 59) (.bool true)).put (some 60) (.slice (some ⟨g, 0, none⟩) n cap)).put (some 61) (.int .i64 (k : Int))).put (some 62) (.pointer (some ⟨g, 0 + k, none⟩))).put (some 63) (.int .u32 c)).put (some 64) (.pointer (some ⟨u, 0 + 5, none⟩))).put (some 65) (.slice (some ⟨gl, ql, none⟩) ln lc)).put (some 66) (.int .i64 (k : Int))).put (some 67) (.pointer (some ⟨gl, ql + k, none⟩))).put (some 68) (.int .i64 x)).put (some 69) (.int .u32 c)).put (some 70) (.bool true)).put (some 71) (.bool true)).put (some 8) (.bool true)) W) : (Code.region id ops true).wp Tryd.prog Q a0 w := by
  let val : Nat → Value := fun i => match i with
    | 0 => (.bool true)
    | 1 => (.bool true)
    | 2 => (.slice (some ⟨g, 0, none⟩) n cap)
    | 3 => (.int .i64 (k : Int))
    | 4 => (.pointer (some ⟨g, 0 + k, none⟩))
    | 5 => (.int .u32 c)
    | 6 => (.pointer (some ⟨u, 0 + 5, none⟩))
    | 7 => (.slice (some ⟨gl, ql, none⟩) ln lc)
    | 8 => (.int .i64 (k : Int))
    | 9 => (.pointer (some ⟨gl, ql + k, none⟩))
    | 10 => (.int .i64 x)
    | 11 => (.int .u32 c)
    | 12 => (.bool true)
    | 13 => (.bool true)
    | 14 => (.bool true)
    | _ => undef
  have hosz : ops.size = 15 := by
    have := congrArg List.length htab
    simpa [rmc5T] using this
  have hds : ∀ i s, (rmc5T[i]?).bind (·.2.1) = some s → dstOf ops i = some s := fun i s hi => by rw [tab_dst htab, hi]
  have hdisB : disL rmc5T = true := by rfl
  have hdis := disL_of htab hdisB
  have hold : ∀ s, rmc5T.all (fun x => !(x.2.1 == some s)) = true → (List.range ops.size).all (fun j => !(dstOf ops j == some s)) = true := fun s h => holdL htab s h
  refine region_detL val Wd (hac_of hac) hdis h0 ?_ ?_
  rotate_left
  · intro L W hall hW
    have := hend L W (by rw [← hosz]; exact hall) hW
    have e : frm ops a0 val (fun _ => true) ops.size = (((((((((((((((a0.put (some 58) (.bool true)).put (some 59) (.bool true)).put (some 60) (.slice (some ⟨g, 0, none⟩) n cap)).put (some 61) (.int .i64 (k : Int))).put (some 62) (.pointer (some ⟨g, 0 + k, none⟩))).put (some 63) (.int .u32 c)).put (some 64) (.pointer (some ⟨u, 0 + 5, none⟩))).put (some 65) (.slice (some ⟨gl, ql, none⟩) ln lc)).put (some 66) (.int .i64 (k : Int))).put (some 67) (.pointer (some ⟨gl, ql + k, none⟩))).put (some 68) (.int .i64 x)).put (some 69) (.int .u32 c)).put (some 70) (.bool true)).put (some 71) (.bool true)).put (some 8) (.bool true)) := by
      rw [hosz]
      simp only [frm, if_true]
      rw [tab_dst htab 0, tab_dst htab 1, tab_dst htab 2, tab_dst htab 3, tab_dst htab 4, tab_dst htab 5, tab_dst htab 6, tab_dst htab 7, tab_dst htab 8, tab_dst htab 9, tab_dst htab 10, tab_dst htab 11, tab_dst htab 12, tab_dst htab 13, tab_dst htab 14]
      rfl
    rw [e]
    exact this
  intro i o ho L a w' hL hd ha hW
  have hi : i < 15 := by rw [← hosz]; exact (Array.getElem?_eq_some_iff.1 ho).1
  match i, ho, hL, hi with
  | 0, ho, hL, _ =>
    obtain ⟨hop, hdst, hgd⟩ := tab_at htab ho (show rmc5T[0]? = _ from rfl)
    simp only at hop hgd
    have h0 : a.tmps[8]? = some (.bool true) := by rw [ha, frm_late a0 val L 8 14 (Bool.eq_false_iff.2 (fun h => by have := hcl14 L w' hW h; rw [hL] at this; cases this)) ops.size (late_of htab (by rfl))]; exact o8
    exact doesL_run ho (wanted_none hgd) (hpure 0 (by decide) L w' hW) (by rw [run_move _ _ _ hop]; exact congrArg (fun v => Result.ok (Next.value v) w') (eval_of h0))
  | 1, ho, hL, _ =>
    obtain ⟨hop, hdst, hgd⟩ := tab_at htab ho (show rmc5T[1]? = _ from rfl)
    simp only at hop hgd
    have h0 := frm_at hdis ha 0 58 (hds 0 58 rfl) (by omega) (depl_of hdep 1 0 (by decide) ho hd)
    exact doesL_run ho (wanted_none hgd) (hpure 1 (by decide) L w' hW) (by rw [run_move _ _ _ hop]; exact congrArg (fun v => Result.ok (Next.value v) w') (eval_of h0))
  | 2, ho, hL, _ =>
    obtain ⟨hop, hdst, hgd⟩ := tab_at htab ho (show rmc5T[2]? = _ from rfl)
    simp only at hop hgd
    have hg := frm_at hdis ha 1 59 (hds 1 59 rfl) (by omega) (depl_of hdep 2 1 (by decide) ho hd)
    have h0 := frm_old ha 23 _ (hold 23 rfl) o23
    exact doesL_run ho (wanted_at (b := true) hgd (hds 1 59 rfl) hg) (hpure 2 (by decide) L w' hW) (by rw [run_move _ _ _ hop]; exact congrArg (fun v => Result.ok (Next.value v) w') (eval_of h0))
  | 3, ho, hL, _ =>
    obtain ⟨hop, hdst, hgd⟩ := tab_at htab ho (show rmc5T[3]? = _ from rfl)
    simp only at hop hgd
    have hg := frm_at hdis ha 1 59 (hds 1 59 rfl) (by omega) (depl_of hdep 3 1 (by decide) ho hd)
    have h0 := frm_old ha 25 _ (hold 25 rfl) o25
    exact doesL_run ho (wanted_at (b := true) hgd (hds 1 59 rfl) hg) (hpure 3 (by decide) L w' hW) (by rw [run_move _ _ _ hop]; exact congrArg (fun v => Result.ok (Next.value v) w') (eval_of h0))
  | 4, ho, hL, _ =>
    obtain ⟨hop, hdst, hgd⟩ := tab_at htab ho (show rmc5T[4]? = _ from rfl)
    simp only at hop hgd
    have hg := frm_at hdis ha 1 59 (hds 1 59 rfl) (by omega) (depl_of hdep 4 1 (by decide) ho hd)
    have h0 := frm_at hdis ha 2 60 (hds 2 60 rfl) (by omega) (depl_of hdep 4 2 (by decide) ho hd)
    have h1 := frm_at hdis ha 3 61 (hds 3 61 rfl) (by omega) (depl_of hdep 4 3 (by decide) ho hd)
    exact doesL_run ho (wanted_at (b := true) hgd (hds 1 59 rfl) hg) (hpure 4 (by decide) L w' hW) (run_ia90 _ _ _ _ hop _ _ _ _ _ i4 (eval_of h0) (eval_of h1) _)
  | 5, ho, hL, _ =>
    obtain ⟨hop, hdst, hgd⟩ := tab_at htab ho (show rmc5T[5]? = _ from rfl)
    simp only at hop hgd
    have hg := frm_at hdis ha 1 59 (hds 1 59 rfl) (by omega) (depl_of hdep 5 1 (by decide) ho hd)
    have h0 := frm_at hdis ha 4 62 (hds 4 62 rfl) (by omega) (depl_of hdep 5 4 (by decide) ho hd)
    exact doesL_run ho (wanted_at (b := true) hgd (hds 1 59 rfl) hg) (hpure 5 (by decide) L w' hW) (run_ld91 _ _ _ hop _ _ (eval_of h0) _ (l5 L w' hW))
  | 6, ho, hL, _ =>
    obtain ⟨hop, hdst, hgd⟩ := tab_at htab ho (show rmc5T[6]? = _ from rfl)
    simp only at hop hgd
    have hg := frm_at hdis ha 1 59 (hds 1 59 rfl) (by omega) (depl_of hdep 6 1 (by decide) ho hd)
    have h0 := frm_old ha 5 _ (hold 5 rfl) o5
    exact doesL_run ho (wanted_at (b := true) hgd (hds 1 59 rfl) hg) (hpure 6 (by decide) L w' hW) (run_f33 _ _ _ 5 (by decide) hop _ _ (eval_of h0) _)
  | 7, ho, hL, _ =>
    obtain ⟨hop, hdst, hgd⟩ := tab_at htab ho (show rmc5T[7]? = _ from rfl)
    simp only at hop hgd
    have hg := frm_at hdis ha 1 59 (hds 1 59 rfl) (by omega) (depl_of hdep 7 1 (by decide) ho hd)
    have h0 := frm_at hdis ha 6 64 (hds 6 64 rfl) (by omega) (depl_of hdep 7 6 (by decide) ho hd)
    exact doesL_run ho (wanted_at (b := true) hgd (hds 1 59 rfl) hg) (hpure 7 (by decide) L w' hW) (run_ld31 _ _ _ hop _ _ (eval_of h0) _ (l7 L w' hW))
  | 8, ho, hL, _ =>
    obtain ⟨hop, hdst, hgd⟩ := tab_at htab ho (show rmc5T[8]? = _ from rfl)
    simp only at hop hgd
    have hg := frm_at hdis ha 1 59 (hds 1 59 rfl) (by omega) (depl_of hdep 8 1 (by decide) ho hd)
    have h0 := frm_old ha 25 _ (hold 25 rfl) o25
    exact doesL_run ho (wanted_at (b := true) hgd (hds 1 59 rfl) hg) (hpure 8 (by decide) L w' hW) (by rw [run_move _ _ _ hop]; exact congrArg (fun v => Result.ok (Next.value v) w') (eval_of h0))
  | 9, ho, hL, _ =>
    obtain ⟨hop, hdst, hgd⟩ := tab_at htab ho (show rmc5T[9]? = _ from rfl)
    simp only at hop hgd
    have hg := frm_at hdis ha 1 59 (hds 1 59 rfl) (by omega) (depl_of hdep 9 1 (by decide) ho hd)
    have h0 := frm_at hdis ha 7 65 (hds 7 65 rfl) (by omega) (depl_of hdep 9 7 (by decide) ho hd)
    have h1 := frm_at hdis ha 8 66 (hds 8 66 rfl) (by omega) (depl_of hdep 9 8 (by decide) ho hd)
    exact doesL_run ho (wanted_at (b := true) hgd (hds 1 59 rfl) hg) (hpure 9 (by decide) L w' hW) (run_ia31 _ _ _ _ hop _ _ _ _ _ i9 (eval_of h0) (eval_of h1) _)
  | 10, ho, hL, _ =>
    obtain ⟨hop, hdst, hgd⟩ := tab_at htab ho (show rmc5T[10]? = _ from rfl)
    simp only at hop hgd
    have hg := frm_at hdis ha 1 59 (hds 1 59 rfl) (by omega) (depl_of hdep 10 1 (by decide) ho hd)
    have h0 := frm_at hdis ha 9 67 (hds 9 67 rfl) (by omega) (depl_of hdep 10 9 (by decide) ho hd)
    exact doesL_run ho (wanted_at (b := true) hgd (hds 1 59 rfl) hg) (hpure 10 (by decide) L w' hW) (run_ld3 _ _ _ hop _ _ (eval_of h0) _ (l10 L w' hW))
  | 11, ho, hL, _ =>
    obtain ⟨hop, hdst, hgd⟩ := tab_at htab ho (show rmc5T[11]? = _ from rfl)
    simp only at hop hgd
    have hg := frm_at hdis ha 1 59 (hds 1 59 rfl) (by omega) (depl_of hdep 11 1 (by decide) ho hd)
    have h0 := frm_at hdis ha 10 68 (hds 10 68 rfl) (by omega) (depl_of hdep 11 10 (by decide) ho hd)
    exact doesL_run ho (wanted_at (b := true) hgd (hds 1 59 rfl) hg) (hpure 11 (by decide) L w' hW) ((run_cv3_91 _ _ _ hop _ (eval_of h0) _).trans (congrArg (fun v => Result.ok (Next.value v) w') v11))
  | 12, ho, hL, _ =>
    obtain ⟨hop, hdst, hgd⟩ := tab_at htab ho (show rmc5T[12]? = _ from rfl)
    simp only at hop hgd
    have hg := frm_at hdis ha 1 59 (hds 1 59 rfl) (by omega) (depl_of hdep 12 1 (by decide) ho hd)
    have h0 := frm_at hdis ha 5 63 (hds 5 63 rfl) (by omega) (depl_of hdep 12 5 (by decide) ho hd)
    have h1 := frm_at hdis ha 11 69 (hds 11 69 rfl) (by omega) (depl_of hdep 12 11 (by decide) ho hd)
    exact doesL_run ho (wanted_at (b := true) hgd (hds 1 59 rfl) hg) (hpure 12 (by decide) L w' hW) (run_sameK _ _ _ _ _ _ hop _ _ (eval_of h0) (eval_of h1) _)
  | 13, ho, hL, _ =>
    obtain ⟨hop, hdst, hgd⟩ := tab_at htab ho (show rmc5T[13]? = _ from rfl)
    simp only at hop hgd
    have h0 := frm_at hdis ha 1 59 (hds 1 59 rfl) (by omega) (depl_of hdep 13 1 (by decide) ho hd)
    have h1 := frm_at hdis ha 12 70 (hds 12 70 rfl) (by omega) (depl_of hdep 13 12 (by decide) ho hd)
    exact doesL_run ho (wanted_none hgd) (hpure 13 (by decide) L w' hW) (by rw [run_pick _ _ _ _ _ hop true (eval_of h0)]; exact congrArg (fun v => Result.ok (Next.value v) w') (eval_of h1))
  | 14, ho, hL, _ =>
    obtain ⟨hop, hdst, hgd⟩ := tab_at htab ho (show rmc5T[14]? = _ from rfl)
    simp only at hop hgd
    have h0 := frm_at hdis ha 13 71 (hds 13 71 rfl) (by omega) (depl_of hdep 14 13 (by decide) ho hd)
    exact doesL_run ho (wanted_none hgd) (hpure14 L w' hW (depl_of hdep 14 0 (by decide) ho hd)) (by rw [run_assign _ _ _ hop]; exact congrArg (fun v => Result.ok (Next.value v) w') (eval_of h0))
  | (i + 15), ho, hL, hi => exact absurd hi (by omega)
def rmz5T : List (Op × Option Tmp × Option (Nat × Bool)) := [
  (.move (.tmp 1), some 72, none),
  (.fieldAddr 33 (.tmp 5) 2, some 73, none),
  (.load 3 (.tmp 73), some 74, none),
  (.fieldAddr 33 (.tmp 5) 5, some 75, none),
  (.load 31 (.tmp 75), some 76, none),
  (.move (.tmp 25), some 77, none),
  (.indexAddr 31 (.tmp 76) (.tmp 77), some 78, none),
  (.load 3 (.tmp 78), some 79, none),
  (.convert 3 91 (.tmp 79), some 80, none),
  (.convert 91 3 (.tmp 80), some 81, none),
  (.call { callee := .value (.func 14), args := #[(.tmp 72), (.tmp 74), (.tmp 81)], argTypes := #[28, 3, 3] }, some 82, none)]
def rmz5D : List (Nat × Nat) := [(2, 1), (4, 3), (6, 4), (6, 5), (7, 6), (8, 7), (9, 8), (10, 0), (10, 2), (10, 9)]
set_option maxHeartbeats 2000000 in
theorem rmz5 {ops : Array Oper} {id : Nat} {Q : Exit → Act → World → Prop} (z u gl ql ln lc k : Nat) (size c : Int) (x : Int) (htab : ops.toList.map (fun o => (o.op, o.dst, o.guard)) = rmz5T) (hdep : deplB rmz5D ops = true) (hac : acB ops = true)
    (a0 : Act) (w : World) (hsz : 83 ≤ a0.tmps.size) (o1 : a0.tmps[1]? = some (.pointer (some ⟨z, 0, none⟩))) (o5 : a0.tmps[5]? = some (.pointer (some ⟨u, 0, none⟩))) (o25 : a0.tmps[25]? = some (.int .i64 (k : Int)))
    (Wd : (Nat → Bool) → World → Prop) (h0 : Wd (fun _ => false) w.drew) (hpure : ∀ i, i ∉ ([10] : List Nat) → ∀ L W, Wd L W → Wd (upd L i) W)
    (i6 : k < ln) (l2 : ∀ L W, Wd L W → W.cell? ⟨u, 0 + 2, none⟩ = some (.int .i64 size)) (l4 : ∀ L W, Wd L W → W.cell? ⟨u, 0 + 5, none⟩ = some (.slice (some ⟨gl, ql, none⟩) ln lc)) (l7 : ∀ L W, Wd L W → W.cell? ⟨gl, ql + k, none⟩ = some (.int .i64 x)) (v8 : Value.int .u32 (IntKind.u32.wrap x) = .int .u32 c) (v9 : Value.int .i64 (IntKind.i64.wrap c) = .int .i64 c)
    (c10 : ∀ L W, Wd L W → L 10 = false → Calls Tryd.prog 14 #[(.pointer (some ⟨z, 0, none⟩)), .int .i64 size, .int .i64 c] W fun e w' => e = .returned (.tuple #[]) ∧ Wd (upd L 10) w')
    (hend : ∀ L W, (∀ i, i < 11 → L i = true) → Wd L W → Q .normal (((((((((((a0.put (some 72) (.pointer (some ⟨z, 0, none⟩))).put (some 73) (.pointer (some ⟨u, 0 + 2, none⟩))).put (some 74) (.int .i64 size)).put (some 75) (.pointer (some ⟨u, 0 + 5, none⟩))).put (some 76) (.slice (some ⟨gl, ql, none⟩) ln lc)).put (some 77) (.int .i64 (k : Int))).put (some 78) (.pointer (some ⟨gl, ql + k, none⟩))).put (some 79) (.int .i64 x)).put (some 80) (.int .u32 c)).put (some 81) (.int .i64 c)).put (some 82) (.tuple #[])) W) : (Code.region id ops true).wp Tryd.prog Q a0 w := by
  let val : Nat → Value := fun i => match i with
    | 0 => (.pointer (some ⟨z, 0, none⟩))
    | 1 => (.pointer (some ⟨u, 0 + 2, none⟩))
    | 2 => (.int .i64 size)
    | 3 => (.pointer (some ⟨u, 0 + 5, none⟩))
    | 4 => (.slice (some ⟨gl, ql, none⟩) ln lc)
    | 5 => (.int .i64 (k : Int))
    | 6 => (.pointer (some ⟨gl, ql + k, none⟩))
    | 7 => (.int .i64 x)
    | 8 => (.int .u32 c)
    | 9 => (.int .i64 c)
    | 10 => (.tuple #[])
    | _ => undef
  have hosz : ops.size = 11 := by
    have := congrArg List.length htab
    simpa [rmz5T] using this
  have hds : ∀ i s, (rmz5T[i]?).bind (·.2.1) = some s → dstOf ops i = some s := fun i s hi => by rw [tab_dst htab, hi]
  have hdisB : disL rmz5T = true := by rfl
  have hdis := disL_of htab hdisB
  have hold : ∀ s, rmz5T.all (fun x => !(x.2.1 == some s)) = true → (List.range ops.size).all (fun j => !(dstOf ops j == some s)) = true := fun s h => holdL htab s h
  refine region_detL val Wd (hac_of hac) hdis h0 ?_ ?_
  rotate_left
  · intro L W hall hW
    have := hend L W (by rw [← hosz]; exact hall) hW
    have e : frm ops a0 val (fun _ => true) ops.size = (((((((((((a0.put (some 72) (.pointer (some ⟨z, 0, none⟩))).put (some 73) (.pointer (some ⟨u, 0 + 2, none⟩))).put (some 74) (.int .i64 size)).put (some 75) (.pointer (some ⟨u, 0 + 5, none⟩))).put (some 76) (.slice (some ⟨gl, ql, none⟩) ln lc)).put (some 77) (.int .i64 (k : Int))).put (some 78) (.pointer (some ⟨gl, ql + k, none⟩))).put (some 79) (.int .i64 x)).put (some 80) (.int .u32 c)).put (some 81) (.int .i64 c)).put (some 82) (.tuple #[])) := by
      rw [hosz]
      simp only [frm, if_true]
      rw [tab_dst htab 0, tab_dst htab 1, tab_dst htab 2, tab_dst htab 3, tab_dst htab 4, tab_dst htab 5, tab_dst htab 6, tab_dst htab 7, tab_dst htab 8, tab_dst htab 9, tab_dst htab 10]
      rfl
    rw [e]
    exact this
  intro i o ho L a w' hL hd ha hW
  have hi : i < 11 := by rw [← hosz]; exact (Array.getElem?_eq_some_iff.1 ho).1
  match i, ho, hL, hi with
  | 0, ho, hL, _ =>
    obtain ⟨hop, hdst, hgd⟩ := tab_at htab ho (show rmz5T[0]? = _ from rfl)
    simp only at hop hgd
    have h0 := frm_old ha 1 _ (hold 1 rfl) o1
    exact doesL_run ho (wanted_none hgd) (hpure 0 (by decide) L w' hW) (by rw [run_move _ _ _ hop]; exact congrArg (fun v => Result.ok (Next.value v) w') (eval_of h0))
  | 1, ho, hL, _ =>
    obtain ⟨hop, hdst, hgd⟩ := tab_at htab ho (show rmz5T[1]? = _ from rfl)
    simp only at hop hgd
    have h0 := frm_old ha 5 _ (hold 5 rfl) o5
    exact doesL_run ho (wanted_none hgd) (hpure 1 (by decide) L w' hW) (run_f33 _ _ _ 2 (by decide) hop _ _ (eval_of h0) _)
  | 2, ho, hL, _ =>
    obtain ⟨hop, hdst, hgd⟩ := tab_at htab ho (show rmz5T[2]? = _ from rfl)
    simp only at hop hgd
    have h0 := frm_at hdis ha 1 73 (hds 1 73 rfl) (by omega) (depl_of hdep 2 1 (by decide) ho hd)
    exact doesL_run ho (wanted_none hgd) (hpure 2 (by decide) L w' hW) (run_ld3 _ _ _ hop _ _ (eval_of h0) _ (l2 L w' hW))
  | 3, ho, hL, _ =>
    obtain ⟨hop, hdst, hgd⟩ := tab_at htab ho (show rmz5T[3]? = _ from rfl)
    simp only at hop hgd
    have h0 := frm_old ha 5 _ (hold 5 rfl) o5
    exact doesL_run ho (wanted_none hgd) (hpure 3 (by decide) L w' hW) (run_f33 _ _ _ 5 (by decide) hop _ _ (eval_of h0) _)
  | 4, ho, hL, _ =>
    obtain ⟨hop, hdst, hgd⟩ := tab_at htab ho (show rmz5T[4]? = _ from rfl)
    simp only at hop hgd
    have h0 := frm_at hdis ha 3 75 (hds 3 75 rfl) (by omega) (depl_of hdep 4 3 (by decide) ho hd)
    exact doesL_run ho (wanted_none hgd) (hpure 4 (by decide) L w' hW) (run_ld31 _ _ _ hop _ _ (eval_of h0) _ (l4 L w' hW))
  | 5, ho, hL, _ =>
    obtain ⟨hop, hdst, hgd⟩ := tab_at htab ho (show rmz5T[5]? = _ from rfl)
    simp only at hop hgd
    have h0 := frm_old ha 25 _ (hold 25 rfl) o25
    exact doesL_run ho (wanted_none hgd) (hpure 5 (by decide) L w' hW) (by rw [run_move _ _ _ hop]; exact congrArg (fun v => Result.ok (Next.value v) w') (eval_of h0))
  | 6, ho, hL, _ =>
    obtain ⟨hop, hdst, hgd⟩ := tab_at htab ho (show rmz5T[6]? = _ from rfl)
    simp only at hop hgd
    have h0 := frm_at hdis ha 4 76 (hds 4 76 rfl) (by omega) (depl_of hdep 6 4 (by decide) ho hd)
    have h1 := frm_at hdis ha 5 77 (hds 5 77 rfl) (by omega) (depl_of hdep 6 5 (by decide) ho hd)
    exact doesL_run ho (wanted_none hgd) (hpure 6 (by decide) L w' hW) (run_ia31 _ _ _ _ hop _ _ _ _ _ i6 (eval_of h0) (eval_of h1) _)
  | 7, ho, hL, _ =>
    obtain ⟨hop, hdst, hgd⟩ := tab_at htab ho (show rmz5T[7]? = _ from rfl)
    simp only at hop hgd
    have h0 := frm_at hdis ha 6 78 (hds 6 78 rfl) (by omega) (depl_of hdep 7 6 (by decide) ho hd)
    exact doesL_run ho (wanted_none hgd) (hpure 7 (by decide) L w' hW) (run_ld3 _ _ _ hop _ _ (eval_of h0) _ (l7 L w' hW))
  | 8, ho, hL, _ =>
    obtain ⟨hop, hdst, hgd⟩ := tab_at htab ho (show rmz5T[8]? = _ from rfl)
    simp only at hop hgd
    have h0 := frm_at hdis ha 7 79 (hds 7 79 rfl) (by omega) (depl_of hdep 8 7 (by decide) ho hd)
    exact doesL_run ho (wanted_none hgd) (hpure 8 (by decide) L w' hW) ((run_cv3_91 _ _ _ hop _ (eval_of h0) _).trans (congrArg (fun v => Result.ok (Next.value v) w') v8))
  | 9, ho, hL, _ =>
    obtain ⟨hop, hdst, hgd⟩ := tab_at htab ho (show rmz5T[9]? = _ from rfl)
    simp only at hop hgd
    have h0 := frm_at hdis ha 8 80 (hds 8 80 rfl) (by omega) (depl_of hdep 9 8 (by decide) ho hd)
    exact doesL_run ho (wanted_none hgd) (hpure 9 (by decide) L w' hW) ((run_cv91_3 _ _ _ hop _ (eval_of h0) _).trans (congrArg (fun v => Result.ok (Next.value v) w') v9))
  | 10, ho, hL, _ =>
    obtain ⟨hop, hdst, hgd⟩ := tab_at htab ho (show rmz5T[10]? = _ from rfl)
    simp only at hop hgd
    have h0 := frm_at hdis ha 0 72 (hds 0 72 rfl) (by omega) (depl_of hdep 10 0 (by decide) ho hd)
    have h1 := frm_at hdis ha 2 74 (hds 2 74 rfl) (by omega) (depl_of hdep 10 2 (by decide) ho hd)
    have h2 := frm_at hdis ha 9 81 (hds 9 81 rfl) (by omega) (depl_of hdep 10 9 (by decide) ho hd)
    refine doesL_call ho (wanted_none hgd) 14 #[(.pointer (some ⟨z, 0, none⟩)), .int .i64 size, .int .i64 c] ?_ (c10 L w' hW hL)
    rw [run_calls Tryd.func14 (by kernel_rfl) rfl _ _ _ _ hop rfl]
    simp only [List.map_toArray, List.map_cons, List.map_nil, eval_of h0, eval_of h1, eval_of h2]
    all_goals rfl
  | (i + 11), ho, hL, hi => exact absurd hi (by omega)
def rmnT : List (Op × Option Tmp × Option (Nat × Bool)) := [
  (.move (.tmp 0), some 92, none),
  (.fieldAddr 33 (.tmp 5) 2, some 93, none),
  (.load 3 (.tmp 93), some 94, none),
  (.move (.tmp 9), some 95, none),
  (.move (.tmp 7), some 96, none),
  (.slice 31 (.tmp 95) none (some (.tmp 96)) none, some 97, none),
  (.call { callee := .value (.func 61), args := #[(.tmp 92), (.tmp 94), (.tmp 97)], argTypes := #[25, 3, 31] }, some 98, none)]
def rmnD : List (Nat × Nat) := [(2, 1), (5, 3), (5, 4), (6, 0), (6, 2), (6, 5)]
set_option maxHeartbeats 2000000 in
theorem rmn {ops : Array Oper} {id : Nat} {Q : Exit → Act → World → Prop} (b u g n cap k : Nat) (size : Int) (htab : ops.toList.map (fun o => (o.op, o.dst, o.guard)) = rmnT) (hdep : deplB rmnD ops = true) (hac : acB ops = true)
    (a0 : Act) (w : World) (hsz : 99 ≤ a0.tmps.size) (o0 : a0.tmps[0]? = some (.pointer (some ⟨b, 0, none⟩))) (o5 : a0.tmps[5]? = some (.pointer (some ⟨u, 0, none⟩))) (o7 : a0.tmps[7]? = some (.int .i64 (k : Int))) (o9 : a0.tmps[9]? = some (.slice (some ⟨g, 0, none⟩) n cap))
    (Wd : (Nat → Bool) → World → Prop) (h0 : Wd (fun _ => false) w.drew) (hpure : ∀ i, i ∉ ([6] : List Nat) → ∀ L W, Wd L W → Wd (upd L i) W)
    (s5 : k ≤ cap) (l2 : ∀ L W, Wd L W → W.cell? ⟨u, 0 + 2, none⟩ = some (.int .i64 size))
    (c6 : ∀ L W, Wd L W → L 6 = false → Calls Tryd.prog 61 #[(.pointer (some ⟨b, 0, none⟩)), .int .i64 size, .slice (some ⟨g, 0, none⟩) k cap] W fun e w' => e = .returned (.tuple #[]) ∧ Wd (upd L 6) w')
    (hend : ∀ L W, (∀ i, i < 7 → L i = true) → Wd L W → Q .normal (((((((a0.put (some 92) (.pointer (some ⟨b, 0, none⟩))).put (some 93) (.pointer (some ⟨u, 0 + 2, none⟩))).put (some 94) (.int .i64 size)).put (some 95) (.slice (some ⟨g, 0, none⟩) n cap)).put (some 96) (.int .i64 (k : Int))).put (some 97) (.slice (some ⟨g, 0, none⟩) k cap)).put (some 98) (.tuple #[])) W) : (Code.region id ops true).wp Tryd.prog Q a0 w := by
  let val : Nat → Value := fun i => match i with
    | 0 => (.pointer (some ⟨b, 0, none⟩))
    | 1 => (.pointer (some ⟨u, 0 + 2, none⟩))
    | 2 => (.int .i64 size)
    | 3 => (.slice (some ⟨g, 0, none⟩) n cap)
    | 4 => (.int .i64 (k : Int))
    | 5 => (.slice (some ⟨g, 0, none⟩) k cap)
    | 6 => (.tuple #[])
    | _ => undef
  have hosz : ops.size = 7 := by
    have := congrArg List.length htab
    simpa [rmnT] using this
  have hds : ∀ i s, (rmnT[i]?).bind (·.2.1) = some s → dstOf ops i = some s := fun i s hi => by rw [tab_dst htab, hi]
  have hdisB : disL rmnT = true := by rfl
  have hdis := disL_of htab hdisB
  have hold : ∀ s, rmnT.all (fun x => !(x.2.1 == some s)) = true → (List.range ops.size).all (fun j => !(dstOf ops j == some s)) = true := fun s h => holdL htab s h
  refine region_detL val Wd (hac_of hac) hdis h0 ?_ ?_
  rotate_left
  · intro L W hall hW
    have := hend L W (by rw [← hosz]; exact hall) hW
    have e : frm ops a0 val (fun _ => true) ops.size = (((((((a0.put (some 92) (.pointer (some ⟨b, 0, none⟩))).put (some 93) (.pointer (some ⟨u, 0 + 2, none⟩))).put (some 94) (.int .i64 size)).put (some 95) (.slice (some ⟨g, 0, none⟩) n cap)).put (some 96) (.int .i64 (k : Int))).put (some 97) (.slice (some ⟨g, 0, none⟩) k cap)).put (some 98) (.tuple #[])) := by
      rw [hosz]
      simp only [frm, if_true]
      rw [tab_dst htab 0, tab_dst htab 1, tab_dst htab 2, tab_dst htab 3, tab_dst htab 4, tab_dst htab 5, tab_dst htab 6]
      rfl
    rw [e]
    exact this
  intro i o ho L a w' hL hd ha hW
  have hi : i < 7 := by rw [← hosz]; exact (Array.getElem?_eq_some_iff.1 ho).1
  match i, ho, hL, hi with
  | 0, ho, hL, _ =>
    obtain ⟨hop, hdst, hgd⟩ := tab_at htab ho (show rmnT[0]? = _ from rfl)
    simp only at hop hgd
    have h0 := frm_old ha 0 _ (hold 0 rfl) o0
    exact doesL_run ho (wanted_none hgd) (hpure 0 (by decide) L w' hW) (by rw [run_move _ _ _ hop]; exact congrArg (fun v => Result.ok (Next.value v) w') (eval_of h0))
  | 1, ho, hL, _ =>
    obtain ⟨hop, hdst, hgd⟩ := tab_at htab ho (show rmnT[1]? = _ from rfl)
    simp only at hop hgd
    have h0 := frm_old ha 5 _ (hold 5 rfl) o5
    exact doesL_run ho (wanted_none hgd) (hpure 1 (by decide) L w' hW) (run_f33 _ _ _ 2 (by decide) hop _ _ (eval_of h0) _)
  | 2, ho, hL, _ =>
    obtain ⟨hop, hdst, hgd⟩ := tab_at htab ho (show rmnT[2]? = _ from rfl)
    simp only at hop hgd
    have h0 := frm_at hdis ha 1 93 (hds 1 93 rfl) (by omega) (depl_of hdep 2 1 (by decide) ho hd)
    exact doesL_run ho (wanted_none hgd) (hpure 2 (by decide) L w' hW) (run_ld3 _ _ _ hop _ _ (eval_of h0) _ (l2 L w' hW))
  | 3, ho, hL, _ =>
    obtain ⟨hop, hdst, hgd⟩ := tab_at htab ho (show rmnT[3]? = _ from rfl)
    simp only at hop hgd
    have h0 := frm_old ha 9 _ (hold 9 rfl) o9
    exact doesL_run ho (wanted_none hgd) (hpure 3 (by decide) L w' hW) (by rw [run_move _ _ _ hop]; exact congrArg (fun v => Result.ok (Next.value v) w') (eval_of h0))
  | 4, ho, hL, _ =>
    obtain ⟨hop, hdst, hgd⟩ := tab_at htab ho (show rmnT[4]? = _ from rfl)
    simp only at hop hgd
    have h0 := frm_old ha 7 _ (hold 7 rfl) o7
    exact doesL_run ho (wanted_none hgd) (hpure 4 (by decide) L w' hW) (by rw [run_move _ _ _ hop]; exact congrArg (fun v => Result.ok (Next.value v) w') (eval_of h0))
  | 5, ho, hL, _ =>
    obtain ⟨hop, hdst, hgd⟩ := tab_at htab ho (show rmnT[5]? = _ from rfl)
    simp only at hop hgd
    have h0 := frm_at hdis ha 3 95 (hds 3 95 rfl) (by omega) (depl_of hdep 5 3 (by decide) ho hd)
    have h1 := frm_at hdis ha 4 96 (hds 4 96 rfl) (by omega) (depl_of hdep 5 4 (by decide) ho hd)
    exact doesL_run ho (wanted_none hgd) (hpure 5 (by decide) L w' hW) (run_cutS _ _ _ _ hop _ _ _ _ _ s5 (eval_of h0) (eval_of h1) _)
  | 6, ho, hL, _ =>
    obtain ⟨hop, hdst, hgd⟩ := tab_at htab ho (show rmnT[6]? = _ from rfl)
    simp only at hop hgd
    have h0 := frm_at hdis ha 0 92 (hds 0 92 rfl) (by omega) (depl_of hdep 6 0 (by decide) ho hd)
    have h1 := frm_at hdis ha 2 94 (hds 2 94 rfl) (by omega) (depl_of hdep 6 2 (by decide) ho hd)
    have h2 := frm_at hdis ha 5 97 (hds 5 97 rfl) (by omega) (depl_of hdep 6 5 (by decide) ho hd)
    refine doesL_call ho (wanted_none hgd) 61 #[(.pointer (some ⟨b, 0, none⟩)), .int .i64 size, .slice (some ⟨g, 0, none⟩) k cap] ?_ (c6 L w' hW hL)
    rw [run_calls Tryd.func61 (by kernel_rfl) rfl _ _ _ _ hop rfl]
    simp only [List.map_toArray, List.map_cons, List.map_nil, eval_of h0, eval_of h1, eval_of h2]
    all_goals rfl
  | (i + 7), ho, hL, hi => exact absurd hi (by omega)
end Go.Proofs.YthddilflldkmfaaDoor
