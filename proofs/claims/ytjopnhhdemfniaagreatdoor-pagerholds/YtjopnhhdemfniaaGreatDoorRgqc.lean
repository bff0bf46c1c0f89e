import Derived.Test.YtjopnhhdemfniaaGreatDoorRgqb
namespace Go.Proofs.YtjopnhhdemfniaaGreatDoor
open Go.RowKit
structure C3 where
  a : Value
  b : Value
  v : Value
def vrbh18 (Y m : Nat) (V0 Vs Vp : Value) (c : C3) (i : Nat) : Value := match i with
  | 0 => V0
  | 1 => Vs
  | 2 => (.int .i64 (m : Int))
  | 3 => c.a
  | 4 => (.pointer (some ⟨Y, 0 + 3, none⟩))
  | 5 => Vp
  | 6 => c.b
  | 7 => c.v
  | 8 => c.v
  | _ => undef
def rbh18T : List (Op × Option Tmp × Option (Nat × Bool)) := [
  (.move (.tmp 12), some 88, none),
  (.load 83 (.tmp 11), some 89, none),
  (.move (.tmp 6), some 90, none),
  (.call { callee := .value (.func 44), args := #[(.tmp 88), (.tmp 89), (.tmp 90)], argTypes := #[90, 83, 3] }, some 91, none),
  (.fieldAddr 83 (.tmp 11) 3, some 92, none),
  (.load 27 (.tmp 92), some 93, none),
  (.call { callee := .value (.func 45), args := #[(.tmp 93)], argTypes := #[27] }, some 94, none),
  (.call { callee := .builtin .append, args := #[(.tmp 91), (.tmp 94)], argTypes := #[22, 22] }, some 95, none),
  (.assign (.tmp 95), some 16, none)]
def rbh18D : List (Nat × Nat) := [(3, 0), (3, 1), (3, 2), (5, 4), (6, 5), (7, 3), (7, 6), (8, 7)]
set_option maxHeartbeats 4000000 in
theorem rbh18 {ops : Array Oper} {id : Nat} {Q : Exit → Act → World → Prop} (Y m : Nat) (V0 Vs Vp : Value) (htab : ops.toList.map (fun o => (o.op, o.dst, o.guard)) = rbh18T) (hdep : deplB rbh18D ops = true) (hac : acB ops = true)
    (a0 : Act) (w : World) (hsz : 96 ≤ a0.tmps.size) (o6 : a0.tmps[6]? = some (.int .i64 (m : Int))) (o11 : a0.tmps[11]? = some (.pointer (some ⟨Y, 0, none⟩))) (o12 : a0.tmps[12]? = some V0)
    (Wd : C3 → (Nat → Bool) → World → Prop) (h0 : ∃ c, Wd c (fun _ => false) w.drew) (hpure : ∀ i, i ∉ ([3, 6, 7, 8] : List Nat) → ∀ c L W, Wd c L W → Wd c (upd L i) W)
    (r1 : ∀ c L W, Wd c L W → L 1 = false → (Instr.loadAt 83 (.pointer (some ⟨Y, 0, none⟩))).run Tryz.prog W = .ok Vs W)
    (r3 : ∀ c L W, Wd c L W → L 3 = false → L 0 = true → L 1 = true → L 2 = true → Calls Tryz.prog 44 #[V0, Vs, (.int .i64 (m : Int))] W fun eg w' => ∃ c', (∀ j, L j = true → vrbh18 Y m V0 Vs Vp c' j = vrbh18 Y m V0 Vs Vp c j) ∧ eg = .returned (vrbh18 Y m V0 Vs Vp c' 3) ∧ Wd c' (upd L 3) w')
    (r5 : ∀ c L W, Wd c L W → L 5 = false → L 4 = true → (Instr.loadAt 27 (.pointer (some ⟨Y, 0 + 3, none⟩))).run Tryz.prog W = .ok Vp W)
    (r6 : ∀ c L W, Wd c L W → L 6 = false → L 5 = true → Calls Tryz.prog 45 #[Vp] W fun eg w' => ∃ c', (∀ j, L j = true → vrbh18 Y m V0 Vs Vp c' j = vrbh18 Y m V0 Vs Vp c j) ∧ eg = .returned (vrbh18 Y m V0 Vs Vp c' 6) ∧ Wd c' (upd L 6) w')
    (r7 : ∀ T, ∀ c L W, Wd c L W → L 7 = false → L 3 = true → L 6 = true → ∃ c' W', (∀ j, L j = true → vrbh18 Y m V0 Vs Vp c' j = vrbh18 Y m V0 Vs Vp c j) ∧ (Builtin.append_ #[22, 22] T #[c.a, c.b]).run Tryz.prog W = .ok (vrbh18 Y m V0 Vs Vp c' 7) W' ∧ Wd c' (upd L 7) W')
    (r8 : ∀ c L W, Wd c L W → L 8 = false → L 7 = true → Wd c (upd L 8) W)
    (hend : ∀ c L W, (∀ i, i < 9 → L i = true) → Wd c L W → Q .normal (((((((((a0.put (some 88) V0).put (some 89) Vs).put (some 90) (.int .i64 (m : Int))).put (some 91) c.a).put (some 92) (.pointer (some ⟨Y, 0 + 3, none⟩))).put (some 93) Vp).put (some 94) c.b).put (some 95) c.v).put (some 16) c.v) W) : (Code.region id ops true).wp Tryz.prog Q a0 w := by
  let val : C3 → Nat → Value := vrbh18 Y m V0 Vs Vp
  have hosz : ops.size = 9 := by
    have := congrArg List.length htab
    simpa [rbh18T] using this
  have hds : ∀ i s, (rbh18T[i]?).bind (·.2.1) = some s → dstOf ops i = some s := fun i s hi => by rw [tab_dst htab, hi]
  have hdisB : disL rbh18T = true := by rfl
  have hdis := disL_of htab hdisB
  have hold : ∀ s, rbh18T.all (fun x => !(x.2.1 == some s)) = true → (List.range ops.size).all (fun j => !(dstOf ops j == some s)) = true := fun s h => holdL htab s h
  refine region_detX val Wd (hac_of hac) hdis h0 ?_ ?_
  rotate_left
  · intro c L W hall hW
    have := hend c L W (by rw [← hosz]; exact hall) hW
    have e : frm ops a0 (val c) (fun _ => true) ops.size = (((((((((a0.put (some 88) V0).put (some 89) Vs).put (some 90) (.int .i64 (m : Int))).put (some 91) c.a).put (some 92) (.pointer (some ⟨Y, 0 + 3, none⟩))).put (some 93) Vp).put (some 94) c.b).put (some 95) c.v).put (some 16) c.v) := by
      rw [hosz]
      simp only [frm, if_true]
      rw [tab_dst htab 0, tab_dst htab 1, tab_dst htab 2, tab_dst htab 3, tab_dst htab 4, tab_dst htab 5, tab_dst htab 6, tab_dst htab 7, tab_dst htab 8]
      rfl
    rw [e]
    exact this
  intro i o ho c L a w' hL hd ha hW
  have hi : i < 9 := by rw [← hosz]; exact (Array.getElem?_eq_some_iff.1 ho).1
  match i, ho, hL, hi with
  | 0, ho, hL, _ =>
    obtain ⟨hop, hdst, hgd⟩ := tab_at htab ho (show rbh18T[0]? = _ from rfl)
    simp only at hop hgd
    have h0 := frm_old (val := val c) ha 12 _ (hold 12 rfl) o12
    exact doesX_of (doesL_run ho (wanted_none hgd) (hpure 0 (by decide) c L w' hW) (by rw [run_move _ _ _ hop]; exact congrArg (fun v => Result.ok (Next.value v) w') (eval_of h0)))
  | 1, ho, hL, _ =>
    obtain ⟨hop, hdst, hgd⟩ := tab_at htab ho (show rbh18T[1]? = _ from rfl)
    simp only at hop hgd
    have h0 := frm_old (val := val c) ha 11 _ (hold 11 rfl) o11
    exact doesX_of (doesL_run ho (wanted_none hgd) (hpure 1 (by decide) c L w' hW) (g_load hop (eval_of h0) (r1 c L w' hW hL)))
  | 2, ho, hL, _ =>
    obtain ⟨hop, hdst, hgd⟩ := tab_at htab ho (show rbh18T[2]? = _ from rfl)
    simp only at hop hgd
    have h0 := frm_old (val := val c) ha 6 _ (hold 6 rfl) o6
    exact doesX_of (doesL_run ho (wanted_none hgd) (hpure 2 (by decide) c L w' hW) (by rw [run_move _ _ _ hop]; exact congrArg (fun v => Result.ok (Next.value v) w') (eval_of h0)))
  | 3, ho, hL, _ =>
    obtain ⟨hop, hdst, hgd⟩ := tab_at htab ho (show rbh18T[3]? = _ from rfl)
    simp only at hop hgd
    have h0 := frm_at (val := val c) hdis ha 0 88 (hds 0 88 rfl) (by omega) (depl_of hdep 3 0 (by decide) ho hd)
    have h1 := frm_at (val := val c) hdis ha 1 89 (hds 1 89 rfl) (by omega) (depl_of hdep 3 1 (by decide) ho hd)
    have h2 := frm_at (val := val c) hdis ha 2 90 (hds 2 90 rfl) (by omega) (depl_of hdep 3 2 (by decide) ho hd)
    refine doesX_call ho (wanted_none hgd) 44 #[V0, Vs, (.int .i64 (m : Int))] ?_ (r3 c L w' hW hL (depl_of hdep 3 0 (by decide) ho hd) (depl_of hdep 3 1 (by decide) ho hd) (depl_of hdep 3 2 (by decide) ho hd))
    rw [run_calls Tryz.func44 (by kernel_rfl) rfl _ _ _ _ hop rfl]
    simp only [List.map_toArray, List.map_cons, List.map_nil, eval_of h0, eval_of h1, eval_of h2]
    all_goals rfl
  | 4, ho, hL, _ =>
    obtain ⟨hop, hdst, hgd⟩ := tab_at htab ho (show rbh18T[4]? = _ from rfl)
    simp only at hop hgd
    have h0 := frm_old (val := val c) ha 11 _ (hold 11 rfl) o11
    exact doesX_of (doesL_run ho (wanted_none hgd) (hpure 4 (by decide) c L w' hW) (g_field hop (eval_of h0) (by kernel_rfl)))
  | 5, ho, hL, _ =>
    obtain ⟨hop, hdst, hgd⟩ := tab_at htab ho (show rbh18T[5]? = _ from rfl)
    simp only at hop hgd
    have h0 := frm_at (val := val c) hdis ha 4 92 (hds 4 92 rfl) (by omega) (depl_of hdep 5 4 (by decide) ho hd)
    exact doesX_of (doesL_run ho (wanted_none hgd) (hpure 5 (by decide) c L w' hW) (g_load hop (eval_of h0) (r5 c L w' hW hL (depl_of hdep 5 4 (by decide) ho hd))))
  | 6, ho, hL, _ =>
    obtain ⟨hop, hdst, hgd⟩ := tab_at htab ho (show rbh18T[6]? = _ from rfl)
    simp only at hop hgd
    have h0 := frm_at (val := val c) hdis ha 5 93 (hds 5 93 rfl) (by omega) (depl_of hdep 6 5 (by decide) ho hd)
    refine doesX_call ho (wanted_none hgd) 45 #[Vp] ?_ (r6 c L w' hW hL (depl_of hdep 6 5 (by decide) ho hd))
    rw [run_calls Tryz.func45 (by kernel_rfl) rfl _ _ _ _ hop rfl]
    simp only [List.map_toArray, List.map_cons, List.map_nil, eval_of h0]
    all_goals rfl
  | 7, ho, hL, _ =>
    obtain ⟨hop, hdst, hgd⟩ := tab_at htab ho (show rbh18T[7]? = _ from rfl)
    simp only at hop hgd
    have h0 := frm_at (val := val c) hdis ha 3 91 (hds 3 91 rfl) (by omega) (depl_of hdep 7 3 (by decide) ho hd)
    have h1 := frm_at (val := val c) hdis ha 6 94 (hds 6 94 rfl) (by omega) (depl_of hdep 7 6 (by decide) ho hd)
    obtain ⟨c', W', q0, q1, q2⟩ := r7 _ c L w' hW hL (depl_of hdep 7 3 (by decide) ho hd) (depl_of hdep 7 6 (by decide) ho hd)
    exact doesX_runw ho (wanted_none hgd) c' q0 q2 (g_app hop (eval_of h0) (eval_of h1) q1)
  | 8, ho, hL, _ =>
    obtain ⟨hop, hdst, hgd⟩ := tab_at htab ho (show rbh18T[8]? = _ from rfl)
    simp only at hop hgd
    have h0 := frm_at (val := val c) hdis ha 7 95 (hds 7 95 rfl) (by omega) (depl_of hdep 8 7 (by decide) ho hd)
    exact doesX_of (doesL_run ho (wanted_none hgd) (r8 c L w' hW hL (depl_of hdep 8 7 (by decide) ho hd)) (by rw [run_assign _ _ _ hop]; exact congrArg (fun v => Result.ok (Next.value v) w') (eval_of h0)))
  | (i + 9), ho, hL, hi => exact absurd hi (by omega)
def vrbh56 (ga na ca gb nb cb gc nc cc kk zn : Nat) (s1 s2 : Bs) (bb : Bool) (_c : Unit) (i : Nat) : Value := match i with
  | 0 => (.slice (some ⟨ga, 0, none⟩) na ca)
  | 1 => (.slice (some ⟨gb, 0, none⟩) nb cb)
  | 2 => (.int .i64 (kk : Int))
  | 3 => (.pointer (some ⟨gb, 0 + kk, none⟩))
  | 4 => (.int .i64 (zn : Int))
  | 5 => (.pointer (some ⟨ga, 0 + zn, none⟩))
  | 6 => (S s1)
  | 7 => (.slice (some ⟨gc, 0, none⟩) nc cc)
  | 8 => (.slice (some ⟨gb, 0, none⟩) nb cb)
  | 9 => (.int .i64 (kk : Int))
  | 10 => (.pointer (some ⟨gb, 0 + kk, none⟩))
  | 11 => (.int .i64 (zn : Int))
  | 12 => (.pointer (some ⟨gc, 0 + zn, none⟩))
  | 13 => (S s2)
  | 14 => (.bool bb)
  | _ => undef
def rbh56T : List (Op × Option Tmp × Option (Nat × Bool)) := [
  (.move (.tmp 30), some 250, none),
  (.move (.tmp 16), some 251, none),
  (.move (.tmp 31), some 252, none),
  (.indexAddr 22 (.tmp 251) (.tmp 252), some 253, none),
  (.load 3 (.tmp 253), some 254, none),
  (.indexAddr 64 (.tmp 250) (.tmp 254), some 255, none),
  (.load 9 (.tmp 255), some 256, none),
  (.move (.tmp 15), some 257, none),
  (.move (.tmp 16), some 258, none),
  (.move (.tmp 31), some 259, none),
  (.indexAddr 22 (.tmp 258) (.tmp 259), some 260, none),
  (.load 3 (.tmp 260), some 261, none),
  (.indexAddr 64 (.tmp 257) (.tmp 261), some 262, none),
  (.load 9 (.tmp 262), some 263, none),
  (.binOp .neq 9 (.tmp 256) (.tmp 263) 9, some 264, none)]
def rbh56D : List (Nat × Nat) := [(3, 1), (3, 2), (4, 3), (5, 0), (5, 4), (6, 5), (10, 8), (10, 9), (11, 10), (12, 7), (12, 11), (13, 12), (14, 6), (14, 13)]
set_option maxHeartbeats 4000000 in
theorem rbh56 {ops : Array Oper} {id : Nat} {Q : Exit → Act → World → Prop} (ga na ca gb nb cb gc nc cc kk zn : Nat) (s1 s2 : Bs) (bb : Bool) (htab : ops.toList.map (fun o => (o.op, o.dst, o.guard)) = rbh56T) (hdep : deplB rbh56D ops = true) (hac : acB ops = true)
    (a0 : Act) (w : World) (hsz : 265 ≤ a0.tmps.size) (o15 : a0.tmps[15]? = some (.slice (some ⟨gc, 0, none⟩) nc cc)) (o16 : a0.tmps[16]? = some (.slice (some ⟨gb, 0, none⟩) nb cb)) (o30 : a0.tmps[30]? = some (.slice (some ⟨ga, 0, none⟩) na ca)) (o31 : a0.tmps[31]? = some (.int .i64 (kk : Int)))
    (Wd : Unit → (Nat → Bool) → World → Prop) (h0 : ∃ c, Wd c (fun _ => false) w.drew) (hpure : ∀ i, i ∉ ([] : List Nat) → ∀ c L W, Wd c L W → Wd c (upd L i) W)
    (r3 : ∀ W, (Instr.indexAt 22 (.slice (some ⟨gb, 0, none⟩) nb cb) (.int .i64 (kk : Int))).run Tryz.prog W = .ok (.pointer (some ⟨gb, 0 + kk, none⟩)) W)
    (r4 : ∀ c L W, Wd c L W → L 4 = false → L 3 = true → (Instr.loadAt 3 (.pointer (some ⟨gb, 0 + kk, none⟩))).run Tryz.prog W = .ok (.int .i64 (zn : Int)) W)
    (r5 : ∀ W, (Instr.indexAt 64 (.slice (some ⟨ga, 0, none⟩) na ca) (.int .i64 (zn : Int))).run Tryz.prog W = .ok (.pointer (some ⟨ga, 0 + zn, none⟩)) W)
    (r6 : ∀ c L W, Wd c L W → L 6 = false → L 5 = true → (Instr.loadAt 9 (.pointer (some ⟨ga, 0 + zn, none⟩))).run Tryz.prog W = .ok (S s1) W)
    (r10 : ∀ W, (Instr.indexAt 22 (.slice (some ⟨gb, 0, none⟩) nb cb) (.int .i64 (kk : Int))).run Tryz.prog W = .ok (.pointer (some ⟨gb, 0 + kk, none⟩)) W)
    (r11 : ∀ c L W, Wd c L W → L 11 = false → L 10 = true → (Instr.loadAt 3 (.pointer (some ⟨gb, 0 + kk, none⟩))).run Tryz.prog W = .ok (.int .i64 (zn : Int)) W)
    (r12 : ∀ W, (Instr.indexAt 64 (.slice (some ⟨gc, 0, none⟩) nc cc) (.int .i64 (zn : Int))).run Tryz.prog W = .ok (.pointer (some ⟨gc, 0 + zn, none⟩)) W)
    (r13 : ∀ c L W, Wd c L W → L 13 = false → L 12 = true → (Instr.loadAt 9 (.pointer (some ⟨gc, 0 + zn, none⟩))).run Tryz.prog W = .ok (S s2) W)
    (r14 : ∀ W, (do eqGuard .neq 9 (.tmp 256) (.tmp 263) (S s1) (S s2); binOp .neq 9 (S s1) (S s2)).run Tryz.prog W = .ok (.bool bb) W)
    (hend : ∀ c L W, (∀ i, i < 15 → L i = true) → Wd c L W → Q .normal (((((((((((((((a0.put (some 250) (.slice (some ⟨ga, 0, none⟩) na ca)).put (some 251) (.slice (some ⟨gb, 0, none⟩) nb cb)).put (some 252) (.int .i64 (kk : Int))).put (some 253) (.pointer (some ⟨gb, 0 + kk, none⟩))).put (some 254) (.int .i64 (zn : Int))).put (some 255) (.pointer (some ⟨ga, 0 + zn, none⟩))).put (some 256) (S s1)).put (some 257) (.slice (some ⟨gc, 0, none⟩) nc cc)).put (some 258) (.slice (some ⟨gb, 0, none⟩) nb cb)).put (some 259) (.int .i64 (kk : Int))).put (some 260) (.pointer (some ⟨gb, 0 + kk, none⟩))).put (some 261) (.int .i64 (zn : Int))).put (some 262) (.pointer (some ⟨gc, 0 + zn, none⟩))).put (some 263) (S s2)).put (some 264) (.bool bb)) W) : (Code.region id ops true).wp Tryz.prog Q a0 w := by
  let val : Unit → Nat → Value := vrbh56 ga na ca gb nb cb gc nc cc kk zn s1 s2 bb
  have hosz : ops.size = 15 := by
    have := congrArg List.length htab
    simpa [rbh56T] using this
  have hds : ∀ i s, (rbh56T[i]?).bind (·.2.1) = some s → dstOf ops i = some s := fun i s hi => by rw [tab_dst htab, hi]
  have hdisB : disL rbh56T = true := by rfl
  have hdis := disL_of htab hdisB
  have hold : ∀ s, rbh56T.all (fun x => !(x.2.1 == some s)) = true → (List.range ops.size).all (fun j => !(dstOf ops j == some s)) = true := fun s h => holdL htab s h
  refine region_detX val Wd (hac_of hac) hdis h0 ?_ ?_
  rotate_left
  · intro c L W hall hW
    have := hend c L W (by rw [← hosz]; exact hall) hW
    have e : frm ops a0 (val c) (fun _ => true) ops.size = (((((((((((((((a0.put (some 250) (.slice (some ⟨ga, 0, none⟩) na ca)).put (some 251) (.slice (some ⟨gb, 0, none⟩) nb cb)).put (some 252) (.int .i64 (kk : Int))).put (some 253) (.pointer (some ⟨gb, 0 + kk, none⟩))).put (some 254) (.int .i64 (zn : Int))).put (some 255) (.pointer (some ⟨ga, 0 + zn, none⟩))).put (some 256) (S s1)).put (some 257) (.slice (some ⟨gc, 0, none⟩) nc cc)).put (some 258) (.slice (some ⟨gb, 0, none⟩) nb cb)).put (some 259) (.int .i64 (kk : Int))).put (some 260) (.pointer (some ⟨gb, 0 + kk, none⟩))).put (some 261) (.int .i64 (zn : Int))).put (some 262) (.pointer (some ⟨gc, 0 + zn, none⟩))).put (some 263) (S s2)).put (some 264) (.bool bb)) := by
      rw [hosz]
      simp only [frm, if_true]
      rw [tab_dst htab 0, tab_dst htab 1, tab_dst htab 2, tab_dst htab 3, tab_dst htab 4, tab_dst htab 5, tab_dst htab 6, tab_dst htab 7, tab_dst htab 8, tab_dst htab 9, tab_dst htab 10, tab_dst htab 11, tab_dst htab 12, tab_dst htab 13, tab_dst htab 14]
      rfl
    rw [e]
    exact this
  intro i o ho c L a w' hL hd ha hW
  have hi : i < 15 := by rw [← hosz]; exact (Array.getElem?_eq_some_iff.1 ho).1
  match i, ho, hL, hi with
  | 0, ho, hL, _ =>
    obtain ⟨hop, hdst, hgd⟩ := tab_at htab ho (show rbh56T[0]? = _ from rfl)
    simp only at hop hgd
    have h0 := frm_old (val := val c) ha 30 _ (hold 30 rfl) o30
    exact doesX_of (doesL_run ho (wanted_none hgd) (hpure 0 (by decide) c L w' hW) (by rw [run_move _ _ _ hop]; exact congrArg (fun v => Result.ok (Next.value v) w') (eval_of h0)))
  | 1, ho, hL, _ =>
    obtain ⟨hop, hdst, hgd⟩ := tab_at htab ho (show rbh56T[1]? = _ from rfl)
    simp only at hop hgd
    have h0 := frm_old (val := val c) ha 16 _ (hold 16 rfl) o16
    exact doesX_of (doesL_run ho (wanted_none hgd) (hpure 1 (by decide) c L w' hW) (by rw [run_move _ _ _ hop]; exact congrArg (fun v => Result.ok (Next.value v) w') (eval_of h0)))
  | 2, ho, hL, _ =>
    obtain ⟨hop, hdst, hgd⟩ := tab_at htab ho (show rbh56T[2]? = _ from rfl)
    simp only at hop hgd
    have h0 := frm_old (val := val c) ha 31 _ (hold 31 rfl) o31
    exact doesX_of (doesL_run ho (wanted_none hgd) (hpure 2 (by decide) c L w' hW) (by rw [run_move _ _ _ hop]; exact congrArg (fun v => Result.ok (Next.value v) w') (eval_of h0)))
  | 3, ho, hL, _ =>
    obtain ⟨hop, hdst, hgd⟩ := tab_at htab ho (show rbh56T[3]? = _ from rfl)
    simp only at hop hgd
    have h0 := frm_at (val := val c) hdis ha 1 251 (hds 1 251 rfl) (by omega) (depl_of hdep 3 1 (by decide) ho hd)
    have h1 := frm_at (val := val c) hdis ha 2 252 (hds 2 252 rfl) (by omega) (depl_of hdep 3 2 (by decide) ho hd)
    exact doesX_of (doesL_run ho (wanted_none hgd) (hpure 3 (by decide) c L w' hW) (g_ixa hop (eval_of h0) (eval_of h1) (r3 w')))
  | 4, ho, hL, _ =>
    obtain ⟨hop, hdst, hgd⟩ := tab_at htab ho (show rbh56T[4]? = _ from rfl)
    simp only at hop hgd
    have h0 := frm_at (val := val c) hdis ha 3 253 (hds 3 253 rfl) (by omega) (depl_of hdep 4 3 (by decide) ho hd)
    exact doesX_of (doesL_run ho (wanted_none hgd) (hpure 4 (by decide) c L w' hW) (g_load hop (eval_of h0) (r4 c L w' hW hL (depl_of hdep 4 3 (by decide) ho hd))))
  | 5, ho, hL, _ =>
    obtain ⟨hop, hdst, hgd⟩ := tab_at htab ho (show rbh56T[5]? = _ from rfl)
    simp only at hop hgd
    have h0 := frm_at (val := val c) hdis ha 0 250 (hds 0 250 rfl) (by omega) (depl_of hdep 5 0 (by decide) ho hd)
    have h1 := frm_at (val := val c) hdis ha 4 254 (hds 4 254 rfl) (by omega) (depl_of hdep 5 4 (by decide) ho hd)
    exact doesX_of (doesL_run ho (wanted_none hgd) (hpure 5 (by decide) c L w' hW) (g_ixa hop (eval_of h0) (eval_of h1) (r5 w')))
  | 6, ho, hL, _ =>
    obtain ⟨hop, hdst, hgd⟩ := tab_at htab ho (show rbh56T[6]? = _ from rfl)
    simp only at hop hgd
    have h0 := frm_at (val := val c) hdis ha 5 255 (hds 5 255 rfl) (by omega) (depl_of hdep 6 5 (by decide) ho hd)
    exact doesX_of (doesL_run ho (wanted_none hgd) (hpure 6 (by decide) c L w' hW) (g_load hop (eval_of h0) (r6 c L w' hW hL (depl_of hdep 6 5 (by decide) ho hd))))
  | 7, ho, hL, _ =>
    obtain ⟨hop, hdst, hgd⟩ := tab_at htab ho (show rbh56T[7]? = _ from rfl)
    simp only at hop hgd
    have h0 := frm_old (val := val c) ha 15 _ (hold 15 rfl) o15
    exact doesX_of (doesL_run ho (wanted_none hgd) (hpure 7 (by decide) c L w' hW) (by rw [run_move _ _ _ hop]; exact congrArg (fun v => Result.ok (Next.value v) w') (eval_of h0)))
  | 8, ho, hL, _ =>
    obtain ⟨hop, hdst, hgd⟩ := tab_at htab ho (show rbh56T[8]? = _ from rfl)
    simp only at hop hgd
    have h0 := frm_old (val := val c) ha 16 _ (hold 16 rfl) o16
    exact doesX_of (doesL_run ho (wanted_none hgd) (hpure 8 (by decide) c L w' hW) (by rw [run_move _ _ _ hop]; exact congrArg (fun v => Result.ok (Next.value v) w') (eval_of h0)))
  | 9, ho, hL, _ =>
    obtain ⟨hop, hdst, hgd⟩ := tab_at htab ho (show rbh56T[9]? = _ from rfl)
    simp only at hop hgd
    have h0 := frm_old (val := val c) ha 31 _ (hold 31 rfl) o31
    exact doesX_of (doesL_run ho (wanted_none hgd) (hpure 9 (by decide) c L w' hW) (by rw [run_move _ _ _ hop]; exact congrArg (fun v => Result.ok (Next.value v) w') (eval_of h0)))
  | 10, ho, hL, _ =>
    obtain ⟨hop, hdst, hgd⟩ := tab_at htab ho (show rbh56T[10]? = _ from rfl)
    simp only at hop hgd
    have h0 := frm_at (val := val c) hdis ha 8 258 (hds 8 258 rfl) (by omega) (depl_of hdep 10 8 (by decide) ho hd)
    have h1 := frm_at (val := val c) hdis ha 9 259 (hds 9 259 rfl) (by omega) (depl_of hdep 10 9 (by decide) ho hd)
    exact doesX_of (doesL_run ho (wanted_none hgd) (hpure 10 (by decide) c L w' hW) (g_ixa hop (eval_of h0) (eval_of h1) (r10 w')))
  | 11, ho, hL, _ =>
    obtain ⟨hop, hdst, hgd⟩ := tab_at htab ho (show rbh56T[11]? = _ from rfl)
    simp only at hop hgd
    have h0 := frm_at (val := val c) hdis ha 10 260 (hds 10 260 rfl) (by omega) (depl_of hdep 11 10 (by decide) ho hd)
    exact doesX_of (doesL_run ho (wanted_none hgd) (hpure 11 (by decide) c L w' hW) (g_load hop (eval_of h0) (r11 c L w' hW hL (depl_of hdep 11 10 (by decide) ho hd))))
  | 12, ho, hL, _ =>
    obtain ⟨hop, hdst, hgd⟩ := tab_at htab ho (show rbh56T[12]? = _ from rfl)
    simp only at hop hgd
    have h0 := frm_at (val := val c) hdis ha 7 257 (hds 7 257 rfl) (by omega) (depl_of hdep 12 7 (by decide) ho hd)
    have h1 := frm_at (val := val c) hdis ha 11 261 (hds 11 261 rfl) (by omega) (depl_of hdep 12 11 (by decide) ho hd)
    exact doesX_of (doesL_run ho (wanted_none hgd) (hpure 12 (by decide) c L w' hW) (g_ixa hop (eval_of h0) (eval_of h1) (r12 w')))
  | 13, ho, hL, _ =>
    obtain ⟨hop, hdst, hgd⟩ := tab_at htab ho (show rbh56T[13]? = _ from rfl)
    simp only at hop hgd
    have h0 := frm_at (val := val c) hdis ha 12 262 (hds 12 262 rfl) (by omega) (depl_of hdep 13 12 (by decide) ho hd)
    exact doesX_of (doesL_run ho (wanted_none hgd) (hpure 13 (by decide) c L w' hW) (g_load hop (eval_of h0) (r13 c L w' hW hL (depl_of hdep 13 12 (by decide) ho hd))))
  | 14, ho, hL, _ =>
    obtain ⟨hop, hdst, hgd⟩ := tab_at htab ho (show rbh56T[14]? = _ from rfl)
    simp only at hop hgd
    have h0 := frm_at (val := val c) hdis ha 6 256 (hds 6 256 rfl) (by omega) (depl_of hdep 14 6 (by decide) ho hd)
    have h1 := frm_at (val := val c) hdis ha 13 263 (hds 13 263 rfl) (by omega) (depl_of hdep 14 13 (by decide) ho hd)
    exact doesX_of (doesL_run ho (wanted_none hgd) (hpure 14 (by decide) c L w' hW) (g_bin hop (eval_of h0) (eval_of h1) (r14 w')))
  | (i + 15), ho, hL, hi => exact absurd hi (by omega)
end Go.Proofs.YtjopnhhdemfniaaGreatDoor
