import Derived.Test.YtjopnhhdemfniaaGreatDoorZdetl
namespace Go.Proofs.YtjopnhhdemfniaaGreatDoor
open Go.RowKit
def vrnx1 (X : Nat) (gen root cc : Int) (nt : Bs) (c : Nat) (i : Nat) : Value := match i with
  | 0 => (.pointer (some ⟨X, 0 + 0, none⟩))
  | 1 => (I gen)
  | 2 => (I (gen + 1))
  | 3 => (.pointer (some ⟨X, 0 + 1, none⟩))
  | 4 => (I root)
  | 5 => (I cc)
  | 6 => (S nt)
  | 7 => (.agg #[I (gen + 1), I root, S nt, .slice none 0 0])
  | 8 => (.pointer (some ⟨c, 0, none⟩))
  | 9 => undef
  | _ => undef
def rnx1T : List (Op × Option Tmp × Option (Nat × Bool)) := [
  (.fieldAddr 83 (.tmp 4) 0, some 18, none),
  (.load 3 (.tmp 18), some 19, none),
  (.binOp .add 3 (.tmp 19) (.const (.int .i64 1)) 3, some 20, none),
  (.fieldAddr 83 (.tmp 4) 1, some 21, none),
  (.load 3 (.tmp 21), some 22, none),
  (.move (.tmp 3), some 23, none),
  (.call { callee := .value (.func 22), args := #[(.tmp 23)], argTypes := #[3] }, some 24, none),
  (.build 83 #[(0, (.tmp 20)), (1, (.tmp 22)), (2, (.tmp 24))], some 25, none),
  (.alloc 83, some 11, none),
  (.store 83 (.tmp 11) (.tmp 25), none, none)]
def rnx1D : List (Nat × Nat) := [(1, 0), (2, 1), (4, 3), (6, 5), (7, 2), (7, 4), (7, 6), (9, 7), (9, 8)]
set_option maxHeartbeats 4000000 in
theorem rnx1 {ops : Array Oper} {id : Nat} {Q : Exit → Act → World → Prop} (X : Nat) (gen root cc : Int) (nt : Bs) (htab : ops.toList.map (fun o => (o.op, o.dst, o.guard)) = rnx1T) (hdep : deplB rnx1D ops = true) (hac : acB ops = true)
    (a0 : Act) (w : World) (hsz : 26 ≤ a0.tmps.size) (o3 : a0.tmps[3]? = some (I cc)) (o4 : a0.tmps[4]? = some (.pointer (some ⟨X, 0, none⟩)))
    (Wd : Nat → (Nat → Bool) → World → Prop) (h0 : ∃ c, Wd c (fun _ => false) w.drew) (hpure : ∀ i, i ∉ ([6, 8, 9] : List Nat) → ∀ c L W, Wd c L W → Wd c (upd L i) W)
    (r1 : ∀ c L W, Wd c L W → L 1 = false → L 0 = true → (Instr.loadAt 3 (.pointer (some ⟨X, 0 + 0, none⟩))).run Tryz.prog W = .ok (I gen) W)
    (r2 : ∀ W, (do eqGuard .add 3 (.tmp 19) (.const (.int .i64 1)) (I gen) (.int .i64 1); binOp .add 3 (I gen) (.int .i64 1)).run Tryz.prog W = .ok (I (gen + 1)) W)
    (r4 : ∀ c L W, Wd c L W → L 4 = false → L 3 = true → (Instr.loadAt 3 (.pointer (some ⟨X, 0 + 1, none⟩))).run Tryz.prog W = .ok (I root) W)
    (r6 : ∀ c L W, Wd c L W → L 6 = false → L 5 = true → Calls Tryz.prog 22 #[(I cc)] W fun eg w' => ∃ c', (∀ j, L j = true → vrnx1 X gen root cc nt c' j = vrnx1 X gen root cc nt c j) ∧ eg = .returned (vrnx1 X gen root cc nt c' 6) ∧ Wd c' (upd L 6) w')
    (r7 : ∀ W, (Instr.build 83 #[(0, (I (gen + 1))), (1, (I root)), (2, (S nt))]).run Tryz.prog W = .ok (.agg #[I (gen + 1), I root, S nt, .slice none 0 0]) W)
    (r8 : ∀ c L W, Wd c L W → L 8 = false → ∃ c' W', (∀ j, L j = true → vrnx1 X gen root cc nt c' j = vrnx1 X gen root cc nt c j) ∧ (Instr.alloc 83 true (.tuple #[])).run Tryz.prog W = .ok (vrnx1 X gen root cc nt c' 8) W' ∧ Wd c' (upd L 8) W')
    (r9 : ∀ c L W, Wd c L W → L 9 = false → L 7 = true → L 8 = true → ∃ W', (Instr.storeAt 83 (.pointer (some ⟨c, 0, none⟩)) (.agg #[I (gen + 1), I root, S nt, .slice none 0 0])).run Tryz.prog W = .ok () W' ∧ Wd c (upd L 9) W')
    (hend : ∀ c L W, (∀ i, i < 10 → L i = true) → Wd c L W → Q .normal (((((((((a0.put (some 18) (.pointer (some ⟨X, 0 + 0, none⟩))).put (some 19) (I gen)).put (some 20) (I (gen + 1))).put (some 21) (.pointer (some ⟨X, 0 + 1, none⟩))).put (some 22) (I root)).put (some 23) (I cc)).put (some 24) (S nt)).put (some 25) (.agg #[I (gen + 1), I root, S nt, .slice none 0 0])).put (some 11) (.pointer (some ⟨c, 0, none⟩))) W) : (Code.region id ops true).wp Tryz.prog Q a0 w := by
  let val : Nat → Nat → Value := vrnx1 X gen root cc nt
  have hosz : ops.size = 10 := by
    have := congrArg List.length htab
    simpa [rnx1T] using this
  have hds : ∀ i s, (rnx1T[i]?).bind (·.2.1) = some s → dstOf ops i = some s := fun i s hi => by rw [tab_dst htab, hi]
  have hdisB : disL rnx1T = true := by rfl
  have hdis := disL_of htab hdisB
  have hold : ∀ s, rnx1T.all (fun x => !(x.2.1 == some s)) = true → (List.range ops.size).all (fun j => !(dstOf ops j == some s)) = true := fun s h => holdL htab s h
  refine region_detX val Wd (hac_of hac) hdis h0 ?_ ?_
  rotate_left
  · intro c L W hall hW
    have := hend c L W (by rw [← hosz]; exact hall) hW
    have e : frm ops a0 (val c) (fun _ => true) ops.size = (((((((((a0.put (some 18) (.pointer (some ⟨X, 0 + 0, none⟩))).put (some 19) (I gen)).put (some 20) (I (gen + 1))).put (some 21) (.pointer (some ⟨X, 0 + 1, none⟩))).put (some 22) (I root)).put (some 23) (I cc)).put (some 24) (S nt)).put (some 25) (.agg #[I (gen + 1), I root, S nt, .slice none 0 0])).put (some 11) (.pointer (some ⟨c, 0, none⟩))) := by
      rw [hosz]
      simp only [frm, if_true]
      rw [tab_dst htab 0, tab_dst htab 1, tab_dst htab 2, tab_dst htab 3, tab_dst htab 4, tab_dst htab 5, tab_dst htab 6, tab_dst htab 7, tab_dst htab 8, (show dstOf ops 9 = none from (tab_dst htab 9).trans rfl), put_none]
      rfl
    rw [e]
    exact this
  intro i o ho c L a w' hL hd ha hW
  have hi : i < 10 := by rw [← hosz]; exact (Array.getElem?_eq_some_iff.1 ho).1
  match i, ho, hL, hi with
  | 0, ho, hL, _ =>
    obtain ⟨hop, hdst, hgd⟩ := tab_at htab ho (show rnx1T[0]? = _ from rfl)
    simp only at hop hgd
    have h0 := frm_old (val := val c) ha 4 _ (hold 4 rfl) o4
    exact doesX_of (doesL_run ho (wanted_none hgd) (hpure 0 (by decide) c L w' hW) (g_field hop (eval_of h0) (by kernel_rfl)))
  | 1, ho, hL, _ =>
    obtain ⟨hop, hdst, hgd⟩ := tab_at htab ho (show rnx1T[1]? = _ from rfl)
    simp only at hop hgd
    have h0 := frm_at (val := val c) hdis ha 0 18 (hds 0 18 rfl) (by omega) (depl_of hdep 1 0 (by decide) ho hd)
    exact doesX_of (doesL_run ho (wanted_none hgd) (hpure 1 (by decide) c L w' hW) (g_load hop (eval_of h0) (r1 c L w' hW hL (depl_of hdep 1 0 (by decide) ho hd))))
  | 2, ho, hL, _ =>
    obtain ⟨hop, hdst, hgd⟩ := tab_at htab ho (show rnx1T[2]? = _ from rfl)
    simp only at hop hgd
    have h0 := frm_at (val := val c) hdis ha 1 19 (hds 1 19 rfl) (by omega) (depl_of hdep 2 1 (by decide) ho hd)
    exact doesX_of (doesL_run ho (wanted_none hgd) (hpure 2 (by decide) c L w' hW) (g_bin hop (eval_of h0) rfl (r2 w')))
  | 3, ho, hL, _ =>
    obtain ⟨hop, hdst, hgd⟩ := tab_at htab ho (show rnx1T[3]? = _ from rfl)
    simp only at hop hgd
    have h0 := frm_old (val := val c) ha 4 _ (hold 4 rfl) o4
    exact doesX_of (doesL_run ho (wanted_none hgd) (hpure 3 (by decide) c L w' hW) (g_field hop (eval_of h0) (by kernel_rfl)))
  | 4, ho, hL, _ =>
    obtain ⟨hop, hdst, hgd⟩ := tab_at htab ho (show rnx1T[4]? = _ from rfl)
    simp only at hop hgd
    have h0 := frm_at (val := val c) hdis ha 3 21 (hds 3 21 rfl) (by omega) (depl_of hdep 4 3 (by decide) ho hd)
    exact doesX_of (doesL_run ho (wanted_none hgd) (hpure 4 (by decide) c L w' hW) (g_load hop (eval_of h0) (r4 c L w' hW hL (depl_of hdep 4 3 (by decide) ho hd))))
  | 5, ho, hL, _ =>
    obtain ⟨hop, hdst, hgd⟩ := tab_at htab ho (show rnx1T[5]? = _ from rfl)
    simp only at hop hgd
    have h0 := frm_old (val := val c) ha 3 _ (hold 3 rfl) o3
    exact doesX_of (doesL_run ho (wanted_none hgd) (hpure 5 (by decide) c L w' hW) (by rw [run_move _ _ _ hop]; exact congrArg (fun v => Result.ok (Next.value v) w') (eval_of h0)))
  | 6, ho, hL, _ =>
    obtain ⟨hop, hdst, hgd⟩ := tab_at htab ho (show rnx1T[6]? = _ from rfl)
    simp only at hop hgd
    have h0 := frm_at (val := val c) hdis ha 5 23 (hds 5 23 rfl) (by omega) (depl_of hdep 6 5 (by decide) ho hd)
    refine doesX_call ho (wanted_none hgd) 22 #[(I cc)] ?_ (r6 c L w' hW hL (depl_of hdep 6 5 (by decide) ho hd))
    rw [run_calls Tryz.func22 (by kernel_rfl) rfl _ _ _ _ hop rfl]
    simp only [List.map_toArray, List.map_cons, List.map_nil, eval_of h0]
    all_goals rfl
  | 7, ho, hL, _ =>
    obtain ⟨hop, hdst, hgd⟩ := tab_at htab ho (show rnx1T[7]? = _ from rfl)
    simp only at hop hgd
    have h0 := frm_at (val := val c) hdis ha 2 20 (hds 2 20 rfl) (by omega) (depl_of hdep 7 2 (by decide) ho hd)
    have h1 := frm_at (val := val c) hdis ha 4 22 (hds 4 22 rfl) (by omega) (depl_of hdep 7 4 (by decide) ho hd)
    have h2 := frm_at (val := val c) hdis ha 6 24 (hds 6 24 rfl) (by omega) (depl_of hdep 7 6 (by decide) ho hd)
    exact doesX_of (doesL_run ho (wanted_none hgd) (hpure 7 (by decide) c L w' hW) (g_build hop (by simp only [List.map_toArray, List.map_cons, List.map_nil, eval_of h0, eval_of h1, eval_of h2]; first | done | rfl) (r7 w')))
  | 8, ho, hL, _ =>
    obtain ⟨hop, hdst, hgd⟩ := tab_at htab ho (show rnx1T[8]? = _ from rfl)
    simp only at hop hgd
    obtain ⟨c', W', q0, q1, q2⟩ := r8 c L w' hW hL
    exact doesX_runw ho (wanted_none hgd) c' q0 q2 (g_alloc hop q1)
  | 9, ho, hL, _ =>
    obtain ⟨hop, hdst, hgd⟩ := tab_at htab ho (show rnx1T[9]? = _ from rfl)
    simp only at hop hgd
    have h0 := frm_at (val := val c) hdis ha 8 11 (hds 8 11 rfl) (by omega) (depl_of hdep 9 8 (by decide) ho hd)
    have h1 := frm_at (val := val c) hdis ha 7 25 (hds 7 25 rfl) (by omega) (depl_of hdep 9 7 (by decide) ho hd)
    obtain ⟨W', q1, q2⟩ := r9 c L w' hW hL (depl_of hdep 9 7 (by decide) ho hd) (depl_of hdep 9 8 (by decide) ho hd)
    exact doesX_of (doesL_skp ho (wanted_none hgd) rfl q2 (g_store hop (eval_of h0) (eval_of h1) q1))
  | (i + 10), ho, hL, hi => exact absurd hi (by omega)
def vrnx24 (g n cap jj kk a1 a2 : Nat) (z1 z2 : Int) (bb : Bool) (_c : Unit) (i : Nat) : Value := match i with
  | 0 => (.slice (some ⟨g, 0, none⟩) n cap)
  | 1 => (.int .i64 (jj : Int))
  | 2 => (.pointer (some ⟨g, a1, none⟩))
  | 3 => (.pointer (some ⟨g, a1 + 1, none⟩))
  | 4 => (I z1)
  | 5 => (.slice (some ⟨g, 0, none⟩) n cap)
  | 6 => (.int .i64 (kk : Int))
  | 7 => (.pointer (some ⟨g, a2, none⟩))
  | 8 => (.pointer (some ⟨g, a2 + 1, none⟩))
  | 9 => (I z2)
  | 10 => (.bool bb)
  | _ => undef
def rnx24T : List (Op × Option Tmp × Option (Nat × Bool)) := [
  (.move (.tmp 15), some 84, none),
  (.move (.tmp 17), some 85, none),
  (.indexAddr 27 (.tmp 84) (.tmp 85), some 86, none),
  (.fieldAddr 24 (.tmp 86) 1, some 87, none),
  (.load 3 (.tmp 87), some 88, none),
  (.move (.tmp 15), some 89, none),
  (.move (.tmp 16), some 90, none),
  (.indexAddr 27 (.tmp 89) (.tmp 90), some 91, none),
  (.fieldAddr 24 (.tmp 91) 1, some 92, none),
  (.load 3 (.tmp 92), some 93, none),
  (.binOp .lss 3 (.tmp 88) (.tmp 93) 3, some 94, none)]
def rnx24D : List (Nat × Nat) := [(2, 0), (2, 1), (3, 2), (4, 3), (7, 5), (7, 6), (8, 7), (9, 8), (10, 4), (10, 9)]
set_option maxHeartbeats 4000000 in
theorem rnx24 {ops : Array Oper} {id : Nat} {Q : Exit → Act → World → Prop} (g n cap jj kk a1 a2 : Nat) (z1 z2 : Int) (bb : Bool) (htab : ops.toList.map (fun o => (o.op, o.dst, o.guard)) = rnx24T) (hdep : deplB rnx24D ops = true) (hac : acB ops = true)
    (a0 : Act) (w : World) (hsz : 95 ≤ a0.tmps.size) (o15 : a0.tmps[15]? = some (.slice (some ⟨g, 0, none⟩) n cap)) (o16 : a0.tmps[16]? = some (.int .i64 (kk : Int))) (o17 : a0.tmps[17]? = some (.int .i64 (jj : Int)))
    (Wd : Unit → (Nat → Bool) → World → Prop) (h0 : ∃ c, Wd c (fun _ => false) w.drew) (hpure : ∀ i, i ∉ ([] : List Nat) → ∀ c L W, Wd c L W → Wd c (upd L i) W)
    (r2 : ∀ W, (Instr.indexAt 27 (.slice (some ⟨g, 0, none⟩) n cap) (.int .i64 (jj : Int))).run Tryz.prog W = .ok (.pointer (some ⟨g, a1, none⟩)) W)
    (r4 : ∀ c L W, Wd c L W → L 4 = false → L 3 = true → (Instr.loadAt 3 (.pointer (some ⟨g, a1 + 1, none⟩))).run Tryz.prog W = .ok (I z1) W)
    (r7 : ∀ W, (Instr.indexAt 27 (.slice (some ⟨g, 0, none⟩) n cap) (.int .i64 (kk : Int))).run Tryz.prog W = .ok (.pointer (some ⟨g, a2, none⟩)) W)
    (r9 : ∀ c L W, Wd c L W → L 9 = false → L 8 = true → (Instr.loadAt 3 (.pointer (some ⟨g, a2 + 1, none⟩))).run Tryz.prog W = .ok (I z2) W)
    (r10 : ∀ W, (do eqGuard .lss 3 (.tmp 88) (.tmp 93) (I z1) (I z2); binOp .lss 3 (I z1) (I z2)).run Tryz.prog W = .ok (.bool bb) W)
    (hend : ∀ c L W, (∀ i, i < 11 → L i = true) → Wd c L W → Q .normal (((((((((((a0.put (some 84) (.slice (some ⟨g, 0, none⟩) n cap)).put (some 85) (.int .i64 (jj : Int))).put (some 86) (.pointer (some ⟨g, a1, none⟩))).put (some 87) (.pointer (some ⟨g, a1 + 1, none⟩))).put (some 88) (I z1)).put (some 89) (.slice (some ⟨g, 0, none⟩) n cap)).put (some 90) (.int .i64 (kk : Int))).put (some 91) (.pointer (some ⟨g, a2, none⟩))).put (some 92) (.pointer (some ⟨g, a2 + 1, none⟩))).put (some 93) (I z2)).put (some 94) (.bool bb)) W) : (Code.region id ops true).wp Tryz.prog Q a0 w := by
  let val : Unit → Nat → Value := vrnx24 g n cap jj kk a1 a2 z1 z2 bb
  have hosz : ops.size = 11 := by
    have := congrArg List.length htab
    simpa [rnx24T] using this
  have hds : ∀ i s, (rnx24T[i]?).bind (·.2.1) = some s → dstOf ops i = some s := fun i s hi => by rw [tab_dst htab, hi]
  have hdisB : disL rnx24T = true := by rfl
  have hdis := disL_of htab hdisB
  have hold : ∀ s, rnx24T.all (fun x => !(x.2.1 == some s)) = true → (List.range ops.size).all (fun j => !(dstOf ops j == some s)) = true := fun s h => holdL htab s h
  refine region_detX val Wd (hac_of hac) hdis h0 ?_ ?_
  rotate_left
  · intro c L W hall hW
    have := hend c L W (by rw [← hosz]; exact hall) hW
    have e : frm ops a0 (val c) (fun _ => true) ops.size = (((((((((((a0.put (some 84) (.slice (some ⟨g, 0, none⟩) n cap)).put (some 85) (.int .i64 (jj : Int))).put (some 86) (.pointer (some ⟨g, a1, none⟩))).put (some 87) (.pointer (some ⟨g, a1 + 1, none⟩))).put (some 88) (I z1)).put (some 89) (.slice (some ⟨g, 0, none⟩) n cap)).put (some 90) (.int .i64 (kk : Int))).put (some 91) (.pointer (some ⟨g, a2, none⟩))).put (some 92) (.pointer (some ⟨g, a2 + 1, none⟩))).put (some 93) (I z2)).put (some 94) (.bool bb)) := by
      rw [hosz]
      simp only [frm, if_true]
      rw [tab_dst htab 0, tab_dst htab 1, tab_dst htab 2, tab_dst htab 3, tab_dst htab 4, tab_dst htab 5, tab_dst htab 6, tab_dst htab 7, tab_dst htab 8, tab_dst htab 9, tab_dst htab 10]
      rfl
    rw [e]
    exact this
  intro i o ho c L a w' hL hd ha hW
  have hi : i < 11 := by rw [← hosz]; exact (Array.getElem?_eq_some_iff.1 ho).1
  match i, ho, hL, hi with
  | 0, ho, hL, _ =>
    obtain ⟨hop, hdst, hgd⟩ := tab_at htab ho (show rnx24T[0]? = _ from rfl)
    simp only at hop hgd
    have h0 := frm_old (val := val c) ha 15 _ (hold 15 rfl) o15
    exact doesX_of (doesL_run ho (wanted_none hgd) (hpure 0 (by decide) c L w' hW) (by rw [run_move _ _ _ hop]; exact congrArg (fun v => Result.ok (Next.value v) w') (eval_of h0)))
  | 1, ho, hL, _ =>
    obtain ⟨hop, hdst, hgd⟩ := tab_at htab ho (show rnx24T[1]? = _ from rfl)
    simp only at hop hgd
    have h0 := frm_old (val := val c) ha 17 _ (hold 17 rfl) o17
    exact doesX_of (doesL_run ho (wanted_none hgd) (hpure 1 (by decide) c L w' hW) (by rw [run_move _ _ _ hop]; exact congrArg (fun v => Result.ok (Next.value v) w') (eval_of h0)))
  | 2, ho, hL, _ =>
    obtain ⟨hop, hdst, hgd⟩ := tab_at htab ho (show rnx24T[2]? = _ from rfl)
    simp only at hop hgd
    have h0 := frm_at (val := val c) hdis ha 0 84 (hds 0 84 rfl) (by omega) (depl_of hdep 2 0 (by decide) ho hd)
    have h1 := frm_at (val := val c) hdis ha 1 85 (hds 1 85 rfl) (by omega) (depl_of hdep 2 1 (by decide) ho hd)
    exact doesX_of (doesL_run ho (wanted_none hgd) (hpure 2 (by decide) c L w' hW) (g_ixa hop (eval_of h0) (eval_of h1) (r2 w')))
  | 3, ho, hL, _ =>
    obtain ⟨hop, hdst, hgd⟩ := tab_at htab ho (show rnx24T[3]? = _ from rfl)
    simp only at hop hgd
    have h0 := frm_at (val := val c) hdis ha 2 86 (hds 2 86 rfl) (by omega) (depl_of hdep 3 2 (by decide) ho hd)
    exact doesX_of (doesL_run ho (wanted_none hgd) (hpure 3 (by decide) c L w' hW) (g_field hop (eval_of h0) (by kernel_rfl)))
  | 4, ho, hL, _ =>
    obtain ⟨hop, hdst, hgd⟩ := tab_at htab ho (show rnx24T[4]? = _ from rfl)
    simp only at hop hgd
    have h0 := frm_at (val := val c) hdis ha 3 87 (hds 3 87 rfl) (by omega) (depl_of hdep 4 3 (by decide) ho hd)
    exact doesX_of (doesL_run ho (wanted_none hgd) (hpure 4 (by decide) c L w' hW) (g_load hop (eval_of h0) (r4 c L w' hW hL (depl_of hdep 4 3 (by decide) ho hd))))
  | 5, ho, hL, _ =>
    obtain ⟨hop, hdst, hgd⟩ := tab_at htab ho (show rnx24T[5]? = _ from rfl)
    simp only at hop hgd
    have h0 := frm_old (val := val c) ha 15 _ (hold 15 rfl) o15
    exact doesX_of (doesL_run ho (wanted_none hgd) (hpure 5 (by decide) c L w' hW) (by rw [run_move _ _ _ hop]; exact congrArg (fun v => Result.ok (Next.value v) w') (eval_of h0)))
  | 6, ho, hL, _ =>
    obtain ⟨hop, hdst, hgd⟩ := tab_at htab ho (show rnx24T[6]? = _ from rfl)
    simp only at hop hgd
    have h0 := frm_old (val := val c) ha 16 _ (hold 16 rfl) o16
    exact doesX_of (doesL_run ho (wanted_none hgd) (hpure 6 (by decide) c L w' hW) (by rw [run_move _ _ _ hop]; exact congrArg (fun v => Result.ok (Next.value v) w') (eval_of h0)))
  | 7, ho, hL, _ =>
    obtain ⟨hop, hdst, hgd⟩ := tab_at htab ho (show rnx24T[7]? = _ from rfl)
    simp only at hop hgd
    have h0 := frm_at (val := val c) hdis ha 5 89 (hds 5 89 rfl) (by omega) (depl_of hdep 7 5 (by decide) ho hd)
    have h1 := frm_at (val := val c) hdis ha 6 90 (hds 6 90 rfl) (by omega) (depl_of hdep 7 6 (by decide) ho hd)
    exact doesX_of (doesL_run ho (wanted_none hgd) (hpure 7 (by decide) c L w' hW) (g_ixa hop (eval_of h0) (eval_of h1) (r7 w')))
  | 8, ho, hL, _ =>
    obtain ⟨hop, hdst, hgd⟩ := tab_at htab ho (show rnx24T[8]? = _ from rfl)
    simp only at hop hgd
    have h0 := frm_at (val := val c) hdis ha 7 91 (hds 7 91 rfl) (by omega) (depl_of hdep 8 7 (by decide) ho hd)
    exact doesX_of (doesL_run ho (wanted_none hgd) (hpure 8 (by decide) c L w' hW) (g_field hop (eval_of h0) (by kernel_rfl)))
  | 9, ho, hL, _ =>
    obtain ⟨hop, hdst, hgd⟩ := tab_at htab ho (show rnx24T[9]? = _ from rfl)
    simp only at hop hgd
    have h0 := frm_at (val := val c) hdis ha 8 92 (hds 8 92 rfl) (by omega) (depl_of hdep 9 8 (by decide) ho hd)
    exact doesX_of (doesL_run ho (wanted_none hgd) (hpure 9 (by decide) c L w' hW) (g_load hop (eval_of h0) (r9 c L w' hW hL (depl_of hdep 9 8 (by decide) ho hd))))
  | 10, ho, hL, _ =>
    obtain ⟨hop, hdst, hgd⟩ := tab_at htab ho (show rnx24T[10]? = _ from rfl)
    simp only at hop hgd
    have h0 := frm_at (val := val c) hdis ha 4 88 (hds 4 88 rfl) (by omega) (depl_of hdep 10 4 (by decide) ho hd)
    have h1 := frm_at (val := val c) hdis ha 9 93 (hds 9 93 rfl) (by omega) (depl_of hdep 10 9 (by decide) ho hd)
    exact doesX_of (doesL_run ho (wanted_none hgd) (hpure 10 (by decide) c L w' hW) (g_bin hop (eval_of h0) (eval_of h1) (r10 w')))
  | (i + 11), ho, hL, hi => exact absurd hi (by omega)
def vrnx26 (X g n cap kk a1 m mc : Nat) (ma : Option Addr) (pp : Array Value) (c : Cav) (i : Nat) : Value := match i with
  | 0 => (.pointer (some ⟨X, 0 + 3, none⟩))
  | 1 => (.slice ma m mc)
  | 2 => (.slice (some ⟨g, 0, none⟩) n cap)
  | 3 => (.int .i64 (kk : Int))
  | 4 => (.pointer (some ⟨g, a1, none⟩))
  | 5 => (.agg pp)
  | 6 => (.slice (some ⟨c.a, 0, none⟩) 1 1)
  | 7 => c.v
  | 8 => (.pointer (some ⟨X, 0 + 3, none⟩))
  | 9 => undef
  | _ => undef
def rnx26T : List (Op × Option Tmp × Option (Nat × Bool)) := [
  (.fieldAddr 83 (.tmp 11) 3, some 96, none),
  (.load 27 (.tmp 96), some 97, none),
  (.move (.tmp 15), some 98, none),
  (.move (.tmp 16), some 99, none),
  (.indexAddr 27 (.tmp 98) (.tmp 99), some 100, none),
  (.load 24 (.tmp 100), some 101, none),
  (.buildSlice 27 1 #[(0, (.tmp 101))], some 102, none),
  (.call { callee := .builtin .append, args := #[(.tmp 97), (.tmp 102)], argTypes := #[27, 27] }, some 103, none),
  (.fieldAddr 83 (.tmp 11) 3, some 104, none),
  (.store 27 (.tmp 104) (.tmp 103), none, none)]
def rnx26D : List (Nat × Nat) := [(1, 0), (4, 2), (4, 3), (5, 4), (6, 5), (7, 1), (7, 6), (9, 7), (9, 8)]
set_option maxHeartbeats 4000000 in
theorem rnx26 {ops : Array Oper} {id : Nat} {Q : Exit → Act → World → Prop} (X g n cap kk a1 m mc : Nat) (ma : Option Addr) (pp : Array Value) (htab : ops.toList.map (fun o => (o.op, o.dst, o.guard)) = rnx26T) (hdep : deplB rnx26D ops = true) (hac : acB ops = true)
    (a0 : Act) (w : World) (hsz : 105 ≤ a0.tmps.size) (o11 : a0.tmps[11]? = some (.pointer (some ⟨X, 0, none⟩))) (o15 : a0.tmps[15]? = some (.slice (some ⟨g, 0, none⟩) n cap)) (o16 : a0.tmps[16]? = some (.int .i64 (kk : Int)))
    (Wd : Cav → (Nat → Bool) → World → Prop) (h0 : ∃ c, Wd c (fun _ => false) w.drew) (hpure : ∀ i, i ∉ ([6, 7, 9] : List Nat) → ∀ c L W, Wd c L W → Wd c (upd L i) W)
    (r1 : ∀ c L W, Wd c L W → L 1 = false → L 0 = true → (Instr.loadAt 27 (.pointer (some ⟨X, 0 + 3, none⟩))).run Tryz.prog W = .ok (.slice ma m mc) W)
    (r4 : ∀ W, (Instr.indexAt 27 (.slice (some ⟨g, 0, none⟩) n cap) (.int .i64 (kk : Int))).run Tryz.prog W = .ok (.pointer (some ⟨g, a1, none⟩)) W)
    (r5 : ∀ c L W, Wd c L W → L 5 = false → L 4 = true → (Instr.loadAt 24 (.pointer (some ⟨g, a1, none⟩))).run Tryz.prog W = .ok (.agg pp) W)
    (r6 : ∀ c L W, Wd c L W → L 6 = false → L 5 = true → ∃ c' W', (∀ j, L j = true → vrnx26 X g n cap kk a1 m mc ma pp c' j = vrnx26 X g n cap kk a1 m mc ma pp c j) ∧ (Instr.buildSlice 27 1 #[(0, (.agg pp))]).run Tryz.prog W = .ok (vrnx26 X g n cap kk a1 m mc ma pp c' 6) W' ∧ Wd c' (upd L 6) W')
    (r7 : ∀ T, ∀ c L W, Wd c L W → L 7 = false → L 1 = true → L 6 = true → ∃ c' W', (∀ j, L j = true → vrnx26 X g n cap kk a1 m mc ma pp c' j = vrnx26 X g n cap kk a1 m mc ma pp c j) ∧ (Builtin.append_ #[27, 27] T #[(.slice ma m mc), (.slice (some ⟨c.a, 0, none⟩) 1 1)]).run Tryz.prog W = .ok (vrnx26 X g n cap kk a1 m mc ma pp c' 7) W' ∧ Wd c' (upd L 7) W')
    (r9 : ∀ c L W, Wd c L W → L 9 = false → L 7 = true → L 8 = true → ∃ W', (Instr.storeAt 27 (.pointer (some ⟨X, 0 + 3, none⟩)) c.v).run Tryz.prog W = .ok () W' ∧ Wd c (upd L 9) W')
    (hend : ∀ c L W, (∀ i, i < 10 → L i = true) → Wd c L W → Q .normal (((((((((a0.put (some 96) (.pointer (some ⟨X, 0 + 3, none⟩))).put (some 97) (.slice ma m mc)).put (some 98) (.slice (some ⟨g, 0, none⟩) n cap)).put (some 99) (.int .i64 (kk : Int))).put (some 100) (.pointer (some ⟨g, a1, none⟩))).put (some 101) (.agg pp)).put (some 102) (.slice (some ⟨c.a, 0, none⟩) 1 1)).put (some 103) c.v).put (some 104) (.pointer (some ⟨X, 0 + 3, none⟩))) W) : (Code.region id ops true).wp Tryz.prog Q a0 w := by
  let val : Cav → Nat → Value := vrnx26 X g n cap kk a1 m mc ma pp
  have hosz : ops.size = 10 := by
    have := congrArg List.length htab
    simpa [rnx26T] using this
  have hds : ∀ i s, (rnx26T[i]?).bind (·.2.1) = some s → dstOf ops i = some s := fun i s hi => by rw [tab_dst htab, hi]
  have hdisB : disL rnx26T = true := by rfl
  have hdis := disL_of htab hdisB
  have hold : ∀ s, rnx26T.all (fun x => !(x.2.1 == some s)) = true → (List.range ops.size).all (fun j => !(dstOf ops j == some s)) = true := fun s h => holdL htab s h
  refine region_detX val Wd (hac_of hac) hdis h0 ?_ ?_
  rotate_left
  · intro c L W hall hW
    have := hend c L W (by rw [← hosz]; exact hall) hW
    have e : frm ops a0 (val c) (fun _ => true) ops.size = (((((((((a0.put (some 96) (.pointer (some ⟨X, 0 + 3, none⟩))).put (some 97) (.slice ma m mc)).put (some 98) (.slice (some ⟨g, 0, none⟩) n cap)).put (some 99) (.int .i64 (kk : Int))).put (some 100) (.pointer (some ⟨g, a1, none⟩))).put (some 101) (.agg pp)).put (some 102) (.slice (some ⟨c.a, 0, none⟩) 1 1)).put (some 103) c.v).put (some 104) (.pointer (some ⟨X, 0 + 3, none⟩))) := by
      rw [hosz]
      simp only [frm, if_true]
      rw [tab_dst htab 0, tab_dst htab 1, tab_dst htab 2, tab_dst htab 3, tab_dst htab 4, tab_dst htab 5, tab_dst htab 6, tab_dst htab 7, tab_dst htab 8, (show dstOf ops 9 = none from (tab_dst htab 9).trans rfl), put_none]
      rfl
    rw [e]
    exact this
  intro i o ho c L a w' hL hd ha hW
  have hi : i < 10 := by rw [← hosz]; exact (Array.getElem?_eq_some_iff.1 ho).1
  match i, ho, hL, hi with
  | 0, ho, hL, _ =>
    obtain ⟨hop, hdst, hgd⟩ := tab_at htab ho (show rnx26T[0]? = _ from rfl)
    simp only at hop hgd
    have h0 := frm_old (val := val c) ha 11 _ (hold 11 rfl) o11
    exact doesX_of (doesL_run ho (wanted_none hgd) (hpure 0 (by decide) c L w' hW) (g_field hop (eval_of h0) (by kernel_rfl)))
  | 1, ho, hL, _ =>
    obtain ⟨hop, hdst, hgd⟩ := tab_at htab ho (show rnx26T[1]? = _ from rfl)
    simp only at hop hgd
    have h0 := frm_at (val := val c) hdis ha 0 96 (hds 0 96 rfl) (by omega) (depl_of hdep 1 0 (by decide) ho hd)
    exact doesX_of (doesL_run ho (wanted_none hgd) (hpure 1 (by decide) c L w' hW) (g_load hop (eval_of h0) (r1 c L w' hW hL (depl_of hdep 1 0 (by decide) ho hd))))
  | 2, ho, hL, _ =>
    obtain ⟨hop, hdst, hgd⟩ := tab_at htab ho (show rnx26T[2]? = _ from rfl)
    simp only at hop hgd
    have h0 := frm_old (val := val c) ha 15 _ (hold 15 rfl) o15
    exact doesX_of (doesL_run ho (wanted_none hgd) (hpure 2 (by decide) c L w' hW) (by rw [run_move _ _ _ hop]; exact congrArg (fun v => Result.ok (Next.value v) w') (eval_of h0)))
  | 3, ho, hL, _ =>
    obtain ⟨hop, hdst, hgd⟩ := tab_at htab ho (show rnx26T[3]? = _ from rfl)
    simp only at hop hgd
    have h0 := frm_old (val := val c) ha 16 _ (hold 16 rfl) o16
    exact doesX_of (doesL_run ho (wanted_none hgd) (hpure 3 (by decide) c L w' hW) (by rw [run_move _ _ _ hop]; exact congrArg (fun v => Result.ok (Next.value v) w') (eval_of h0)))
  | 4, ho, hL, _ =>
    obtain ⟨hop, hdst, hgd⟩ := tab_at htab ho (show rnx26T[4]? = _ from rfl)
    simp only at hop hgd
    have h0 := frm_at (val := val c) hdis ha 2 98 (hds 2 98 rfl) (by omega) (depl_of hdep 4 2 (by decide) ho hd)
    have h1 := frm_at (val := val c) hdis ha 3 99 (hds 3 99 rfl) (by omega) (depl_of hdep 4 3 (by decide) ho hd)
    exact doesX_of (doesL_run ho (wanted_none hgd) (hpure 4 (by decide) c L w' hW) (g_ixa hop (eval_of h0) (eval_of h1) (r4 w')))
  | 5, ho, hL, _ =>
    obtain ⟨hop, hdst, hgd⟩ := tab_at htab ho (show rnx26T[5]? = _ from rfl)
    simp only at hop hgd
    have h0 := frm_at (val := val c) hdis ha 4 100 (hds 4 100 rfl) (by omega) (depl_of hdep 5 4 (by decide) ho hd)
    exact doesX_of (doesL_run ho (wanted_none hgd) (hpure 5 (by decide) c L w' hW) (g_load hop (eval_of h0) (r5 c L w' hW hL (depl_of hdep 5 4 (by decide) ho hd))))
  | 6, ho, hL, _ =>
    obtain ⟨hop, hdst, hgd⟩ := tab_at htab ho (show rnx26T[6]? = _ from rfl)
    simp only at hop hgd
    have h0 := frm_at (val := val c) hdis ha 5 101 (hds 5 101 rfl) (by omega) (depl_of hdep 6 5 (by decide) ho hd)
    obtain ⟨c', W', q0, q1, q2⟩ := r6 c L w' hW hL (depl_of hdep 6 5 (by decide) ho hd)
    exact doesX_runw ho (wanted_none hgd) c' q0 q2 (g_bs hop (by simp only [List.map_toArray, List.map_cons, List.map_nil, eval_of h0]; first | done | rfl) q1)
  | 7, ho, hL, _ =>
    obtain ⟨hop, hdst, hgd⟩ := tab_at htab ho (show rnx26T[7]? = _ from rfl)
    simp only at hop hgd
    have h0 := frm_at (val := val c) hdis ha 1 97 (hds 1 97 rfl) (by omega) (depl_of hdep 7 1 (by decide) ho hd)
    have h1 := frm_at (val := val c) hdis ha 6 102 (hds 6 102 rfl) (by omega) (depl_of hdep 7 6 (by decide) ho hd)
    obtain ⟨c', W', q0, q1, q2⟩ := r7 _ c L w' hW hL (depl_of hdep 7 1 (by decide) ho hd) (depl_of hdep 7 6 (by decide) ho hd)
    exact doesX_runw ho (wanted_none hgd) c' q0 q2 (g_app hop (eval_of h0) (eval_of h1) q1)
  | 8, ho, hL, _ =>
    obtain ⟨hop, hdst, hgd⟩ := tab_at htab ho (show rnx26T[8]? = _ from rfl)
    simp only at hop hgd
    have h0 := frm_old (val := val c) ha 11 _ (hold 11 rfl) o11
    exact doesX_of (doesL_run ho (wanted_none hgd) (hpure 8 (by decide) c L w' hW) (g_field hop (eval_of h0) (by kernel_rfl)))
  | 9, ho, hL, _ =>
    obtain ⟨hop, hdst, hgd⟩ := tab_at htab ho (show rnx26T[9]? = _ from rfl)
    simp only at hop hgd
    have h0 := frm_at (val := val c) hdis ha 8 104 (hds 8 104 rfl) (by omega) (depl_of hdep 9 8 (by decide) ho hd)
    have h1 := frm_at (val := val c) hdis ha 7 103 (hds 7 103 rfl) (by omega) (depl_of hdep 9 7 (by decide) ho hd)
    obtain ⟨W', q1, q2⟩ := r9 c L w' hW hL (depl_of hdep 9 7 (by decide) ho hd) (depl_of hdep 9 8 (by decide) ho hd)
    exact doesX_of (doesL_skp ho (wanted_none hgd) rfl q2 (g_store hop (eval_of h0) (eval_of h1) q1))
  | (i + 10), ho, hL, hi => exact absurd hi (by omega)
end Go.Proofs.YtjopnhhdemfniaaGreatDoor
namespace Go.Proofs.YtjopnhhdemfniaaGreatDoor
open Go.RowKit
def vrny27 (g n cap kk n1 c1 n2 c2 : Nat) (ad1 ad2 : Option Addr) (c : Value) (i : Nat) : Value := match i with
  | 0 => (.slice (some ⟨g, 0, none⟩) n cap)
  | 1 => (.int .i64 (kk : Int))
  | 2 => (.slice ad1 n1 c1)
  | 3 => (.slice (some ⟨g, 0, none⟩) n cap)
  | 4 => (.int .i64 (kk : Int))
  | 5 => (.int .i64 ((kk : Int) + 1))
  | 6 => (.slice ad2 n2 c2)
  | 7 => c
  | 8 => c
  | _ => undef
def rny27T : List (Op × Option Tmp × Option (Nat × Bool)) := [
  (.move (.tmp 15), some 105, none),
  (.move (.tmp 16), some 106, none),
  (.slice 27 (.tmp 105) none (some (.tmp 106)) none, some 107, none),
  (.move (.tmp 15), some 108, none),
  (.move (.tmp 16), some 109, none),
  (.binOp .add 3 (.tmp 109) (.const (.int .i64 1)) 3, some 110, none),
  (.slice 27 (.tmp 108) (some (.tmp 110)) none none, some 111, none),
  (.call { callee := .builtin .append, args := #[(.tmp 107), (.tmp 111)], argTypes := #[27, 27] }, some 112, none),
  (.assign (.tmp 112), some 15, none)]
def rny27D : List (Nat × Nat) := [(2, 0), (2, 1), (5, 4), (6, 3), (6, 5), (7, 2), (7, 6), (8, 7)]
set_option maxHeartbeats 4000000 in
theorem rny27 {ops : Array Oper} {id : Nat} {Q : Exit → Act → World → Prop} (g n cap kk n1 c1 n2 c2 : Nat) (ad1 ad2 : Option Addr) (htab : ops.toList.map (fun o => (o.op, o.dst, o.guard)) = rny27T) (hdep : deplB rny27D ops = true) (hac : acB ops = true)
    (a0 : Act) (w : World) (hsz : 113 ≤ a0.tmps.size) (o15 : a0.tmps[15]? = some (.slice (some ⟨g, 0, none⟩) n cap)) (o16 : a0.tmps[16]? = some (.int .i64 (kk : Int)))
    (Wd : Value → (Nat → Bool) → World → Prop) (h0 : ∃ c, Wd c (fun _ => false) w.drew) (hpure : ∀ i, i ∉ ([2, 6, 7, 8] : List Nat) → ∀ c L W, Wd c L W → Wd c (upd L i) W)
    (e0 : ∀ c L W, Wd c L W → L 0 = false → L 8 = false)
    (r2 : ∀ W, (Instr.sliceAt 27 (.slice (some ⟨g, 0, none⟩) n cap) none (some (.int .i64 (kk : Int))) none).run Tryz.prog W = .ok (.slice ad1 n1 c1) W)
    (e2 : ∀ c L W, Wd c L W → L 2 = false → L 0 = true → L 1 = true → Wd c (upd L 2) W)
    (e3 : ∀ c L W, Wd c L W → L 3 = false → L 8 = false)
    (r5 : ∀ W, (do eqGuard .add 3 (.tmp 109) (.const (.int .i64 1)) (.int .i64 (kk : Int)) (.int .i64 1); binOp .add 3 (.int .i64 (kk : Int)) (.int .i64 1)).run Tryz.prog W = .ok (.int .i64 ((kk : Int) + 1)) W)
    (r6 : ∀ W, (Instr.sliceAt 27 (.slice (some ⟨g, 0, none⟩) n cap) (some (.int .i64 ((kk : Int) + 1))) none none).run Tryz.prog W = .ok (.slice ad2 n2 c2) W)
    (e6 : ∀ c L W, Wd c L W → L 6 = false → L 3 = true → L 5 = true → Wd c (upd L 6) W)
    (r7 : ∀ T, ∀ c L W, Wd c L W → L 7 = false → L 2 = true → L 6 = true → ∃ c' W', (∀ j, L j = true → vrny27 g n cap kk n1 c1 n2 c2 ad1 ad2 c' j = vrny27 g n cap kk n1 c1 n2 c2 ad1 ad2 c j) ∧ (Builtin.append_ #[27, 27] T #[(.slice ad1 n1 c1), (.slice ad2 n2 c2)]).run Tryz.prog W = .ok (vrny27 g n cap kk n1 c1 n2 c2 ad1 ad2 c' 7) W' ∧ Wd c' (upd L 7) W')
    (r8 : ∀ c L W, Wd c L W → L 8 = false → L 7 = true → Wd c (upd L 8) W)
    (hend : ∀ c L W, (∀ i, i < 9 → L i = true) → Wd c L W → Q .normal (((((((((a0.put (some 105) (.slice (some ⟨g, 0, none⟩) n cap)).put (some 106) (.int .i64 (kk : Int))).put (some 107) (.slice ad1 n1 c1)).put (some 108) (.slice (some ⟨g, 0, none⟩) n cap)).put (some 109) (.int .i64 (kk : Int))).put (some 110) (.int .i64 ((kk : Int) + 1))).put (some 111) (.slice ad2 n2 c2)).put (some 112) c).put (some 15) c) W) : (Code.region id ops true).wp Tryz.prog Q a0 w := by
  let val : Value → Nat → Value := vrny27 g n cap kk n1 c1 n2 c2 ad1 ad2
  have hosz : ops.size = 9 := by
    have := congrArg List.length htab
    simpa [rny27T] using this
  have hds : ∀ i s, (rny27T[i]?).bind (·.2.1) = some s → dstOf ops i = some s := fun i s hi => by rw [tab_dst htab, hi]
  have hdisB : disL rny27T = true := by rfl
  have hdis := disL_of htab hdisB
  have hold : ∀ s, rny27T.all (fun x => !(x.2.1 == some s)) = true → (List.range ops.size).all (fun j => !(dstOf ops j == some s)) = true := fun s h => holdL htab s h
  refine region_detX val Wd (hac_of hac) hdis h0 ?_ ?_
  rotate_left
  · intro c L W hall hW
    have := hend c L W (by rw [← hosz]; exact hall) hW
    have e : frm ops a0 (val c) (fun _ => true) ops.size = (((((((((a0.put (some 105) (.slice (some ⟨g, 0, none⟩) n cap)).put (some 106) (.int .i64 (kk : Int))).put (some 107) (.slice ad1 n1 c1)).put (some 108) (.slice (some ⟨g, 0, none⟩) n cap)).put (some 109) (.int .i64 (kk : Int))).put (some 110) (.int .i64 ((kk : Int) + 1))).put (some 111) (.slice ad2 n2 c2)).put (some 112) c).put (some 15) c) := by
      rw [hosz]
      simp only [frm, if_true]
      rw [tab_dst htab 0, tab_dst htab 1, tab_dst htab 2, tab_dst htab 3, tab_dst htab 4, tab_dst htab 5, tab_dst htab 6, tab_dst htab 7, tab_dst htab 8]
      rfl
    rw [e]
    exact this
  intro i o ho c L a w' hL hd ha hW
  have hi : i < 9 := by rw [← hosz]; exact (Array.getElem?_eq_some_iff.1 ho).1
  match i, ho, hL, hi with
  | 0, ho, hL, _ =>
    obtain ⟨hop, hdst, hgd⟩ := tab_at htab ho (show rny27T[0]? = _ from rfl)
    simp only at hop hgd
    have h0 : a.tmps[15]? = some (.slice (some ⟨g, 0, none⟩) n cap) := by rw [ha, frm_late a0 (val c) L 15 8 (e0 c L w' hW hL) ops.size (late_of htab (by rfl))]; exact o15
    exact doesX_of (doesL_run ho (wanted_none hgd) (hpure 0 (by decide) c L w' hW) (by rw [run_move _ _ _ hop]; exact congrArg (fun v => Result.ok (Next.value v) w') (eval_of h0)))
  | 1, ho, hL, _ =>
    obtain ⟨hop, hdst, hgd⟩ := tab_at htab ho (show rny27T[1]? = _ from rfl)
    simp only at hop hgd
    have h0 := frm_old (val := val c) ha 16 _ (hold 16 rfl) o16
    exact doesX_of (doesL_run ho (wanted_none hgd) (hpure 1 (by decide) c L w' hW) (by rw [run_move _ _ _ hop]; exact congrArg (fun v => Result.ok (Next.value v) w') (eval_of h0)))
  | 2, ho, hL, _ =>
    obtain ⟨hop, hdst, hgd⟩ := tab_at htab ho (show rny27T[2]? = _ from rfl)
    simp only at hop hgd
    have h0 := frm_at (val := val c) hdis ha 0 105 (hds 0 105 rfl) (by omega) (depl_of hdep 2 0 (by decide) ho hd)
    have h1 := frm_at (val := val c) hdis ha 1 106 (hds 1 106 rfl) (by omega) (depl_of hdep 2 1 (by decide) ho hd)
    exact doesX_of (doesL_run ho (wanted_none hgd) (e2 c L w' hW hL (depl_of hdep 2 0 (by decide) ho hd) (depl_of hdep 2 1 (by decide) ho hd)) (g_sl hop (eval_of h0) rfl (congrArg some (eval_of h1)) rfl (r2 w')))
  | 3, ho, hL, _ =>
    obtain ⟨hop, hdst, hgd⟩ := tab_at htab ho (show rny27T[3]? = _ from rfl)
    simp only at hop hgd
    have h0 : a.tmps[15]? = some (.slice (some ⟨g, 0, none⟩) n cap) := by rw [ha, frm_late a0 (val c) L 15 8 (e3 c L w' hW hL) ops.size (late_of htab (by rfl))]; exact o15
    exact doesX_of (doesL_run ho (wanted_none hgd) (hpure 3 (by decide) c L w' hW) (by rw [run_move _ _ _ hop]; exact congrArg (fun v => Result.ok (Next.value v) w') (eval_of h0)))
  | 4, ho, hL, _ =>
    obtain ⟨hop, hdst, hgd⟩ := tab_at htab ho (show rny27T[4]? = _ from rfl)
    simp only at hop hgd
    have h0 := frm_old (val := val c) ha 16 _ (hold 16 rfl) o16
    exact doesX_of (doesL_run ho (wanted_none hgd) (hpure 4 (by decide) c L w' hW) (by rw [run_move _ _ _ hop]; exact congrArg (fun v => Result.ok (Next.value v) w') (eval_of h0)))
  | 5, ho, hL, _ =>
    obtain ⟨hop, hdst, hgd⟩ := tab_at htab ho (show rny27T[5]? = _ from rfl)
    simp only at hop hgd
    have h0 := frm_at (val := val c) hdis ha 4 109 (hds 4 109 rfl) (by omega) (depl_of hdep 5 4 (by decide) ho hd)
    exact doesX_of (doesL_run ho (wanted_none hgd) (hpure 5 (by decide) c L w' hW) (g_bin hop (eval_of h0) rfl (r5 w')))
  | 6, ho, hL, _ =>
    obtain ⟨hop, hdst, hgd⟩ := tab_at htab ho (show rny27T[6]? = _ from rfl)
    simp only at hop hgd
    have h0 := frm_at (val := val c) hdis ha 3 108 (hds 3 108 rfl) (by omega) (depl_of hdep 6 3 (by decide) ho hd)
    have h1 := frm_at (val := val c) hdis ha 5 110 (hds 5 110 rfl) (by omega) (depl_of hdep 6 5 (by decide) ho hd)
    exact doesX_of (doesL_run ho (wanted_none hgd) (e6 c L w' hW hL (depl_of hdep 6 3 (by decide) ho hd) (depl_of hdep 6 5 (by decide) ho hd)) (g_sl hop (eval_of h0) (congrArg some (eval_of h1)) rfl rfl (r6 w')))
  | 7, ho, hL, _ =>
    obtain ⟨hop, hdst, hgd⟩ := tab_at htab ho (show rny27T[7]? = _ from rfl)
    simp only at hop hgd
    have h0 := frm_at (val := val c) hdis ha 2 107 (hds 2 107 rfl) (by omega) (depl_of hdep 7 2 (by decide) ho hd)
    have h1 := frm_at (val := val c) hdis ha 6 111 (hds 6 111 rfl) (by omega) (depl_of hdep 7 6 (by decide) ho hd)
    obtain ⟨c', W', q0, q1, q2⟩ := r7 _ c L w' hW hL (depl_of hdep 7 2 (by decide) ho hd) (depl_of hdep 7 6 (by decide) ho hd)
    exact doesX_runw ho (wanted_none hgd) c' q0 q2 (g_app hop (eval_of h0) (eval_of h1) q1)
  | 8, ho, hL, _ =>
    obtain ⟨hop, hdst, hgd⟩ := tab_at htab ho (show rny27T[8]? = _ from rfl)
    simp only at hop hgd
    have h0 := frm_at (val := val c) hdis ha 7 112 (hds 7 112 rfl) (by omega) (depl_of hdep 8 7 (by decide) ho hd)
    exact doesX_of (doesL_run ho (wanted_none hgd) (r8 c L w' hW hL (depl_of hdep 8 7 (by decide) ho hd)) (by rw [run_assign _ _ _ hop]; exact congrArg (fun v => Result.ok (Next.value v) w') (eval_of h0)))
  | (i + 9), ho, hL, hi => exact absurd hi (by omega)
end Go.Proofs.YtjopnhhdemfniaaGreatDoor
namespace Go.Proofs.YtjopnhhdemfniaaGreatDoor
open Go.RowKit
structure C3 where
  a : Value
  b : Value
  v : Value
end Go.Proofs.YtjopnhhdemfniaaGreatDoor
namespace Go.Proofs.YtjopnhhdemfniaaGreatDoor
open Go.RowKit
def vrpo5 (X _Z : Nat) (n : Int) (V : Value) (_c : Unit) (i : Nat) : Value := match i with
  | 0 => V
  | 1 => (.int .i64 (0 : Int))
  | 2 => (.bool true)
  | 3 => (.bool true)
  | 4 => (.pointer (some ⟨X, 0 + 1, none⟩))
  | 5 => (.int .i64 (n : Int))
  | 6 => (.int .i64 (n : Int))
  | 7 => (.bool true)
  | 8 => (.bool true)
  | 9 => undef
  | 10 => (.bool true)
  | _ => undef
def rpo5T : List (Op × Option Tmp × Option (Nat × Bool)) := [
  (.load 24 (.tmp 8), some 23, none),
  (.move (.tmp 7), some 24, none),
  (.binOp .eql 35 (.tmp 24) (.const (.int .i64 0)) 35, some 25, none),
  (.move (.tmp 25), some 26, none),
  (.fieldAddr 24 (.tmp 8) 1, some 27, some (3, true)),
  (.load 3 (.tmp 27), some 28, some (3, true)),
  (.move (.tmp 1), some 29, some (3, true)),
  (.binOp .eql 3 (.tmp 28) (.tmp 29) 3, some 30, some (3, true)),
  (.pick (.tmp 26) (.tmp 30) (.const (.bool false)), some 31, none),
  (.store 24 (.tmp 4) (.tmp 23), none, none),
  (.assign (.tmp 31), some 5, none)]
def rpo5D : List (Nat × Nat) := [(2, 1), (3, 2), (4, 3), (5, 3), (5, 4), (6, 3), (7, 3), (7, 5), (7, 6), (8, 3), (8, 7), (9, 0), (10, 8)]
set_option maxHeartbeats 4000000 in
theorem rpo5 {ops : Array Oper} {id : Nat} {Q : Exit → Act → World → Prop} (X Z : Nat) (n : Int) (V : Value) (htab : ops.toList.map (fun o => (o.op, o.dst, o.guard)) = rpo5T) (hdep : deplB rpo5D ops = true) (hac : acB ops = true)
    (a0 : Act) (w : World) (hsz : 32 ≤ a0.tmps.size) (o1 : a0.tmps[1]? = some (.int .i64 (n : Int))) (o4 : a0.tmps[4]? = some (.pointer (some ⟨Z, 0, none⟩))) (o7 : a0.tmps[7]? = some (.int .i64 (0 : Int))) (o8 : a0.tmps[8]? = some (.pointer (some ⟨X, 0, none⟩)))
    (Wd : Unit → (Nat → Bool) → World → Prop) (h0 : ∃ c, Wd c (fun _ => false) w.drew) (hpure : ∀ i, i ∉ ([9] : List Nat) → ∀ c L W, Wd c L W → Wd c (upd L i) W)
    (r0 : ∀ c L W, Wd c L W → L 0 = false → (Instr.loadAt 24 (.pointer (some ⟨X, 0, none⟩))).run Tryz.prog W = .ok V W)
    (r2 : ∀ W, (do eqGuard .eql 35 (.tmp 24) (.const (.int .i64 0)) (.int .i64 (0 : Int)) (.int .i64 0); binOp .eql 35 (.int .i64 (0 : Int)) (.int .i64 0)).run Tryz.prog W = .ok (.bool true) W)
    (r5 : ∀ c L W, Wd c L W → L 5 = false → L 4 = true → (Instr.loadAt 3 (.pointer (some ⟨X, 0 + 1, none⟩))).run Tryz.prog W = .ok (.int .i64 (n : Int)) W)
    (r7 : ∀ W, (do eqGuard .eql 3 (.tmp 28) (.tmp 29) (.int .i64 (n : Int)) (.int .i64 (n : Int)); binOp .eql 3 (.int .i64 (n : Int)) (.int .i64 (n : Int))).run Tryz.prog W = .ok (.bool true) W)
    (r9 : ∀ c L W, Wd c L W → L 9 = false → L 0 = true → ∃ W', (Instr.storeAt 24 (.pointer (some ⟨Z, 0, none⟩)) V).run Tryz.prog W = .ok () W' ∧ Wd c (upd L 9) W')
    (hend : ∀ c L W, (∀ i, i < 11 → L i = true) → Wd c L W → Q .normal ((((((((((a0.put (some 23) V).put (some 24) (.int .i64 (0 : Int))).put (some 25) (.bool true)).put (some 26) (.bool true)).put (some 27) (.pointer (some ⟨X, 0 + 1, none⟩))).put (some 28) (.int .i64 (n : Int))).put (some 29) (.int .i64 (n : Int))).put (some 30) (.bool true)).put (some 31) (.bool true)).put (some 5) (.bool true)) W) : (Code.region id ops true).wp Tryz.prog Q a0 w := by
  let val : Unit → Nat → Value := vrpo5 X Z n V
  have hosz : ops.size = 11 := by
    have := congrArg List.length htab
    simpa [rpo5T] using this
  have hds : ∀ i s, (rpo5T[i]?).bind (·.2.1) = some s → dstOf ops i = some s := fun i s hi => by rw [tab_dst htab, hi]
  have hdisB : disL rpo5T = true := by rfl
  have hdis := disL_of htab hdisB
  have hold : ∀ s, rpo5T.all (fun x => !(x.2.1 == some s)) = true → (List.range ops.size).all (fun j => !(dstOf ops j == some s)) = true := fun s h => holdL htab s h
  refine region_detX val Wd (hac_of hac) hdis h0 ?_ ?_
  rotate_left
  · intro c L W hall hW
    have := hend c L W (by rw [← hosz]; exact hall) hW
    have e : frm ops a0 (val c) (fun _ => true) ops.size = ((((((((((a0.put (some 23) V).put (some 24) (.int .i64 (0 : Int))).put (some 25) (.bool true)).put (some 26) (.bool true)).put (some 27) (.pointer (some ⟨X, 0 + 1, none⟩))).put (some 28) (.int .i64 (n : Int))).put (some 29) (.int .i64 (n : Int))).put (some 30) (.bool true)).put (some 31) (.bool true)).put (some 5) (.bool true)) := by
      rw [hosz]
      simp only [frm, if_true]
      rw [tab_dst htab 0, tab_dst htab 1, tab_dst htab 2, tab_dst htab 3, tab_dst htab 4, tab_dst htab 5, tab_dst htab 6, tab_dst htab 7, tab_dst htab 8, (show dstOf ops 9 = none from (tab_dst htab 9).trans rfl), put_none, tab_dst htab 10]
      rfl
    rw [e]
    exact this
  intro i o ho c L a w' hL hd ha hW
  have hi : i < 11 := by rw [← hosz]; exact (Array.getElem?_eq_some_iff.1 ho).1
  match i, ho, hL, hi with
  | 0, ho, hL, _ =>
    obtain ⟨hop, hdst, hgd⟩ := tab_at htab ho (show rpo5T[0]? = _ from rfl)
    simp only at hop hgd
    have h0 := frm_old (val := val c) ha 8 _ (hold 8 rfl) o8
    exact doesX_of (doesL_run ho (wanted_none hgd) (hpure 0 (by decide) c L w' hW) (g_load hop (eval_of h0) (r0 c L w' hW hL)))
  | 1, ho, hL, _ =>
    obtain ⟨hop, hdst, hgd⟩ := tab_at htab ho (show rpo5T[1]? = _ from rfl)
    simp only at hop hgd
    have h0 := frm_old (val := val c) ha 7 _ (hold 7 rfl) o7
    exact doesX_of (doesL_run ho (wanted_none hgd) (hpure 1 (by decide) c L w' hW) (by rw [run_move _ _ _ hop]; exact congrArg (fun v => Result.ok (Next.value v) w') (eval_of h0)))
  | 2, ho, hL, _ =>
    obtain ⟨hop, hdst, hgd⟩ := tab_at htab ho (show rpo5T[2]? = _ from rfl)
    simp only at hop hgd
    have h0 := frm_at (val := val c) hdis ha 1 24 (hds 1 24 rfl) (by omega) (depl_of hdep 2 1 (by decide) ho hd)
    exact doesX_of (doesL_run ho (wanted_none hgd) (hpure 2 (by decide) c L w' hW) (g_bin hop (eval_of h0) rfl (r2 w')))
  | 3, ho, hL, _ =>
    obtain ⟨hop, hdst, hgd⟩ := tab_at htab ho (show rpo5T[3]? = _ from rfl)
    simp only at hop hgd
    have h0 := frm_at (val := val c) hdis ha 2 25 (hds 2 25 rfl) (by omega) (depl_of hdep 3 2 (by decide) ho hd)
    exact doesX_of (doesL_run ho (wanted_none hgd) (hpure 3 (by decide) c L w' hW) (by rw [run_move _ _ _ hop]; exact congrArg (fun v => Result.ok (Next.value v) w') (eval_of h0)))
  | 4, ho, hL, _ =>
    obtain ⟨hop, hdst, hgd⟩ := tab_at htab ho (show rpo5T[4]? = _ from rfl)
    simp only at hop hgd
    have hg := frm_at (val := val c) hdis ha 3 26 (hds 3 26 rfl) (by omega) (depl_of hdep 4 3 (by decide) ho hd)
    have h0 := frm_old (val := val c) ha 8 _ (hold 8 rfl) o8
    exact doesX_of (doesL_run ho (wanted_at (b := true) hgd (hds 3 26 rfl) hg) (hpure 4 (by decide) c L w' hW) (g_field hop (eval_of h0) (by kernel_rfl)))
  | 5, ho, hL, _ =>
    obtain ⟨hop, hdst, hgd⟩ := tab_at htab ho (show rpo5T[5]? = _ from rfl)
    simp only at hop hgd
    have hg := frm_at (val := val c) hdis ha 3 26 (hds 3 26 rfl) (by omega) (depl_of hdep 5 3 (by decide) ho hd)
    have h0 := frm_at (val := val c) hdis ha 4 27 (hds 4 27 rfl) (by omega) (depl_of hdep 5 4 (by decide) ho hd)
    exact doesX_of (doesL_run ho (wanted_at (b := true) hgd (hds 3 26 rfl) hg) (hpure 5 (by decide) c L w' hW) (g_load hop (eval_of h0) (r5 c L w' hW hL (depl_of hdep 5 4 (by decide) ho hd))))
  | 6, ho, hL, _ =>
    obtain ⟨hop, hdst, hgd⟩ := tab_at htab ho (show rpo5T[6]? = _ from rfl)
    simp only at hop hgd
    have hg := frm_at (val := val c) hdis ha 3 26 (hds 3 26 rfl) (by omega) (depl_of hdep 6 3 (by decide) ho hd)
    have h0 := frm_old (val := val c) ha 1 _ (hold 1 rfl) o1
    exact doesX_of (doesL_run ho (wanted_at (b := true) hgd (hds 3 26 rfl) hg) (hpure 6 (by decide) c L w' hW) (by rw [run_move _ _ _ hop]; exact congrArg (fun v => Result.ok (Next.value v) w') (eval_of h0)))
  | 7, ho, hL, _ =>
    obtain ⟨hop, hdst, hgd⟩ := tab_at htab ho (show rpo5T[7]? = _ from rfl)
    simp only at hop hgd
    have hg := frm_at (val := val c) hdis ha 3 26 (hds 3 26 rfl) (by omega) (depl_of hdep 7 3 (by decide) ho hd)
    have h0 := frm_at (val := val c) hdis ha 5 28 (hds 5 28 rfl) (by omega) (depl_of hdep 7 5 (by decide) ho hd)
    have h1 := frm_at (val := val c) hdis ha 6 29 (hds 6 29 rfl) (by omega) (depl_of hdep 7 6 (by decide) ho hd)
    exact doesX_of (doesL_run ho (wanted_at (b := true) hgd (hds 3 26 rfl) hg) (hpure 7 (by decide) c L w' hW) (g_bin hop (eval_of h0) (eval_of h1) (r7 w')))
  | 8, ho, hL, _ =>
    obtain ⟨hop, hdst, hgd⟩ := tab_at htab ho (show rpo5T[8]? = _ from rfl)
    simp only at hop hgd
    have h0 := frm_at (val := val c) hdis ha 3 26 (hds 3 26 rfl) (by omega) (depl_of hdep 8 3 (by decide) ho hd)
    have h1 := frm_at (val := val c) hdis ha 7 30 (hds 7 30 rfl) (by omega) (depl_of hdep 8 7 (by decide) ho hd)
    exact doesX_of (doesL_run ho (wanted_none hgd) (hpure 8 (by decide) c L w' hW) (by rw [run_pick _ _ _ _ _ hop true (eval_of h0)]; exact congrArg (fun v => Result.ok (Next.value v) w') (eval_of h1)))
  | 9, ho, hL, _ =>
    obtain ⟨hop, hdst, hgd⟩ := tab_at htab ho (show rpo5T[9]? = _ from rfl)
    simp only at hop hgd
    have h0 := frm_old (val := val c) ha 4 _ (hold 4 rfl) o4
    have h1 := frm_at (val := val c) hdis ha 0 23 (hds 0 23 rfl) (by omega) (depl_of hdep 9 0 (by decide) ho hd)
    obtain ⟨W', q1, q2⟩ := r9 c L w' hW hL (depl_of hdep 9 0 (by decide) ho hd)
    exact doesX_of (doesL_skp ho (wanted_none hgd) rfl q2 (g_store hop (eval_of h0) (eval_of h1) q1))
  | 10, ho, hL, _ =>
    obtain ⟨hop, hdst, hgd⟩ := tab_at htab ho (show rpo5T[10]? = _ from rfl)
    simp only at hop hgd
    have h0 := frm_at (val := val c) hdis ha 8 31 (hds 8 31 rfl) (by omega) (depl_of hdep 10 8 (by decide) ho hd)
    exact doesX_of (doesL_run ho (wanted_none hgd) (hpure 10 (by decide) c L w' hW) (by rw [run_assign _ _ _ hop]; exact congrArg (fun v => Result.ok (Next.value v) w') (eval_of h0)))
  | (i + 11), ho, hL, hi => exact absurd hi (by omega)
def vrlv22 (_X _A _B : Nat) (Vs : Value) (_c : Unit) (i : Nat) : Value := match i with
  | 0 => Vs
  | 1 => Vs
  | 2 => undef
  | 3 => undef
  | 4 => (.bool true)
  | _ => undef
def rlv22T : List (Op × Option Tmp × Option (Nat × Bool)) := [
  (.load 83 (.tmp 7), some 112, none),
  (.load 83 (.tmp 7), some 113, none),
  (.store 83 (.tmp 10) (.tmp 112), none, none),
  (.store 83 (.tmp 11) (.tmp 113), none, none),
  (.assign (.const (.bool true)), some 12, none)]
def rlv22D : List (Nat × Nat) := [(2, 0), (3, 1)]
set_option maxHeartbeats 4000000 in
theorem rlv22 {ops : Array Oper} {id : Nat} {Q : Exit → Act → World → Prop} (X A B : Nat) (Vs : Value) (htab : ops.toList.map (fun o => (o.op, o.dst, o.guard)) = rlv22T) (hdep : deplB rlv22D ops = true) (hac : acB ops = true)
    (a0 : Act) (w : World) (hsz : 114 ≤ a0.tmps.size) (o7 : a0.tmps[7]? = some (.pointer (some ⟨X, 0, none⟩))) (o10 : a0.tmps[10]? = some (.pointer (some ⟨A, 0, none⟩))) (o11 : a0.tmps[11]? = some (.pointer (some ⟨B, 0, none⟩)))
    (Wd : Unit → (Nat → Bool) → World → Prop) (h0 : ∃ c, Wd c (fun _ => false) w.drew) (hpure : ∀ i, i ∉ ([2, 3] : List Nat) → ∀ c L W, Wd c L W → Wd c (upd L i) W)
    (r0 : ∀ c L W, Wd c L W → L 0 = false → (Instr.loadAt 83 (.pointer (some ⟨X, 0, none⟩))).run Tryz.prog W = .ok Vs W)
    (r1 : ∀ c L W, Wd c L W → L 1 = false → (Instr.loadAt 83 (.pointer (some ⟨X, 0, none⟩))).run Tryz.prog W = .ok Vs W)
    (r2 : ∀ c L W, Wd c L W → L 2 = false → L 0 = true → ∃ W', (Instr.storeAt 83 (.pointer (some ⟨A, 0, none⟩)) Vs).run Tryz.prog W = .ok () W' ∧ Wd c (upd L 2) W')
    (r3 : ∀ c L W, Wd c L W → L 3 = false → L 1 = true → ∃ W', (Instr.storeAt 83 (.pointer (some ⟨B, 0, none⟩)) Vs).run Tryz.prog W = .ok () W' ∧ Wd c (upd L 3) W')
    (hend : ∀ c L W, (∀ i, i < 5 → L i = true) → Wd c L W → Q .normal (((a0.put (some 112) Vs).put (some 113) Vs).put (some 12) (.bool true)) W) : (Code.region id ops true).wp Tryz.prog Q a0 w := by
  let val : Unit → Nat → Value := vrlv22 X A B Vs
  have hosz : ops.size = 5 := by
    have := congrArg List.length htab
    simpa [rlv22T] using this
  have hds : ∀ i s, (rlv22T[i]?).bind (·.2.1) = some s → dstOf ops i = some s := fun i s hi => by rw [tab_dst htab, hi]
  have hdisB : disL rlv22T = true := by rfl
  have hdis := disL_of htab hdisB
  have hold : ∀ s, rlv22T.all (fun x => !(x.2.1 == some s)) = true → (List.range ops.size).all (fun j => !(dstOf ops j == some s)) = true := fun s h => holdL htab s h
  refine region_detX val Wd (hac_of hac) hdis h0 ?_ ?_
  rotate_left
  · intro c L W hall hW
    have := hend c L W (by rw [← hosz]; exact hall) hW
    have e : frm ops a0 (val c) (fun _ => true) ops.size = (((a0.put (some 112) Vs).put (some 113) Vs).put (some 12) (.bool true)) := by
      rw [hosz]
      simp only [frm, if_true]
      rw [tab_dst htab 0, tab_dst htab 1, (show dstOf ops 2 = none from (tab_dst htab 2).trans rfl), put_none, (show dstOf ops 3 = none from (tab_dst htab 3).trans rfl), put_none, tab_dst htab 4]
      rfl
    rw [e]
    exact this
  intro i o ho c L a w' hL hd ha hW
  have hi : i < 5 := by rw [← hosz]; exact (Array.getElem?_eq_some_iff.1 ho).1
  match i, ho, hL, hi with
  | 0, ho, hL, _ =>
    obtain ⟨hop, hdst, hgd⟩ := tab_at htab ho (show rlv22T[0]? = _ from rfl)
    simp only at hop hgd
    have h0 := frm_old (val := val c) ha 7 _ (hold 7 rfl) o7
    exact doesX_of (doesL_run ho (wanted_none hgd) (hpure 0 (by decide) c L w' hW) (g_load hop (eval_of h0) (r0 c L w' hW hL)))
  | 1, ho, hL, _ =>
    obtain ⟨hop, hdst, hgd⟩ := tab_at htab ho (show rlv22T[1]? = _ from rfl)
    simp only at hop hgd
    have h0 := frm_old (val := val c) ha 7 _ (hold 7 rfl) o7
    exact doesX_of (doesL_run ho (wanted_none hgd) (hpure 1 (by decide) c L w' hW) (g_load hop (eval_of h0) (r1 c L w' hW hL)))
  | 2, ho, hL, _ =>
    obtain ⟨hop, hdst, hgd⟩ := tab_at htab ho (show rlv22T[2]? = _ from rfl)
    simp only at hop hgd
    have h0 := frm_old (val := val c) ha 10 _ (hold 10 rfl) o10
    have h1 := frm_at (val := val c) hdis ha 0 112 (hds 0 112 rfl) (by omega) (depl_of hdep 2 0 (by decide) ho hd)
    obtain ⟨W', q1, q2⟩ := r2 c L w' hW hL (depl_of hdep 2 0 (by decide) ho hd)
    exact doesX_of (doesL_skp ho (wanted_none hgd) rfl q2 (g_store hop (eval_of h0) (eval_of h1) q1))
  | 3, ho, hL, _ =>
    obtain ⟨hop, hdst, hgd⟩ := tab_at htab ho (show rlv22T[3]? = _ from rfl)
    simp only at hop hgd
    have h0 := frm_old (val := val c) ha 11 _ (hold 11 rfl) o11
    have h1 := frm_at (val := val c) hdis ha 1 113 (hds 1 113 rfl) (by omega) (depl_of hdep 3 1 (by decide) ho hd)
    obtain ⟨W', q1, q2⟩ := r3 c L w' hW hL (depl_of hdep 3 1 (by decide) ho hd)
    exact doesX_of (doesL_skp ho (wanted_none hgd) rfl q2 (g_store hop (eval_of h0) (eval_of h1) q1))
  | 4, ho, hL, _ =>
    obtain ⟨hop, hdst, hgd⟩ := tab_at htab ho (show rlv22T[4]? = _ from rfl)
    simp only at hop hgd
    exact doesX_of (doesL_run ho (wanted_none hgd) (hpure 4 (by decide) c L w' hW) (by rw [run_assign _ _ _ hop]; exact congrArg (fun v => Result.ok (Next.value v) w') rfl))
  | (i + 5), ho, hL, hi => exact absurd hi (by omega)
def vrlv15 (_X _Y _A _B : Nat) (Vs Vn : Value) (_c : Unit) (i : Nat) : Value := match i with
  | 0 => Vs
  | 1 => Vn
  | 2 => (.bool true)
  | 3 => (.bool true)
  | 4 => (.bool true)
  | 5 => (.bool true)
  | 6 => undef
  | 7 => undef
  | 8 => (.bool true)
  | _ => undef
def rlv15T : List (Op × Option Tmp × Option (Nat × Bool)) := [
  (.load 83 (.tmp 7), some 93, none),
  (.load 83 (.tmp 16), some 94, none),
  (.move (.tmp 20), some 95, none),
  (.move (.tmp 95), some 96, none),
  (.move (.tmp 21), some 97, some (3, true)),
  (.pick (.tmp 96) (.tmp 97) (.const (.bool false)), some 98, none),
  (.store 83 (.tmp 10) (.tmp 93), none, none),
  (.store 83 (.tmp 11) (.tmp 94), none, none),
  (.assign (.tmp 98), some 12, none)]
def rlv15D : List (Nat × Nat) := [(3, 2), (4, 3), (5, 3), (5, 4), (6, 0), (7, 1), (8, 5)]
set_option maxHeartbeats 4000000 in
theorem rlv15 {ops : Array Oper} {id : Nat} {Q : Exit → Act → World → Prop} (X Y A B : Nat) (Vs Vn : Value) (htab : ops.toList.map (fun o => (o.op, o.dst, o.guard)) = rlv15T) (hdep : deplB rlv15D ops = true) (hac : acB ops = true)
    (a0 : Act) (w : World) (hsz : 99 ≤ a0.tmps.size) (o7 : a0.tmps[7]? = some (.pointer (some ⟨X, 0, none⟩))) (o10 : a0.tmps[10]? = some (.pointer (some ⟨A, 0, none⟩))) (o11 : a0.tmps[11]? = some (.pointer (some ⟨B, 0, none⟩))) (o16 : a0.tmps[16]? = some (.pointer (some ⟨Y, 0, none⟩))) (o20 : a0.tmps[20]? = some (.bool true)) (o21 : a0.tmps[21]? = some (.bool true))
    (Wd : Unit → (Nat → Bool) → World → Prop) (h0 : ∃ c, Wd c (fun _ => false) w.drew) (hpure : ∀ i, i ∉ ([6, 7] : List Nat) → ∀ c L W, Wd c L W → Wd c (upd L i) W)
    (r0 : ∀ c L W, Wd c L W → L 0 = false → (Instr.loadAt 83 (.pointer (some ⟨X, 0, none⟩))).run Tryz.prog W = .ok Vs W)
    (r1 : ∀ c L W, Wd c L W → L 1 = false → (Instr.loadAt 83 (.pointer (some ⟨Y, 0, none⟩))).run Tryz.prog W = .ok Vn W)
    (r6 : ∀ c L W, Wd c L W → L 6 = false → L 0 = true → ∃ W', (Instr.storeAt 83 (.pointer (some ⟨A, 0, none⟩)) Vs).run Tryz.prog W = .ok () W' ∧ Wd c (upd L 6) W')
    (r7 : ∀ c L W, Wd c L W → L 7 = false → L 1 = true → ∃ W', (Instr.storeAt 83 (.pointer (some ⟨B, 0, none⟩)) Vn).run Tryz.prog W = .ok () W' ∧ Wd c (upd L 7) W')
    (hend : ∀ c L W, (∀ i, i < 9 → L i = true) → Wd c L W → Q .normal (((((((a0.put (some 93) Vs).put (some 94) Vn).put (some 95) (.bool true)).put (some 96) (.bool true)).put (some 97) (.bool true)).put (some 98) (.bool true)).put (some 12) (.bool true)) W) : (Code.region id ops true).wp Tryz.prog Q a0 w := by
  let val : Unit → Nat → Value := vrlv15 X Y A B Vs Vn
  have hosz : ops.size = 9 := by
    have := congrArg List.length htab
    simpa [rlv15T] using this
  have hds : ∀ i s, (rlv15T[i]?).bind (·.2.1) = some s → dstOf ops i = some s := fun i s hi => by rw [tab_dst htab, hi]
  have hdisB : disL rlv15T = true := by rfl
  have hdis := disL_of htab hdisB
  have hold : ∀ s, rlv15T.all (fun x => !(x.2.1 == some s)) = true → (List.range ops.size).all (fun j => !(dstOf ops j == some s)) = true := fun s h => holdL htab s h
  refine region_detX val Wd (hac_of hac) hdis h0 ?_ ?_
  rotate_left
  · intro c L W hall hW
    have := hend c L W (by rw [← hosz]; exact hall) hW
    have e : frm ops a0 (val c) (fun _ => true) ops.size = (((((((a0.put (some 93) Vs).put (some 94) Vn).put (some 95) (.bool true)).put (some 96) (.bool true)).put (some 97) (.bool true)).put (some 98) (.bool true)).put (some 12) (.bool true)) := by
      rw [hosz]
      simp only [frm, if_true]
      rw [tab_dst htab 0, tab_dst htab 1, tab_dst htab 2, tab_dst htab 3, tab_dst htab 4, tab_dst htab 5, (show dstOf ops 6 = none from (tab_dst htab 6).trans rfl), put_none, (show dstOf ops 7 = none from (tab_dst htab 7).trans rfl), put_none, tab_dst htab 8]
      rfl
    rw [e]
    exact this
  intro i o ho c L a w' hL hd ha hW
  have hi : i < 9 := by rw [← hosz]; exact (Array.getElem?_eq_some_iff.1 ho).1
  match i, ho, hL, hi with
  | 0, ho, hL, _ =>
    obtain ⟨hop, hdst, hgd⟩ := tab_at htab ho (show rlv15T[0]? = _ from rfl)
    simp only at hop hgd
    have h0 := frm_old (val := val c) ha 7 _ (hold 7 rfl) o7
    exact doesX_of (doesL_run ho (wanted_none hgd) (hpure 0 (by decide) c L w' hW) (g_load hop (eval_of h0) (r0 c L w' hW hL)))
  | 1, ho, hL, _ =>
    obtain ⟨hop, hdst, hgd⟩ := tab_at htab ho (show rlv15T[1]? = _ from rfl)
    simp only at hop hgd
    have h0 := frm_old (val := val c) ha 16 _ (hold 16 rfl) o16
    exact doesX_of (doesL_run ho (wanted_none hgd) (hpure 1 (by decide) c L w' hW) (g_load hop (eval_of h0) (r1 c L w' hW hL)))
  | 2, ho, hL, _ =>
    obtain ⟨hop, hdst, hgd⟩ := tab_at htab ho (show rlv15T[2]? = _ from rfl)
    simp only at hop hgd
    have h0 := frm_old (val := val c) ha 20 _ (hold 20 rfl) o20
    exact doesX_of (doesL_run ho (wanted_none hgd) (hpure 2 (by decide) c L w' hW) (by rw [run_move _ _ _ hop]; exact congrArg (fun v => Result.ok (Next.value v) w') (eval_of h0)))
  | 3, ho, hL, _ =>
    obtain ⟨hop, hdst, hgd⟩ := tab_at htab ho (show rlv15T[3]? = _ from rfl)
    simp only at hop hgd
    have h0 := frm_at (val := val c) hdis ha 2 95 (hds 2 95 rfl) (by omega) (depl_of hdep 3 2 (by decide) ho hd)
    exact doesX_of (doesL_run ho (wanted_none hgd) (hpure 3 (by decide) c L w' hW) (by rw [run_move _ _ _ hop]; exact congrArg (fun v => Result.ok (Next.value v) w') (eval_of h0)))
  | 4, ho, hL, _ =>
    obtain ⟨hop, hdst, hgd⟩ := tab_at htab ho (show rlv15T[4]? = _ from rfl)
    simp only at hop hgd
    have hg := frm_at (val := val c) hdis ha 3 96 (hds 3 96 rfl) (by omega) (depl_of hdep 4 3 (by decide) ho hd)
    have h0 := frm_old (val := val c) ha 21 _ (hold 21 rfl) o21
    exact doesX_of (doesL_run ho (wanted_at (b := true) hgd (hds 3 96 rfl) hg) (hpure 4 (by decide) c L w' hW) (by rw [run_move _ _ _ hop]; exact congrArg (fun v => Result.ok (Next.value v) w') (eval_of h0)))
  | 5, ho, hL, _ =>
    obtain ⟨hop, hdst, hgd⟩ := tab_at htab ho (show rlv15T[5]? = _ from rfl)
    simp only at hop hgd
    have h0 := frm_at (val := val c) hdis ha 3 96 (hds 3 96 rfl) (by omega) (depl_of hdep 5 3 (by decide) ho hd)
    have h1 := frm_at (val := val c) hdis ha 4 97 (hds 4 97 rfl) (by omega) (depl_of hdep 5 4 (by decide) ho hd)
    exact doesX_of (doesL_run ho (wanted_none hgd) (hpure 5 (by decide) c L w' hW) (by rw [run_pick _ _ _ _ _ hop true (eval_of h0)]; exact congrArg (fun v => Result.ok (Next.value v) w') (eval_of h1)))
  | 6, ho, hL, _ =>
    obtain ⟨hop, hdst, hgd⟩ := tab_at htab ho (show rlv15T[6]? = _ from rfl)
    simp only at hop hgd
    have h0 := frm_old (val := val c) ha 10 _ (hold 10 rfl) o10
    have h1 := frm_at (val := val c) hdis ha 0 93 (hds 0 93 rfl) (by omega) (depl_of hdep 6 0 (by decide) ho hd)
    obtain ⟨W', q1, q2⟩ := r6 c L w' hW hL (depl_of hdep 6 0 (by decide) ho hd)
    exact doesX_of (doesL_skp ho (wanted_none hgd) rfl q2 (g_store hop (eval_of h0) (eval_of h1) q1))
  | 7, ho, hL, _ =>
    obtain ⟨hop, hdst, hgd⟩ := tab_at htab ho (show rlv15T[7]? = _ from rfl)
    simp only at hop hgd
    have h0 := frm_old (val := val c) ha 11 _ (hold 11 rfl) o11
    have h1 := frm_at (val := val c) hdis ha 1 94 (hds 1 94 rfl) (by omega) (depl_of hdep 7 1 (by decide) ho hd)
    obtain ⟨W', q1, q2⟩ := r7 c L w' hW hL (depl_of hdep 7 1 (by decide) ho hd)
    exact doesX_of (doesL_skp ho (wanted_none hgd) rfl q2 (g_store hop (eval_of h0) (eval_of h1) q1))
  | 8, ho, hL, _ =>
    obtain ⟨hop, hdst, hgd⟩ := tab_at htab ho (show rlv15T[8]? = _ from rfl)
    simp only at hop hgd
    have h0 := frm_at (val := val c) hdis ha 5 98 (hds 5 98 rfl) (by omega) (depl_of hdep 8 5 (by decide) ho hd)
    exact doesX_of (doesL_run ho (wanted_none hgd) (hpure 8 (by decide) c L w' hW) (by rw [run_assign _ _ _ hop]; exact congrArg (fun v => Result.ok (Next.value v) w') (eval_of h0)))
  | (i + 9), ho, hL, hi => exact absurd hi (by omega)
end Go.Proofs.YtjopnhhdemfniaaGreatDoor
namespace Go.Proofs.YtjopnhhdemfniaaGreatDoor
open Go.RowKit
def vris3 (X Pp nl cl mm : Nat) (q1 : Option Addr) (ge ro : Int) (nb : ByteArray) (_c : Unit) (i : Nat) : Value := match i with
  | 0 => (.bool true)
  | 1 => (.bool false)
  | 2 => (.bool false)
  | 3 => (.pointer (some ⟨Pp, 0, none⟩))
  | 4 => (.int .i64 (ge : Int))
  | 5 => (.pointer (some ⟨X, 0 + 0, none⟩))
  | 6 => (.int .i64 (ge : Int))
  | 7 => (.bool false)
  | 8 => (.bool false)
  | 9 => (.bool false)
  | 10 => (.pointer (some ⟨Pp, 0, none⟩))
  | 11 => (.int .i64 (ro : Int))
  | 12 => (.pointer (some ⟨X, 0 + 1, none⟩))
  | 13 => (.int .i64 (ro : Int))
  | 14 => (.bool false)
  | 15 => (.bool false)
  | 16 => (.bool false)
  | 17 => (.pointer (some ⟨Pp, 0, none⟩))
  | 18 => (.string nb)
  | 19 => (.pointer (some ⟨X, 0 + 2, none⟩))
  | 20 => (.string nb)
  | 21 => (.bool false)
  | 22 => (.bool false)
  | 23 => (.bool false)
  | 24 => (.pointer (some ⟨Pp, 0, none⟩))
  | 25 => (.int .i64 (mm : Int))
  | 26 => (.int .i64 (mm : Int))
  | 27 => (.bool false)
  | 28 => (.bool false)
  | 29 => (.bool false)
  | 30 => (.pointer (some ⟨Pp, 0, none⟩))
  | 31 => (.bool false)
  | 32 => (.bool false)
  | 33 => (.bool false)
  | 34 => (.pointer (some ⟨Pp, 0, none⟩))
  | 35 => (.int .i64 (0 : Int))
  | 36 => (.bool false)
  | 37 => (.bool false)
  | 38 => (.bool false)
  | 39 => (.pointer (some ⟨Pp, 0, none⟩))
  | 40 => (.int .i64 (mm - 2 - nl : Int))
  | 41 => (.int .i64 (mm : Int))
  | 42 => (.int .i64 (mm - 2 : Int))
  | 43 => (.slice q1 nl cl)
  | 44 => (.int .i64 (nl : Int))
  | 45 => (.int .i64 (mm - 2 - nl : Int))
  | 46 => (.bool false)
  | 47 => (.bool false)
  | _ => undef
def ris3T : List (Op × Option Tmp × Option (Nat × Bool)) := [
  (.move (.tmp 8), some 20, none),
  (.unOp .not 4 (.tmp 20), some 21, none),
  (.move (.tmp 21), some 22, none),
  (.move (.tmp 1), some 23, some (2, false)),
  (.call { callee := .value (.func 40), args := #[(.tmp 23)], argTypes := #[57] }, some 24, some (2, false)),
  (.fieldAddr 83 (.tmp 3) 0, some 25, some (2, false)),
  (.load 3 (.tmp 25), some 26, some (2, false)),
  (.binOp .neq 3 (.tmp 24) (.tmp 26) 3, some 27, some (2, false)),
  (.pick (.tmp 22) (.const (.bool true)) (.tmp 27), some 28, none),
  (.move (.tmp 28), some 29, none),
  (.move (.tmp 1), some 30, some (9, false)),
  (.call { callee := .value (.func 54), args := #[(.tmp 30)], argTypes := #[57] }, some 31, some (9, false)),
  (.fieldAddr 83 (.tmp 3) 1, some 32, some (9, false)),
  (.load 3 (.tmp 32), some 33, some (9, false)),
  (.binOp .neq 3 (.tmp 31) (.tmp 33) 3, some 34, some (9, false)),
  (.pick (.tmp 29) (.const (.bool true)) (.tmp 34), some 35, none),
  (.move (.tmp 35), some 36, none),
  (.move (.tmp 1), some 37, some (16, false)),
  (.call { callee := .value (.func 55), args := #[(.tmp 37)], argTypes := #[57] }, some 38, some (16, false)),
  (.fieldAddr 83 (.tmp 3) 2, some 39, some (16, false)),
  (.load 9 (.tmp 39), some 40, some (16, false)),
  (.binOp .neq 9 (.tmp 38) (.tmp 40) 9, some 41, some (16, false)),
  (.pick (.tmp 36) (.const (.bool true)) (.tmp 41), some 42, none),
  (.move (.tmp 42), some 43, none),
  (.move (.tmp 1), some 44, some (23, false)),
  (.call { callee := .value (.func 111), args := #[(.tmp 44)], argTypes := #[57] }, some 45, some (23, false)),
  (.move (.tmp 2), some 46, some (23, false)),
  (.binOp .neq 3 (.tmp 45) (.tmp 46) 3, some 47, some (23, false)),
  (.pick (.tmp 43) (.const (.bool true)) (.tmp 47), some 48, none),
  (.move (.tmp 48), some 49, none),
  (.move (.tmp 1), some 50, some (29, false)),
  (.call { callee := .value (.func 112), args := #[(.tmp 50)], argTypes := #[57] }, some 51, some (29, false)),
  (.pick (.tmp 49) (.const (.bool true)) (.tmp 51), some 52, none),
  (.move (.tmp 52), some 53, none),
  (.move (.tmp 1), some 54, some (33, false)),
  (.call { callee := .value (.func 113), args := #[(.tmp 54)], argTypes := #[57] }, some 55, some (33, false)),
  (.binOp .neq 3 (.tmp 55) (.const (.int .i64 0)) 3, some 56, some (33, false)),
  (.pick (.tmp 53) (.const (.bool true)) (.tmp 56), some 57, none),
  (.move (.tmp 57), some 58, none),
  (.move (.tmp 1), some 59, some (38, false)),
  (.call { callee := .value (.func 49), args := #[(.tmp 59)], argTypes := #[57] }, some 60, some (38, false)),
  (.move (.tmp 2), some 61, some (38, false)),
  (.binOp .sub 3 (.tmp 61) (.const (.int .i64 2)) 3, some 62, some (38, false)),
  (.move (.tmp 7), some 63, some (38, false)),
  (.call { callee := .builtin .len, args := #[(.tmp 63)], argTypes := #[22] }, some 64, some (38, false)),
  (.binOp .sub 3 (.tmp 62) (.tmp 64) 3, some 65, some (38, false)),
  (.binOp .neq 3 (.tmp 60) (.tmp 65) 3, some 66, some (38, false)),
  (.pick (.tmp 58) (.const (.bool true)) (.tmp 66), some 67, none)]
def ris3D : List (Nat × Nat) := [(1, 0), (2, 1), (3, 2), (4, 2), (4, 3), (5, 2), (6, 2), (6, 5), (7, 2), (7, 4), (7, 6), (8, 2), (8, 7), (9, 8), (10, 9), (11, 9), (11, 10), (12, 9), (13, 9), (13, 12), (14, 9), (14, 11), (14, 13), (15, 9), (15, 14), (16, 15), (17, 16), (18, 16), (18, 17), (19, 16), (20, 16), (20, 19), (21, 16), (21, 18), (21, 20), (22, 16), (22, 21), (23, 22), (24, 23), (25, 23), (25, 24), (26, 23), (27, 23), (27, 25), (27, 26), (28, 23), (28, 27), (29, 28), (30, 29), (31, 29), (31, 30), (32, 29), (32, 31), (33, 32), (34, 33), (35, 33), (35, 34), (36, 33), (36, 35), (37, 33), (37, 36), (38, 37), (39, 38), (40, 38), (40, 39), (41, 38), (42, 38), (42, 41), (43, 38), (44, 38), (44, 43), (45, 38), (45, 42), (45, 44), (46, 38), (46, 40), (46, 45), (47, 38), (47, 46)]
set_option maxHeartbeats 4000000 in
theorem ris3 {ops : Array Oper} {id : Nat} {Q : Exit → Act → World → Prop} (X Pp nl cl mm : Nat) (q1 : Option Addr) (ge ro : Int) (nb : ByteArray) (htab : ops.toList.map (fun o => (o.op, o.dst, o.guard)) = ris3T) (hdep : deplB ris3D ops = true) (hac : acB ops = true)
    (a0 : Act) (w : World) (hsz : 68 ≤ a0.tmps.size) (o1 : a0.tmps[1]? = some (.pointer (some ⟨Pp, 0, none⟩))) (o2 : a0.tmps[2]? = some (.int .i64 (mm : Int))) (o3 : a0.tmps[3]? = some (.pointer (some ⟨X, 0, none⟩))) (o7 : a0.tmps[7]? = some (.slice q1 nl cl)) (o8 : a0.tmps[8]? = some (.bool true))
    (Wd : Unit → (Nat → Bool) → World → Prop) (h0 : ∃ c, Wd c (fun _ => false) w.drew) (hpure : ∀ i, i ∉ ([4, 11, 18, 25, 31, 35, 40] : List Nat) → ∀ c L W, Wd c L W → Wd c (upd L i) W)
    (r4 : ∀ c L W, Wd c L W → L 4 = false → L 3 = true → Calls Tryz.prog 40 #[(.pointer (some ⟨Pp, 0, none⟩))] W fun eg w' => ∃ c', (∀ j, L j = true → vris3 X Pp nl cl mm q1 ge ro nb c' j = vris3 X Pp nl cl mm q1 ge ro nb c j) ∧ eg = .returned (vris3 X Pp nl cl mm q1 ge ro nb c' 4) ∧ Wd c' (upd L 4) w')
    (r6 : ∀ c L W, Wd c L W → L 6 = false → L 5 = true → (Instr.loadAt 3 (.pointer (some ⟨X, 0 + 0, none⟩))).run Tryz.prog W = .ok (.int .i64 (ge : Int)) W)
    (r7 : ∀ W, (do eqGuard .neq 3 (.tmp 24) (.tmp 26) (.int .i64 (ge : Int)) (.int .i64 (ge : Int)); binOp .neq 3 (.int .i64 (ge : Int)) (.int .i64 (ge : Int))).run Tryz.prog W = .ok (.bool false) W)
    (r11 : ∀ c L W, Wd c L W → L 11 = false → L 10 = true → Calls Tryz.prog 54 #[(.pointer (some ⟨Pp, 0, none⟩))] W fun eg w' => ∃ c', (∀ j, L j = true → vris3 X Pp nl cl mm q1 ge ro nb c' j = vris3 X Pp nl cl mm q1 ge ro nb c j) ∧ eg = .returned (vris3 X Pp nl cl mm q1 ge ro nb c' 11) ∧ Wd c' (upd L 11) w')
    (r13 : ∀ c L W, Wd c L W → L 13 = false → L 12 = true → (Instr.loadAt 3 (.pointer (some ⟨X, 0 + 1, none⟩))).run Tryz.prog W = .ok (.int .i64 (ro : Int)) W)
    (r14 : ∀ W, (do eqGuard .neq 3 (.tmp 31) (.tmp 33) (.int .i64 (ro : Int)) (.int .i64 (ro : Int)); binOp .neq 3 (.int .i64 (ro : Int)) (.int .i64 (ro : Int))).run Tryz.prog W = .ok (.bool false) W)
    (r18 : ∀ c L W, Wd c L W → L 18 = false → L 17 = true → Calls Tryz.prog 55 #[(.pointer (some ⟨Pp, 0, none⟩))] W fun eg w' => ∃ c', (∀ j, L j = true → vris3 X Pp nl cl mm q1 ge ro nb c' j = vris3 X Pp nl cl mm q1 ge ro nb c j) ∧ eg = .returned (vris3 X Pp nl cl mm q1 ge ro nb c' 18) ∧ Wd c' (upd L 18) w')
    (r20 : ∀ c L W, Wd c L W → L 20 = false → L 19 = true → (Instr.loadAt 9 (.pointer (some ⟨X, 0 + 2, none⟩))).run Tryz.prog W = .ok (.string nb) W)
    (r21 : ∀ W, (do eqGuard .neq 9 (.tmp 38) (.tmp 40) (.string nb) (.string nb); binOp .neq 9 (.string nb) (.string nb)).run Tryz.prog W = .ok (.bool false) W)
    (r25 : ∀ c L W, Wd c L W → L 25 = false → L 24 = true → Calls Tryz.prog 111 #[(.pointer (some ⟨Pp, 0, none⟩))] W fun eg w' => ∃ c', (∀ j, L j = true → vris3 X Pp nl cl mm q1 ge ro nb c' j = vris3 X Pp nl cl mm q1 ge ro nb c j) ∧ eg = .returned (vris3 X Pp nl cl mm q1 ge ro nb c' 25) ∧ Wd c' (upd L 25) w')
    (r27 : ∀ W, (do eqGuard .neq 3 (.tmp 45) (.tmp 46) (.int .i64 (mm : Int)) (.int .i64 (mm : Int)); binOp .neq 3 (.int .i64 (mm : Int)) (.int .i64 (mm : Int))).run Tryz.prog W = .ok (.bool false) W)
    (r31 : ∀ c L W, Wd c L W → L 31 = false → L 30 = true → Calls Tryz.prog 112 #[(.pointer (some ⟨Pp, 0, none⟩))] W fun eg w' => ∃ c', (∀ j, L j = true → vris3 X Pp nl cl mm q1 ge ro nb c' j = vris3 X Pp nl cl mm q1 ge ro nb c j) ∧ eg = .returned (vris3 X Pp nl cl mm q1 ge ro nb c' 31) ∧ Wd c' (upd L 31) w')
    (r35 : ∀ c L W, Wd c L W → L 35 = false → L 34 = true → Calls Tryz.prog 113 #[(.pointer (some ⟨Pp, 0, none⟩))] W fun eg w' => ∃ c', (∀ j, L j = true → vris3 X Pp nl cl mm q1 ge ro nb c' j = vris3 X Pp nl cl mm q1 ge ro nb c j) ∧ eg = .returned (vris3 X Pp nl cl mm q1 ge ro nb c' 35) ∧ Wd c' (upd L 35) w')
    (r36 : ∀ W, (do eqGuard .neq 3 (.tmp 55) (.const (.int .i64 0)) (.int .i64 (0 : Int)) (.int .i64 0); binOp .neq 3 (.int .i64 (0 : Int)) (.int .i64 0)).run Tryz.prog W = .ok (.bool false) W)
    (r40 : ∀ c L W, Wd c L W → L 40 = false → L 39 = true → Calls Tryz.prog 49 #[(.pointer (some ⟨Pp, 0, none⟩))] W fun eg w' => ∃ c', (∀ j, L j = true → vris3 X Pp nl cl mm q1 ge ro nb c' j = vris3 X Pp nl cl mm q1 ge ro nb c j) ∧ eg = .returned (vris3 X Pp nl cl mm q1 ge ro nb c' 40) ∧ Wd c' (upd L 40) w')
    (r42 : ∀ W, (do eqGuard .sub 3 (.tmp 61) (.const (.int .i64 2)) (.int .i64 (mm : Int)) (.int .i64 2); binOp .sub 3 (.int .i64 (mm : Int)) (.int .i64 2)).run Tryz.prog W = .ok (.int .i64 (mm - 2 : Int)) W)
    (r45 : ∀ W, (do eqGuard .sub 3 (.tmp 62) (.tmp 64) (.int .i64 (mm - 2 : Int)) (.int .i64 (nl : Int)); binOp .sub 3 (.int .i64 (mm - 2 : Int)) (.int .i64 (nl : Int))).run Tryz.prog W = .ok (.int .i64 (mm - 2 - nl : Int)) W)
    (r46 : ∀ W, (do eqGuard .neq 3 (.tmp 60) (.tmp 65) (.int .i64 (mm - 2 - nl : Int)) (.int .i64 (mm - 2 - nl : Int)); binOp .neq 3 (.int .i64 (mm - 2 - nl : Int)) (.int .i64 (mm - 2 - nl : Int))).run Tryz.prog W = .ok (.bool false) W)
    (hend : ∀ c L W, (∀ i, i < 48 → L i = true) → Wd c L W → Q .normal ((((((((((((((((((((((((((((((((((((((((((((((((a0.put (some 20) (.bool true)).put (some 21) (.bool false)).put (some 22) (.bool false)).put (some 23) (.pointer (some ⟨Pp, 0, none⟩))).put (some 24) (.int .i64 (ge : Int))).put (some 25) (.pointer (some ⟨X, 0 + 0, none⟩))).put (some 26) (.int .i64 (ge : Int))).put (some 27) (.bool false)).put (some 28) (.bool false)).put (some 29) (.bool false)).put (some 30) (.pointer (some ⟨Pp, 0, none⟩))).put (some 31) (.int .i64 (ro : Int))).put (some 32) (.pointer (some ⟨X, 0 + 1, none⟩))).put (some 33) (.int .i64 (ro : Int))).put (some 34) (.bool false)).put (some 35) (.bool false)).put (some 36) (.bool false)).put (some 37) (.pointer (some ⟨Pp, 0, none⟩))).put (some 38) (.string nb)).put (some 39) (.pointer (some ⟨X, 0 + 2, none⟩))).put (some 40) (.string nb)).put (some 41) (.bool false)).put (some 42) (.bool false)).put (some 43) (.bool false)).put (some 44) (.pointer (some ⟨Pp, 0, none⟩))).put (some 45) (.int .i64 (mm : Int))).put (some 46) (.int .i64 (mm : Int))).put (some 47) (.bool false)).put (some 48) (.bool false)).put (some 49) (.bool false)).put (some 50) (.pointer (some ⟨Pp, 0, none⟩))).put (some 51) (.bool false)).put (some 52) (.bool false)).put (some 53) (.bool false)).put (some 54) (.pointer (some ⟨Pp, 0, none⟩))).put (some 55) (.int .i64 (0 : Int))).put (some 56) (.bool false)).put (some 57) (.bool false)).put (some 58) (.bool false)).put (some 59) (.pointer (some ⟨Pp, 0, none⟩))).put (some 60) (.int .i64 (mm - 2 - nl : Int))).put (some 61) (.int .i64 (mm : Int))).put (some 62) (.int .i64 (mm - 2 : Int))).put (some 63) (.slice q1 nl cl)).put (some 64) (.int .i64 (nl : Int))).put (some 65) (.int .i64 (mm - 2 - nl : Int))).put (some 66) (.bool false)).put (some 67) (.bool false)) W) : (Code.region id ops true).wp Tryz.prog Q a0 w := by
  let val : Unit → Nat → Value := vris3 X Pp nl cl mm q1 ge ro nb
  have hosz : ops.size = 48 := by
    have := congrArg List.length htab
    simpa [ris3T] using this
  have hds : ∀ i s, (ris3T[i]?).bind (·.2.1) = some s → dstOf ops i = some s := fun i s hi => by rw [tab_dst htab, hi]
  have hdisB : disL ris3T = true := by rfl
  have hdis := disL_of htab hdisB
  have hold : ∀ s, ris3T.all (fun x => !(x.2.1 == some s)) = true → (List.range ops.size).all (fun j => !(dstOf ops j == some s)) = true := fun s h => holdL htab s h
  refine region_detX val Wd (hac_of hac) hdis h0 ?_ ?_
  rotate_left
  · intro c L W hall hW
    have := hend c L W (by rw [← hosz]; exact hall) hW
    have e : frm ops a0 (val c) (fun _ => true) ops.size = ((((((((((((((((((((((((((((((((((((((((((((((((a0.put (some 20) (.bool true)).put (some 21) (.bool false)).put (some 22) (.bool false)).put (some 23) (.pointer (some ⟨Pp, 0, none⟩))).put (some 24) (.int .i64 (ge : Int))).put (some 25) (.pointer (some ⟨X, 0 + 0, none⟩))).put (some 26) (.int .i64 (ge : Int))).put (some 27) (.bool false)).put (some 28) (.bool false)).put (some 29) (.bool false)).put (some 30) (.pointer (some ⟨Pp, 0, none⟩))).put (some 31) (.int .i64 (ro : Int))).put (some 32) (.pointer (some ⟨X, 0 + 1, none⟩))).put (some 33) (.int .i64 (ro : Int))).put (some 34) (.bool false)).put (some 35) (.bool false)).put (some 36) (.bool false)).put (some 37) (.pointer (some ⟨Pp, 0, none⟩))).put (some 38) (.string nb)).put (some 39) (.pointer (some ⟨X, 0 + 2, none⟩))).put (some 40) (.string nb)).put (some 41) (.bool false)).put (some 42) (.bool false)).put (some 43) (.bool false)).put (some 44) (.pointer (some ⟨Pp, 0, none⟩))).put (some 45) (.int .i64 (mm : Int))).put (some 46) (.int .i64 (mm : Int))).put (some 47) (.bool false)).put (some 48) (.bool false)).put (some 49) (.bool false)).put (some 50) (.pointer (some ⟨Pp, 0, none⟩))).put (some 51) (.bool false)).put (some 52) (.bool false)).put (some 53) (.bool false)).put (some 54) (.pointer (some ⟨Pp, 0, none⟩))).put (some 55) (.int .i64 (0 : Int))).put (some 56) (.bool false)).put (some 57) (.bool false)).put (some 58) (.bool false)).put (some 59) (.pointer (some ⟨Pp, 0, none⟩))).put (some 60) (.int .i64 (mm - 2 - nl : Int))).put (some 61) (.int .i64 (mm : Int))).put (some 62) (.int .i64 (mm - 2 : Int))).put (some 63) (.slice q1 nl cl)).put (some 64) (.int .i64 (nl : Int))).put (some 65) (.int .i64 (mm - 2 - nl : Int))).put (some 66) (.bool false)).put (some 67) (.bool false)) := by
      rw [hosz]
      simp only [frm, if_true]
      rw [tab_dst htab 0, tab_dst htab 1, tab_dst htab 2, tab_dst htab 3, tab_dst htab 4, tab_dst htab 5, tab_dst htab 6, tab_dst htab 7, tab_dst htab 8, tab_dst htab 9, tab_dst htab 10, tab_dst htab 11, tab_dst htab 12, tab_dst htab 13, tab_dst htab 14, tab_dst htab 15, tab_dst htab 16, tab_dst htab 17, tab_dst htab 18, tab_dst htab 19, tab_dst htab 20, tab_dst htab 21, tab_dst htab 22, tab_dst htab 23, tab_dst htab 24, tab_dst htab 25, tab_dst htab 26, tab_dst htab 27, tab_dst htab 28, tab_dst htab 29, tab_dst htab 30, tab_dst htab 31, tab_dst htab 32, tab_dst htab 33, tab_dst htab 34, tab_dst htab 35, tab_dst htab 36, tab_dst htab 37, tab_dst htab 38, tab_dst htab 39, tab_dst htab 40, tab_dst htab 41, tab_dst htab 42, tab_dst htab 43, tab_dst htab 44, tab_dst htab 45, tab_dst htab 46, tab_dst htab 47]
      rfl
    rw [e]
    exact this
  intro i o ho c L a w' hL hd ha hW
  have hi : i < 48 := by rw [← hosz]; exact (Array.getElem?_eq_some_iff.1 ho).1
  match i, ho, hL, hi with
  | 0, ho, hL, _ =>
    obtain ⟨hop, hdst, hgd⟩ := tab_at htab ho (show ris3T[0]? = _ from rfl)
    simp only at hop hgd
    have h0 := frm_old (val := val c) ha 8 _ (hold 8 rfl) o8
    exact doesX_of (doesL_run ho (wanted_none hgd) (hpure 0 (by decide) c L w' hW) (by rw [run_move _ _ _ hop]; exact congrArg (fun v => Result.ok (Next.value v) w') (eval_of h0)))
  | 1, ho, hL, _ =>
    obtain ⟨hop, hdst, hgd⟩ := tab_at htab ho (show ris3T[1]? = _ from rfl)
    simp only at hop hgd
    have h0 := frm_at (val := val c) hdis ha 0 20 (hds 0 20 rfl) (by omega) (depl_of hdep 1 0 (by decide) ho hd)
    exact doesX_of (doesL_run ho (wanted_none hgd) (hpure 1 (by decide) c L w' hW) (run_not _ _ _ _ hop _ (eval_of h0) _))
  | 2, ho, hL, _ =>
    obtain ⟨hop, hdst, hgd⟩ := tab_at htab ho (show ris3T[2]? = _ from rfl)
    simp only at hop hgd
    have h0 := frm_at (val := val c) hdis ha 1 21 (hds 1 21 rfl) (by omega) (depl_of hdep 2 1 (by decide) ho hd)
    exact doesX_of (doesL_run ho (wanted_none hgd) (hpure 2 (by decide) c L w' hW) (by rw [run_move _ _ _ hop]; exact congrArg (fun v => Result.ok (Next.value v) w') (eval_of h0)))
  | 3, ho, hL, _ =>
    obtain ⟨hop, hdst, hgd⟩ := tab_at htab ho (show ris3T[3]? = _ from rfl)
    simp only at hop hgd
    have hg := frm_at (val := val c) hdis ha 2 22 (hds 2 22 rfl) (by omega) (depl_of hdep 3 2 (by decide) ho hd)
    have h0 := frm_old (val := val c) ha 1 _ (hold 1 rfl) o1
    exact doesX_of (doesL_run ho (wanted_at (b := false) hgd (hds 2 22 rfl) hg) (hpure 3 (by decide) c L w' hW) (by rw [run_move _ _ _ hop]; exact congrArg (fun v => Result.ok (Next.value v) w') (eval_of h0)))
  | 4, ho, hL, _ =>
    obtain ⟨hop, hdst, hgd⟩ := tab_at htab ho (show ris3T[4]? = _ from rfl)
    simp only at hop hgd
    have hg := frm_at (val := val c) hdis ha 2 22 (hds 2 22 rfl) (by omega) (depl_of hdep 4 2 (by decide) ho hd)
    have h0 := frm_at (val := val c) hdis ha 3 23 (hds 3 23 rfl) (by omega) (depl_of hdep 4 3 (by decide) ho hd)
    refine doesX_call ho (wanted_at (b := false) hgd (hds 2 22 rfl) hg) 40 #[(.pointer (some ⟨Pp, 0, none⟩))] ?_ (r4 c L w' hW hL (depl_of hdep 4 3 (by decide) ho hd))
    rw [run_calls Tryz.func40 (by kernel_rfl) rfl _ _ _ _ hop rfl]
    simp only [List.map_toArray, List.map_cons, List.map_nil, eval_of h0]
    all_goals rfl
  | 5, ho, hL, _ =>
    obtain ⟨hop, hdst, hgd⟩ := tab_at htab ho (show ris3T[5]? = _ from rfl)
    simp only at hop hgd
    have hg := frm_at (val := val c) hdis ha 2 22 (hds 2 22 rfl) (by omega) (depl_of hdep 5 2 (by decide) ho hd)
    have h0 := frm_old (val := val c) ha 3 _ (hold 3 rfl) o3
    exact doesX_of (doesL_run ho (wanted_at (b := false) hgd (hds 2 22 rfl) hg) (hpure 5 (by decide) c L w' hW) (g_field hop (eval_of h0) (by kernel_rfl)))
  | 6, ho, hL, _ =>
    obtain ⟨hop, hdst, hgd⟩ := tab_at htab ho (show ris3T[6]? = _ from rfl)
    simp only at hop hgd
    have hg := frm_at (val := val c) hdis ha 2 22 (hds 2 22 rfl) (by omega) (depl_of hdep 6 2 (by decide) ho hd)
    have h0 := frm_at (val := val c) hdis ha 5 25 (hds 5 25 rfl) (by omega) (depl_of hdep 6 5 (by decide) ho hd)
    exact doesX_of (doesL_run ho (wanted_at (b := false) hgd (hds 2 22 rfl) hg) (hpure 6 (by decide) c L w' hW) (g_load hop (eval_of h0) (r6 c L w' hW hL (depl_of hdep 6 5 (by decide) ho hd))))
  | 7, ho, hL, _ =>
    obtain ⟨hop, hdst, hgd⟩ := tab_at htab ho (show ris3T[7]? = _ from rfl)
    simp only at hop hgd
    have hg := frm_at (val := val c) hdis ha 2 22 (hds 2 22 rfl) (by omega) (depl_of hdep 7 2 (by decide) ho hd)
    have h0 := frm_at (val := val c) hdis ha 4 24 (hds 4 24 rfl) (by omega) (depl_of hdep 7 4 (by decide) ho hd)
    have h1 := frm_at (val := val c) hdis ha 6 26 (hds 6 26 rfl) (by omega) (depl_of hdep 7 6 (by decide) ho hd)
    exact doesX_of (doesL_run ho (wanted_at (b := false) hgd (hds 2 22 rfl) hg) (hpure 7 (by decide) c L w' hW) (g_bin hop (eval_of h0) (eval_of h1) (r7 w')))
  | 8, ho, hL, _ =>
    obtain ⟨hop, hdst, hgd⟩ := tab_at htab ho (show ris3T[8]? = _ from rfl)
    simp only at hop hgd
    have h0 := frm_at (val := val c) hdis ha 2 22 (hds 2 22 rfl) (by omega) (depl_of hdep 8 2 (by decide) ho hd)
    have h2 := frm_at (val := val c) hdis ha 7 27 (hds 7 27 rfl) (by omega) (depl_of hdep 8 7 (by decide) ho hd)
    exact doesX_of (doesL_run ho (wanted_none hgd) (hpure 8 (by decide) c L w' hW) (by rw [run_pick _ _ _ _ _ hop false (eval_of h0)]; exact congrArg (fun v => Result.ok (Next.value v) w') (eval_of h2)))
  | 9, ho, hL, _ =>
    obtain ⟨hop, hdst, hgd⟩ := tab_at htab ho (show ris3T[9]? = _ from rfl)
    simp only at hop hgd
    have h0 := frm_at (val := val c) hdis ha 8 28 (hds 8 28 rfl) (by omega) (depl_of hdep 9 8 (by decide) ho hd)
    exact doesX_of (doesL_run ho (wanted_none hgd) (hpure 9 (by decide) c L w' hW) (by rw [run_move _ _ _ hop]; exact congrArg (fun v => Result.ok (Next.value v) w') (eval_of h0)))
  | 10, ho, hL, _ =>
    obtain ⟨hop, hdst, hgd⟩ := tab_at htab ho (show ris3T[10]? = _ from rfl)
    simp only at hop hgd
    have hg := frm_at (val := val c) hdis ha 9 29 (hds 9 29 rfl) (by omega) (depl_of hdep 10 9 (by decide) ho hd)
    have h0 := frm_old (val := val c) ha 1 _ (hold 1 rfl) o1
    exact doesX_of (doesL_run ho (wanted_at (b := false) hgd (hds 9 29 rfl) hg) (hpure 10 (by decide) c L w' hW) (by rw [run_move _ _ _ hop]; exact congrArg (fun v => Result.ok (Next.value v) w') (eval_of h0)))
  | 11, ho, hL, _ =>
    obtain ⟨hop, hdst, hgd⟩ := tab_at htab ho (show ris3T[11]? = _ from rfl)
    simp only at hop hgd
    have hg := frm_at (val := val c) hdis ha 9 29 (hds 9 29 rfl) (by omega) (depl_of hdep 11 9 (by decide) ho hd)
    have h0 := frm_at (val := val c) hdis ha 10 30 (hds 10 30 rfl) (by omega) (depl_of hdep 11 10 (by decide) ho hd)
    refine doesX_call ho (wanted_at (b := false) hgd (hds 9 29 rfl) hg) 54 #[(.pointer (some ⟨Pp, 0, none⟩))] ?_ (r11 c L w' hW hL (depl_of hdep 11 10 (by decide) ho hd))
    rw [run_calls Tryz.func54 (by kernel_rfl) rfl _ _ _ _ hop rfl]
    simp only [List.map_toArray, List.map_cons, List.map_nil, eval_of h0]
    all_goals rfl
  | 12, ho, hL, _ =>
    obtain ⟨hop, hdst, hgd⟩ := tab_at htab ho (show ris3T[12]? = _ from rfl)
    simp only at hop hgd
    have hg := frm_at (val := val c) hdis ha 9 29 (hds 9 29 rfl) (by omega) (depl_of hdep 12 9 (by decide) ho hd)
    have h0 := frm_old (val := val c) ha 3 _ (hold 3 rfl) o3
    exact doesX_of (doesL_run ho (wanted_at (b := false) hgd (hds 9 29 rfl) hg) (hpure 12 (by decide) c L w' hW) (g_field hop (eval_of h0) (by kernel_rfl)))
  | 13, ho, hL, _ =>
    obtain ⟨hop, hdst, hgd⟩ := tab_at htab ho (show ris3T[13]? = _ from rfl)
    simp only at hop hgd
    have hg := frm_at (val := val c) hdis ha 9 29 (hds 9 29 rfl) (by omega) (depl_of hdep 13 9 (by decide) ho hd)
    have h0 := frm_at (val := val c) hdis ha 12 32 (hds 12 32 rfl) (by omega) (depl_of hdep 13 12 (by decide) ho hd)
    exact doesX_of (doesL_run ho (wanted_at (b := false) hgd (hds 9 29 rfl) hg) (hpure 13 (by decide) c L w' hW) (g_load hop (eval_of h0) (r13 c L w' hW hL (depl_of hdep 13 12 (by decide) ho hd))))
  | 14, ho, hL, _ =>
    obtain ⟨hop, hdst, hgd⟩ := tab_at htab ho (show ris3T[14]? = _ from rfl)
    simp only at hop hgd
    have hg := frm_at (val := val c) hdis ha 9 29 (hds 9 29 rfl) (by omega) (depl_of hdep 14 9 (by decide) ho hd)
    have h0 := frm_at (val := val c) hdis ha 11 31 (hds 11 31 rfl) (by omega) (depl_of hdep 14 11 (by decide) ho hd)
    have h1 := frm_at (val := val c) hdis ha 13 33 (hds 13 33 rfl) (by omega) (depl_of hdep 14 13 (by decide) ho hd)
    exact doesX_of (doesL_run ho (wanted_at (b := false) hgd (hds 9 29 rfl) hg) (hpure 14 (by decide) c L w' hW) (g_bin hop (eval_of h0) (eval_of h1) (r14 w')))
  | 15, ho, hL, _ =>
    obtain ⟨hop, hdst, hgd⟩ := tab_at htab ho (show ris3T[15]? = _ from rfl)
    simp only at hop hgd
    have h0 := frm_at (val := val c) hdis ha 9 29 (hds 9 29 rfl) (by omega) (depl_of hdep 15 9 (by decide) ho hd)
    have h2 := frm_at (val := val c) hdis ha 14 34 (hds 14 34 rfl) (by omega) (depl_of hdep 15 14 (by decide) ho hd)
    exact doesX_of (doesL_run ho (wanted_none hgd) (hpure 15 (by decide) c L w' hW) (by rw [run_pick _ _ _ _ _ hop false (eval_of h0)]; exact congrArg (fun v => Result.ok (Next.value v) w') (eval_of h2)))
  | 16, ho, hL, _ =>
    obtain ⟨hop, hdst, hgd⟩ := tab_at htab ho (show ris3T[16]? = _ from rfl)
    simp only at hop hgd
    have h0 := frm_at (val := val c) hdis ha 15 35 (hds 15 35 rfl) (by omega) (depl_of hdep 16 15 (by decide) ho hd)
    exact doesX_of (doesL_run ho (wanted_none hgd) (hpure 16 (by decide) c L w' hW) (by rw [run_move _ _ _ hop]; exact congrArg (fun v => Result.ok (Next.value v) w') (eval_of h0)))
  | 17, ho, hL, _ =>
    obtain ⟨hop, hdst, hgd⟩ := tab_at htab ho (show ris3T[17]? = _ from rfl)
    simp only at hop hgd
    have hg := frm_at (val := val c) hdis ha 16 36 (hds 16 36 rfl) (by omega) (depl_of hdep 17 16 (by decide) ho hd)
    have h0 := frm_old (val := val c) ha 1 _ (hold 1 rfl) o1
    exact doesX_of (doesL_run ho (wanted_at (b := false) hgd (hds 16 36 rfl) hg) (hpure 17 (by decide) c L w' hW) (by rw [run_move _ _ _ hop]; exact congrArg (fun v => Result.ok (Next.value v) w') (eval_of h0)))
  | 18, ho, hL, _ =>
    obtain ⟨hop, hdst, hgd⟩ := tab_at htab ho (show ris3T[18]? = _ from rfl)
    simp only at hop hgd
    have hg := frm_at (val := val c) hdis ha 16 36 (hds 16 36 rfl) (by omega) (depl_of hdep 18 16 (by decide) ho hd)
    have h0 := frm_at (val := val c) hdis ha 17 37 (hds 17 37 rfl) (by omega) (depl_of hdep 18 17 (by decide) ho hd)
    refine doesX_call ho (wanted_at (b := false) hgd (hds 16 36 rfl) hg) 55 #[(.pointer (some ⟨Pp, 0, none⟩))] ?_ (r18 c L w' hW hL (depl_of hdep 18 17 (by decide) ho hd))
    rw [run_calls Tryz.func55 (by kernel_rfl) rfl _ _ _ _ hop rfl]
    simp only [List.map_toArray, List.map_cons, List.map_nil, eval_of h0]
    all_goals rfl
  | 19, ho, hL, _ =>
    obtain ⟨hop, hdst, hgd⟩ := tab_at htab ho (show ris3T[19]? = _ from rfl)
    simp only at hop hgd
    have hg := frm_at (val := val c) hdis ha 16 36 (hds 16 36 rfl) (by omega) (depl_of hdep 19 16 (by decide) ho hd)
    have h0 := frm_old (val := val c) ha 3 _ (hold 3 rfl) o3
    exact doesX_of (doesL_run ho (wanted_at (b := false) hgd (hds 16 36 rfl) hg) (hpure 19 (by decide) c L w' hW) (g_field hop (eval_of h0) (by kernel_rfl)))
  | 20, ho, hL, _ =>
    obtain ⟨hop, hdst, hgd⟩ := tab_at htab ho (show ris3T[20]? = _ from rfl)
    simp only at hop hgd
    have hg := frm_at (val := val c) hdis ha 16 36 (hds 16 36 rfl) (by omega) (depl_of hdep 20 16 (by decide) ho hd)
    have h0 := frm_at (val := val c) hdis ha 19 39 (hds 19 39 rfl) (by omega) (depl_of hdep 20 19 (by decide) ho hd)
    exact doesX_of (doesL_run ho (wanted_at (b := false) hgd (hds 16 36 rfl) hg) (hpure 20 (by decide) c L w' hW) (g_load hop (eval_of h0) (r20 c L w' hW hL (depl_of hdep 20 19 (by decide) ho hd))))
  | 21, ho, hL, _ =>
    obtain ⟨hop, hdst, hgd⟩ := tab_at htab ho (show ris3T[21]? = _ from rfl)
    simp only at hop hgd
    have hg := frm_at (val := val c) hdis ha 16 36 (hds 16 36 rfl) (by omega) (depl_of hdep 21 16 (by decide) ho hd)
    have h0 := frm_at (val := val c) hdis ha 18 38 (hds 18 38 rfl) (by omega) (depl_of hdep 21 18 (by decide) ho hd)
    have h1 := frm_at (val := val c) hdis ha 20 40 (hds 20 40 rfl) (by omega) (depl_of hdep 21 20 (by decide) ho hd)
    exact doesX_of (doesL_run ho (wanted_at (b := false) hgd (hds 16 36 rfl) hg) (hpure 21 (by decide) c L w' hW) (g_bin hop (eval_of h0) (eval_of h1) (r21 w')))
  | 22, ho, hL, _ =>
    obtain ⟨hop, hdst, hgd⟩ := tab_at htab ho (show ris3T[22]? = _ from rfl)
    simp only at hop hgd
    have h0 := frm_at (val := val c) hdis ha 16 36 (hds 16 36 rfl) (by omega) (depl_of hdep 22 16 (by decide) ho hd)
    have h2 := frm_at (val := val c) hdis ha 21 41 (hds 21 41 rfl) (by omega) (depl_of hdep 22 21 (by decide) ho hd)
    exact doesX_of (doesL_run ho (wanted_none hgd) (hpure 22 (by decide) c L w' hW) (by rw [run_pick _ _ _ _ _ hop false (eval_of h0)]; exact congrArg (fun v => Result.ok (Next.value v) w') (eval_of h2)))
  | 23, ho, hL, _ =>
    obtain ⟨hop, hdst, hgd⟩ := tab_at htab ho (show ris3T[23]? = _ from rfl)
    simp only at hop hgd
    have h0 := frm_at (val := val c) hdis ha 22 42 (hds 22 42 rfl) (by omega) (depl_of hdep 23 22 (by decide) ho hd)
    exact doesX_of (doesL_run ho (wanted_none hgd) (hpure 23 (by decide) c L w' hW) (by rw [run_move _ _ _ hop]; exact congrArg (fun v => Result.ok (Next.value v) w') (eval_of h0)))
  | 24, ho, hL, _ =>
    obtain ⟨hop, hdst, hgd⟩ := tab_at htab ho (show ris3T[24]? = _ from rfl)
    simp only at hop hgd
    have hg := frm_at (val := val c) hdis ha 23 43 (hds 23 43 rfl) (by omega) (depl_of hdep 24 23 (by decide) ho hd)
    have h0 := frm_old (val := val c) ha 1 _ (hold 1 rfl) o1
    exact doesX_of (doesL_run ho (wanted_at (b := false) hgd (hds 23 43 rfl) hg) (hpure 24 (by decide) c L w' hW) (by rw [run_move _ _ _ hop]; exact congrArg (fun v => Result.ok (Next.value v) w') (eval_of h0)))
  | 25, ho, hL, _ =>
    obtain ⟨hop, hdst, hgd⟩ := tab_at htab ho (show ris3T[25]? = _ from rfl)
    simp only at hop hgd
    have hg := frm_at (val := val c) hdis ha 23 43 (hds 23 43 rfl) (by omega) (depl_of hdep 25 23 (by decide) ho hd)
    have h0 := frm_at (val := val c) hdis ha 24 44 (hds 24 44 rfl) (by omega) (depl_of hdep 25 24 (by decide) ho hd)
    refine doesX_call ho (wanted_at (b := false) hgd (hds 23 43 rfl) hg) 111 #[(.pointer (some ⟨Pp, 0, none⟩))] ?_ (r25 c L w' hW hL (depl_of hdep 25 24 (by decide) ho hd))
    rw [run_calls Tryz.func111 (by kernel_rfl) rfl _ _ _ _ hop rfl]
    simp only [List.map_toArray, List.map_cons, List.map_nil, eval_of h0]
    all_goals rfl
  | 26, ho, hL, _ =>
    obtain ⟨hop, hdst, hgd⟩ := tab_at htab ho (show ris3T[26]? = _ from rfl)
    simp only at hop hgd
    have hg := frm_at (val := val c) hdis ha 23 43 (hds 23 43 rfl) (by omega) (depl_of hdep 26 23 (by decide) ho hd)
    have h0 := frm_old (val := val c) ha 2 _ (hold 2 rfl) o2
    exact doesX_of (doesL_run ho (wanted_at (b := false) hgd (hds 23 43 rfl) hg) (hpure 26 (by decide) c L w' hW) (by rw [run_move _ _ _ hop]; exact congrArg (fun v => Result.ok (Next.value v) w') (eval_of h0)))
  | 27, ho, hL, _ =>
    obtain ⟨hop, hdst, hgd⟩ := tab_at htab ho (show ris3T[27]? = _ from rfl)
    simp only at hop hgd
    have hg := frm_at (val := val c) hdis ha 23 43 (hds 23 43 rfl) (by omega) (depl_of hdep 27 23 (by decide) ho hd)
    have h0 := frm_at (val := val c) hdis ha 25 45 (hds 25 45 rfl) (by omega) (depl_of hdep 27 25 (by decide) ho hd)
    have h1 := frm_at (val := val c) hdis ha 26 46 (hds 26 46 rfl) (by omega) (depl_of hdep 27 26 (by decide) ho hd)
    exact doesX_of (doesL_run ho (wanted_at (b := false) hgd (hds 23 43 rfl) hg) (hpure 27 (by decide) c L w' hW) (g_bin hop (eval_of h0) (eval_of h1) (r27 w')))
  | 28, ho, hL, _ =>
    obtain ⟨hop, hdst, hgd⟩ := tab_at htab ho (show ris3T[28]? = _ from rfl)
    simp only at hop hgd
    have h0 := frm_at (val := val c) hdis ha 23 43 (hds 23 43 rfl) (by omega) (depl_of hdep 28 23 (by decide) ho hd)
    have h2 := frm_at (val := val c) hdis ha 27 47 (hds 27 47 rfl) (by omega) (depl_of hdep 28 27 (by decide) ho hd)
    exact doesX_of (doesL_run ho (wanted_none hgd) (hpure 28 (by decide) c L w' hW) (by rw [run_pick _ _ _ _ _ hop false (eval_of h0)]; exact congrArg (fun v => Result.ok (Next.value v) w') (eval_of h2)))
  | 29, ho, hL, _ =>
    obtain ⟨hop, hdst, hgd⟩ := tab_at htab ho (show ris3T[29]? = _ from rfl)
    simp only at hop hgd
    have h0 := frm_at (val := val c) hdis ha 28 48 (hds 28 48 rfl) (by omega) (depl_of hdep 29 28 (by decide) ho hd)
    exact doesX_of (doesL_run ho (wanted_none hgd) (hpure 29 (by decide) c L w' hW) (by rw [run_move _ _ _ hop]; exact congrArg (fun v => Result.ok (Next.value v) w') (eval_of h0)))
  | 30, ho, hL, _ =>
    obtain ⟨hop, hdst, hgd⟩ := tab_at htab ho (show ris3T[30]? = _ from rfl)
    simp only at hop hgd
    have hg := frm_at (val := val c) hdis ha 29 49 (hds 29 49 rfl) (by omega) (depl_of hdep 30 29 (by decide) ho hd)
    have h0 := frm_old (val := val c) ha 1 _ (hold 1 rfl) o1
    exact doesX_of (doesL_run ho (wanted_at (b := false) hgd (hds 29 49 rfl) hg) (hpure 30 (by decide) c L w' hW) (by rw [run_move _ _ _ hop]; exact congrArg (fun v => Result.ok (Next.value v) w') (eval_of h0)))
  | 31, ho, hL, _ =>
    obtain ⟨hop, hdst, hgd⟩ := tab_at htab ho (show ris3T[31]? = _ from rfl)
    simp only at hop hgd
    have hg := frm_at (val := val c) hdis ha 29 49 (hds 29 49 rfl) (by omega) (depl_of hdep 31 29 (by decide) ho hd)
    have h0 := frm_at (val := val c) hdis ha 30 50 (hds 30 50 rfl) (by omega) (depl_of hdep 31 30 (by decide) ho hd)
    refine doesX_call ho (wanted_at (b := false) hgd (hds 29 49 rfl) hg) 112 #[(.pointer (some ⟨Pp, 0, none⟩))] ?_ (r31 c L w' hW hL (depl_of hdep 31 30 (by decide) ho hd))
    rw [run_calls Tryz.func112 (by kernel_rfl) rfl _ _ _ _ hop rfl]
    simp only [List.map_toArray, List.map_cons, List.map_nil, eval_of h0]
    all_goals rfl
  | 32, ho, hL, _ =>
    obtain ⟨hop, hdst, hgd⟩ := tab_at htab ho (show ris3T[32]? = _ from rfl)
    simp only at hop hgd
    have h0 := frm_at (val := val c) hdis ha 29 49 (hds 29 49 rfl) (by omega) (depl_of hdep 32 29 (by decide) ho hd)
    have h2 := frm_at (val := val c) hdis ha 31 51 (hds 31 51 rfl) (by omega) (depl_of hdep 32 31 (by decide) ho hd)
    exact doesX_of (doesL_run ho (wanted_none hgd) (hpure 32 (by decide) c L w' hW) (by rw [run_pick _ _ _ _ _ hop false (eval_of h0)]; exact congrArg (fun v => Result.ok (Next.value v) w') (eval_of h2)))
  | 33, ho, hL, _ =>
    obtain ⟨hop, hdst, hgd⟩ := tab_at htab ho (show ris3T[33]? = _ from rfl)
    simp only at hop hgd
    have h0 := frm_at (val := val c) hdis ha 32 52 (hds 32 52 rfl) (by omega) (depl_of hdep 33 32 (by decide) ho hd)
    exact doesX_of (doesL_run ho (wanted_none hgd) (hpure 33 (by decide) c L w' hW) (by rw [run_move _ _ _ hop]; exact congrArg (fun v => Result.ok (Next.value v) w') (eval_of h0)))
  | 34, ho, hL, _ =>
    obtain ⟨hop, hdst, hgd⟩ := tab_at htab ho (show ris3T[34]? = _ from rfl)
    simp only at hop hgd
    have hg := frm_at (val := val c) hdis ha 33 53 (hds 33 53 rfl) (by omega) (depl_of hdep 34 33 (by decide) ho hd)
    have h0 := frm_old (val := val c) ha 1 _ (hold 1 rfl) o1
    exact doesX_of (doesL_run ho (wanted_at (b := false) hgd (hds 33 53 rfl) hg) (hpure 34 (by decide) c L w' hW) (by rw [run_move _ _ _ hop]; exact congrArg (fun v => Result.ok (Next.value v) w') (eval_of h0)))
  | 35, ho, hL, _ =>
    obtain ⟨hop, hdst, hgd⟩ := tab_at htab ho (show ris3T[35]? = _ from rfl)
    simp only at hop hgd
    have hg := frm_at (val := val c) hdis ha 33 53 (hds 33 53 rfl) (by omega) (depl_of hdep 35 33 (by decide) ho hd)
    have h0 := frm_at (val := val c) hdis ha 34 54 (hds 34 54 rfl) (by omega) (depl_of hdep 35 34 (by decide) ho hd)
    refine doesX_call ho (wanted_at (b := false) hgd (hds 33 53 rfl) hg) 113 #[(.pointer (some ⟨Pp, 0, none⟩))] ?_ (r35 c L w' hW hL (depl_of hdep 35 34 (by decide) ho hd))
    rw [run_calls Tryz.func113 (by kernel_rfl) rfl _ _ _ _ hop rfl]
    simp only [List.map_toArray, List.map_cons, List.map_nil, eval_of h0]
    all_goals rfl
  | 36, ho, hL, _ =>
    obtain ⟨hop, hdst, hgd⟩ := tab_at htab ho (show ris3T[36]? = _ from rfl)
    simp only at hop hgd
    have hg := frm_at (val := val c) hdis ha 33 53 (hds 33 53 rfl) (by omega) (depl_of hdep 36 33 (by decide) ho hd)
    have h0 := frm_at (val := val c) hdis ha 35 55 (hds 35 55 rfl) (by omega) (depl_of hdep 36 35 (by decide) ho hd)
    exact doesX_of (doesL_run ho (wanted_at (b := false) hgd (hds 33 53 rfl) hg) (hpure 36 (by decide) c L w' hW) (g_bin hop (eval_of h0) rfl (r36 w')))
  | 37, ho, hL, _ =>
    obtain ⟨hop, hdst, hgd⟩ := tab_at htab ho (show ris3T[37]? = _ from rfl)
    simp only at hop hgd
    have h0 := frm_at (val := val c) hdis ha 33 53 (hds 33 53 rfl) (by omega) (depl_of hdep 37 33 (by decide) ho hd)
    have h2 := frm_at (val := val c) hdis ha 36 56 (hds 36 56 rfl) (by omega) (depl_of hdep 37 36 (by decide) ho hd)
    exact doesX_of (doesL_run ho (wanted_none hgd) (hpure 37 (by decide) c L w' hW) (by rw [run_pick _ _ _ _ _ hop false (eval_of h0)]; exact congrArg (fun v => Result.ok (Next.value v) w') (eval_of h2)))
  | 38, ho, hL, _ =>
    obtain ⟨hop, hdst, hgd⟩ := tab_at htab ho (show ris3T[38]? = _ from rfl)
    simp only at hop hgd
    have h0 := frm_at (val := val c) hdis ha 37 57 (hds 37 57 rfl) (by omega) (depl_of hdep 38 37 (by decide) ho hd)
    exact doesX_of (doesL_run ho (wanted_none hgd) (hpure 38 (by decide) c L w' hW) (by rw [run_move _ _ _ hop]; exact congrArg (fun v => Result.ok (Next.value v) w') (eval_of h0)))
  | 39, ho, hL, _ =>
    obtain ⟨hop, hdst, hgd⟩ := tab_at htab ho (show ris3T[39]? = _ from rfl)
    simp only at hop hgd
    have hg := frm_at (val := val c) hdis ha 38 58 (hds 38 58 rfl) (by omega) (depl_of hdep 39 38 (by decide) ho hd)
    have h0 := frm_old (val := val c) ha 1 _ (hold 1 rfl) o1
    exact doesX_of (doesL_run ho (wanted_at (b := false) hgd (hds 38 58 rfl) hg) (hpure 39 (by decide) c L w' hW) (by rw [run_move _ _ _ hop]; exact congrArg (fun v => Result.ok (Next.value v) w') (eval_of h0)))
  | 40, ho, hL, _ =>
    obtain ⟨hop, hdst, hgd⟩ := tab_at htab ho (show ris3T[40]? = _ from rfl)
    simp only at hop hgd
    have hg := frm_at (val := val c) hdis ha 38 58 (hds 38 58 rfl) (by omega) (depl_of hdep 40 38 (by decide) ho hd)
    have h0 := frm_at (val := val c) hdis ha 39 59 (hds 39 59 rfl) (by omega) (depl_of hdep 40 39 (by decide) ho hd)
    refine doesX_call ho (wanted_at (b := false) hgd (hds 38 58 rfl) hg) 49 #[(.pointer (some ⟨Pp, 0, none⟩))] ?_ (r40 c L w' hW hL (depl_of hdep 40 39 (by decide) ho hd))
    rw [run_calls Tryz.func49 (by kernel_rfl) rfl _ _ _ _ hop rfl]
    simp only [List.map_toArray, List.map_cons, List.map_nil, eval_of h0]
    all_goals rfl
  | 41, ho, hL, _ =>
    obtain ⟨hop, hdst, hgd⟩ := tab_at htab ho (show ris3T[41]? = _ from rfl)
    simp only at hop hgd
    have hg := frm_at (val := val c) hdis ha 38 58 (hds 38 58 rfl) (by omega) (depl_of hdep 41 38 (by decide) ho hd)
    have h0 := frm_old (val := val c) ha 2 _ (hold 2 rfl) o2
    exact doesX_of (doesL_run ho (wanted_at (b := false) hgd (hds 38 58 rfl) hg) (hpure 41 (by decide) c L w' hW) (by rw [run_move _ _ _ hop]; exact congrArg (fun v => Result.ok (Next.value v) w') (eval_of h0)))
  | 42, ho, hL, _ =>
    obtain ⟨hop, hdst, hgd⟩ := tab_at htab ho (show ris3T[42]? = _ from rfl)
    simp only at hop hgd
    have hg := frm_at (val := val c) hdis ha 38 58 (hds 38 58 rfl) (by omega) (depl_of hdep 42 38 (by decide) ho hd)
    have h0 := frm_at (val := val c) hdis ha 41 61 (hds 41 61 rfl) (by omega) (depl_of hdep 42 41 (by decide) ho hd)
    exact doesX_of (doesL_run ho (wanted_at (b := false) hgd (hds 38 58 rfl) hg) (hpure 42 (by decide) c L w' hW) (g_bin hop (eval_of h0) rfl (r42 w')))
  | 43, ho, hL, _ =>
    obtain ⟨hop, hdst, hgd⟩ := tab_at htab ho (show ris3T[43]? = _ from rfl)
    simp only at hop hgd
    have hg := frm_at (val := val c) hdis ha 38 58 (hds 38 58 rfl) (by omega) (depl_of hdep 43 38 (by decide) ho hd)
    have h0 := frm_old (val := val c) ha 7 _ (hold 7 rfl) o7
    exact doesX_of (doesL_run ho (wanted_at (b := false) hgd (hds 38 58 rfl) hg) (hpure 43 (by decide) c L w' hW) (by rw [run_move _ _ _ hop]; exact congrArg (fun v => Result.ok (Next.value v) w') (eval_of h0)))
  | 44, ho, hL, _ =>
    obtain ⟨hop, hdst, hgd⟩ := tab_at htab ho (show ris3T[44]? = _ from rfl)
    simp only at hop hgd
    have hg := frm_at (val := val c) hdis ha 38 58 (hds 38 58 rfl) (by omega) (depl_of hdep 44 38 (by decide) ho hd)
    have h0 := frm_at (val := val c) hdis ha 43 63 (hds 43 63 rfl) (by omega) (depl_of hdep 44 43 (by decide) ho hd)
    exact doesX_of (doesL_run ho (wanted_at (b := false) hgd (hds 38 58 rfl) hg) (hpure 44 (by decide) c L w' hW) (run_len22 _ _ _ hop _ _ _ (eval_of h0) _))
  | 45, ho, hL, _ =>
    obtain ⟨hop, hdst, hgd⟩ := tab_at htab ho (show ris3T[45]? = _ from rfl)
    simp only at hop hgd
    have hg := frm_at (val := val c) hdis ha 38 58 (hds 38 58 rfl) (by omega) (depl_of hdep 45 38 (by decide) ho hd)
    have h0 := frm_at (val := val c) hdis ha 42 62 (hds 42 62 rfl) (by omega) (depl_of hdep 45 42 (by decide) ho hd)
    have h1 := frm_at (val := val c) hdis ha 44 64 (hds 44 64 rfl) (by omega) (depl_of hdep 45 44 (by decide) ho hd)
    exact doesX_of (doesL_run ho (wanted_at (b := false) hgd (hds 38 58 rfl) hg) (hpure 45 (by decide) c L w' hW) (g_bin hop (eval_of h0) (eval_of h1) (r45 w')))
  | 46, ho, hL, _ =>
    obtain ⟨hop, hdst, hgd⟩ := tab_at htab ho (show ris3T[46]? = _ from rfl)
    simp only at hop hgd
    have hg := frm_at (val := val c) hdis ha 38 58 (hds 38 58 rfl) (by omega) (depl_of hdep 46 38 (by decide) ho hd)
    have h0 := frm_at (val := val c) hdis ha 40 60 (hds 40 60 rfl) (by omega) (depl_of hdep 46 40 (by decide) ho hd)
    have h1 := frm_at (val := val c) hdis ha 45 65 (hds 45 65 rfl) (by omega) (depl_of hdep 46 45 (by decide) ho hd)
    exact doesX_of (doesL_run ho (wanted_at (b := false) hgd (hds 38 58 rfl) hg) (hpure 46 (by decide) c L w' hW) (g_bin hop (eval_of h0) (eval_of h1) (r46 w')))
  | 47, ho, hL, _ =>
    obtain ⟨hop, hdst, hgd⟩ := tab_at htab ho (show ris3T[47]? = _ from rfl)
    simp only at hop hgd
    have h0 := frm_at (val := val c) hdis ha 38 58 (hds 38 58 rfl) (by omega) (depl_of hdep 47 38 (by decide) ho hd)
    have h2 := frm_at (val := val c) hdis ha 46 66 (hds 46 66 rfl) (by omega) (depl_of hdep 47 46 (by decide) ho hd)
    exact doesX_of (doesL_run ho (wanted_none hgd) (hpure 47 (by decide) c L w' hW) (by rw [run_pick _ _ _ _ _ hop false (eval_of h0)]; exact congrArg (fun v => Result.ok (Next.value v) w') (eval_of h2)))
  | (i + 48), ho, hL, hi => exact absurd hi (by omega)
def vris9 (_X Z g2 o2 n2 c2 k : Nat) (V1 V2 : Value) (_c : Unit) (i : Nat) : Value := match i with
  | 0 => V1
  | 1 => (.pointer (some ⟨Z, 0 + 3, none⟩))
  | 2 => (.slice (some ⟨g2, o2, none⟩) n2 c2)
  | 3 => (.int .i64 (k : Int))
  | 4 => (.pointer (some ⟨g2, o2 + k * 5, none⟩))
  | 5 => V2
  | 6 => (.bool true)
  | 7 => (.bool true)
  | _ => undef
def ris9T : List (Op × Option Tmp × Option (Nat × Bool)) := [
  (.load 24 (.tmp 10), some 86, none),
  (.fieldAddr 83 (.tmp 3) 3, some 87, none),
  (.load 27 (.tmp 87), some 88, none),
  (.move (.tmp 9), some 89, none),
  (.indexAddr 27 (.tmp 88) (.tmp 89), some 90, none),
  (.load 24 (.tmp 90), some 91, none),
  (.call { callee := .value (.func 64), args := #[(.tmp 86), (.tmp 91)], argTypes := #[24, 24] }, some 92, none),
  (.assign (.tmp 92), some 12, none)]
def ris9D : List (Nat × Nat) := [(2, 1), (4, 2), (4, 3), (5, 4), (6, 0), (6, 5), (7, 6)]
set_option maxHeartbeats 4000000 in
theorem ris9 {ops : Array Oper} {id : Nat} {Q : Exit → Act → World → Prop} (X Z g2 o2 n2 c2 k : Nat) (V1 V2 : Value) (htab : ops.toList.map (fun o => (o.op, o.dst, o.guard)) = ris9T) (hdep : deplB ris9D ops = true) (hac : acB ops = true)
    (a0 : Act) (w : World) (hsz : 93 ≤ a0.tmps.size) (o3 : a0.tmps[3]? = some (.pointer (some ⟨Z, 0, none⟩))) (o9 : a0.tmps[9]? = some (.int .i64 (k : Int))) (o10 : a0.tmps[10]? = some (.pointer (some ⟨X, 0, none⟩)))
    (Wd : Unit → (Nat → Bool) → World → Prop) (h0 : ∃ c, Wd c (fun _ => false) w.drew) (hpure : ∀ i, i ∉ ([6] : List Nat) → ∀ c L W, Wd c L W → Wd c (upd L i) W)
    (r0 : ∀ c L W, Wd c L W → L 0 = false → (Instr.loadAt 24 (.pointer (some ⟨X, 0, none⟩))).run Tryz.prog W = .ok V1 W)
    (r2 : ∀ c L W, Wd c L W → L 2 = false → L 1 = true → (Instr.loadAt 27 (.pointer (some ⟨Z, 0 + 3, none⟩))).run Tryz.prog W = .ok (.slice (some ⟨g2, o2, none⟩) n2 c2) W)
    (r4 : ∀ W, (Instr.indexAt 27 (.slice (some ⟨g2, o2, none⟩) n2 c2) (.int .i64 (k : Int))).run Tryz.prog W = .ok (.pointer (some ⟨g2, o2 + k * 5, none⟩)) W)
    (r5 : ∀ c L W, Wd c L W → L 5 = false → L 4 = true → (Instr.loadAt 24 (.pointer (some ⟨g2, o2 + k * 5, none⟩))).run Tryz.prog W = .ok V2 W)
    (r6 : ∀ c L W, Wd c L W → L 6 = false → L 0 = true → L 5 = true → Calls Tryz.prog 64 #[V1, V2] W fun eg w' => ∃ c', (∀ j, L j = true → vris9 X Z g2 o2 n2 c2 k V1 V2 c' j = vris9 X Z g2 o2 n2 c2 k V1 V2 c j) ∧ eg = .returned (vris9 X Z g2 o2 n2 c2 k V1 V2 c' 6) ∧ Wd c' (upd L 6) w')
    (hend : ∀ c L W, (∀ i, i < 8 → L i = true) → Wd c L W → Q .normal ((((((((a0.put (some 86) V1).put (some 87) (.pointer (some ⟨Z, 0 + 3, none⟩))).put (some 88) (.slice (some ⟨g2, o2, none⟩) n2 c2)).put (some 89) (.int .i64 (k : Int))).put (some 90) (.pointer (some ⟨g2, o2 + k * 5, none⟩))).put (some 91) V2).put (some 92) (.bool true)).put (some 12) (.bool true)) W) : (Code.region id ops true).wp Tryz.prog Q a0 w := by
  let val : Unit → Nat → Value := vris9 X Z g2 o2 n2 c2 k V1 V2
  have hosz : ops.size = 8 := by
    have := congrArg List.length htab
    simpa [ris9T] using this
  have hds : ∀ i s, (ris9T[i]?).bind (·.2.1) = some s → dstOf ops i = some s := fun i s hi => by rw [tab_dst htab, hi]
  have hdisB : disL ris9T = true := by rfl
  have hdis := disL_of htab hdisB
  have hold : ∀ s, ris9T.all (fun x => !(x.2.1 == some s)) = true → (List.range ops.size).all (fun j => !(dstOf ops j == some s)) = true := fun s h => holdL htab s h
  refine region_detX val Wd (hac_of hac) hdis h0 ?_ ?_
  rotate_left
  · intro c L W hall hW
    have := hend c L W (by rw [← hosz]; exact hall) hW
    have e : frm ops a0 (val c) (fun _ => true) ops.size = ((((((((a0.put (some 86) V1).put (some 87) (.pointer (some ⟨Z, 0 + 3, none⟩))).put (some 88) (.slice (some ⟨g2, o2, none⟩) n2 c2)).put (some 89) (.int .i64 (k : Int))).put (some 90) (.pointer (some ⟨g2, o2 + k * 5, none⟩))).put (some 91) V2).put (some 92) (.bool true)).put (some 12) (.bool true)) := by
      rw [hosz]
      simp only [frm, if_true]
      rw [tab_dst htab 0, tab_dst htab 1, tab_dst htab 2, tab_dst htab 3, tab_dst htab 4, tab_dst htab 5, tab_dst htab 6, tab_dst htab 7]
      rfl
    rw [e]
    exact this
  intro i o ho c L a w' hL hd ha hW
  have hi : i < 8 := by rw [← hosz]; exact (Array.getElem?_eq_some_iff.1 ho).1
  match i, ho, hL, hi with
  | 0, ho, hL, _ =>
    obtain ⟨hop, hdst, hgd⟩ := tab_at htab ho (show ris9T[0]? = _ from rfl)
    simp only at hop hgd
    have h0 := frm_old (val := val c) ha 10 _ (hold 10 rfl) o10
    exact doesX_of (doesL_run ho (wanted_none hgd) (hpure 0 (by decide) c L w' hW) (g_load hop (eval_of h0) (r0 c L w' hW hL)))
  | 1, ho, hL, _ =>
    obtain ⟨hop, hdst, hgd⟩ := tab_at htab ho (show ris9T[1]? = _ from rfl)
    simp only at hop hgd
    have h0 := frm_old (val := val c) ha 3 _ (hold 3 rfl) o3
    exact doesX_of (doesL_run ho (wanted_none hgd) (hpure 1 (by decide) c L w' hW) (g_field hop (eval_of h0) (by kernel_rfl)))
  | 2, ho, hL, _ =>
    obtain ⟨hop, hdst, hgd⟩ := tab_at htab ho (show ris9T[2]? = _ from rfl)
    simp only at hop hgd
    have h0 := frm_at (val := val c) hdis ha 1 87 (hds 1 87 rfl) (by omega) (depl_of hdep 2 1 (by decide) ho hd)
    exact doesX_of (doesL_run ho (wanted_none hgd) (hpure 2 (by decide) c L w' hW) (g_load hop (eval_of h0) (r2 c L w' hW hL (depl_of hdep 2 1 (by decide) ho hd))))
  | 3, ho, hL, _ =>
    obtain ⟨hop, hdst, hgd⟩ := tab_at htab ho (show ris9T[3]? = _ from rfl)
    simp only at hop hgd
    have h0 := frm_old (val := val c) ha 9 _ (hold 9 rfl) o9
    exact doesX_of (doesL_run ho (wanted_none hgd) (hpure 3 (by decide) c L w' hW) (by rw [run_move _ _ _ hop]; exact congrArg (fun v => Result.ok (Next.value v) w') (eval_of h0)))
  | 4, ho, hL, _ =>
    obtain ⟨hop, hdst, hgd⟩ := tab_at htab ho (show ris9T[4]? = _ from rfl)
    simp only at hop hgd
    have h0 := frm_at (val := val c) hdis ha 2 88 (hds 2 88 rfl) (by omega) (depl_of hdep 4 2 (by decide) ho hd)
    have h1 := frm_at (val := val c) hdis ha 3 89 (hds 3 89 rfl) (by omega) (depl_of hdep 4 3 (by decide) ho hd)
    exact doesX_of (doesL_run ho (wanted_none hgd) (hpure 4 (by decide) c L w' hW) (g_ixa hop (eval_of h0) (eval_of h1) (r4 w')))
  | 5, ho, hL, _ =>
    obtain ⟨hop, hdst, hgd⟩ := tab_at htab ho (show ris9T[5]? = _ from rfl)
    simp only at hop hgd
    have h0 := frm_at (val := val c) hdis ha 4 90 (hds 4 90 rfl) (by omega) (depl_of hdep 5 4 (by decide) ho hd)
    exact doesX_of (doesL_run ho (wanted_none hgd) (hpure 5 (by decide) c L w' hW) (g_load hop (eval_of h0) (r5 c L w' hW hL (depl_of hdep 5 4 (by decide) ho hd))))
  | 6, ho, hL, _ =>
    obtain ⟨hop, hdst, hgd⟩ := tab_at htab ho (show ris9T[6]? = _ from rfl)
    simp only at hop hgd
    have h0 := frm_at (val := val c) hdis ha 0 86 (hds 0 86 rfl) (by omega) (depl_of hdep 6 0 (by decide) ho hd)
    have h1 := frm_at (val := val c) hdis ha 5 91 (hds 5 91 rfl) (by omega) (depl_of hdep 6 5 (by decide) ho hd)
    refine doesX_call ho (wanted_none hgd) 64 #[V1, V2] ?_ (r6 c L w' hW hL (depl_of hdep 6 0 (by decide) ho hd) (depl_of hdep 6 5 (by decide) ho hd))
    rw [run_calls Tryz.func64 (by kernel_rfl) rfl _ _ _ _ hop rfl]
    simp only [List.map_toArray, List.map_cons, List.map_nil, eval_of h0, eval_of h1]
    all_goals rfl
  | 7, ho, hL, _ =>
    obtain ⟨hop, hdst, hgd⟩ := tab_at htab ho (show ris9T[7]? = _ from rfl)
    simp only at hop hgd
    have h0 := frm_at (val := val c) hdis ha 6 92 (hds 6 92 rfl) (by omega) (depl_of hdep 7 6 (by decide) ho hd)
    exact doesX_of (doesL_run ho (wanted_none hgd) (hpure 7 (by decide) c L w' hW) (by rw [run_assign _ _ _ hop]; exact congrArg (fun v => Result.ok (Next.value v) w') (eval_of h0)))
  | (i + 8), ho, hL, hi => exact absurd hi (by omega)
end Go.Proofs.YtjopnhhdemfniaaGreatDoor
