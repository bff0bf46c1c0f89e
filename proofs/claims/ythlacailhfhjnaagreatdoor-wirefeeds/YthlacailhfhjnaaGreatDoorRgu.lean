import Derived.Test.YthlacailhfhjnaaGreatDoorZrgp
import Derived.Test.YthlacailhfhjnaaGreatDoorWia
namespace Go.Proofs.YthlacailhfhjnaaGreatDoor
open Go.RowKit
def vro4 (Z G n cap H n2 cap2 r : Nat) (V1 V2 : Value) (_c : Unit) (i : Nat) : Value := match i with
  | 0 => (.pointer (some ⟨Z, 0, none⟩))
  | 1 => (.pointer (some ⟨Z, 0, none⟩))
  | 2 => (.pointer (some ⟨Z, 0 + 5, none⟩))
  | 3 => (.slice (some ⟨G, 0, none⟩) n cap)
  | 4 => (.int .i64 (r : Int))
  | 5 => (.pointer (some ⟨G, 0 + r, none⟩))
  | 6 => V1
  | 7 => (.pointer (some ⟨Z, 0, none⟩))
  | 8 => (.pointer (some ⟨Z, 0, none⟩))
  | 9 => (.pointer (some ⟨Z, 0 + 6, none⟩))
  | 10 => (.slice (some ⟨H, 0, none⟩) n2 cap2)
  | 11 => (.int .i64 (r : Int))
  | 12 => (.pointer (some ⟨H, 0 + r, none⟩))
  | 13 => V2
  | 14 => (.bool true)
  | 15 => (.bool true)
  | _ => undef
def ro4T : List (Op × Option Tmp × Option (Nat × Bool)) := [
  (.move (.tmp 0), some 21, none),
  (.nilCheck (.tmp 21), some 22, none),
  (.fieldAddr 53 (.tmp 22) 5, some 23, none),
  (.load 51 (.tmp 23), some 24, none),
  (.move (.tmp 3), some 25, none),
  (.indexAddr 51 (.tmp 24) (.tmp 25), some 26, none),
  (.load 54 (.tmp 26), some 27, none),
  (.move (.tmp 0), some 28, none),
  (.nilCheck (.tmp 28), some 29, none),
  (.fieldAddr 53 (.tmp 29) 6, some 30, none),
  (.load 51 (.tmp 30), some 31, none),
  (.move (.tmp 3), some 32, none),
  (.indexAddr 51 (.tmp 31) (.tmp 32), some 33, none),
  (.load 54 (.tmp 33), some 34, none),
  (.call { callee := .value (.func 23), args := #[(.tmp 27), (.tmp 34)], argTypes := #[54, 54] }, some 35, none),
  (.assign (.tmp 35), some 4, none)]
def ro4D : List (Nat × Nat) := [(1, 0), (2, 1), (3, 2), (5, 3), (5, 4), (6, 5), (8, 7), (9, 8), (10, 9), (12, 10), (12, 11), (13, 12), (14, 6), (14, 13), (15, 14)]
set_option maxHeartbeats 4000000 in
theorem ro4 {ops : Array Oper} {id : Nat} {Q : Exit → Act → World → Prop} (Z G n cap H n2 cap2 r : Nat) (V1 V2 : Value) (htab : ops.toList.map (fun o => (o.op, o.dst, o.guard)) = ro4T) (hdep : deplB ro4D ops = true) (hac : acB ops = true)
    (a0 : Act) (w : World) (hsz : 36 ≤ a0.tmps.size) (o0 : a0.tmps[0]? = some (.pointer (some ⟨Z, 0, none⟩))) (o3 : a0.tmps[3]? = some (.int .i64 (r : Int)))
    (Wd : Unit → (Nat → Bool) → World → Prop) (h0 : ∃ c, Wd c (fun _ => false) w.drew) (hpure : ∀ i, i ∉ ([14] : List Nat) → ∀ c L W, Wd c L W → Wd c (upd L i) W)
    (r3 : ∀ c L W, Wd c L W → L 3 = false → L 2 = true → (Instr.loadAt 51 (.pointer (some ⟨Z, 0 + 5, none⟩))).run Tryz.prog W = .ok (.slice (some ⟨G, 0, none⟩) n cap) W)
    (r5 : ∀ W, (Instr.indexAt 51 (.slice (some ⟨G, 0, none⟩) n cap) (.int .i64 (r : Int))).run Tryz.prog W = .ok (.pointer (some ⟨G, 0 + r, none⟩)) W)
    (r6 : ∀ c L W, Wd c L W → L 6 = false → L 5 = true → (Instr.loadAt 54 (.pointer (some ⟨G, 0 + r, none⟩))).run Tryz.prog W = .ok V1 W)
    (r10 : ∀ c L W, Wd c L W → L 10 = false → L 9 = true → (Instr.loadAt 51 (.pointer (some ⟨Z, 0 + 6, none⟩))).run Tryz.prog W = .ok (.slice (some ⟨H, 0, none⟩) n2 cap2) W)
    (r12 : ∀ W, (Instr.indexAt 51 (.slice (some ⟨H, 0, none⟩) n2 cap2) (.int .i64 (r : Int))).run Tryz.prog W = .ok (.pointer (some ⟨H, 0 + r, none⟩)) W)
    (r13 : ∀ c L W, Wd c L W → L 13 = false → L 12 = true → (Instr.loadAt 54 (.pointer (some ⟨H, 0 + r, none⟩))).run Tryz.prog W = .ok V2 W)
    (r14 : ∀ c L W, Wd c L W → L 14 = false → L 6 = true → L 13 = true → Calls Tryz.prog 23 #[V1, V2] W fun eg w' => ∃ c', (∀ j, L j = true → vro4 Z G n cap H n2 cap2 r V1 V2 c' j = vro4 Z G n cap H n2 cap2 r V1 V2 c j) ∧ eg = .returned (vro4 Z G n cap H n2 cap2 r V1 V2 c' 14) ∧ Wd c' (upd L 14) w')
    (hend : ∀ c L W, (∀ i, i < 16 → L i = true) → Wd c L W → Q .normal ((((((((((((((((a0.put (some 21) (.pointer (some ⟨Z, 0, none⟩))).put (some 22) (.pointer (some ⟨Z, 0, none⟩))).put (some 23) (.pointer (some ⟨Z, 0 + 5, none⟩))).put (some 24) (.slice (some ⟨G, 0, none⟩) n cap)).put (some 25) (.int .i64 (r : Int))).put (some 26) (.pointer (some ⟨G, 0 + r, none⟩))).put (some 27) V1).put (some 28) (.pointer (some ⟨Z, 0, none⟩))).put (some 29) (.pointer (some ⟨Z, 0, none⟩))).put (some 30) (.pointer (some ⟨Z, 0 + 6, none⟩))).put (some 31) (.slice (some ⟨H, 0, none⟩) n2 cap2)).put (some 32) (.int .i64 (r : Int))).put (some 33) (.pointer (some ⟨H, 0 + r, none⟩))).put (some 34) V2).put (some 35) (.bool true)).put (some 4) (.bool true)) W) : (Code.region id ops true).wp Tryz.prog Q a0 w := by
  let val : Unit → Nat → Value := vro4 Z G n cap H n2 cap2 r V1 V2
  have hosz : ops.size = 16 := by
    have := congrArg List.length htab
    simpa [ro4T] using this
  have hds : ∀ i s, (ro4T[i]?).bind (·.2.1) = some s → dstOf ops i = some s := fun i s hi => by rw [tab_dst htab, hi]
  have hdisB : disL ro4T = true := by rfl
  have hdis := disL_of htab hdisB
  have hold : ∀ s, ro4T.all (fun x => !(x.2.1 == some s)) = true → (List.range ops.size).all (fun j => !(dstOf ops j == some s)) = true := fun s h => holdL htab s h
  refine region_detX val Wd (hac_of hac) hdis h0 ?_ ?_
  rotate_left
  · intro c L W hall hW
    have := hend c L W (by rw [← hosz]; exact hall) hW
    have e : frm ops a0 (val c) (fun _ => true) ops.size = ((((((((((((((((a0.put (some 21) (.pointer (some ⟨Z, 0, none⟩))).put (some 22) (.pointer (some ⟨Z, 0, none⟩))).put (some 23) (.pointer (some ⟨Z, 0 + 5, none⟩))).put (some 24) (.slice (some ⟨G, 0, none⟩) n cap)).put (some 25) (.int .i64 (r : Int))).put (some 26) (.pointer (some ⟨G, 0 + r, none⟩))).put (some 27) V1).put (some 28) (.pointer (some ⟨Z, 0, none⟩))).put (some 29) (.pointer (some ⟨Z, 0, none⟩))).put (some 30) (.pointer (some ⟨Z, 0 + 6, none⟩))).put (some 31) (.slice (some ⟨H, 0, none⟩) n2 cap2)).put (some 32) (.int .i64 (r : Int))).put (some 33) (.pointer (some ⟨H, 0 + r, none⟩))).put (some 34) V2).put (some 35) (.bool true)).put (some 4) (.bool true)) := by
      rw [hosz]
      simp only [frm, if_true]
      rw [tab_dst htab 0, tab_dst htab 1, tab_dst htab 2, tab_dst htab 3, tab_dst htab 4, tab_dst htab 5, tab_dst htab 6, tab_dst htab 7, tab_dst htab 8, tab_dst htab 9, tab_dst htab 10, tab_dst htab 11, tab_dst htab 12, tab_dst htab 13, tab_dst htab 14, tab_dst htab 15]
      rfl
    rw [e]
    exact this
  intro i o ho c L a w' hL hd ha hW
  have hi : i < 16 := by rw [← hosz]; exact (Array.getElem?_eq_some_iff.1 ho).1
  match i, ho, hL, hi with
  | 0, ho, hL, _ =>
    obtain ⟨hop, hdst, hgd⟩ := tab_at htab ho (show ro4T[0]? = _ from rfl)
    simp only at hop hgd
    have h0 := frm_old (val := val c) ha 0 _ (hold 0 rfl) o0
    exact doesX_of (doesL_run ho (wanted_none hgd) (hpure 0 (by decide) c L w' hW) (by rw [run_move _ _ _ hop]; exact congrArg (fun v => Result.ok (Next.value v) w') (eval_of h0)))
  | 1, ho, hL, _ =>
    obtain ⟨hop, hdst, hgd⟩ := tab_at htab ho (show ro4T[1]? = _ from rfl)
    simp only at hop hgd
    have h0 := frm_at (val := val c) hdis ha 0 21 (hds 0 21 rfl) (by omega) (depl_of hdep 1 0 (by decide) ho hd)
    exact doesX_of (doesL_run ho (wanted_none hgd) (hpure 1 (by decide) c L w' hW) (run_nil _ _ _ hop _ (eval_of h0) _))
  | 2, ho, hL, _ =>
    obtain ⟨hop, hdst, hgd⟩ := tab_at htab ho (show ro4T[2]? = _ from rfl)
    simp only at hop hgd
    have h0 := frm_at (val := val c) hdis ha 1 22 (hds 1 22 rfl) (by omega) (depl_of hdep 2 1 (by decide) ho hd)
    exact doesX_of (doesL_run ho (wanted_none hgd) (hpure 2 (by decide) c L w' hW) (g_field hop (eval_of h0) (by kernel_rfl)))
  | 3, ho, hL, _ =>
    obtain ⟨hop, hdst, hgd⟩ := tab_at htab ho (show ro4T[3]? = _ from rfl)
    simp only at hop hgd
    have h0 := frm_at (val := val c) hdis ha 2 23 (hds 2 23 rfl) (by omega) (depl_of hdep 3 2 (by decide) ho hd)
    exact doesX_of (doesL_run ho (wanted_none hgd) (hpure 3 (by decide) c L w' hW) (g_load hop (eval_of h0) (r3 c L w' hW hL (depl_of hdep 3 2 (by decide) ho hd))))
  | 4, ho, hL, _ =>
    obtain ⟨hop, hdst, hgd⟩ := tab_at htab ho (show ro4T[4]? = _ from rfl)
    simp only at hop hgd
    have h0 := frm_old (val := val c) ha 3 _ (hold 3 rfl) o3
    exact doesX_of (doesL_run ho (wanted_none hgd) (hpure 4 (by decide) c L w' hW) (by rw [run_move _ _ _ hop]; exact congrArg (fun v => Result.ok (Next.value v) w') (eval_of h0)))
  | 5, ho, hL, _ =>
    obtain ⟨hop, hdst, hgd⟩ := tab_at htab ho (show ro4T[5]? = _ from rfl)
    simp only at hop hgd
    have h0 := frm_at (val := val c) hdis ha 3 24 (hds 3 24 rfl) (by omega) (depl_of hdep 5 3 (by decide) ho hd)
    have h1 := frm_at (val := val c) hdis ha 4 25 (hds 4 25 rfl) (by omega) (depl_of hdep 5 4 (by decide) ho hd)
    exact doesX_of (doesL_run ho (wanted_none hgd) (hpure 5 (by decide) c L w' hW) (g_ixa hop (eval_of h0) (eval_of h1) (r5 w')))
  | 6, ho, hL, _ =>
    obtain ⟨hop, hdst, hgd⟩ := tab_at htab ho (show ro4T[6]? = _ from rfl)
    simp only at hop hgd
    have h0 := frm_at (val := val c) hdis ha 5 26 (hds 5 26 rfl) (by omega) (depl_of hdep 6 5 (by decide) ho hd)
    exact doesX_of (doesL_run ho (wanted_none hgd) (hpure 6 (by decide) c L w' hW) (g_load hop (eval_of h0) (r6 c L w' hW hL (depl_of hdep 6 5 (by decide) ho hd))))
  | 7, ho, hL, _ =>
    obtain ⟨hop, hdst, hgd⟩ := tab_at htab ho (show ro4T[7]? = _ from rfl)
    simp only at hop hgd
    have h0 := frm_old (val := val c) ha 0 _ (hold 0 rfl) o0
    exact doesX_of (doesL_run ho (wanted_none hgd) (hpure 7 (by decide) c L w' hW) (by rw [run_move _ _ _ hop]; exact congrArg (fun v => Result.ok (Next.value v) w') (eval_of h0)))
  | 8, ho, hL, _ =>
    obtain ⟨hop, hdst, hgd⟩ := tab_at htab ho (show ro4T[8]? = _ from rfl)
    simp only at hop hgd
    have h0 := frm_at (val := val c) hdis ha 7 28 (hds 7 28 rfl) (by omega) (depl_of hdep 8 7 (by decide) ho hd)
    exact doesX_of (doesL_run ho (wanted_none hgd) (hpure 8 (by decide) c L w' hW) (run_nil _ _ _ hop _ (eval_of h0) _))
  | 9, ho, hL, _ =>
    obtain ⟨hop, hdst, hgd⟩ := tab_at htab ho (show ro4T[9]? = _ from rfl)
    simp only at hop hgd
    have h0 := frm_at (val := val c) hdis ha 8 29 (hds 8 29 rfl) (by omega) (depl_of hdep 9 8 (by decide) ho hd)
    exact doesX_of (doesL_run ho (wanted_none hgd) (hpure 9 (by decide) c L w' hW) (g_field hop (eval_of h0) (by kernel_rfl)))
  | 10, ho, hL, _ =>
    obtain ⟨hop, hdst, hgd⟩ := tab_at htab ho (show ro4T[10]? = _ from rfl)
    simp only at hop hgd
    have h0 := frm_at (val := val c) hdis ha 9 30 (hds 9 30 rfl) (by omega) (depl_of hdep 10 9 (by decide) ho hd)
    exact doesX_of (doesL_run ho (wanted_none hgd) (hpure 10 (by decide) c L w' hW) (g_load hop (eval_of h0) (r10 c L w' hW hL (depl_of hdep 10 9 (by decide) ho hd))))
  | 11, ho, hL, _ =>
    obtain ⟨hop, hdst, hgd⟩ := tab_at htab ho (show ro4T[11]? = _ from rfl)
    simp only at hop hgd
    have h0 := frm_old (val := val c) ha 3 _ (hold 3 rfl) o3
    exact doesX_of (doesL_run ho (wanted_none hgd) (hpure 11 (by decide) c L w' hW) (by rw [run_move _ _ _ hop]; exact congrArg (fun v => Result.ok (Next.value v) w') (eval_of h0)))
  | 12, ho, hL, _ =>
    obtain ⟨hop, hdst, hgd⟩ := tab_at htab ho (show ro4T[12]? = _ from rfl)
    simp only at hop hgd
    have h0 := frm_at (val := val c) hdis ha 10 31 (hds 10 31 rfl) (by omega) (depl_of hdep 12 10 (by decide) ho hd)
    have h1 := frm_at (val := val c) hdis ha 11 32 (hds 11 32 rfl) (by omega) (depl_of hdep 12 11 (by decide) ho hd)
    exact doesX_of (doesL_run ho (wanted_none hgd) (hpure 12 (by decide) c L w' hW) (g_ixa hop (eval_of h0) (eval_of h1) (r12 w')))
  | 13, ho, hL, _ =>
    obtain ⟨hop, hdst, hgd⟩ := tab_at htab ho (show ro4T[13]? = _ from rfl)
    simp only at hop hgd
    have h0 := frm_at (val := val c) hdis ha 12 33 (hds 12 33 rfl) (by omega) (depl_of hdep 13 12 (by decide) ho hd)
    exact doesX_of (doesL_run ho (wanted_none hgd) (hpure 13 (by decide) c L w' hW) (g_load hop (eval_of h0) (r13 c L w' hW hL (depl_of hdep 13 12 (by decide) ho hd))))
  | 14, ho, hL, _ =>
    obtain ⟨hop, hdst, hgd⟩ := tab_at htab ho (show ro4T[14]? = _ from rfl)
    simp only at hop hgd
    have h0 := frm_at (val := val c) hdis ha 6 27 (hds 6 27 rfl) (by omega) (depl_of hdep 14 6 (by decide) ho hd)
    have h1 := frm_at (val := val c) hdis ha 13 34 (hds 13 34 rfl) (by omega) (depl_of hdep 14 13 (by decide) ho hd)
    refine doesX_call ho (wanted_none hgd) 23 #[V1, V2] ?_ (r14 c L w' hW hL (depl_of hdep 14 6 (by decide) ho hd) (depl_of hdep 14 13 (by decide) ho hd))
    rw [run_calls Tryz.func23 (by kernel_rfl) rfl _ _ _ _ hop rfl]
    simp only [List.map_toArray, List.map_cons, List.map_nil, eval_of h0, eval_of h1]
    all_goals rfl
  | 15, ho, hL, _ =>
    obtain ⟨hop, hdst, hgd⟩ := tab_at htab ho (show ro4T[15]? = _ from rfl)
    simp only at hop hgd
    have h0 := frm_at (val := val c) hdis ha 14 35 (hds 14 35 rfl) (by omega) (depl_of hdep 15 14 (by decide) ho hd)
    exact doesX_of (doesL_run ho (wanted_none hgd) (hpure 15 (by decide) c L w' hW) (by rw [run_assign _ _ _ hop]; exact congrArg (fun v => Result.ok (Next.value v) w') (eval_of h0)))
  | (i + 16), ho, hL, hi => exact absurd hi (by omega)
def vro13 (Z G n cap g m cc r k : Nat) (_c : Unit) (i : Nat) : Value := match i with
  | 0 => (.pointer (some ⟨Z, 0, none⟩))
  | 1 => (.pointer (some ⟨Z, 0, none⟩))
  | 2 => (.pointer (some ⟨Z, 0 + 5, none⟩))
  | 3 => (.slice (some ⟨G, 0, none⟩) n cap)
  | 4 => (.int .i64 (r : Int))
  | 5 => (.pointer (some ⟨G, 0 + r, none⟩))
  | 6 => (.slice (some ⟨g, 0, none⟩) m cc)
  | 7 => (.int .i64 (k : Int))
  | 8 => (.int .i64 (r : Int))
  | 9 => (.agg #[S (mk r).1, S (mk r).2])
  | 10 => (S (mk r).2)
  | 11 => (.agg #[S [], S [], .slice none 0 0, S (mk r).2])
  | 12 => (.pointer (some ⟨g, k * 4, none⟩))
  | 13 => undef
  | _ => undef
def ro13T : List (Op × Option Tmp × Option (Nat × Bool)) := [
  (.move (.tmp 0), some 59, none),
  (.nilCheck (.tmp 59), some 60, none),
  (.fieldAddr 53 (.tmp 60) 5, some 61, none),
  (.load 51 (.tmp 61), some 62, none),
  (.move (.tmp 5), some 63, none),
  (.indexAddr 51 (.tmp 62) (.tmp 63), some 64, none),
  (.load 54 (.tmp 64), some 65, none),
  (.move (.tmp 6), some 66, none),
  (.move (.tmp 5), some 67, none),
  (.call { callee := .value (.func 55), args := #[(.tmp 67)], argTypes := #[3] }, some 68, none),
  (.field 35 (.tmp 68) 1, some 69, none),
  (.build 24 #[(3, (.tmp 69))], some 70, none),
  (.indexAddr 54 (.tmp 65) (.tmp 66), some 71, none),
  (.store 24 (.tmp 71) (.tmp 70), none, none)]
def ro13D : List (Nat × Nat) := [(1, 0), (2, 1), (3, 2), (5, 3), (5, 4), (6, 5), (9, 8), (10, 9), (11, 10), (12, 6), (12, 7), (13, 11), (13, 12)]
set_option maxHeartbeats 4000000 in
theorem ro13 {ops : Array Oper} {id : Nat} {Q : Exit → Act → World → Prop} (Z G n cap g m cc r k : Nat) (htab : ops.toList.map (fun o => (o.op, o.dst, o.guard)) = ro13T) (hdep : deplB ro13D ops = true) (hac : acB ops = true)
    (a0 : Act) (w : World) (hsz : 72 ≤ a0.tmps.size) (o0 : a0.tmps[0]? = some (.pointer (some ⟨Z, 0, none⟩))) (o5 : a0.tmps[5]? = some (.int .i64 (r : Int))) (o6 : a0.tmps[6]? = some (.int .i64 (k : Int)))
    (Wd : Unit → (Nat → Bool) → World → Prop) (h0 : ∃ c, Wd c (fun _ => false) w.drew) (hpure : ∀ i, i ∉ ([9, 13] : List Nat) → ∀ c L W, Wd c L W → Wd c (upd L i) W)
    (r3 : ∀ c L W, Wd c L W → L 3 = false → L 2 = true → (Instr.loadAt 51 (.pointer (some ⟨Z, 0 + 5, none⟩))).run Tryz.prog W = .ok (.slice (some ⟨G, 0, none⟩) n cap) W)
    (r5 : ∀ W, (Instr.indexAt 51 (.slice (some ⟨G, 0, none⟩) n cap) (.int .i64 (r : Int))).run Tryz.prog W = .ok (.pointer (some ⟨G, 0 + r, none⟩)) W)
    (r6 : ∀ c L W, Wd c L W → L 6 = false → L 5 = true → (Instr.loadAt 54 (.pointer (some ⟨G, 0 + r, none⟩))).run Tryz.prog W = .ok (.slice (some ⟨g, 0, none⟩) m cc) W)
    (r9 : ∀ c L W, Wd c L W → L 9 = false → L 8 = true → Calls Tryz.prog 55 #[(.int .i64 (r : Int))] W fun eg w' => ∃ c', (∀ j, L j = true → vro13 Z G n cap g m cc r k c' j = vro13 Z G n cap g m cc r k c j) ∧ eg = .returned (vro13 Z G n cap g m cc r k c' 9) ∧ Wd c' (upd L 9) w')
    (r10 : ∀ W, (Instr.field 35 (.agg #[S (mk r).1, S (mk r).2]) 1).run Tryz.prog W = .ok (S (mk r).2) W)
    (r11 : ∀ W, (Instr.build 24 #[(3, (S (mk r).2))]).run Tryz.prog W = .ok (.agg #[S [], S [], .slice none 0 0, S (mk r).2]) W)
    (r12 : ∀ W, (Instr.indexAt 54 (.slice (some ⟨g, 0, none⟩) m cc) (.int .i64 (k : Int))).run Tryz.prog W = .ok (.pointer (some ⟨g, k * 4, none⟩)) W)
    (r13 : ∀ c L W, Wd c L W → L 13 = false → L 11 = true → L 12 = true → ∃ W', (Instr.storeAt 24 (.pointer (some ⟨g, k * 4, none⟩)) (.agg #[S [], S [], .slice none 0 0, S (mk r).2])).run Tryz.prog W = .ok () W' ∧ Wd c (upd L 13) W')
    (hend : ∀ c L W, (∀ i, i < 14 → L i = true) → Wd c L W → Q .normal (((((((((((((a0.put (some 59) (.pointer (some ⟨Z, 0, none⟩))).put (some 60) (.pointer (some ⟨Z, 0, none⟩))).put (some 61) (.pointer (some ⟨Z, 0 + 5, none⟩))).put (some 62) (.slice (some ⟨G, 0, none⟩) n cap)).put (some 63) (.int .i64 (r : Int))).put (some 64) (.pointer (some ⟨G, 0 + r, none⟩))).put (some 65) (.slice (some ⟨g, 0, none⟩) m cc)).put (some 66) (.int .i64 (k : Int))).put (some 67) (.int .i64 (r : Int))).put (some 68) (.agg #[S (mk r).1, S (mk r).2])).put (some 69) (S (mk r).2)).put (some 70) (.agg #[S [], S [], .slice none 0 0, S (mk r).2])).put (some 71) (.pointer (some ⟨g, k * 4, none⟩))) W) : (Code.region id ops true).wp Tryz.prog Q a0 w := by
  let val : Unit → Nat → Value := vro13 Z G n cap g m cc r k
  have hosz : ops.size = 14 := by
    have := congrArg List.length htab
    simpa [ro13T] using this
  have hds : ∀ i s, (ro13T[i]?).bind (·.2.1) = some s → dstOf ops i = some s := fun i s hi => by rw [tab_dst htab, hi]
  have hdisB : disL ro13T = true := by rfl
  have hdis := disL_of htab hdisB
  have hold : ∀ s, ro13T.all (fun x => !(x.2.1 == some s)) = true → (List.range ops.size).all (fun j => !(dstOf ops j == some s)) = true := fun s h => holdL htab s h
  refine region_detX val Wd (hac_of hac) hdis h0 ?_ ?_
  rotate_left
  · intro c L W hall hW
    have := hend c L W (by rw [← hosz]; exact hall) hW
    have e : frm ops a0 (val c) (fun _ => true) ops.size = (((((((((((((a0.put (some 59) (.pointer (some ⟨Z, 0, none⟩))).put (some 60) (.pointer (some ⟨Z, 0, none⟩))).put (some 61) (.pointer (some ⟨Z, 0 + 5, none⟩))).put (some 62) (.slice (some ⟨G, 0, none⟩) n cap)).put (some 63) (.int .i64 (r : Int))).put (some 64) (.pointer (some ⟨G, 0 + r, none⟩))).put (some 65) (.slice (some ⟨g, 0, none⟩) m cc)).put (some 66) (.int .i64 (k : Int))).put (some 67) (.int .i64 (r : Int))).put (some 68) (.agg #[S (mk r).1, S (mk r).2])).put (some 69) (S (mk r).2)).put (some 70) (.agg #[S [], S [], .slice none 0 0, S (mk r).2])).put (some 71) (.pointer (some ⟨g, k * 4, none⟩))) := by
      rw [hosz]
      simp only [frm, if_true]
      rw [tab_dst htab 0, tab_dst htab 1, tab_dst htab 2, tab_dst htab 3, tab_dst htab 4, tab_dst htab 5, tab_dst htab 6, tab_dst htab 7, tab_dst htab 8, tab_dst htab 9, tab_dst htab 10, tab_dst htab 11, tab_dst htab 12, (show dstOf ops 13 = none from (tab_dst htab 13).trans rfl), put_none]
      rfl
    rw [e]
    exact this
  intro i o ho c L a w' hL hd ha hW
  have hi : i < 14 := by rw [← hosz]; exact (Array.getElem?_eq_some_iff.1 ho).1
  match i, ho, hL, hi with
  | 0, ho, hL, _ =>
    obtain ⟨hop, hdst, hgd⟩ := tab_at htab ho (show ro13T[0]? = _ from rfl)
    simp only at hop hgd
    have h0 := frm_old (val := val c) ha 0 _ (hold 0 rfl) o0
    exact doesX_of (doesL_run ho (wanted_none hgd) (hpure 0 (by decide) c L w' hW) (by rw [run_move _ _ _ hop]; exact congrArg (fun v => Result.ok (Next.value v) w') (eval_of h0)))
  | 1, ho, hL, _ =>
    obtain ⟨hop, hdst, hgd⟩ := tab_at htab ho (show ro13T[1]? = _ from rfl)
    simp only at hop hgd
    have h0 := frm_at (val := val c) hdis ha 0 59 (hds 0 59 rfl) (by omega) (depl_of hdep 1 0 (by decide) ho hd)
    exact doesX_of (doesL_run ho (wanted_none hgd) (hpure 1 (by decide) c L w' hW) (run_nil _ _ _ hop _ (eval_of h0) _))
  | 2, ho, hL, _ =>
    obtain ⟨hop, hdst, hgd⟩ := tab_at htab ho (show ro13T[2]? = _ from rfl)
    simp only at hop hgd
    have h0 := frm_at (val := val c) hdis ha 1 60 (hds 1 60 rfl) (by omega) (depl_of hdep 2 1 (by decide) ho hd)
    exact doesX_of (doesL_run ho (wanted_none hgd) (hpure 2 (by decide) c L w' hW) (g_field hop (eval_of h0) (by kernel_rfl)))
  | 3, ho, hL, _ =>
    obtain ⟨hop, hdst, hgd⟩ := tab_at htab ho (show ro13T[3]? = _ from rfl)
    simp only at hop hgd
    have h0 := frm_at (val := val c) hdis ha 2 61 (hds 2 61 rfl) (by omega) (depl_of hdep 3 2 (by decide) ho hd)
    exact doesX_of (doesL_run ho (wanted_none hgd) (hpure 3 (by decide) c L w' hW) (g_load hop (eval_of h0) (r3 c L w' hW hL (depl_of hdep 3 2 (by decide) ho hd))))
  | 4, ho, hL, _ =>
    obtain ⟨hop, hdst, hgd⟩ := tab_at htab ho (show ro13T[4]? = _ from rfl)
    simp only at hop hgd
    have h0 := frm_old (val := val c) ha 5 _ (hold 5 rfl) o5
    exact doesX_of (doesL_run ho (wanted_none hgd) (hpure 4 (by decide) c L w' hW) (by rw [run_move _ _ _ hop]; exact congrArg (fun v => Result.ok (Next.value v) w') (eval_of h0)))
  | 5, ho, hL, _ =>
    obtain ⟨hop, hdst, hgd⟩ := tab_at htab ho (show ro13T[5]? = _ from rfl)
    simp only at hop hgd
    have h0 := frm_at (val := val c) hdis ha 3 62 (hds 3 62 rfl) (by omega) (depl_of hdep 5 3 (by decide) ho hd)
    have h1 := frm_at (val := val c) hdis ha 4 63 (hds 4 63 rfl) (by omega) (depl_of hdep 5 4 (by decide) ho hd)
    exact doesX_of (doesL_run ho (wanted_none hgd) (hpure 5 (by decide) c L w' hW) (g_ixa hop (eval_of h0) (eval_of h1) (r5 w')))
  | 6, ho, hL, _ =>
    obtain ⟨hop, hdst, hgd⟩ := tab_at htab ho (show ro13T[6]? = _ from rfl)
    simp only at hop hgd
    have h0 := frm_at (val := val c) hdis ha 5 64 (hds 5 64 rfl) (by omega) (depl_of hdep 6 5 (by decide) ho hd)
    exact doesX_of (doesL_run ho (wanted_none hgd) (hpure 6 (by decide) c L w' hW) (g_load hop (eval_of h0) (r6 c L w' hW hL (depl_of hdep 6 5 (by decide) ho hd))))
  | 7, ho, hL, _ =>
    obtain ⟨hop, hdst, hgd⟩ := tab_at htab ho (show ro13T[7]? = _ from rfl)
    simp only at hop hgd
    have h0 := frm_old (val := val c) ha 6 _ (hold 6 rfl) o6
    exact doesX_of (doesL_run ho (wanted_none hgd) (hpure 7 (by decide) c L w' hW) (by rw [run_move _ _ _ hop]; exact congrArg (fun v => Result.ok (Next.value v) w') (eval_of h0)))
  | 8, ho, hL, _ =>
    obtain ⟨hop, hdst, hgd⟩ := tab_at htab ho (show ro13T[8]? = _ from rfl)
    simp only at hop hgd
    have h0 := frm_old (val := val c) ha 5 _ (hold 5 rfl) o5
    exact doesX_of (doesL_run ho (wanted_none hgd) (hpure 8 (by decide) c L w' hW) (by rw [run_move _ _ _ hop]; exact congrArg (fun v => Result.ok (Next.value v) w') (eval_of h0)))
  | 9, ho, hL, _ =>
    obtain ⟨hop, hdst, hgd⟩ := tab_at htab ho (show ro13T[9]? = _ from rfl)
    simp only at hop hgd
    have h0 := frm_at (val := val c) hdis ha 8 67 (hds 8 67 rfl) (by omega) (depl_of hdep 9 8 (by decide) ho hd)
    refine doesX_call ho (wanted_none hgd) 55 #[(.int .i64 (r : Int))] ?_ (r9 c L w' hW hL (depl_of hdep 9 8 (by decide) ho hd))
    rw [run_calls Tryz.func55 (by kernel_rfl) rfl _ _ _ _ hop rfl]
    simp only [List.map_toArray, List.map_cons, List.map_nil, eval_of h0]
    all_goals rfl
  | 10, ho, hL, _ =>
    obtain ⟨hop, hdst, hgd⟩ := tab_at htab ho (show ro13T[10]? = _ from rfl)
    simp only at hop hgd
    have h0 := frm_at (val := val c) hdis ha 9 68 (hds 9 68 rfl) (by omega) (depl_of hdep 10 9 (by decide) ho hd)
    exact doesX_of (doesL_run ho (wanted_none hgd) (hpure 10 (by decide) c L w' hW) (g_fld hop (eval_of h0) (r10 w')))
  | 11, ho, hL, _ =>
    obtain ⟨hop, hdst, hgd⟩ := tab_at htab ho (show ro13T[11]? = _ from rfl)
    simp only at hop hgd
    have h0 := frm_at (val := val c) hdis ha 10 69 (hds 10 69 rfl) (by omega) (depl_of hdep 11 10 (by decide) ho hd)
    exact doesX_of (doesL_run ho (wanted_none hgd) (hpure 11 (by decide) c L w' hW) (g_build hop (by simp only [List.map_toArray, List.map_cons, List.map_nil, eval_of h0]; first | done | rfl) (r11 w')))
  | 12, ho, hL, _ =>
    obtain ⟨hop, hdst, hgd⟩ := tab_at htab ho (show ro13T[12]? = _ from rfl)
    simp only at hop hgd
    have h0 := frm_at (val := val c) hdis ha 6 65 (hds 6 65 rfl) (by omega) (depl_of hdep 12 6 (by decide) ho hd)
    have h1 := frm_at (val := val c) hdis ha 7 66 (hds 7 66 rfl) (by omega) (depl_of hdep 12 7 (by decide) ho hd)
    exact doesX_of (doesL_run ho (wanted_none hgd) (hpure 12 (by decide) c L w' hW) (g_ixa hop (eval_of h0) (eval_of h1) (r12 w')))
  | 13, ho, hL, _ =>
    obtain ⟨hop, hdst, hgd⟩ := tab_at htab ho (show ro13T[13]? = _ from rfl)
    simp only at hop hgd
    have h0 := frm_at (val := val c) hdis ha 12 71 (hds 12 71 rfl) (by omega) (depl_of hdep 13 12 (by decide) ho hd)
    have h1 := frm_at (val := val c) hdis ha 11 70 (hds 11 70 rfl) (by omega) (depl_of hdep 13 11 (by decide) ho hd)
    obtain ⟨W', q1, q2⟩ := r13 c L w' hW hL (depl_of hdep 13 11 (by decide) ho hd) (depl_of hdep 13 12 (by decide) ho hd)
    exact doesX_of (doesL_skp ho (wanted_none hgd) rfl q2 (g_store hop (eval_of h0) (eval_of h1) q1))
  | (i + 14), ho, hL, hi => exact absurd hi (by omega)
def vro29 (Z G n cap g m cc r k q : Nat) (_c : Unit) (i : Nat) : Value := match i with
  | 0 => (.pointer (some ⟨Z, 0, none⟩))
  | 1 => (.pointer (some ⟨Z, 0, none⟩))
  | 2 => (.pointer (some ⟨Z, 0 + 7, none⟩))
  | 3 => (.slice (some ⟨G, 0, none⟩) n cap)
  | 4 => (.int .i64 (r : Int))
  | 5 => (.pointer (some ⟨G, 0 + r, none⟩))
  | 6 => (.slice (some ⟨g, 0, none⟩) m cc)
  | 7 => (.int .i64 (k : Int))
  | 8 => (.pointer (some ⟨g, k * 4, none⟩))
  | 9 => (.pointer (some ⟨g, k * 4 + 3, none⟩))
  | 10 => (S (mk q).2)
  | 11 => (.int .i64 (r : Int))
  | 12 => (.int .i64 (q : Int))
  | 13 => (.agg #[S (mk q).1, S (mk q).2])
  | 14 => (S (mk q).2)
  | 15 => (.bool false)
  | _ => undef
def ro29T : List (Op × Option Tmp × Option (Nat × Bool)) := [
  (.move (.tmp 0), some 130, none),
  (.nilCheck (.tmp 130), some 131, none),
  (.fieldAddr 53 (.tmp 131) 7, some 132, none),
  (.load 51 (.tmp 132), some 133, none),
  (.move (.tmp 10), some 134, none),
  (.indexAddr 51 (.tmp 133) (.tmp 134), some 135, none),
  (.load 54 (.tmp 135), some 136, none),
  (.move (.tmp 11), some 137, none),
  (.indexAddr 54 (.tmp 136) (.tmp 137), some 138, none),
  (.fieldAddr 24 (.tmp 138) 3, some 139, none),
  (.load 9 (.tmp 139), some 140, none),
  (.move (.tmp 10), some 141, none),
  (.binOp .quo 3 (.tmp 141) (.const (.int .i64 8)) 3, some 142, none),
  (.call { callee := .value (.func 55), args := #[(.tmp 142)], argTypes := #[3] }, some 143, none),
  (.field 35 (.tmp 143) 1, some 144, none),
  (.binOp .neq 9 (.tmp 140) (.tmp 144) 9, some 145, none)]
def ro29D : List (Nat × Nat) := [(1, 0), (2, 1), (3, 2), (5, 3), (5, 4), (6, 5), (8, 6), (8, 7), (9, 8), (10, 9), (12, 11), (13, 12), (14, 13), (15, 10), (15, 14)]
set_option maxHeartbeats 4000000 in
theorem ro29 {ops : Array Oper} {id : Nat} {Q : Exit → Act → World → Prop} (Z G n cap g m cc r k q : Nat) (htab : ops.toList.map (fun o => (o.op, o.dst, o.guard)) = ro29T) (hdep : deplB ro29D ops = true) (hac : acB ops = true)
    (a0 : Act) (w : World) (hsz : 146 ≤ a0.tmps.size) (o0 : a0.tmps[0]? = some (.pointer (some ⟨Z, 0, none⟩))) (o10 : a0.tmps[10]? = some (.int .i64 (r : Int))) (o11 : a0.tmps[11]? = some (.int .i64 (k : Int)))
    (Wd : Unit → (Nat → Bool) → World → Prop) (h0 : ∃ c, Wd c (fun _ => false) w.drew) (hpure : ∀ i, i ∉ ([13] : List Nat) → ∀ c L W, Wd c L W → Wd c (upd L i) W)
    (r3 : ∀ c L W, Wd c L W → L 3 = false → L 2 = true → (Instr.loadAt 51 (.pointer (some ⟨Z, 0 + 7, none⟩))).run Tryz.prog W = .ok (.slice (some ⟨G, 0, none⟩) n cap) W)
    (r5 : ∀ W, (Instr.indexAt 51 (.slice (some ⟨G, 0, none⟩) n cap) (.int .i64 (r : Int))).run Tryz.prog W = .ok (.pointer (some ⟨G, 0 + r, none⟩)) W)
    (r6 : ∀ c L W, Wd c L W → L 6 = false → L 5 = true → (Instr.loadAt 54 (.pointer (some ⟨G, 0 + r, none⟩))).run Tryz.prog W = .ok (.slice (some ⟨g, 0, none⟩) m cc) W)
    (r8 : ∀ W, (Instr.indexAt 54 (.slice (some ⟨g, 0, none⟩) m cc) (.int .i64 (k : Int))).run Tryz.prog W = .ok (.pointer (some ⟨g, k * 4, none⟩)) W)
    (r10 : ∀ c L W, Wd c L W → L 10 = false → L 9 = true → (Instr.loadAt 9 (.pointer (some ⟨g, k * 4 + 3, none⟩))).run Tryz.prog W = .ok (S (mk q).2) W)
    (r12 : ∀ W, (do eqGuard .quo 3 (.tmp 141) (.const (.int .i64 8)) (.int .i64 (r : Int)) (.int .i64 8); binOp .quo 3 (.int .i64 (r : Int)) (.int .i64 8)).run Tryz.prog W = .ok (.int .i64 (q : Int)) W)
    (r13 : ∀ c L W, Wd c L W → L 13 = false → L 12 = true → Calls Tryz.prog 55 #[(.int .i64 (q : Int))] W fun eg w' => ∃ c', (∀ j, L j = true → vro29 Z G n cap g m cc r k q c' j = vro29 Z G n cap g m cc r k q c j) ∧ eg = .returned (vro29 Z G n cap g m cc r k q c' 13) ∧ Wd c' (upd L 13) w')
    (r14 : ∀ W, (Instr.field 35 (.agg #[S (mk q).1, S (mk q).2]) 1).run Tryz.prog W = .ok (S (mk q).2) W)
    (r15 : ∀ W, (do eqGuard .neq 9 (.tmp 140) (.tmp 144) (S (mk q).2) (S (mk q).2); binOp .neq 9 (S (mk q).2) (S (mk q).2)).run Tryz.prog W = .ok (.bool false) W)
    (hend : ∀ c L W, (∀ i, i < 16 → L i = true) → Wd c L W → Q .normal ((((((((((((((((a0.put (some 130) (.pointer (some ⟨Z, 0, none⟩))).put (some 131) (.pointer (some ⟨Z, 0, none⟩))).put (some 132) (.pointer (some ⟨Z, 0 + 7, none⟩))).put (some 133) (.slice (some ⟨G, 0, none⟩) n cap)).put (some 134) (.int .i64 (r : Int))).put (some 135) (.pointer (some ⟨G, 0 + r, none⟩))).put (some 136) (.slice (some ⟨g, 0, none⟩) m cc)).put (some 137) (.int .i64 (k : Int))).put (some 138) (.pointer (some ⟨g, k * 4, none⟩))).put (some 139) (.pointer (some ⟨g, k * 4 + 3, none⟩))).put (some 140) (S (mk q).2)).put (some 141) (.int .i64 (r : Int))).put (some 142) (.int .i64 (q : Int))).put (some 143) (.agg #[S (mk q).1, S (mk q).2])).put (some 144) (S (mk q).2)).put (some 145) (.bool false)) W) : (Code.region id ops true).wp Tryz.prog Q a0 w := by
  let val : Unit → Nat → Value := vro29 Z G n cap g m cc r k q
  have hosz : ops.size = 16 := by
    have := congrArg List.length htab
    simpa [ro29T] using this
  have hds : ∀ i s, (ro29T[i]?).bind (·.2.1) = some s → dstOf ops i = some s := fun i s hi => by rw [tab_dst htab, hi]
  have hdisB : disL ro29T = true := by rfl
  have hdis := disL_of htab hdisB
  have hold : ∀ s, ro29T.all (fun x => !(x.2.1 == some s)) = true → (List.range ops.size).all (fun j => !(dstOf ops j == some s)) = true := fun s h => holdL htab s h
  refine region_detX val Wd (hac_of hac) hdis h0 ?_ ?_
  rotate_left
  · intro c L W hall hW
    have := hend c L W (by rw [← hosz]; exact hall) hW
    have e : frm ops a0 (val c) (fun _ => true) ops.size = ((((((((((((((((a0.put (some 130) (.pointer (some ⟨Z, 0, none⟩))).put (some 131) (.pointer (some ⟨Z, 0, none⟩))).put (some 132) (.pointer (some ⟨Z, 0 + 7, none⟩))).put (some 133) (.slice (some ⟨G, 0, none⟩) n cap)).put (some 134) (.int .i64 (r : Int))).put (some 135) (.pointer (some ⟨G, 0 + r, none⟩))).put (some 136) (.slice (some ⟨g, 0, none⟩) m cc)).put (some 137) (.int .i64 (k : Int))).put (some 138) (.pointer (some ⟨g, k * 4, none⟩))).put (some 139) (.pointer (some ⟨g, k * 4 + 3, none⟩))).put (some 140) (S (mk q).2)).put (some 141) (.int .i64 (r : Int))).put (some 142) (.int .i64 (q : Int))).put (some 143) (.agg #[S (mk q).1, S (mk q).2])).put (some 144) (S (mk q).2)).put (some 145) (.bool false)) := by
      rw [hosz]
      simp only [frm, if_true]
      rw [tab_dst htab 0, tab_dst htab 1, tab_dst htab 2, tab_dst htab 3, tab_dst htab 4, tab_dst htab 5, tab_dst htab 6, tab_dst htab 7, tab_dst htab 8, tab_dst htab 9, tab_dst htab 10, tab_dst htab 11, tab_dst htab 12, tab_dst htab 13, tab_dst htab 14, tab_dst htab 15]
      rfl
    rw [e]
    exact this
  intro i o ho c L a w' hL hd ha hW
  have hi : i < 16 := by rw [← hosz]; exact (Array.getElem?_eq_some_iff.1 ho).1
  match i, ho, hL, hi with
  | 0, ho, hL, _ =>
    obtain ⟨hop, hdst, hgd⟩ := tab_at htab ho (show ro29T[0]? = _ from rfl)
    simp only at hop hgd
    have h0 := frm_old (val := val c) ha 0 _ (hold 0 rfl) o0
    exact doesX_of (doesL_run ho (wanted_none hgd) (hpure 0 (by decide) c L w' hW) (by rw [run_move _ _ _ hop]; exact congrArg (fun v => Result.ok (Next.value v) w') (eval_of h0)))
  | 1, ho, hL, _ =>
    obtain ⟨hop, hdst, hgd⟩ := tab_at htab ho (show ro29T[1]? = _ from rfl)
    simp only at hop hgd
    have h0 := frm_at (val := val c) hdis ha 0 130 (hds 0 130 rfl) (by omega) (depl_of hdep 1 0 (by decide) ho hd)
    exact doesX_of (doesL_run ho (wanted_none hgd) (hpure 1 (by decide) c L w' hW) (run_nil _ _ _ hop _ (eval_of h0) _))
  | 2, ho, hL, _ =>
    obtain ⟨hop, hdst, hgd⟩ := tab_at htab ho (show ro29T[2]? = _ from rfl)
    simp only at hop hgd
    have h0 := frm_at (val := val c) hdis ha 1 131 (hds 1 131 rfl) (by omega) (depl_of hdep 2 1 (by decide) ho hd)
    exact doesX_of (doesL_run ho (wanted_none hgd) (hpure 2 (by decide) c L w' hW) (g_field hop (eval_of h0) (by kernel_rfl)))
  | 3, ho, hL, _ =>
    obtain ⟨hop, hdst, hgd⟩ := tab_at htab ho (show ro29T[3]? = _ from rfl)
    simp only at hop hgd
    have h0 := frm_at (val := val c) hdis ha 2 132 (hds 2 132 rfl) (by omega) (depl_of hdep 3 2 (by decide) ho hd)
    exact doesX_of (doesL_run ho (wanted_none hgd) (hpure 3 (by decide) c L w' hW) (g_load hop (eval_of h0) (r3 c L w' hW hL (depl_of hdep 3 2 (by decide) ho hd))))
  | 4, ho, hL, _ =>
    obtain ⟨hop, hdst, hgd⟩ := tab_at htab ho (show ro29T[4]? = _ from rfl)
    simp only at hop hgd
    have h0 := frm_old (val := val c) ha 10 _ (hold 10 rfl) o10
    exact doesX_of (doesL_run ho (wanted_none hgd) (hpure 4 (by decide) c L w' hW) (by rw [run_move _ _ _ hop]; exact congrArg (fun v => Result.ok (Next.value v) w') (eval_of h0)))
  | 5, ho, hL, _ =>
    obtain ⟨hop, hdst, hgd⟩ := tab_at htab ho (show ro29T[5]? = _ from rfl)
    simp only at hop hgd
    have h0 := frm_at (val := val c) hdis ha 3 133 (hds 3 133 rfl) (by omega) (depl_of hdep 5 3 (by decide) ho hd)
    have h1 := frm_at (val := val c) hdis ha 4 134 (hds 4 134 rfl) (by omega) (depl_of hdep 5 4 (by decide) ho hd)
    exact doesX_of (doesL_run ho (wanted_none hgd) (hpure 5 (by decide) c L w' hW) (g_ixa hop (eval_of h0) (eval_of h1) (r5 w')))
  | 6, ho, hL, _ =>
    obtain ⟨hop, hdst, hgd⟩ := tab_at htab ho (show ro29T[6]? = _ from rfl)
    simp only at hop hgd
    have h0 := frm_at (val := val c) hdis ha 5 135 (hds 5 135 rfl) (by omega) (depl_of hdep 6 5 (by decide) ho hd)
    exact doesX_of (doesL_run ho (wanted_none hgd) (hpure 6 (by decide) c L w' hW) (g_load hop (eval_of h0) (r6 c L w' hW hL (depl_of hdep 6 5 (by decide) ho hd))))
  | 7, ho, hL, _ =>
    obtain ⟨hop, hdst, hgd⟩ := tab_at htab ho (show ro29T[7]? = _ from rfl)
    simp only at hop hgd
    have h0 := frm_old (val := val c) ha 11 _ (hold 11 rfl) o11
    exact doesX_of (doesL_run ho (wanted_none hgd) (hpure 7 (by decide) c L w' hW) (by rw [run_move _ _ _ hop]; exact congrArg (fun v => Result.ok (Next.value v) w') (eval_of h0)))
  | 8, ho, hL, _ =>
    obtain ⟨hop, hdst, hgd⟩ := tab_at htab ho (show ro29T[8]? = _ from rfl)
    simp only at hop hgd
    have h0 := frm_at (val := val c) hdis ha 6 136 (hds 6 136 rfl) (by omega) (depl_of hdep 8 6 (by decide) ho hd)
    have h1 := frm_at (val := val c) hdis ha 7 137 (hds 7 137 rfl) (by omega) (depl_of hdep 8 7 (by decide) ho hd)
    exact doesX_of (doesL_run ho (wanted_none hgd) (hpure 8 (by decide) c L w' hW) (g_ixa hop (eval_of h0) (eval_of h1) (r8 w')))
  | 9, ho, hL, _ =>
    obtain ⟨hop, hdst, hgd⟩ := tab_at htab ho (show ro29T[9]? = _ from rfl)
    simp only at hop hgd
    have h0 := frm_at (val := val c) hdis ha 8 138 (hds 8 138 rfl) (by omega) (depl_of hdep 9 8 (by decide) ho hd)
    exact doesX_of (doesL_run ho (wanted_none hgd) (hpure 9 (by decide) c L w' hW) (g_field hop (eval_of h0) (by kernel_rfl)))
  | 10, ho, hL, _ =>
    obtain ⟨hop, hdst, hgd⟩ := tab_at htab ho (show ro29T[10]? = _ from rfl)
    simp only at hop hgd
    have h0 := frm_at (val := val c) hdis ha 9 139 (hds 9 139 rfl) (by omega) (depl_of hdep 10 9 (by decide) ho hd)
    exact doesX_of (doesL_run ho (wanted_none hgd) (hpure 10 (by decide) c L w' hW) (g_load hop (eval_of h0) (r10 c L w' hW hL (depl_of hdep 10 9 (by decide) ho hd))))
  | 11, ho, hL, _ =>
    obtain ⟨hop, hdst, hgd⟩ := tab_at htab ho (show ro29T[11]? = _ from rfl)
    simp only at hop hgd
    have h0 := frm_old (val := val c) ha 10 _ (hold 10 rfl) o10
    exact doesX_of (doesL_run ho (wanted_none hgd) (hpure 11 (by decide) c L w' hW) (by rw [run_move _ _ _ hop]; exact congrArg (fun v => Result.ok (Next.value v) w') (eval_of h0)))
  | 12, ho, hL, _ =>
    obtain ⟨hop, hdst, hgd⟩ := tab_at htab ho (show ro29T[12]? = _ from rfl)
    simp only at hop hgd
    have h0 := frm_at (val := val c) hdis ha 11 141 (hds 11 141 rfl) (by omega) (depl_of hdep 12 11 (by decide) ho hd)
    exact doesX_of (doesL_run ho (wanted_none hgd) (hpure 12 (by decide) c L w' hW) (g_bin hop (eval_of h0) rfl (r12 w')))
  | 13, ho, hL, _ =>
    obtain ⟨hop, hdst, hgd⟩ := tab_at htab ho (show ro29T[13]? = _ from rfl)
    simp only at hop hgd
    have h0 := frm_at (val := val c) hdis ha 12 142 (hds 12 142 rfl) (by omega) (depl_of hdep 13 12 (by decide) ho hd)
    refine doesX_call ho (wanted_none hgd) 55 #[(.int .i64 (q : Int))] ?_ (r13 c L w' hW hL (depl_of hdep 13 12 (by decide) ho hd))
    rw [run_calls Tryz.func55 (by kernel_rfl) rfl _ _ _ _ hop rfl]
    simp only [List.map_toArray, List.map_cons, List.map_nil, eval_of h0]
    all_goals rfl
  | 14, ho, hL, _ =>
    obtain ⟨hop, hdst, hgd⟩ := tab_at htab ho (show ro29T[14]? = _ from rfl)
    simp only at hop hgd
    have h0 := frm_at (val := val c) hdis ha 13 143 (hds 13 143 rfl) (by omega) (depl_of hdep 14 13 (by decide) ho hd)
    exact doesX_of (doesL_run ho (wanted_none hgd) (hpure 14 (by decide) c L w' hW) (g_fld hop (eval_of h0) (r14 w')))
  | 15, ho, hL, _ =>
    obtain ⟨hop, hdst, hgd⟩ := tab_at htab ho (show ro29T[15]? = _ from rfl)
    simp only at hop hgd
    have h0 := frm_at (val := val c) hdis ha 10 140 (hds 10 140 rfl) (by omega) (depl_of hdep 15 10 (by decide) ho hd)
    have h1 := frm_at (val := val c) hdis ha 14 144 (hds 14 144 rfl) (by omega) (depl_of hdep 15 14 (by decide) ho hd)
    exact doesX_of (doesL_run ho (wanted_none hgd) (hpure 15 (by decide) c L w' hW) (g_bin hop (eval_of h0) (eval_of h1) (r15 w')))
  | (i + 16), ho, hL, hi => exact absurd hi (by omega)
def vrt3 (Z g h n c1 c2 r : Nat) (V1 V2 : Value) (_c : Unit) (i : Nat) : Value := match i with
  | 0 => (.pointer (some ⟨Z, 0, none⟩))
  | 1 => (.slice (some ⟨g, 0, none⟩) n c1)
  | 2 => (.int .i64 (r : Int))
  | 3 => (.pointer (some ⟨g, r * 4, none⟩))
  | 4 => (.pointer (some ⟨g, r * 4 + 2, none⟩))
  | 5 => V1
  | 6 => (.slice (some ⟨h, 0, none⟩) n c2)
  | 7 => (.int .i64 (r : Int))
  | 8 => (.pointer (some ⟨h, r * 4, none⟩))
  | 9 => (.pointer (some ⟨h, r * 4 + 2, none⟩))
  | 10 => V2
  | 11 => (.tuple #[])
  | _ => undef
def rt3T : List (Op × Option Tmp × Option (Nat × Bool)) := [
  (.move (.tmp 0), some 19, none),
  (.move (.tmp 1), some 20, none),
  (.move (.tmp 6), some 21, none),
  (.indexAddr 54 (.tmp 20) (.tmp 21), some 22, none),
  (.fieldAddr 24 (.tmp 22) 2, some 23, none),
  (.load 22 (.tmp 23), some 24, none),
  (.move (.tmp 2), some 25, none),
  (.move (.tmp 6), some 26, none),
  (.indexAddr 54 (.tmp 25) (.tmp 26), some 27, none),
  (.fieldAddr 24 (.tmp 27) 2, some 28, none),
  (.load 22 (.tmp 28), some 29, none),
  (.call { callee := .value (.func 52), args := #[(.tmp 19), (.tmp 24), (.tmp 29)], argTypes := #[48, 22, 22] }, some 30, none)]
def rt3D : List (Nat × Nat) := [(3, 1), (3, 2), (4, 3), (5, 4), (8, 6), (8, 7), (9, 8), (10, 9), (11, 0), (11, 5), (11, 10)]
set_option maxHeartbeats 4000000 in
theorem rt3 {ops : Array Oper} {id : Nat} {Q : Exit → Act → World → Prop} (Z g h n c1 c2 r : Nat) (V1 V2 : Value) (htab : ops.toList.map (fun o => (o.op, o.dst, o.guard)) = rt3T) (hdep : deplB rt3D ops = true) (hac : acB ops = true)
    (a0 : Act) (w : World) (hsz : 31 ≤ a0.tmps.size) (o0 : a0.tmps[0]? = some (.pointer (some ⟨Z, 0, none⟩))) (o1 : a0.tmps[1]? = some (.slice (some ⟨g, 0, none⟩) n c1)) (o2 : a0.tmps[2]? = some (.slice (some ⟨h, 0, none⟩) n c2)) (o6 : a0.tmps[6]? = some (.int .i64 (r : Int)))
    (Wd : Unit → (Nat → Bool) → World → Prop) (h0 : ∃ c, Wd c (fun _ => false) w.drew) (hpure : ∀ i, i ∉ ([11] : List Nat) → ∀ c L W, Wd c L W → Wd c (upd L i) W)
    (r3 : ∀ W, (Instr.indexAt 54 (.slice (some ⟨g, 0, none⟩) n c1) (.int .i64 (r : Int))).run Tryz.prog W = .ok (.pointer (some ⟨g, r * 4, none⟩)) W)
    (r5 : ∀ c L W, Wd c L W → L 5 = false → L 4 = true → (Instr.loadAt 22 (.pointer (some ⟨g, r * 4 + 2, none⟩))).run Tryz.prog W = .ok V1 W)
    (r8 : ∀ W, (Instr.indexAt 54 (.slice (some ⟨h, 0, none⟩) n c2) (.int .i64 (r : Int))).run Tryz.prog W = .ok (.pointer (some ⟨h, r * 4, none⟩)) W)
    (r10 : ∀ c L W, Wd c L W → L 10 = false → L 9 = true → (Instr.loadAt 22 (.pointer (some ⟨h, r * 4 + 2, none⟩))).run Tryz.prog W = .ok V2 W)
    (r11 : ∀ c L W, Wd c L W → L 11 = false → L 0 = true → L 5 = true → L 10 = true → Calls Tryz.prog 52 #[(.pointer (some ⟨Z, 0, none⟩)), V1, V2] W fun eg w' => ∃ c', (∀ j, L j = true → vrt3 Z g h n c1 c2 r V1 V2 c' j = vrt3 Z g h n c1 c2 r V1 V2 c j) ∧ eg = .returned (vrt3 Z g h n c1 c2 r V1 V2 c' 11) ∧ Wd c' (upd L 11) w')
    (hend : ∀ c L W, (∀ i, i < 12 → L i = true) → Wd c L W → Q .normal ((((((((((((a0.put (some 19) (.pointer (some ⟨Z, 0, none⟩))).put (some 20) (.slice (some ⟨g, 0, none⟩) n c1)).put (some 21) (.int .i64 (r : Int))).put (some 22) (.pointer (some ⟨g, r * 4, none⟩))).put (some 23) (.pointer (some ⟨g, r * 4 + 2, none⟩))).put (some 24) V1).put (some 25) (.slice (some ⟨h, 0, none⟩) n c2)).put (some 26) (.int .i64 (r : Int))).put (some 27) (.pointer (some ⟨h, r * 4, none⟩))).put (some 28) (.pointer (some ⟨h, r * 4 + 2, none⟩))).put (some 29) V2).put (some 30) (.tuple #[])) W) : (Code.region id ops true).wp Tryz.prog Q a0 w := by
  let val : Unit → Nat → Value := vrt3 Z g h n c1 c2 r V1 V2
  have hosz : ops.size = 12 := by
    have := congrArg List.length htab
    simpa [rt3T] using this
  have hds : ∀ i s, (rt3T[i]?).bind (·.2.1) = some s → dstOf ops i = some s := fun i s hi => by rw [tab_dst htab, hi]
  have hdisB : disL rt3T = true := by rfl
  have hdis := disL_of htab hdisB
  have hold : ∀ s, rt3T.all (fun x => !(x.2.1 == some s)) = true → (List.range ops.size).all (fun j => !(dstOf ops j == some s)) = true := fun s h => holdL htab s h
  refine region_detX val Wd (hac_of hac) hdis h0 ?_ ?_
  rotate_left
  · intro c L W hall hW
    have := hend c L W (by rw [← hosz]; exact hall) hW
    have e : frm ops a0 (val c) (fun _ => true) ops.size = ((((((((((((a0.put (some 19) (.pointer (some ⟨Z, 0, none⟩))).put (some 20) (.slice (some ⟨g, 0, none⟩) n c1)).put (some 21) (.int .i64 (r : Int))).put (some 22) (.pointer (some ⟨g, r * 4, none⟩))).put (some 23) (.pointer (some ⟨g, r * 4 + 2, none⟩))).put (some 24) V1).put (some 25) (.slice (some ⟨h, 0, none⟩) n c2)).put (some 26) (.int .i64 (r : Int))).put (some 27) (.pointer (some ⟨h, r * 4, none⟩))).put (some 28) (.pointer (some ⟨h, r * 4 + 2, none⟩))).put (some 29) V2).put (some 30) (.tuple #[])) := by
      rw [hosz]
      simp only [frm, if_true]
      rw [tab_dst htab 0, tab_dst htab 1, tab_dst htab 2, tab_dst htab 3, tab_dst htab 4, tab_dst htab 5, tab_dst htab 6, tab_dst htab 7, tab_dst htab 8, tab_dst htab 9, tab_dst htab 10, tab_dst htab 11]
      rfl
    rw [e]
    exact this
  intro i o ho c L a w' hL hd ha hW
  have hi : i < 12 := by rw [← hosz]; exact (Array.getElem?_eq_some_iff.1 ho).1
  match i, ho, hL, hi with
  | 0, ho, hL, _ =>
    obtain ⟨hop, hdst, hgd⟩ := tab_at htab ho (show rt3T[0]? = _ from rfl)
    simp only at hop hgd
    have h0 := frm_old (val := val c) ha 0 _ (hold 0 rfl) o0
    exact doesX_of (doesL_run ho (wanted_none hgd) (hpure 0 (by decide) c L w' hW) (by rw [run_move _ _ _ hop]; exact congrArg (fun v => Result.ok (Next.value v) w') (eval_of h0)))
  | 1, ho, hL, _ =>
    obtain ⟨hop, hdst, hgd⟩ := tab_at htab ho (show rt3T[1]? = _ from rfl)
    simp only at hop hgd
    have h0 := frm_old (val := val c) ha 1 _ (hold 1 rfl) o1
    exact doesX_of (doesL_run ho (wanted_none hgd) (hpure 1 (by decide) c L w' hW) (by rw [run_move _ _ _ hop]; exact congrArg (fun v => Result.ok (Next.value v) w') (eval_of h0)))
  | 2, ho, hL, _ =>
    obtain ⟨hop, hdst, hgd⟩ := tab_at htab ho (show rt3T[2]? = _ from rfl)
    simp only at hop hgd
    have h0 := frm_old (val := val c) ha 6 _ (hold 6 rfl) o6
    exact doesX_of (doesL_run ho (wanted_none hgd) (hpure 2 (by decide) c L w' hW) (by rw [run_move _ _ _ hop]; exact congrArg (fun v => Result.ok (Next.value v) w') (eval_of h0)))
  | 3, ho, hL, _ =>
    obtain ⟨hop, hdst, hgd⟩ := tab_at htab ho (show rt3T[3]? = _ from rfl)
    simp only at hop hgd
    have h0 := frm_at (val := val c) hdis ha 1 20 (hds 1 20 rfl) (by omega) (depl_of hdep 3 1 (by decide) ho hd)
    have h1 := frm_at (val := val c) hdis ha 2 21 (hds 2 21 rfl) (by omega) (depl_of hdep 3 2 (by decide) ho hd)
    exact doesX_of (doesL_run ho (wanted_none hgd) (hpure 3 (by decide) c L w' hW) (g_ixa hop (eval_of h0) (eval_of h1) (r3 w')))
  | 4, ho, hL, _ =>
    obtain ⟨hop, hdst, hgd⟩ := tab_at htab ho (show rt3T[4]? = _ from rfl)
    simp only at hop hgd
    have h0 := frm_at (val := val c) hdis ha 3 22 (hds 3 22 rfl) (by omega) (depl_of hdep 4 3 (by decide) ho hd)
    exact doesX_of (doesL_run ho (wanted_none hgd) (hpure 4 (by decide) c L w' hW) (g_field hop (eval_of h0) (by kernel_rfl)))
  | 5, ho, hL, _ =>
    obtain ⟨hop, hdst, hgd⟩ := tab_at htab ho (show rt3T[5]? = _ from rfl)
    simp only at hop hgd
    have h0 := frm_at (val := val c) hdis ha 4 23 (hds 4 23 rfl) (by omega) (depl_of hdep 5 4 (by decide) ho hd)
    exact doesX_of (doesL_run ho (wanted_none hgd) (hpure 5 (by decide) c L w' hW) (g_load hop (eval_of h0) (r5 c L w' hW hL (depl_of hdep 5 4 (by decide) ho hd))))
  | 6, ho, hL, _ =>
    obtain ⟨hop, hdst, hgd⟩ := tab_at htab ho (show rt3T[6]? = _ from rfl)
    simp only at hop hgd
    have h0 := frm_old (val := val c) ha 2 _ (hold 2 rfl) o2
    exact doesX_of (doesL_run ho (wanted_none hgd) (hpure 6 (by decide) c L w' hW) (by rw [run_move _ _ _ hop]; exact congrArg (fun v => Result.ok (Next.value v) w') (eval_of h0)))
  | 7, ho, hL, _ =>
    obtain ⟨hop, hdst, hgd⟩ := tab_at htab ho (show rt3T[7]? = _ from rfl)
    simp only at hop hgd
    have h0 := frm_old (val := val c) ha 6 _ (hold 6 rfl) o6
    exact doesX_of (doesL_run ho (wanted_none hgd) (hpure 7 (by decide) c L w' hW) (by rw [run_move _ _ _ hop]; exact congrArg (fun v => Result.ok (Next.value v) w') (eval_of h0)))
  | 8, ho, hL, _ =>
    obtain ⟨hop, hdst, hgd⟩ := tab_at htab ho (show rt3T[8]? = _ from rfl)
    simp only at hop hgd
    have h0 := frm_at (val := val c) hdis ha 6 25 (hds 6 25 rfl) (by omega) (depl_of hdep 8 6 (by decide) ho hd)
    have h1 := frm_at (val := val c) hdis ha 7 26 (hds 7 26 rfl) (by omega) (depl_of hdep 8 7 (by decide) ho hd)
    exact doesX_of (doesL_run ho (wanted_none hgd) (hpure 8 (by decide) c L w' hW) (g_ixa hop (eval_of h0) (eval_of h1) (r8 w')))
  | 9, ho, hL, _ =>
    obtain ⟨hop, hdst, hgd⟩ := tab_at htab ho (show rt3T[9]? = _ from rfl)
    simp only at hop hgd
    have h0 := frm_at (val := val c) hdis ha 8 27 (hds 8 27 rfl) (by omega) (depl_of hdep 9 8 (by decide) ho hd)
    exact doesX_of (doesL_run ho (wanted_none hgd) (hpure 9 (by decide) c L w' hW) (g_field hop (eval_of h0) (by kernel_rfl)))
  | 10, ho, hL, _ =>
    obtain ⟨hop, hdst, hgd⟩ := tab_at htab ho (show rt3T[10]? = _ from rfl)
    simp only at hop hgd
    have h0 := frm_at (val := val c) hdis ha 9 28 (hds 9 28 rfl) (by omega) (depl_of hdep 10 9 (by decide) ho hd)
    exact doesX_of (doesL_run ho (wanted_none hgd) (hpure 10 (by decide) c L w' hW) (g_load hop (eval_of h0) (r10 c L w' hW hL (depl_of hdep 10 9 (by decide) ho hd))))
  | 11, ho, hL, _ =>
    obtain ⟨hop, hdst, hgd⟩ := tab_at htab ho (show rt3T[11]? = _ from rfl)
    simp only at hop hgd
    have h0 := frm_at (val := val c) hdis ha 0 19 (hds 0 19 rfl) (by omega) (depl_of hdep 11 0 (by decide) ho hd)
    have h1 := frm_at (val := val c) hdis ha 5 24 (hds 5 24 rfl) (by omega) (depl_of hdep 11 5 (by decide) ho hd)
    have h2 := frm_at (val := val c) hdis ha 10 29 (hds 10 29 rfl) (by omega) (depl_of hdep 11 10 (by decide) ho hd)
    refine doesX_call ho (wanted_none hgd) 52 #[(.pointer (some ⟨Z, 0, none⟩)), V1, V2] ?_ (r11 c L w' hW hL (depl_of hdep 11 0 (by decide) ho hd) (depl_of hdep 11 5 (by decide) ho hd) (depl_of hdep 11 10 (by decide) ho hd))
    rw [run_calls Tryz.func52 (by kernel_rfl) rfl _ _ _ _ hop rfl]
    simp only [List.map_toArray, List.map_cons, List.map_nil, eval_of h0, eval_of h1, eval_of h2]
    all_goals rfl
  | (i + 12), ho, hL, hi => exact absurd hi (by omega)
def vrw5 (g q n cap r : Nat) (x0 x1 x2 x3 : Int) (s : Bs) (_c : Unit) (i : Nat) : Value := match i with
  | 0 => (.int .i64 (x0 : Int))
  | 1 => (.slice (some ⟨g, q, none⟩) n cap)
  | 2 => (.int .i64 (r : Int))
  | 3 => (.pointer (some ⟨g, q + r * 2, none⟩))
  | 4 => (.pointer (some ⟨g, q + r * 2 + 1, none⟩))
  | 5 => (S s)
  | 6 => (.int .i64 (s.length : Int))
  | 7 => (.slice (some ⟨g, q, none⟩) n cap)
  | 8 => (.int .i64 (r : Int))
  | 9 => (.pointer (some ⟨g, q + r * 2, none⟩))
  | 10 => (.pointer (some ⟨g, q + r * 2 + 1, none⟩))
  | 11 => (S s)
  | 12 => (.int .i64 (s.length : Int))
  | 13 => (.int .i64 (x1 : Int))
  | 14 => (.int .i64 (x2 : Int))
  | 15 => (.int .i64 (x3 : Int))
  | 16 => (.int .i64 (x3 : Int))
  | _ => undef
def rw5T : List (Op × Option Tmp × Option (Nat × Bool)) := [
  (.move (.tmp 3), some 27, none),
  (.move (.tmp 0), some 28, none),
  (.move (.tmp 4), some 29, none),
  (.indexAddr 39 (.tmp 28) (.tmp 29), some 30, none),
  (.fieldAddr 41 (.tmp 30) 1, some 31, none),
  (.load 9 (.tmp 31), some 32, none),
  (.call { callee := .builtin .len, args := #[(.tmp 32)], argTypes := #[9] }, some 33, none),
  (.move (.tmp 0), some 34, none),
  (.move (.tmp 4), some 35, none),
  (.indexAddr 39 (.tmp 34) (.tmp 35), some 36, none),
  (.fieldAddr 41 (.tmp 36) 1, some 37, none),
  (.load 9 (.tmp 37), some 38, none),
  (.call { callee := .builtin .len, args := #[(.tmp 38)], argTypes := #[9] }, some 39, none),
  (.call { callee := .value (.func 8), args := #[(.tmp 33), (.tmp 39)], argTypes := #[3, 3] }, some 40, none),
  (.call { callee := .value (.func 8), args := #[(.tmp 40), (.const (.int .i64 50))], argTypes := #[3, 3] }, some 41, none),
  (.call { callee := .value (.func 8), args := #[(.tmp 27), (.tmp 41)], argTypes := #[3, 3] }, some 42, none),
  (.assign (.tmp 42), some 3, none)]
def rw5D : List (Nat × Nat) := [(3, 1), (3, 2), (4, 3), (5, 4), (6, 5), (9, 7), (9, 8), (10, 9), (11, 10), (12, 11), (13, 6), (13, 12), (14, 13), (15, 0), (15, 14), (16, 15)]
set_option maxHeartbeats 4000000 in
theorem rw5 {ops : Array Oper} {id : Nat} {Q : Exit → Act → World → Prop} (g q n cap r : Nat) (x0 x1 x2 x3 : Int) (s : Bs) (htab : ops.toList.map (fun o => (o.op, o.dst, o.guard)) = rw5T) (hdep : deplB rw5D ops = true) (hac : acB ops = true)
    (a0 : Act) (w : World) (hsz : 43 ≤ a0.tmps.size) (o0 : a0.tmps[0]? = some (.slice (some ⟨g, q, none⟩) n cap)) (o3 : a0.tmps[3]? = some (.int .i64 (x0 : Int))) (o4 : a0.tmps[4]? = some (.int .i64 (r : Int)))
    (Wd : Unit → (Nat → Bool) → World → Prop) (h0 : ∃ c, Wd c (fun _ => false) w.drew) (hpure : ∀ i, i ∉ ([13, 14, 15, 16] : List Nat) → ∀ c L W, Wd c L W → Wd c (upd L i) W)
    (e0 : ∀ c L W, Wd c L W → L 0 = false → L 16 = false)
    (r3 : ∀ W, (Instr.indexAt 39 (.slice (some ⟨g, q, none⟩) n cap) (.int .i64 (r : Int))).run Tryz.prog W = .ok (.pointer (some ⟨g, q + r * 2, none⟩)) W)
    (r5 : ∀ c L W, Wd c L W → L 5 = false → L 4 = true → (Instr.loadAt 9 (.pointer (some ⟨g, q + r * 2 + 1, none⟩))).run Tryz.prog W = .ok (S s) W)
    (r9 : ∀ W, (Instr.indexAt 39 (.slice (some ⟨g, q, none⟩) n cap) (.int .i64 (r : Int))).run Tryz.prog W = .ok (.pointer (some ⟨g, q + r * 2, none⟩)) W)
    (r11 : ∀ c L W, Wd c L W → L 11 = false → L 10 = true → (Instr.loadAt 9 (.pointer (some ⟨g, q + r * 2 + 1, none⟩))).run Tryz.prog W = .ok (S s) W)
    (r13 : ∀ c L W, Wd c L W → L 13 = false → L 6 = true → L 12 = true → Calls Tryz.prog 8 #[(.int .i64 (s.length : Int)), (.int .i64 (s.length : Int))] W fun eg w' => ∃ c', (∀ j, L j = true → vrw5 g q n cap r x0 x1 x2 x3 s c' j = vrw5 g q n cap r x0 x1 x2 x3 s c j) ∧ eg = .returned (vrw5 g q n cap r x0 x1 x2 x3 s c' 13) ∧ Wd c' (upd L 13) w')
    (r14 : ∀ c L W, Wd c L W → L 14 = false → L 13 = true → Calls Tryz.prog 8 #[(.int .i64 (x1 : Int)), (.int .i64 50)] W fun eg w' => ∃ c', (∀ j, L j = true → vrw5 g q n cap r x0 x1 x2 x3 s c' j = vrw5 g q n cap r x0 x1 x2 x3 s c j) ∧ eg = .returned (vrw5 g q n cap r x0 x1 x2 x3 s c' 14) ∧ Wd c' (upd L 14) w')
    (r15 : ∀ c L W, Wd c L W → L 15 = false → L 0 = true → L 14 = true → Calls Tryz.prog 8 #[(.int .i64 (x0 : Int)), (.int .i64 (x2 : Int))] W fun eg w' => ∃ c', (∀ j, L j = true → vrw5 g q n cap r x0 x1 x2 x3 s c' j = vrw5 g q n cap r x0 x1 x2 x3 s c j) ∧ eg = .returned (vrw5 g q n cap r x0 x1 x2 x3 s c' 15) ∧ Wd c' (upd L 15) w')
    (r16 : ∀ c L W, Wd c L W → L 16 = false → L 15 = true → Wd c (upd L 16) W)
    (hend : ∀ c L W, (∀ i, i < 17 → L i = true) → Wd c L W → Q .normal (((((((((((((((((a0.put (some 27) (.int .i64 (x0 : Int))).put (some 28) (.slice (some ⟨g, q, none⟩) n cap)).put (some 29) (.int .i64 (r : Int))).put (some 30) (.pointer (some ⟨g, q + r * 2, none⟩))).put (some 31) (.pointer (some ⟨g, q + r * 2 + 1, none⟩))).put (some 32) (S s)).put (some 33) (.int .i64 (s.length : Int))).put (some 34) (.slice (some ⟨g, q, none⟩) n cap)).put (some 35) (.int .i64 (r : Int))).put (some 36) (.pointer (some ⟨g, q + r * 2, none⟩))).put (some 37) (.pointer (some ⟨g, q + r * 2 + 1, none⟩))).put (some 38) (S s)).put (some 39) (.int .i64 (s.length : Int))).put (some 40) (.int .i64 (x1 : Int))).put (some 41) (.int .i64 (x2 : Int))).put (some 42) (.int .i64 (x3 : Int))).put (some 3) (.int .i64 (x3 : Int))) W) : (Code.region id ops true).wp Tryz.prog Q a0 w := by
  let val : Unit → Nat → Value := vrw5 g q n cap r x0 x1 x2 x3 s
  have hosz : ops.size = 17 := by
    have := congrArg List.length htab
    simpa [rw5T] using this
  have hds : ∀ i s, (rw5T[i]?).bind (·.2.1) = some s → dstOf ops i = some s := fun i s hi => by rw [tab_dst htab, hi]
  have hdisB : disL rw5T = true := by rfl
  have hdis := disL_of htab hdisB
  have hold : ∀ s, rw5T.all (fun x => !(x.2.1 == some s)) = true → (List.range ops.size).all (fun j => !(dstOf ops j == some s)) = true := fun s h => holdL htab s h
  refine region_detX val Wd (hac_of hac) hdis h0 ?_ ?_
  rotate_left
  · intro c L W hall hW
    have := hend c L W (by rw [← hosz]; exact hall) hW
    have e : frm ops a0 (val c) (fun _ => true) ops.size = (((((((((((((((((a0.put (some 27) (.int .i64 (x0 : Int))).put (some 28) (.slice (some ⟨g, q, none⟩) n cap)).put (some 29) (.int .i64 (r : Int))).put (some 30) (.pointer (some ⟨g, q + r * 2, none⟩))).put (some 31) (.pointer (some ⟨g, q + r * 2 + 1, none⟩))).put (some 32) (S s)).put (some 33) (.int .i64 (s.length : Int))).put (some 34) (.slice (some ⟨g, q, none⟩) n cap)).put (some 35) (.int .i64 (r : Int))).put (some 36) (.pointer (some ⟨g, q + r * 2, none⟩))).put (some 37) (.pointer (some ⟨g, q + r * 2 + 1, none⟩))).put (some 38) (S s)).put (some 39) (.int .i64 (s.length : Int))).put (some 40) (.int .i64 (x1 : Int))).put (some 41) (.int .i64 (x2 : Int))).put (some 42) (.int .i64 (x3 : Int))).put (some 3) (.int .i64 (x3 : Int))) := by
      rw [hosz]
      simp only [frm, if_true]
      rw [tab_dst htab 0, tab_dst htab 1, tab_dst htab 2, tab_dst htab 3, tab_dst htab 4, tab_dst htab 5, tab_dst htab 6, tab_dst htab 7, tab_dst htab 8, tab_dst htab 9, tab_dst htab 10, tab_dst htab 11, tab_dst htab 12, tab_dst htab 13, tab_dst htab 14, tab_dst htab 15, tab_dst htab 16]
      rfl
    rw [e]
    exact this
  intro i o ho c L a w' hL hd ha hW
  have hi : i < 17 := by rw [← hosz]; exact (Array.getElem?_eq_some_iff.1 ho).1
  match i, ho, hL, hi with
  | 0, ho, hL, _ =>
    obtain ⟨hop, hdst, hgd⟩ := tab_at htab ho (show rw5T[0]? = _ from rfl)
    simp only at hop hgd
    have h0 : a.tmps[3]? = some (.int .i64 (x0 : Int)) := by rw [ha, frm_late a0 (val c) L 3 16 (e0 c L w' hW hL) ops.size (late_of htab (by rfl))]; exact o3
    exact doesX_of (doesL_run ho (wanted_none hgd) (hpure 0 (by decide) c L w' hW) (by rw [run_move _ _ _ hop]; exact congrArg (fun v => Result.ok (Next.value v) w') (eval_of h0)))
  | 1, ho, hL, _ =>
    obtain ⟨hop, hdst, hgd⟩ := tab_at htab ho (show rw5T[1]? = _ from rfl)
    simp only at hop hgd
    have h0 := frm_old (val := val c) ha 0 _ (hold 0 rfl) o0
    exact doesX_of (doesL_run ho (wanted_none hgd) (hpure 1 (by decide) c L w' hW) (by rw [run_move _ _ _ hop]; exact congrArg (fun v => Result.ok (Next.value v) w') (eval_of h0)))
  | 2, ho, hL, _ =>
    obtain ⟨hop, hdst, hgd⟩ := tab_at htab ho (show rw5T[2]? = _ from rfl)
    simp only at hop hgd
    have h0 := frm_old (val := val c) ha 4 _ (hold 4 rfl) o4
    exact doesX_of (doesL_run ho (wanted_none hgd) (hpure 2 (by decide) c L w' hW) (by rw [run_move _ _ _ hop]; exact congrArg (fun v => Result.ok (Next.value v) w') (eval_of h0)))
  | 3, ho, hL, _ =>
    obtain ⟨hop, hdst, hgd⟩ := tab_at htab ho (show rw5T[3]? = _ from rfl)
    simp only at hop hgd
    have h0 := frm_at (val := val c) hdis ha 1 28 (hds 1 28 rfl) (by omega) (depl_of hdep 3 1 (by decide) ho hd)
    have h1 := frm_at (val := val c) hdis ha 2 29 (hds 2 29 rfl) (by omega) (depl_of hdep 3 2 (by decide) ho hd)
    exact doesX_of (doesL_run ho (wanted_none hgd) (hpure 3 (by decide) c L w' hW) (g_ixa hop (eval_of h0) (eval_of h1) (r3 w')))
  | 4, ho, hL, _ =>
    obtain ⟨hop, hdst, hgd⟩ := tab_at htab ho (show rw5T[4]? = _ from rfl)
    simp only at hop hgd
    have h0 := frm_at (val := val c) hdis ha 3 30 (hds 3 30 rfl) (by omega) (depl_of hdep 4 3 (by decide) ho hd)
    exact doesX_of (doesL_run ho (wanted_none hgd) (hpure 4 (by decide) c L w' hW) (g_field hop (eval_of h0) (by kernel_rfl)))
  | 5, ho, hL, _ =>
    obtain ⟨hop, hdst, hgd⟩ := tab_at htab ho (show rw5T[5]? = _ from rfl)
    simp only at hop hgd
    have h0 := frm_at (val := val c) hdis ha 4 31 (hds 4 31 rfl) (by omega) (depl_of hdep 5 4 (by decide) ho hd)
    exact doesX_of (doesL_run ho (wanted_none hgd) (hpure 5 (by decide) c L w' hW) (g_load hop (eval_of h0) (r5 c L w' hW hL (depl_of hdep 5 4 (by decide) ho hd))))
  | 6, ho, hL, _ =>
    obtain ⟨hop, hdst, hgd⟩ := tab_at htab ho (show rw5T[6]? = _ from rfl)
    simp only at hop hgd
    have h0 := frm_at (val := val c) hdis ha 5 32 (hds 5 32 rfl) (by omega) (depl_of hdep 6 5 (by decide) ho hd)
    exact doesX_of (doesL_run ho (wanted_none hgd) (hpure 6 (by decide) c L w' hW) (run_len _ _ _ hop _ (eval_of h0) _))
  | 7, ho, hL, _ =>
    obtain ⟨hop, hdst, hgd⟩ := tab_at htab ho (show rw5T[7]? = _ from rfl)
    simp only at hop hgd
    have h0 := frm_old (val := val c) ha 0 _ (hold 0 rfl) o0
    exact doesX_of (doesL_run ho (wanted_none hgd) (hpure 7 (by decide) c L w' hW) (by rw [run_move _ _ _ hop]; exact congrArg (fun v => Result.ok (Next.value v) w') (eval_of h0)))
  | 8, ho, hL, _ =>
    obtain ⟨hop, hdst, hgd⟩ := tab_at htab ho (show rw5T[8]? = _ from rfl)
    simp only at hop hgd
    have h0 := frm_old (val := val c) ha 4 _ (hold 4 rfl) o4
    exact doesX_of (doesL_run ho (wanted_none hgd) (hpure 8 (by decide) c L w' hW) (by rw [run_move _ _ _ hop]; exact congrArg (fun v => Result.ok (Next.value v) w') (eval_of h0)))
  | 9, ho, hL, _ =>
    obtain ⟨hop, hdst, hgd⟩ := tab_at htab ho (show rw5T[9]? = _ from rfl)
    simp only at hop hgd
    have h0 := frm_at (val := val c) hdis ha 7 34 (hds 7 34 rfl) (by omega) (depl_of hdep 9 7 (by decide) ho hd)
    have h1 := frm_at (val := val c) hdis ha 8 35 (hds 8 35 rfl) (by omega) (depl_of hdep 9 8 (by decide) ho hd)
    exact doesX_of (doesL_run ho (wanted_none hgd) (hpure 9 (by decide) c L w' hW) (g_ixa hop (eval_of h0) (eval_of h1) (r9 w')))
  | 10, ho, hL, _ =>
    obtain ⟨hop, hdst, hgd⟩ := tab_at htab ho (show rw5T[10]? = _ from rfl)
    simp only at hop hgd
    have h0 := frm_at (val := val c) hdis ha 9 36 (hds 9 36 rfl) (by omega) (depl_of hdep 10 9 (by decide) ho hd)
    exact doesX_of (doesL_run ho (wanted_none hgd) (hpure 10 (by decide) c L w' hW) (g_field hop (eval_of h0) (by kernel_rfl)))
  | 11, ho, hL, _ =>
    obtain ⟨hop, hdst, hgd⟩ := tab_at htab ho (show rw5T[11]? = _ from rfl)
    simp only at hop hgd
    have h0 := frm_at (val := val c) hdis ha 10 37 (hds 10 37 rfl) (by omega) (depl_of hdep 11 10 (by decide) ho hd)
    exact doesX_of (doesL_run ho (wanted_none hgd) (hpure 11 (by decide) c L w' hW) (g_load hop (eval_of h0) (r11 c L w' hW hL (depl_of hdep 11 10 (by decide) ho hd))))
  | 12, ho, hL, _ =>
    obtain ⟨hop, hdst, hgd⟩ := tab_at htab ho (show rw5T[12]? = _ from rfl)
    simp only at hop hgd
    have h0 := frm_at (val := val c) hdis ha 11 38 (hds 11 38 rfl) (by omega) (depl_of hdep 12 11 (by decide) ho hd)
    exact doesX_of (doesL_run ho (wanted_none hgd) (hpure 12 (by decide) c L w' hW) (run_len _ _ _ hop _ (eval_of h0) _))
  | 13, ho, hL, _ =>
    obtain ⟨hop, hdst, hgd⟩ := tab_at htab ho (show rw5T[13]? = _ from rfl)
    simp only at hop hgd
    have h0 := frm_at (val := val c) hdis ha 6 33 (hds 6 33 rfl) (by omega) (depl_of hdep 13 6 (by decide) ho hd)
    have h1 := frm_at (val := val c) hdis ha 12 39 (hds 12 39 rfl) (by omega) (depl_of hdep 13 12 (by decide) ho hd)
    refine doesX_call ho (wanted_none hgd) 8 #[(.int .i64 (s.length : Int)), (.int .i64 (s.length : Int))] ?_ (r13 c L w' hW hL (depl_of hdep 13 6 (by decide) ho hd) (depl_of hdep 13 12 (by decide) ho hd))
    rw [run_calls Tryz.func8 (by kernel_rfl) rfl _ _ _ _ hop rfl]
    simp only [List.map_toArray, List.map_cons, List.map_nil, eval_of h0, eval_of h1]
    all_goals rfl
  | 14, ho, hL, _ =>
    obtain ⟨hop, hdst, hgd⟩ := tab_at htab ho (show rw5T[14]? = _ from rfl)
    simp only at hop hgd
    have h0 := frm_at (val := val c) hdis ha 13 40 (hds 13 40 rfl) (by omega) (depl_of hdep 14 13 (by decide) ho hd)
    refine doesX_call ho (wanted_none hgd) 8 #[(.int .i64 (x1 : Int)), (.int .i64 50)] ?_ (r14 c L w' hW hL (depl_of hdep 14 13 (by decide) ho hd))
    rw [run_calls Tryz.func8 (by kernel_rfl) rfl _ _ _ _ hop rfl]
    simp only [List.map_toArray, List.map_cons, List.map_nil, eval_of h0]
    all_goals rfl
  | 15, ho, hL, _ =>
    obtain ⟨hop, hdst, hgd⟩ := tab_at htab ho (show rw5T[15]? = _ from rfl)
    simp only at hop hgd
    have h0 := frm_at (val := val c) hdis ha 0 27 (hds 0 27 rfl) (by omega) (depl_of hdep 15 0 (by decide) ho hd)
    have h1 := frm_at (val := val c) hdis ha 14 41 (hds 14 41 rfl) (by omega) (depl_of hdep 15 14 (by decide) ho hd)
    refine doesX_call ho (wanted_none hgd) 8 #[(.int .i64 (x0 : Int)), (.int .i64 (x2 : Int))] ?_ (r15 c L w' hW hL (depl_of hdep 15 0 (by decide) ho hd) (depl_of hdep 15 14 (by decide) ho hd))
    rw [run_calls Tryz.func8 (by kernel_rfl) rfl _ _ _ _ hop rfl]
    simp only [List.map_toArray, List.map_cons, List.map_nil, eval_of h0, eval_of h1]
    all_goals rfl
  | 16, ho, hL, _ =>
    obtain ⟨hop, hdst, hgd⟩ := tab_at htab ho (show rw5T[16]? = _ from rfl)
    simp only at hop hgd
    have h0 := frm_at (val := val c) hdis ha 15 42 (hds 15 42 rfl) (by omega) (depl_of hdep 16 15 (by decide) ho hd)
    exact doesX_of (doesL_run ho (wanted_none hgd) (r16 c L w' hW hL (depl_of hdep 16 15 (by decide) ho hd)) (by rw [run_assign _ _ _ hop]; exact congrArg (fun v => Result.ok (Next.value v) w') (eval_of h0)))
  | (i + 17), ho, hL, hi => exact absurd hi (by omega)
def vrw18 (g q n cap r ra k R : Nat) (er : Int) (s : Bs) (c : Value) (i : Nat) : Value := match i with
  | 0 => (.slice (some ⟨ra, 0, none⟩) 2 2)
  | 1 => (.int .i64 (k : Int))
  | 2 => (.pointer (some ⟨ra, 0 + k, none⟩))
  | 3 => (.pointer (some ⟨R, 0, none⟩))
  | 4 => (.slice (some ⟨g, q, none⟩) n cap)
  | 5 => (.int .i64 (r : Int))
  | 6 => (.pointer (some ⟨g, q + r * 2, none⟩))
  | 7 => (.pointer (some ⟨g, q + r * 2 + 1, none⟩))
  | 8 => (S s)
  | 9 => (.tuple #[c, .int .i64 er])
  | 10 => (.tuple #[c, .int .i64 er])
  | 11 => c
  | 12 => (.int .i64 (er : Int))
  | 13 => c
  | 14 => (.int .i64 (er : Int))
  | _ => undef
def rw18T : List (Op × Option Tmp × Option (Nat × Bool)) := [
  (.move (.tmp 6), some 81, none),
  (.move (.tmp 10), some 82, none),
  (.indexAddr 44 (.tmp 81) (.tmp 82), some 83, none),
  (.load 42 (.tmp 83), some 84, none),
  (.move (.tmp 0), some 85, none),
  (.move (.tmp 9), some 86, none),
  (.indexAddr 39 (.tmp 85) (.tmp 86), some 87, none),
  (.fieldAddr 41 (.tmp 87) 1, some 88, none),
  (.load 9 (.tmp 88), some 89, none),
  (.call { callee := .value (.func 21), args := #[(.tmp 84), (.tmp 89)], argTypes := #[42, 9] }, some 90, none),
  (.move (.tmp 90), some 80, none),
  (.extract (.tmp 80) 0, some 91, none),
  (.extract (.tmp 80) 1, some 92, none),
  (.assign (.tmp 91), some 11, none),
  (.assign (.tmp 92), some 12, none)]
def rw18D : List (Nat × Nat) := [(2, 0), (2, 1), (3, 2), (6, 4), (6, 5), (7, 6), (8, 7), (9, 3), (9, 8), (10, 9), (11, 10), (12, 10), (13, 11), (14, 12)]
set_option maxHeartbeats 4000000 in
theorem rw18 {ops : Array Oper} {id : Nat} {Q : Exit → Act → World → Prop} (g q n cap r ra k R : Nat) (er : Int) (s : Bs) (htab : ops.toList.map (fun o => (o.op, o.dst, o.guard)) = rw18T) (hdep : deplB rw18D ops = true) (hac : acB ops = true)
    (a0 : Act) (w : World) (hsz : 93 ≤ a0.tmps.size) (o0 : a0.tmps[0]? = some (.slice (some ⟨g, q, none⟩) n cap)) (o6 : a0.tmps[6]? = some (.slice (some ⟨ra, 0, none⟩) 2 2)) (o9 : a0.tmps[9]? = some (.int .i64 (r : Int))) (o10 : a0.tmps[10]? = some (.int .i64 (k : Int)))
    (Wd : Value → (Nat → Bool) → World → Prop) (h0 : ∃ c, Wd c (fun _ => false) w.drew) (hpure : ∀ i, i ∉ ([9, 10, 11, 13] : List Nat) → ∀ c L W, Wd c L W → Wd c (upd L i) W)
    (r2 : ∀ W, (Instr.indexAt 44 (.slice (some ⟨ra, 0, none⟩) 2 2) (.int .i64 (k : Int))).run Tryz.prog W = .ok (.pointer (some ⟨ra, 0 + k, none⟩)) W)
    (r3 : ∀ c L W, Wd c L W → L 3 = false → L 2 = true → (Instr.loadAt 42 (.pointer (some ⟨ra, 0 + k, none⟩))).run Tryz.prog W = .ok (.pointer (some ⟨R, 0, none⟩)) W)
    (r6 : ∀ W, (Instr.indexAt 39 (.slice (some ⟨g, q, none⟩) n cap) (.int .i64 (r : Int))).run Tryz.prog W = .ok (.pointer (some ⟨g, q + r * 2, none⟩)) W)
    (r8 : ∀ c L W, Wd c L W → L 8 = false → L 7 = true → (Instr.loadAt 9 (.pointer (some ⟨g, q + r * 2 + 1, none⟩))).run Tryz.prog W = .ok (S s) W)
    (r9 : ∀ c L W, Wd c L W → L 9 = false → L 3 = true → L 8 = true → Calls Tryz.prog 21 #[(.pointer (some ⟨R, 0, none⟩)), (S s)] W fun eg w' => ∃ c', (∀ j, L j = true → vrw18 g q n cap r ra k R er s c' j = vrw18 g q n cap r ra k R er s c j) ∧ eg = .returned (vrw18 g q n cap r ra k R er s c' 9) ∧ Wd c' (upd L 9) w')
    (r10 : ∀ c L W, Wd c L W → L 10 = false → L 9 = true → Wd c (upd L 10) W)
    (r11 : ∀ (c : Value) W, (Instr.extract (.tuple #[c, .int .i64 er]) 0).run Tryz.prog W = .ok c W)
    (e11 : ∀ c L W, Wd c L W → L 11 = false → L 10 = true → Wd c (upd L 11) W)
    (r12 : ∀ (c : Value) W, (Instr.extract (.tuple #[c, .int .i64 er]) 1).run Tryz.prog W = .ok (.int .i64 (er : Int)) W)
    (r13 : ∀ c L W, Wd c L W → L 13 = false → L 11 = true → Wd c (upd L 13) W)
    (hend : ∀ c L W, (∀ i, i < 15 → L i = true) → Wd c L W → Q .normal (((((((((((((((a0.put (some 81) (.slice (some ⟨ra, 0, none⟩) 2 2)).put (some 82) (.int .i64 (k : Int))).put (some 83) (.pointer (some ⟨ra, 0 + k, none⟩))).put (some 84) (.pointer (some ⟨R, 0, none⟩))).put (some 85) (.slice (some ⟨g, q, none⟩) n cap)).put (some 86) (.int .i64 (r : Int))).put (some 87) (.pointer (some ⟨g, q + r * 2, none⟩))).put (some 88) (.pointer (some ⟨g, q + r * 2 + 1, none⟩))).put (some 89) (S s)).put (some 90) (.tuple #[c, .int .i64 er])).put (some 80) (.tuple #[c, .int .i64 er])).put (some 91) c).put (some 92) (.int .i64 (er : Int))).put (some 11) c).put (some 12) (.int .i64 (er : Int))) W) : (Code.region id ops true).wp Tryz.prog Q a0 w := by
  let val : Value → Nat → Value := vrw18 g q n cap r ra k R er s
  have hosz : ops.size = 15 := by
    have := congrArg List.length htab
    simpa [rw18T] using this
  have hds : ∀ i s, (rw18T[i]?).bind (·.2.1) = some s → dstOf ops i = some s := fun i s hi => by rw [tab_dst htab, hi]
  have hdisB : disL rw18T = true := by rfl
  have hdis := disL_of htab hdisB
  have hold : ∀ s, rw18T.all (fun x => !(x.2.1 == some s)) = true → (List.range ops.size).all (fun j => !(dstOf ops j == some s)) = true := fun s h => holdL htab s h
  refine region_detX val Wd (hac_of hac) hdis h0 ?_ ?_
  rotate_left
  · intro c L W hall hW
    have := hend c L W (by rw [← hosz]; exact hall) hW
    have e : frm ops a0 (val c) (fun _ => true) ops.size = (((((((((((((((a0.put (some 81) (.slice (some ⟨ra, 0, none⟩) 2 2)).put (some 82) (.int .i64 (k : Int))).put (some 83) (.pointer (some ⟨ra, 0 + k, none⟩))).put (some 84) (.pointer (some ⟨R, 0, none⟩))).put (some 85) (.slice (some ⟨g, q, none⟩) n cap)).put (some 86) (.int .i64 (r : Int))).put (some 87) (.pointer (some ⟨g, q + r * 2, none⟩))).put (some 88) (.pointer (some ⟨g, q + r * 2 + 1, none⟩))).put (some 89) (S s)).put (some 90) (.tuple #[c, .int .i64 er])).put (some 80) (.tuple #[c, .int .i64 er])).put (some 91) c).put (some 92) (.int .i64 (er : Int))).put (some 11) c).put (some 12) (.int .i64 (er : Int))) := by
      rw [hosz]
      simp only [frm, if_true]
      rw [tab_dst htab 0, tab_dst htab 1, tab_dst htab 2, tab_dst htab 3, tab_dst htab 4, tab_dst htab 5, tab_dst htab 6, tab_dst htab 7, tab_dst htab 8, tab_dst htab 9, tab_dst htab 10, tab_dst htab 11, tab_dst htab 12, tab_dst htab 13, tab_dst htab 14]
      rfl
    rw [e]
    exact this
  intro i o ho c L a w' hL hd ha hW
  have hi : i < 15 := by rw [← hosz]; exact (Array.getElem?_eq_some_iff.1 ho).1
  match i, ho, hL, hi with
  | 0, ho, hL, _ =>
    obtain ⟨hop, hdst, hgd⟩ := tab_at htab ho (show rw18T[0]? = _ from rfl)
    simp only at hop hgd
    have h0 := frm_old (val := val c) ha 6 _ (hold 6 rfl) o6
    exact doesX_of (doesL_run ho (wanted_none hgd) (hpure 0 (by decide) c L w' hW) (by rw [run_move _ _ _ hop]; exact congrArg (fun v => Result.ok (Next.value v) w') (eval_of h0)))
  | 1, ho, hL, _ =>
    obtain ⟨hop, hdst, hgd⟩ := tab_at htab ho (show rw18T[1]? = _ from rfl)
    simp only at hop hgd
    have h0 := frm_old (val := val c) ha 10 _ (hold 10 rfl) o10
    exact doesX_of (doesL_run ho (wanted_none hgd) (hpure 1 (by decide) c L w' hW) (by rw [run_move _ _ _ hop]; exact congrArg (fun v => Result.ok (Next.value v) w') (eval_of h0)))
  | 2, ho, hL, _ =>
    obtain ⟨hop, hdst, hgd⟩ := tab_at htab ho (show rw18T[2]? = _ from rfl)
    simp only at hop hgd
    have h0 := frm_at (val := val c) hdis ha 0 81 (hds 0 81 rfl) (by omega) (depl_of hdep 2 0 (by decide) ho hd)
    have h1 := frm_at (val := val c) hdis ha 1 82 (hds 1 82 rfl) (by omega) (depl_of hdep 2 1 (by decide) ho hd)
    exact doesX_of (doesL_run ho (wanted_none hgd) (hpure 2 (by decide) c L w' hW) (g_ixa hop (eval_of h0) (eval_of h1) (r2 w')))
  | 3, ho, hL, _ =>
    obtain ⟨hop, hdst, hgd⟩ := tab_at htab ho (show rw18T[3]? = _ from rfl)
    simp only at hop hgd
    have h0 := frm_at (val := val c) hdis ha 2 83 (hds 2 83 rfl) (by omega) (depl_of hdep 3 2 (by decide) ho hd)
    exact doesX_of (doesL_run ho (wanted_none hgd) (hpure 3 (by decide) c L w' hW) (g_load hop (eval_of h0) (r3 c L w' hW hL (depl_of hdep 3 2 (by decide) ho hd))))
  | 4, ho, hL, _ =>
    obtain ⟨hop, hdst, hgd⟩ := tab_at htab ho (show rw18T[4]? = _ from rfl)
    simp only at hop hgd
    have h0 := frm_old (val := val c) ha 0 _ (hold 0 rfl) o0
    exact doesX_of (doesL_run ho (wanted_none hgd) (hpure 4 (by decide) c L w' hW) (by rw [run_move _ _ _ hop]; exact congrArg (fun v => Result.ok (Next.value v) w') (eval_of h0)))
  | 5, ho, hL, _ =>
    obtain ⟨hop, hdst, hgd⟩ := tab_at htab ho (show rw18T[5]? = _ from rfl)
    simp only at hop hgd
    have h0 := frm_old (val := val c) ha 9 _ (hold 9 rfl) o9
    exact doesX_of (doesL_run ho (wanted_none hgd) (hpure 5 (by decide) c L w' hW) (by rw [run_move _ _ _ hop]; exact congrArg (fun v => Result.ok (Next.value v) w') (eval_of h0)))
  | 6, ho, hL, _ =>
    obtain ⟨hop, hdst, hgd⟩ := tab_at htab ho (show rw18T[6]? = _ from rfl)
    simp only at hop hgd
    have h0 := frm_at (val := val c) hdis ha 4 85 (hds 4 85 rfl) (by omega) (depl_of hdep 6 4 (by decide) ho hd)
    have h1 := frm_at (val := val c) hdis ha 5 86 (hds 5 86 rfl) (by omega) (depl_of hdep 6 5 (by decide) ho hd)
    exact doesX_of (doesL_run ho (wanted_none hgd) (hpure 6 (by decide) c L w' hW) (g_ixa hop (eval_of h0) (eval_of h1) (r6 w')))
  | 7, ho, hL, _ =>
    obtain ⟨hop, hdst, hgd⟩ := tab_at htab ho (show rw18T[7]? = _ from rfl)
    simp only at hop hgd
    have h0 := frm_at (val := val c) hdis ha 6 87 (hds 6 87 rfl) (by omega) (depl_of hdep 7 6 (by decide) ho hd)
    exact doesX_of (doesL_run ho (wanted_none hgd) (hpure 7 (by decide) c L w' hW) (g_field hop (eval_of h0) (by kernel_rfl)))
  | 8, ho, hL, _ =>
    obtain ⟨hop, hdst, hgd⟩ := tab_at htab ho (show rw18T[8]? = _ from rfl)
    simp only at hop hgd
    have h0 := frm_at (val := val c) hdis ha 7 88 (hds 7 88 rfl) (by omega) (depl_of hdep 8 7 (by decide) ho hd)
    exact doesX_of (doesL_run ho (wanted_none hgd) (hpure 8 (by decide) c L w' hW) (g_load hop (eval_of h0) (r8 c L w' hW hL (depl_of hdep 8 7 (by decide) ho hd))))
  | 9, ho, hL, _ =>
    obtain ⟨hop, hdst, hgd⟩ := tab_at htab ho (show rw18T[9]? = _ from rfl)
    simp only at hop hgd
    have h0 := frm_at (val := val c) hdis ha 3 84 (hds 3 84 rfl) (by omega) (depl_of hdep 9 3 (by decide) ho hd)
    have h1 := frm_at (val := val c) hdis ha 8 89 (hds 8 89 rfl) (by omega) (depl_of hdep 9 8 (by decide) ho hd)
    refine doesX_call ho (wanted_none hgd) 21 #[(.pointer (some ⟨R, 0, none⟩)), (S s)] ?_ (r9 c L w' hW hL (depl_of hdep 9 3 (by decide) ho hd) (depl_of hdep 9 8 (by decide) ho hd))
    rw [run_calls Tryz.func21 (by kernel_rfl) rfl _ _ _ _ hop rfl]
    simp only [List.map_toArray, List.map_cons, List.map_nil, eval_of h0, eval_of h1]
    all_goals rfl
  | 10, ho, hL, _ =>
    obtain ⟨hop, hdst, hgd⟩ := tab_at htab ho (show rw18T[10]? = _ from rfl)
    simp only at hop hgd
    have h0 := frm_at (val := val c) hdis ha 9 90 (hds 9 90 rfl) (by omega) (depl_of hdep 10 9 (by decide) ho hd)
    exact doesX_of (doesL_run ho (wanted_none hgd) (r10 c L w' hW hL (depl_of hdep 10 9 (by decide) ho hd)) (by rw [run_move _ _ _ hop]; exact congrArg (fun v => Result.ok (Next.value v) w') (eval_of h0)))
  | 11, ho, hL, _ =>
    obtain ⟨hop, hdst, hgd⟩ := tab_at htab ho (show rw18T[11]? = _ from rfl)
    simp only at hop hgd
    have h0 := frm_at (val := val c) hdis ha 10 80 (hds 10 80 rfl) (by omega) (depl_of hdep 11 10 (by decide) ho hd)
    exact doesX_of (doesL_run ho (wanted_none hgd) (e11 c L w' hW hL (depl_of hdep 11 10 (by decide) ho hd)) (g_ext hop (eval_of h0) (r11 c w')))
  | 12, ho, hL, _ =>
    obtain ⟨hop, hdst, hgd⟩ := tab_at htab ho (show rw18T[12]? = _ from rfl)
    simp only at hop hgd
    have h0 := frm_at (val := val c) hdis ha 10 80 (hds 10 80 rfl) (by omega) (depl_of hdep 12 10 (by decide) ho hd)
    exact doesX_of (doesL_run ho (wanted_none hgd) (hpure 12 (by decide) c L w' hW) (g_ext hop (eval_of h0) (r12 c w')))
  | 13, ho, hL, _ =>
    obtain ⟨hop, hdst, hgd⟩ := tab_at htab ho (show rw18T[13]? = _ from rfl)
    simp only at hop hgd
    have h0 := frm_at (val := val c) hdis ha 11 91 (hds 11 91 rfl) (by omega) (depl_of hdep 13 11 (by decide) ho hd)
    exact doesX_of (doesL_run ho (wanted_none hgd) (r13 c L w' hW hL (depl_of hdep 13 11 (by decide) ho hd)) (by rw [run_assign _ _ _ hop]; exact congrArg (fun v => Result.ok (Next.value v) w') (eval_of h0)))
  | 14, ho, hL, _ =>
    obtain ⟨hop, hdst, hgd⟩ := tab_at htab ho (show rw18T[14]? = _ from rfl)
    simp only at hop hgd
    have h0 := frm_at (val := val c) hdis ha 12 92 (hds 12 92 rfl) (by omega) (depl_of hdep 14 12 (by decide) ho hd)
    exact doesX_of (doesL_run ho (wanted_none hgd) (hpure 14 (by decide) c L w' hW) (by rw [run_assign _ _ _ hop]; exact congrArg (fun v => Result.ok (Next.value v) w') (eval_of h0)))
  | (i + 15), ho, hL, hi => exact absurd hi (by omega)
def vrw19 (g q n cap r ra k R : Nat) (er : Int) (s : Bs) (c : Value) (i : Nat) : Value := match i with
  | 0 => (.slice (some ⟨ra, 0, none⟩) 2 2)
  | 1 => (.int .i64 (k : Int))
  | 2 => (.pointer (some ⟨ra, 0 + k, none⟩))
  | 3 => (.pointer (some ⟨R, 0, none⟩))
  | 4 => (.slice (some ⟨g, q, none⟩) n cap)
  | 5 => (.int .i64 (r : Int))
  | 6 => (.pointer (some ⟨g, q + r * 2, none⟩))
  | 7 => (.pointer (some ⟨g, q + r * 2 + 1, none⟩))
  | 8 => (S s)
  | 9 => (.tuple #[c, .int .i64 er])
  | 10 => (.tuple #[c, .int .i64 er])
  | 11 => c
  | 12 => (.int .i64 (er : Int))
  | 13 => c
  | 14 => (.int .i64 (er : Int))
  | _ => undef
def rw19T : List (Op × Option Tmp × Option (Nat × Bool)) := [
  (.move (.tmp 7), some 94, none),
  (.move (.tmp 10), some 95, none),
  (.indexAddr 47 (.tmp 94) (.tmp 95), some 96, none),
  (.load 45 (.tmp 96), some 97, none),
  (.move (.tmp 0), some 98, none),
  (.move (.tmp 9), some 99, none),
  (.indexAddr 39 (.tmp 98) (.tmp 99), some 100, none),
  (.fieldAddr 41 (.tmp 100) 1, some 101, none),
  (.load 9 (.tmp 101), some 102, none),
  (.call { callee := .value (.func 22), args := #[(.tmp 97), (.tmp 102)], argTypes := #[45, 9] }, some 103, none),
  (.move (.tmp 103), some 93, none),
  (.extract (.tmp 93) 0, some 104, none),
  (.extract (.tmp 93) 1, some 105, none),
  (.assign (.tmp 104), some 13, none),
  (.assign (.tmp 105), some 14, none)]
def rw19D : List (Nat × Nat) := [(2, 0), (2, 1), (3, 2), (6, 4), (6, 5), (7, 6), (8, 7), (9, 3), (9, 8), (10, 9), (11, 10), (12, 10), (13, 11), (14, 12)]
set_option maxHeartbeats 4000000 in
theorem rw19 {ops : Array Oper} {id : Nat} {Q : Exit → Act → World → Prop} (g q n cap r ra k R : Nat) (er : Int) (s : Bs) (htab : ops.toList.map (fun o => (o.op, o.dst, o.guard)) = rw19T) (hdep : deplB rw19D ops = true) (hac : acB ops = true)
    (a0 : Act) (w : World) (hsz : 106 ≤ a0.tmps.size) (o0 : a0.tmps[0]? = some (.slice (some ⟨g, q, none⟩) n cap)) (o7 : a0.tmps[7]? = some (.slice (some ⟨ra, 0, none⟩) 2 2)) (o9 : a0.tmps[9]? = some (.int .i64 (r : Int))) (o10 : a0.tmps[10]? = some (.int .i64 (k : Int)))
    (Wd : Value → (Nat → Bool) → World → Prop) (h0 : ∃ c, Wd c (fun _ => false) w.drew) (hpure : ∀ i, i ∉ ([9, 10, 11, 13] : List Nat) → ∀ c L W, Wd c L W → Wd c (upd L i) W)
    (r2 : ∀ W, (Instr.indexAt 47 (.slice (some ⟨ra, 0, none⟩) 2 2) (.int .i64 (k : Int))).run Tryz.prog W = .ok (.pointer (some ⟨ra, 0 + k, none⟩)) W)
    (r3 : ∀ c L W, Wd c L W → L 3 = false → L 2 = true → (Instr.loadAt 45 (.pointer (some ⟨ra, 0 + k, none⟩))).run Tryz.prog W = .ok (.pointer (some ⟨R, 0, none⟩)) W)
    (r6 : ∀ W, (Instr.indexAt 39 (.slice (some ⟨g, q, none⟩) n cap) (.int .i64 (r : Int))).run Tryz.prog W = .ok (.pointer (some ⟨g, q + r * 2, none⟩)) W)
    (r8 : ∀ c L W, Wd c L W → L 8 = false → L 7 = true → (Instr.loadAt 9 (.pointer (some ⟨g, q + r * 2 + 1, none⟩))).run Tryz.prog W = .ok (S s) W)
    (r9 : ∀ c L W, Wd c L W → L 9 = false → L 3 = true → L 8 = true → Calls Tryz.prog 22 #[(.pointer (some ⟨R, 0, none⟩)), (S s)] W fun eg w' => ∃ c', (∀ j, L j = true → vrw19 g q n cap r ra k R er s c' j = vrw19 g q n cap r ra k R er s c j) ∧ eg = .returned (vrw19 g q n cap r ra k R er s c' 9) ∧ Wd c' (upd L 9) w')
    (r10 : ∀ c L W, Wd c L W → L 10 = false → L 9 = true → Wd c (upd L 10) W)
    (r11 : ∀ (c : Value) W, (Instr.extract (.tuple #[c, .int .i64 er]) 0).run Tryz.prog W = .ok c W)
    (e11 : ∀ c L W, Wd c L W → L 11 = false → L 10 = true → Wd c (upd L 11) W)
    (r12 : ∀ (c : Value) W, (Instr.extract (.tuple #[c, .int .i64 er]) 1).run Tryz.prog W = .ok (.int .i64 (er : Int)) W)
    (r13 : ∀ c L W, Wd c L W → L 13 = false → L 11 = true → Wd c (upd L 13) W)
    (hend : ∀ c L W, (∀ i, i < 15 → L i = true) → Wd c L W → Q .normal (((((((((((((((a0.put (some 94) (.slice (some ⟨ra, 0, none⟩) 2 2)).put (some 95) (.int .i64 (k : Int))).put (some 96) (.pointer (some ⟨ra, 0 + k, none⟩))).put (some 97) (.pointer (some ⟨R, 0, none⟩))).put (some 98) (.slice (some ⟨g, q, none⟩) n cap)).put (some 99) (.int .i64 (r : Int))).put (some 100) (.pointer (some ⟨g, q + r * 2, none⟩))).put (some 101) (.pointer (some ⟨g, q + r * 2 + 1, none⟩))).put (some 102) (S s)).put (some 103) (.tuple #[c, .int .i64 er])).put (some 93) (.tuple #[c, .int .i64 er])).put (some 104) c).put (some 105) (.int .i64 (er : Int))).put (some 13) c).put (some 14) (.int .i64 (er : Int))) W) : (Code.region id ops true).wp Tryz.prog Q a0 w := by
  let val : Value → Nat → Value := vrw19 g q n cap r ra k R er s
  have hosz : ops.size = 15 := by
    have := congrArg List.length htab
    simpa [rw19T] using this
  have hds : ∀ i s, (rw19T[i]?).bind (·.2.1) = some s → dstOf ops i = some s := fun i s hi => by rw [tab_dst htab, hi]
  have hdisB : disL rw19T = true := by rfl
  have hdis := disL_of htab hdisB
  have hold : ∀ s, rw19T.all (fun x => !(x.2.1 == some s)) = true → (List.range ops.size).all (fun j => !(dstOf ops j == some s)) = true := fun s h => holdL htab s h
  refine region_detX val Wd (hac_of hac) hdis h0 ?_ ?_
  rotate_left
  · intro c L W hall hW
    have := hend c L W (by rw [← hosz]; exact hall) hW
    have e : frm ops a0 (val c) (fun _ => true) ops.size = (((((((((((((((a0.put (some 94) (.slice (some ⟨ra, 0, none⟩) 2 2)).put (some 95) (.int .i64 (k : Int))).put (some 96) (.pointer (some ⟨ra, 0 + k, none⟩))).put (some 97) (.pointer (some ⟨R, 0, none⟩))).put (some 98) (.slice (some ⟨g, q, none⟩) n cap)).put (some 99) (.int .i64 (r : Int))).put (some 100) (.pointer (some ⟨g, q + r * 2, none⟩))).put (some 101) (.pointer (some ⟨g, q + r * 2 + 1, none⟩))).put (some 102) (S s)).put (some 103) (.tuple #[c, .int .i64 er])).put (some 93) (.tuple #[c, .int .i64 er])).put (some 104) c).put (some 105) (.int .i64 (er : Int))).put (some 13) c).put (some 14) (.int .i64 (er : Int))) := by
      rw [hosz]
      simp only [frm, if_true]
      rw [tab_dst htab 0, tab_dst htab 1, tab_dst htab 2, tab_dst htab 3, tab_dst htab 4, tab_dst htab 5, tab_dst htab 6, tab_dst htab 7, tab_dst htab 8, tab_dst htab 9, tab_dst htab 10, tab_dst htab 11, tab_dst htab 12, tab_dst htab 13, tab_dst htab 14]
      rfl
    rw [e]
    exact this
  intro i o ho c L a w' hL hd ha hW
  have hi : i < 15 := by rw [← hosz]; exact (Array.getElem?_eq_some_iff.1 ho).1
  match i, ho, hL, hi with
  | 0, ho, hL, _ =>
    obtain ⟨hop, hdst, hgd⟩ := tab_at htab ho (show rw19T[0]? = _ from rfl)
    simp only at hop hgd
    have h0 := frm_old (val := val c) ha 7 _ (hold 7 rfl) o7
    exact doesX_of (doesL_run ho (wanted_none hgd) (hpure 0 (by decide) c L w' hW) (by rw [run_move _ _ _ hop]; exact congrArg (fun v => Result.ok (Next.value v) w') (eval_of h0)))
  | 1, ho, hL, _ =>
    obtain ⟨hop, hdst, hgd⟩ := tab_at htab ho (show rw19T[1]? = _ from rfl)
    simp only at hop hgd
    have h0 := frm_old (val := val c) ha 10 _ (hold 10 rfl) o10
    exact doesX_of (doesL_run ho (wanted_none hgd) (hpure 1 (by decide) c L w' hW) (by rw [run_move _ _ _ hop]; exact congrArg (fun v => Result.ok (Next.value v) w') (eval_of h0)))
  | 2, ho, hL, _ =>
    obtain ⟨hop, hdst, hgd⟩ := tab_at htab ho (show rw19T[2]? = _ from rfl)
    simp only at hop hgd
    have h0 := frm_at (val := val c) hdis ha 0 94 (hds 0 94 rfl) (by omega) (depl_of hdep 2 0 (by decide) ho hd)
    have h1 := frm_at (val := val c) hdis ha 1 95 (hds 1 95 rfl) (by omega) (depl_of hdep 2 1 (by decide) ho hd)
    exact doesX_of (doesL_run ho (wanted_none hgd) (hpure 2 (by decide) c L w' hW) (g_ixa hop (eval_of h0) (eval_of h1) (r2 w')))
  | 3, ho, hL, _ =>
    obtain ⟨hop, hdst, hgd⟩ := tab_at htab ho (show rw19T[3]? = _ from rfl)
    simp only at hop hgd
    have h0 := frm_at (val := val c) hdis ha 2 96 (hds 2 96 rfl) (by omega) (depl_of hdep 3 2 (by decide) ho hd)
    exact doesX_of (doesL_run ho (wanted_none hgd) (hpure 3 (by decide) c L w' hW) (g_load hop (eval_of h0) (r3 c L w' hW hL (depl_of hdep 3 2 (by decide) ho hd))))
  | 4, ho, hL, _ =>
    obtain ⟨hop, hdst, hgd⟩ := tab_at htab ho (show rw19T[4]? = _ from rfl)
    simp only at hop hgd
    have h0 := frm_old (val := val c) ha 0 _ (hold 0 rfl) o0
    exact doesX_of (doesL_run ho (wanted_none hgd) (hpure 4 (by decide) c L w' hW) (by rw [run_move _ _ _ hop]; exact congrArg (fun v => Result.ok (Next.value v) w') (eval_of h0)))
  | 5, ho, hL, _ =>
    obtain ⟨hop, hdst, hgd⟩ := tab_at htab ho (show rw19T[5]? = _ from rfl)
    simp only at hop hgd
    have h0 := frm_old (val := val c) ha 9 _ (hold 9 rfl) o9
    exact doesX_of (doesL_run ho (wanted_none hgd) (hpure 5 (by decide) c L w' hW) (by rw [run_move _ _ _ hop]; exact congrArg (fun v => Result.ok (Next.value v) w') (eval_of h0)))
  | 6, ho, hL, _ =>
    obtain ⟨hop, hdst, hgd⟩ := tab_at htab ho (show rw19T[6]? = _ from rfl)
    simp only at hop hgd
    have h0 := frm_at (val := val c) hdis ha 4 98 (hds 4 98 rfl) (by omega) (depl_of hdep 6 4 (by decide) ho hd)
    have h1 := frm_at (val := val c) hdis ha 5 99 (hds 5 99 rfl) (by omega) (depl_of hdep 6 5 (by decide) ho hd)
    exact doesX_of (doesL_run ho (wanted_none hgd) (hpure 6 (by decide) c L w' hW) (g_ixa hop (eval_of h0) (eval_of h1) (r6 w')))
  | 7, ho, hL, _ =>
    obtain ⟨hop, hdst, hgd⟩ := tab_at htab ho (show rw19T[7]? = _ from rfl)
    simp only at hop hgd
    have h0 := frm_at (val := val c) hdis ha 6 100 (hds 6 100 rfl) (by omega) (depl_of hdep 7 6 (by decide) ho hd)
    exact doesX_of (doesL_run ho (wanted_none hgd) (hpure 7 (by decide) c L w' hW) (g_field hop (eval_of h0) (by kernel_rfl)))
  | 8, ho, hL, _ =>
    obtain ⟨hop, hdst, hgd⟩ := tab_at htab ho (show rw19T[8]? = _ from rfl)
    simp only at hop hgd
    have h0 := frm_at (val := val c) hdis ha 7 101 (hds 7 101 rfl) (by omega) (depl_of hdep 8 7 (by decide) ho hd)
    exact doesX_of (doesL_run ho (wanted_none hgd) (hpure 8 (by decide) c L w' hW) (g_load hop (eval_of h0) (r8 c L w' hW hL (depl_of hdep 8 7 (by decide) ho hd))))
  | 9, ho, hL, _ =>
    obtain ⟨hop, hdst, hgd⟩ := tab_at htab ho (show rw19T[9]? = _ from rfl)
    simp only at hop hgd
    have h0 := frm_at (val := val c) hdis ha 3 97 (hds 3 97 rfl) (by omega) (depl_of hdep 9 3 (by decide) ho hd)
    have h1 := frm_at (val := val c) hdis ha 8 102 (hds 8 102 rfl) (by omega) (depl_of hdep 9 8 (by decide) ho hd)
    refine doesX_call ho (wanted_none hgd) 22 #[(.pointer (some ⟨R, 0, none⟩)), (S s)] ?_ (r9 c L w' hW hL (depl_of hdep 9 3 (by decide) ho hd) (depl_of hdep 9 8 (by decide) ho hd))
    rw [run_calls Tryz.func22 (by kernel_rfl) rfl _ _ _ _ hop rfl]
    simp only [List.map_toArray, List.map_cons, List.map_nil, eval_of h0, eval_of h1]
    all_goals rfl
  | 10, ho, hL, _ =>
    obtain ⟨hop, hdst, hgd⟩ := tab_at htab ho (show rw19T[10]? = _ from rfl)
    simp only at hop hgd
    have h0 := frm_at (val := val c) hdis ha 9 103 (hds 9 103 rfl) (by omega) (depl_of hdep 10 9 (by decide) ho hd)
    exact doesX_of (doesL_run ho (wanted_none hgd) (r10 c L w' hW hL (depl_of hdep 10 9 (by decide) ho hd)) (by rw [run_move _ _ _ hop]; exact congrArg (fun v => Result.ok (Next.value v) w') (eval_of h0)))
  | 11, ho, hL, _ =>
    obtain ⟨hop, hdst, hgd⟩ := tab_at htab ho (show rw19T[11]? = _ from rfl)
    simp only at hop hgd
    have h0 := frm_at (val := val c) hdis ha 10 93 (hds 10 93 rfl) (by omega) (depl_of hdep 11 10 (by decide) ho hd)
    exact doesX_of (doesL_run ho (wanted_none hgd) (e11 c L w' hW hL (depl_of hdep 11 10 (by decide) ho hd)) (g_ext hop (eval_of h0) (r11 c w')))
  | 12, ho, hL, _ =>
    obtain ⟨hop, hdst, hgd⟩ := tab_at htab ho (show rw19T[12]? = _ from rfl)
    simp only at hop hgd
    have h0 := frm_at (val := val c) hdis ha 10 93 (hds 10 93 rfl) (by omega) (depl_of hdep 12 10 (by decide) ho hd)
    exact doesX_of (doesL_run ho (wanted_none hgd) (hpure 12 (by decide) c L w' hW) (g_ext hop (eval_of h0) (r12 c w')))
  | 13, ho, hL, _ =>
    obtain ⟨hop, hdst, hgd⟩ := tab_at htab ho (show rw19T[13]? = _ from rfl)
    simp only at hop hgd
    have h0 := frm_at (val := val c) hdis ha 11 104 (hds 11 104 rfl) (by omega) (depl_of hdep 13 11 (by decide) ho hd)
    exact doesX_of (doesL_run ho (wanted_none hgd) (r13 c L w' hW hL (depl_of hdep 13 11 (by decide) ho hd)) (by rw [run_assign _ _ _ hop]; exact congrArg (fun v => Result.ok (Next.value v) w') (eval_of h0)))
  | 14, ho, hL, _ =>
    obtain ⟨hop, hdst, hgd⟩ := tab_at htab ho (show rw19T[14]? = _ from rfl)
    simp only at hop hgd
    have h0 := frm_at (val := val c) hdis ha 12 105 (hds 12 105 rfl) (by omega) (depl_of hdep 14 12 (by decide) ho hd)
    exact doesX_of (doesL_run ho (wanted_none hgd) (hpure 14 (by decide) c L w' hW) (by rw [run_assign _ _ _ hop]; exact congrArg (fun v => Result.ok (Next.value v) w') (eval_of h0)))
  | (i + 15), ho, hL, hi => exact absurd hi (by omega)
def vrw22 (ra ya k R Y : Nat) (er rd : Int) (_c : Unit) (i : Nat) : Value := match i with
  | 0 => (.bool true)
  | 1 => (.bool false)
  | 2 => (.bool false)
  | 3 => (.int .i64 (er : Int))
  | 4 => (.int .i64 (er : Int))
  | 5 => (.bool false)
  | 6 => (.bool false)
  | 7 => (.bool false)
  | 8 => (.slice (some ⟨ra, 0, none⟩) 2 2)
  | 9 => (.int .i64 (k : Int))
  | 10 => (.pointer (some ⟨ra, 0 + k, none⟩))
  | 11 => (.pointer (some ⟨R, 0, none⟩))
  | 12 => (.int .i64 (rd : Int))
  | 13 => (.slice (some ⟨ya, 0, none⟩) 2 2)
  | 14 => (.int .i64 (k : Int))
  | 15 => (.pointer (some ⟨ya, 0 + k, none⟩))
  | 16 => (.pointer (some ⟨Y, 0, none⟩))
  | 17 => (.int .i64 (rd : Int))
  | 18 => (.bool false)
  | 19 => (.bool false)
  | _ => undef
def rw22T : List (Op × Option Tmp × Option (Nat × Bool)) := [
  (.move (.tmp 15), some 113, none),
  (.unOp .not 4 (.tmp 113), some 114, none),
  (.move (.tmp 114), some 115, none),
  (.move (.tmp 12), some 116, some (2, false)),
  (.move (.tmp 14), some 117, some (2, false)),
  (.binOp .neq 55 (.tmp 116) (.tmp 117) 55, some 118, some (2, false)),
  (.pick (.tmp 115) (.const (.bool true)) (.tmp 118), some 119, none),
  (.move (.tmp 119), some 120, none),
  (.move (.tmp 6), some 121, some (7, false)),
  (.move (.tmp 10), some 122, some (7, false)),
  (.indexAddr 44 (.tmp 121) (.tmp 122), some 123, some (7, false)),
  (.load 42 (.tmp 123), some 124, some (7, false)),
  (.call { callee := .value (.func 25), args := #[(.tmp 124)], argTypes := #[42] }, some 125, some (7, false)),
  (.move (.tmp 7), some 126, some (7, false)),
  (.move (.tmp 10), some 127, some (7, false)),
  (.indexAddr 47 (.tmp 126) (.tmp 127), some 128, some (7, false)),
  (.load 45 (.tmp 128), some 129, some (7, false)),
  (.call { callee := .value (.func 26), args := #[(.tmp 129)], argTypes := #[45] }, some 130, some (7, false)),
  (.binOp .neq 3 (.tmp 125) (.tmp 130) 3, some 131, some (7, false)),
  (.pick (.tmp 120) (.const (.bool true)) (.tmp 131), some 132, none)]
def rw22D : List (Nat × Nat) := [(1, 0), (2, 1), (3, 2), (4, 2), (5, 2), (5, 3), (5, 4), (6, 2), (6, 5), (7, 6), (8, 7), (9, 7), (10, 7), (10, 8), (10, 9), (11, 7), (11, 10), (12, 7), (12, 11), (13, 7), (14, 7), (15, 7), (15, 13), (15, 14), (16, 7), (16, 15), (17, 7), (17, 16), (18, 7), (18, 12), (18, 17), (19, 7), (19, 18)]
set_option maxHeartbeats 4000000 in
theorem rw22 {ops : Array Oper} {id : Nat} {Q : Exit → Act → World → Prop} (ra ya k R Y : Nat) (er rd : Int) (htab : ops.toList.map (fun o => (o.op, o.dst, o.guard)) = rw22T) (hdep : deplB rw22D ops = true) (hac : acB ops = true)
    (a0 : Act) (w : World) (hsz : 133 ≤ a0.tmps.size) (o6 : a0.tmps[6]? = some (.slice (some ⟨ra, 0, none⟩) 2 2)) (o7 : a0.tmps[7]? = some (.slice (some ⟨ya, 0, none⟩) 2 2)) (o10 : a0.tmps[10]? = some (.int .i64 (k : Int))) (o12 : a0.tmps[12]? = some (.int .i64 (er : Int))) (o14 : a0.tmps[14]? = some (.int .i64 (er : Int))) (o15 : a0.tmps[15]? = some (.bool true))
    (Wd : Unit → (Nat → Bool) → World → Prop) (h0 : ∃ c, Wd c (fun _ => false) w.drew) (hpure : ∀ i, i ∉ ([12, 17] : List Nat) → ∀ c L W, Wd c L W → Wd c (upd L i) W)
    (r5 : ∀ W, (do eqGuard .neq 55 (.tmp 116) (.tmp 117) (.int .i64 (er : Int)) (.int .i64 (er : Int)); binOp .neq 55 (.int .i64 (er : Int)) (.int .i64 (er : Int))).run Tryz.prog W = .ok (.bool false) W)
    (r10 : ∀ W, (Instr.indexAt 44 (.slice (some ⟨ra, 0, none⟩) 2 2) (.int .i64 (k : Int))).run Tryz.prog W = .ok (.pointer (some ⟨ra, 0 + k, none⟩)) W)
    (r11 : ∀ c L W, Wd c L W → L 11 = false → L 10 = true → (Instr.loadAt 42 (.pointer (some ⟨ra, 0 + k, none⟩))).run Tryz.prog W = .ok (.pointer (some ⟨R, 0, none⟩)) W)
    (r12 : ∀ c L W, Wd c L W → L 12 = false → L 11 = true → Calls Tryz.prog 25 #[(.pointer (some ⟨R, 0, none⟩))] W fun eg w' => ∃ c', (∀ j, L j = true → vrw22 ra ya k R Y er rd c' j = vrw22 ra ya k R Y er rd c j) ∧ eg = .returned (vrw22 ra ya k R Y er rd c' 12) ∧ Wd c' (upd L 12) w')
    (r15 : ∀ W, (Instr.indexAt 47 (.slice (some ⟨ya, 0, none⟩) 2 2) (.int .i64 (k : Int))).run Tryz.prog W = .ok (.pointer (some ⟨ya, 0 + k, none⟩)) W)
    (r16 : ∀ c L W, Wd c L W → L 16 = false → L 15 = true → (Instr.loadAt 45 (.pointer (some ⟨ya, 0 + k, none⟩))).run Tryz.prog W = .ok (.pointer (some ⟨Y, 0, none⟩)) W)
    (r17 : ∀ c L W, Wd c L W → L 17 = false → L 16 = true → Calls Tryz.prog 26 #[(.pointer (some ⟨Y, 0, none⟩))] W fun eg w' => ∃ c', (∀ j, L j = true → vrw22 ra ya k R Y er rd c' j = vrw22 ra ya k R Y er rd c j) ∧ eg = .returned (vrw22 ra ya k R Y er rd c' 17) ∧ Wd c' (upd L 17) w')
    (r18 : ∀ W, (do eqGuard .neq 3 (.tmp 125) (.tmp 130) (.int .i64 (rd : Int)) (.int .i64 (rd : Int)); binOp .neq 3 (.int .i64 (rd : Int)) (.int .i64 (rd : Int))).run Tryz.prog W = .ok (.bool false) W)
    (hend : ∀ c L W, (∀ i, i < 20 → L i = true) → Wd c L W → Q .normal ((((((((((((((((((((a0.put (some 113) (.bool true)).put (some 114) (.bool false)).put (some 115) (.bool false)).put (some 116) (.int .i64 (er : Int))).put (some 117) (.int .i64 (er : Int))).put (some 118) (.bool false)).put (some 119) (.bool false)).put (some 120) (.bool false)).put (some 121) (.slice (some ⟨ra, 0, none⟩) 2 2)).put (some 122) (.int .i64 (k : Int))).put (some 123) (.pointer (some ⟨ra, 0 + k, none⟩))).put (some 124) (.pointer (some ⟨R, 0, none⟩))).put (some 125) (.int .i64 (rd : Int))).put (some 126) (.slice (some ⟨ya, 0, none⟩) 2 2)).put (some 127) (.int .i64 (k : Int))).put (some 128) (.pointer (some ⟨ya, 0 + k, none⟩))).put (some 129) (.pointer (some ⟨Y, 0, none⟩))).put (some 130) (.int .i64 (rd : Int))).put (some 131) (.bool false)).put (some 132) (.bool false)) W) : (Code.region id ops true).wp Tryz.prog Q a0 w := by
  let val : Unit → Nat → Value := vrw22 ra ya k R Y er rd
  have hosz : ops.size = 20 := by
    have := congrArg List.length htab
    simpa [rw22T] using this
  have hds : ∀ i s, (rw22T[i]?).bind (·.2.1) = some s → dstOf ops i = some s := fun i s hi => by rw [tab_dst htab, hi]
  have hdisB : disL rw22T = true := by rfl
  have hdis := disL_of htab hdisB
  have hold : ∀ s, rw22T.all (fun x => !(x.2.1 == some s)) = true → (List.range ops.size).all (fun j => !(dstOf ops j == some s)) = true := fun s h => holdL htab s h
  refine region_detX val Wd (hac_of hac) hdis h0 ?_ ?_
  rotate_left
  · intro c L W hall hW
    have := hend c L W (by rw [← hosz]; exact hall) hW
    have e : frm ops a0 (val c) (fun _ => true) ops.size = ((((((((((((((((((((a0.put (some 113) (.bool true)).put (some 114) (.bool false)).put (some 115) (.bool false)).put (some 116) (.int .i64 (er : Int))).put (some 117) (.int .i64 (er : Int))).put (some 118) (.bool false)).put (some 119) (.bool false)).put (some 120) (.bool false)).put (some 121) (.slice (some ⟨ra, 0, none⟩) 2 2)).put (some 122) (.int .i64 (k : Int))).put (some 123) (.pointer (some ⟨ra, 0 + k, none⟩))).put (some 124) (.pointer (some ⟨R, 0, none⟩))).put (some 125) (.int .i64 (rd : Int))).put (some 126) (.slice (some ⟨ya, 0, none⟩) 2 2)).put (some 127) (.int .i64 (k : Int))).put (some 128) (.pointer (some ⟨ya, 0 + k, none⟩))).put (some 129) (.pointer (some ⟨Y, 0, none⟩))).put (some 130) (.int .i64 (rd : Int))).put (some 131) (.bool false)).put (some 132) (.bool false)) := by
      rw [hosz]
      simp only [frm, if_true]
      rw [tab_dst htab 0, tab_dst htab 1, tab_dst htab 2, tab_dst htab 3, tab_dst htab 4, tab_dst htab 5, tab_dst htab 6, tab_dst htab 7, tab_dst htab 8, tab_dst htab 9, tab_dst htab 10, tab_dst htab 11, tab_dst htab 12, tab_dst htab 13, tab_dst htab 14, tab_dst htab 15, tab_dst htab 16, tab_dst htab 17, tab_dst htab 18, tab_dst htab 19]
      rfl
    rw [e]
    exact this
  intro i o ho c L a w' hL hd ha hW
  have hi : i < 20 := by rw [← hosz]; exact (Array.getElem?_eq_some_iff.1 ho).1
  match i, ho, hL, hi with
  | 0, ho, hL, _ =>
    obtain ⟨hop, hdst, hgd⟩ := tab_at htab ho (show rw22T[0]? = _ from rfl)
    simp only at hop hgd
    have h0 := frm_old (val := val c) ha 15 _ (hold 15 rfl) o15
    exact doesX_of (doesL_run ho (wanted_none hgd) (hpure 0 (by decide) c L w' hW) (by rw [run_move _ _ _ hop]; exact congrArg (fun v => Result.ok (Next.value v) w') (eval_of h0)))
  | 1, ho, hL, _ =>
    obtain ⟨hop, hdst, hgd⟩ := tab_at htab ho (show rw22T[1]? = _ from rfl)
    simp only at hop hgd
    have h0 := frm_at (val := val c) hdis ha 0 113 (hds 0 113 rfl) (by omega) (depl_of hdep 1 0 (by decide) ho hd)
    exact doesX_of (doesL_run ho (wanted_none hgd) (hpure 1 (by decide) c L w' hW) (run_not _ _ _ _ hop _ (eval_of h0) _))
  | 2, ho, hL, _ =>
    obtain ⟨hop, hdst, hgd⟩ := tab_at htab ho (show rw22T[2]? = _ from rfl)
    simp only at hop hgd
    have h0 := frm_at (val := val c) hdis ha 1 114 (hds 1 114 rfl) (by omega) (depl_of hdep 2 1 (by decide) ho hd)
    exact doesX_of (doesL_run ho (wanted_none hgd) (hpure 2 (by decide) c L w' hW) (by rw [run_move _ _ _ hop]; exact congrArg (fun v => Result.ok (Next.value v) w') (eval_of h0)))
  | 3, ho, hL, _ =>
    obtain ⟨hop, hdst, hgd⟩ := tab_at htab ho (show rw22T[3]? = _ from rfl)
    simp only at hop hgd
    have hg := frm_at (val := val c) hdis ha 2 115 (hds 2 115 rfl) (by omega) (depl_of hdep 3 2 (by decide) ho hd)
    have h0 := frm_old (val := val c) ha 12 _ (hold 12 rfl) o12
    exact doesX_of (doesL_run ho (wanted_at (b := false) hgd (hds 2 115 rfl) hg) (hpure 3 (by decide) c L w' hW) (by rw [run_move _ _ _ hop]; exact congrArg (fun v => Result.ok (Next.value v) w') (eval_of h0)))
  | 4, ho, hL, _ =>
    obtain ⟨hop, hdst, hgd⟩ := tab_at htab ho (show rw22T[4]? = _ from rfl)
    simp only at hop hgd
    have hg := frm_at (val := val c) hdis ha 2 115 (hds 2 115 rfl) (by omega) (depl_of hdep 4 2 (by decide) ho hd)
    have h0 := frm_old (val := val c) ha 14 _ (hold 14 rfl) o14
    exact doesX_of (doesL_run ho (wanted_at (b := false) hgd (hds 2 115 rfl) hg) (hpure 4 (by decide) c L w' hW) (by rw [run_move _ _ _ hop]; exact congrArg (fun v => Result.ok (Next.value v) w') (eval_of h0)))
  | 5, ho, hL, _ =>
    obtain ⟨hop, hdst, hgd⟩ := tab_at htab ho (show rw22T[5]? = _ from rfl)
    simp only at hop hgd
    have hg := frm_at (val := val c) hdis ha 2 115 (hds 2 115 rfl) (by omega) (depl_of hdep 5 2 (by decide) ho hd)
    have h0 := frm_at (val := val c) hdis ha 3 116 (hds 3 116 rfl) (by omega) (depl_of hdep 5 3 (by decide) ho hd)
    have h1 := frm_at (val := val c) hdis ha 4 117 (hds 4 117 rfl) (by omega) (depl_of hdep 5 4 (by decide) ho hd)
    exact doesX_of (doesL_run ho (wanted_at (b := false) hgd (hds 2 115 rfl) hg) (hpure 5 (by decide) c L w' hW) (g_bin hop (eval_of h0) (eval_of h1) (r5 w')))
  | 6, ho, hL, _ =>
    obtain ⟨hop, hdst, hgd⟩ := tab_at htab ho (show rw22T[6]? = _ from rfl)
    simp only at hop hgd
    have h0 := frm_at (val := val c) hdis ha 2 115 (hds 2 115 rfl) (by omega) (depl_of hdep 6 2 (by decide) ho hd)
    have h2 := frm_at (val := val c) hdis ha 5 118 (hds 5 118 rfl) (by omega) (depl_of hdep 6 5 (by decide) ho hd)
    exact doesX_of (doesL_run ho (wanted_none hgd) (hpure 6 (by decide) c L w' hW) (by rw [run_pick _ _ _ _ _ hop false (eval_of h0)]; exact congrArg (fun v => Result.ok (Next.value v) w') (eval_of h2)))
  | 7, ho, hL, _ =>
    obtain ⟨hop, hdst, hgd⟩ := tab_at htab ho (show rw22T[7]? = _ from rfl)
    simp only at hop hgd
    have h0 := frm_at (val := val c) hdis ha 6 119 (hds 6 119 rfl) (by omega) (depl_of hdep 7 6 (by decide) ho hd)
    exact doesX_of (doesL_run ho (wanted_none hgd) (hpure 7 (by decide) c L w' hW) (by rw [run_move _ _ _ hop]; exact congrArg (fun v => Result.ok (Next.value v) w') (eval_of h0)))
  | 8, ho, hL, _ =>
    obtain ⟨hop, hdst, hgd⟩ := tab_at htab ho (show rw22T[8]? = _ from rfl)
    simp only at hop hgd
    have hg := frm_at (val := val c) hdis ha 7 120 (hds 7 120 rfl) (by omega) (depl_of hdep 8 7 (by decide) ho hd)
    have h0 := frm_old (val := val c) ha 6 _ (hold 6 rfl) o6
    exact doesX_of (doesL_run ho (wanted_at (b := false) hgd (hds 7 120 rfl) hg) (hpure 8 (by decide) c L w' hW) (by rw [run_move _ _ _ hop]; exact congrArg (fun v => Result.ok (Next.value v) w') (eval_of h0)))
  | 9, ho, hL, _ =>
    obtain ⟨hop, hdst, hgd⟩ := tab_at htab ho (show rw22T[9]? = _ from rfl)
    simp only at hop hgd
    have hg := frm_at (val := val c) hdis ha 7 120 (hds 7 120 rfl) (by omega) (depl_of hdep 9 7 (by decide) ho hd)
    have h0 := frm_old (val := val c) ha 10 _ (hold 10 rfl) o10
    exact doesX_of (doesL_run ho (wanted_at (b := false) hgd (hds 7 120 rfl) hg) (hpure 9 (by decide) c L w' hW) (by rw [run_move _ _ _ hop]; exact congrArg (fun v => Result.ok (Next.value v) w') (eval_of h0)))
  | 10, ho, hL, _ =>
    obtain ⟨hop, hdst, hgd⟩ := tab_at htab ho (show rw22T[10]? = _ from rfl)
    simp only at hop hgd
    have hg := frm_at (val := val c) hdis ha 7 120 (hds 7 120 rfl) (by omega) (depl_of hdep 10 7 (by decide) ho hd)
    have h0 := frm_at (val := val c) hdis ha 8 121 (hds 8 121 rfl) (by omega) (depl_of hdep 10 8 (by decide) ho hd)
    have h1 := frm_at (val := val c) hdis ha 9 122 (hds 9 122 rfl) (by omega) (depl_of hdep 10 9 (by decide) ho hd)
    exact doesX_of (doesL_run ho (wanted_at (b := false) hgd (hds 7 120 rfl) hg) (hpure 10 (by decide) c L w' hW) (g_ixa hop (eval_of h0) (eval_of h1) (r10 w')))
  | 11, ho, hL, _ =>
    obtain ⟨hop, hdst, hgd⟩ := tab_at htab ho (show rw22T[11]? = _ from rfl)
    simp only at hop hgd
    have hg := frm_at (val := val c) hdis ha 7 120 (hds 7 120 rfl) (by omega) (depl_of hdep 11 7 (by decide) ho hd)
    have h0 := frm_at (val := val c) hdis ha 10 123 (hds 10 123 rfl) (by omega) (depl_of hdep 11 10 (by decide) ho hd)
    exact doesX_of (doesL_run ho (wanted_at (b := false) hgd (hds 7 120 rfl) hg) (hpure 11 (by decide) c L w' hW) (g_load hop (eval_of h0) (r11 c L w' hW hL (depl_of hdep 11 10 (by decide) ho hd))))
  | 12, ho, hL, _ =>
    obtain ⟨hop, hdst, hgd⟩ := tab_at htab ho (show rw22T[12]? = _ from rfl)
    simp only at hop hgd
    have hg := frm_at (val := val c) hdis ha 7 120 (hds 7 120 rfl) (by omega) (depl_of hdep 12 7 (by decide) ho hd)
    have h0 := frm_at (val := val c) hdis ha 11 124 (hds 11 124 rfl) (by omega) (depl_of hdep 12 11 (by decide) ho hd)
    refine doesX_call ho (wanted_at (b := false) hgd (hds 7 120 rfl) hg) 25 #[(.pointer (some ⟨R, 0, none⟩))] ?_ (r12 c L w' hW hL (depl_of hdep 12 11 (by decide) ho hd))
    rw [run_calls Tryz.func25 (by kernel_rfl) rfl _ _ _ _ hop rfl]
    simp only [List.map_toArray, List.map_cons, List.map_nil, eval_of h0]
    all_goals rfl
  | 13, ho, hL, _ =>
    obtain ⟨hop, hdst, hgd⟩ := tab_at htab ho (show rw22T[13]? = _ from rfl)
    simp only at hop hgd
    have hg := frm_at (val := val c) hdis ha 7 120 (hds 7 120 rfl) (by omega) (depl_of hdep 13 7 (by decide) ho hd)
    have h0 := frm_old (val := val c) ha 7 _ (hold 7 rfl) o7
    exact doesX_of (doesL_run ho (wanted_at (b := false) hgd (hds 7 120 rfl) hg) (hpure 13 (by decide) c L w' hW) (by rw [run_move _ _ _ hop]; exact congrArg (fun v => Result.ok (Next.value v) w') (eval_of h0)))
  | 14, ho, hL, _ =>
    obtain ⟨hop, hdst, hgd⟩ := tab_at htab ho (show rw22T[14]? = _ from rfl)
    simp only at hop hgd
    have hg := frm_at (val := val c) hdis ha 7 120 (hds 7 120 rfl) (by omega) (depl_of hdep 14 7 (by decide) ho hd)
    have h0 := frm_old (val := val c) ha 10 _ (hold 10 rfl) o10
    exact doesX_of (doesL_run ho (wanted_at (b := false) hgd (hds 7 120 rfl) hg) (hpure 14 (by decide) c L w' hW) (by rw [run_move _ _ _ hop]; exact congrArg (fun v => Result.ok (Next.value v) w') (eval_of h0)))
  | 15, ho, hL, _ =>
    obtain ⟨hop, hdst, hgd⟩ := tab_at htab ho (show rw22T[15]? = _ from rfl)
    simp only at hop hgd
    have hg := frm_at (val := val c) hdis ha 7 120 (hds 7 120 rfl) (by omega) (depl_of hdep 15 7 (by decide) ho hd)
    have h0 := frm_at (val := val c) hdis ha 13 126 (hds 13 126 rfl) (by omega) (depl_of hdep 15 13 (by decide) ho hd)
    have h1 := frm_at (val := val c) hdis ha 14 127 (hds 14 127 rfl) (by omega) (depl_of hdep 15 14 (by decide) ho hd)
    exact doesX_of (doesL_run ho (wanted_at (b := false) hgd (hds 7 120 rfl) hg) (hpure 15 (by decide) c L w' hW) (g_ixa hop (eval_of h0) (eval_of h1) (r15 w')))
  | 16, ho, hL, _ =>
    obtain ⟨hop, hdst, hgd⟩ := tab_at htab ho (show rw22T[16]? = _ from rfl)
    simp only at hop hgd
    have hg := frm_at (val := val c) hdis ha 7 120 (hds 7 120 rfl) (by omega) (depl_of hdep 16 7 (by decide) ho hd)
    have h0 := frm_at (val := val c) hdis ha 15 128 (hds 15 128 rfl) (by omega) (depl_of hdep 16 15 (by decide) ho hd)
    exact doesX_of (doesL_run ho (wanted_at (b := false) hgd (hds 7 120 rfl) hg) (hpure 16 (by decide) c L w' hW) (g_load hop (eval_of h0) (r16 c L w' hW hL (depl_of hdep 16 15 (by decide) ho hd))))
  | 17, ho, hL, _ =>
    obtain ⟨hop, hdst, hgd⟩ := tab_at htab ho (show rw22T[17]? = _ from rfl)
    simp only at hop hgd
    have hg := frm_at (val := val c) hdis ha 7 120 (hds 7 120 rfl) (by omega) (depl_of hdep 17 7 (by decide) ho hd)
    have h0 := frm_at (val := val c) hdis ha 16 129 (hds 16 129 rfl) (by omega) (depl_of hdep 17 16 (by decide) ho hd)
    refine doesX_call ho (wanted_at (b := false) hgd (hds 7 120 rfl) hg) 26 #[(.pointer (some ⟨Y, 0, none⟩))] ?_ (r17 c L w' hW hL (depl_of hdep 17 16 (by decide) ho hd))
    rw [run_calls Tryz.func26 (by kernel_rfl) rfl _ _ _ _ hop rfl]
    simp only [List.map_toArray, List.map_cons, List.map_nil, eval_of h0]
    all_goals rfl
  | 18, ho, hL, _ =>
    obtain ⟨hop, hdst, hgd⟩ := tab_at htab ho (show rw22T[18]? = _ from rfl)
    simp only at hop hgd
    have hg := frm_at (val := val c) hdis ha 7 120 (hds 7 120 rfl) (by omega) (depl_of hdep 18 7 (by decide) ho hd)
    have h0 := frm_at (val := val c) hdis ha 12 125 (hds 12 125 rfl) (by omega) (depl_of hdep 18 12 (by decide) ho hd)
    have h1 := frm_at (val := val c) hdis ha 17 130 (hds 17 130 rfl) (by omega) (depl_of hdep 18 17 (by decide) ho hd)
    exact doesX_of (doesL_run ho (wanted_at (b := false) hgd (hds 7 120 rfl) hg) (hpure 18 (by decide) c L w' hW) (g_bin hop (eval_of h0) (eval_of h1) (r18 w')))
  | 19, ho, hL, _ =>
    obtain ⟨hop, hdst, hgd⟩ := tab_at htab ho (show rw22T[19]? = _ from rfl)
    simp only at hop hgd
    have h0 := frm_at (val := val c) hdis ha 7 120 (hds 7 120 rfl) (by omega) (depl_of hdep 19 7 (by decide) ho hd)
    have h2 := frm_at (val := val c) hdis ha 18 131 (hds 18 131 rfl) (by omega) (depl_of hdep 19 18 (by decide) ho hd)
    exact doesX_of (doesL_run ho (wanted_none hgd) (hpure 19 (by decide) c L w' hW) (by rw [run_pick _ _ _ _ _ hop false (eval_of h0)]; exact congrArg (fun v => Result.ok (Next.value v) w') (eval_of h2)))
  | (i + 20), ho, hL, hi => exact absurd hi (by omega)
end Go.Proofs.YthlacailhfhjnaaGreatDoor
