import Derived.Test.YtjopnhhdemfniaaGreatDoorRgqa
namespace Go.Proofs.YtjopnhhdemfniaaGreatDoor
open Go.RowKit
def vrho8 (_X g q n cap jj g2 o2 n2 c2 k : Nat) (V1 V2 : Value) (_c : Unit) (i : Nat) : Value := match i with
  | 0 => V1
  | 1 => (.slice (some ⟨g, q, none⟩) n cap)
  | 2 => (.int .i64 (jj : Int))
  | 3 => (.pointer (some ⟨g, q + jj * 2, none⟩))
  | 4 => (.pointer (some ⟨g, q + jj * 2 + 1, none⟩))
  | 5 => (.slice (some ⟨g2, o2, none⟩) n2 c2)
  | 6 => (.int .i64 (k : Int))
  | 7 => (.pointer (some ⟨g2, o2 + k * 5, none⟩))
  | 8 => V2
  | 9 => (.bool true)
  | 10 => (.bool true)
  | _ => undef
def rho8T : List (Op × Option Tmp × Option (Nat × Bool)) := [
  (.load 24 (.tmp 11), some 61, none),
  (.move (.tmp 1), some 62, none),
  (.move (.tmp 9), some 63, none),
  (.indexAddr 90 (.tmp 62) (.tmp 63), some 64, none),
  (.fieldAddr 101 (.tmp 64) 1, some 65, none),
  (.load 27 (.tmp 65), some 66, none),
  (.move (.tmp 10), some 67, none),
  (.indexAddr 27 (.tmp 66) (.tmp 67), some 68, none),
  (.load 24 (.tmp 68), some 69, none),
  (.call { callee := .value (.func 64), args := #[(.tmp 61), (.tmp 69)], argTypes := #[24, 24] }, some 70, none),
  (.assign (.tmp 70), some 13, none)]
def rho8D : List (Nat × Nat) := [(3, 1), (3, 2), (4, 3), (5, 4), (7, 5), (7, 6), (8, 7), (9, 0), (9, 8), (10, 9)]
set_option maxHeartbeats 4000000 in
theorem rho8 {ops : Array Oper} {id : Nat} {Q : Exit → Act → World → Prop} (X g q n cap jj g2 o2 n2 c2 k : Nat) (V1 V2 : Value) (htab : ops.toList.map (fun o => (o.op, o.dst, o.guard)) = rho8T) (hdep : deplB rho8D ops = true) (hac : acB ops = true)
    (a0 : Act) (w : World) (hsz : 71 ≤ a0.tmps.size) (o1 : a0.tmps[1]? = some (.slice (some ⟨g, q, none⟩) n cap)) (o9 : a0.tmps[9]? = some (.int .i64 (jj : Int))) (o10 : a0.tmps[10]? = some (.int .i64 (k : Int))) (o11 : a0.tmps[11]? = some (.pointer (some ⟨X, 0, none⟩)))
    (Wd : Unit → (Nat → Bool) → World → Prop) (h0 : ∃ c, Wd c (fun _ => false) w.drew) (hpure : ∀ i, i ∉ ([9] : List Nat) → ∀ c L W, Wd c L W → Wd c (upd L i) W)
    (r0 : ∀ c L W, Wd c L W → L 0 = false → (Instr.loadAt 24 (.pointer (some ⟨X, 0, none⟩))).run Tryz.prog W = .ok V1 W)
    (r3 : ∀ W, (Instr.indexAt 90 (.slice (some ⟨g, q, none⟩) n cap) (.int .i64 (jj : Int))).run Tryz.prog W = .ok (.pointer (some ⟨g, q + jj * 2, none⟩)) W)
    (r5 : ∀ c L W, Wd c L W → L 5 = false → L 4 = true → (Instr.loadAt 27 (.pointer (some ⟨g, q + jj * 2 + 1, none⟩))).run Tryz.prog W = .ok (.slice (some ⟨g2, o2, none⟩) n2 c2) W)
    (r7 : ∀ W, (Instr.indexAt 27 (.slice (some ⟨g2, o2, none⟩) n2 c2) (.int .i64 (k : Int))).run Tryz.prog W = .ok (.pointer (some ⟨g2, o2 + k * 5, none⟩)) W)
    (r8 : ∀ c L W, Wd c L W → L 8 = false → L 7 = true → (Instr.loadAt 24 (.pointer (some ⟨g2, o2 + k * 5, none⟩))).run Tryz.prog W = .ok V2 W)
    (r9 : ∀ c L W, Wd c L W → L 9 = false → L 0 = true → L 8 = true → Calls Tryz.prog 64 #[V1, V2] W fun eg w' => ∃ c', (∀ j, L j = true → vrho8 X g q n cap jj g2 o2 n2 c2 k V1 V2 c' j = vrho8 X g q n cap jj g2 o2 n2 c2 k V1 V2 c j) ∧ eg = .returned (vrho8 X g q n cap jj g2 o2 n2 c2 k V1 V2 c' 9) ∧ Wd c' (upd L 9) w')
    (hend : ∀ c L W, (∀ i, i < 11 → L i = true) → Wd c L W → Q .normal (((((((((((a0.put (some 61) V1).put (some 62) (.slice (some ⟨g, q, none⟩) n cap)).put (some 63) (.int .i64 (jj : Int))).put (some 64) (.pointer (some ⟨g, q + jj * 2, none⟩))).put (some 65) (.pointer (some ⟨g, q + jj * 2 + 1, none⟩))).put (some 66) (.slice (some ⟨g2, o2, none⟩) n2 c2)).put (some 67) (.int .i64 (k : Int))).put (some 68) (.pointer (some ⟨g2, o2 + k * 5, none⟩))).put (some 69) V2).put (some 70) (.bool true)).put (some 13) (.bool true)) W) : (Code.region id ops true).wp Tryz.prog Q a0 w := by
  let val : Unit → Nat → Value := vrho8 X g q n cap jj g2 o2 n2 c2 k V1 V2
  have hosz : ops.size = 11 := by
    have := congrArg List.length htab
    simpa [rho8T] using this
  have hds : ∀ i s, (rho8T[i]?).bind (·.2.1) = some s → dstOf ops i = some s := fun i s hi => by rw [tab_dst htab, hi]
  have hdisB : disL rho8T = true := by rfl
  have hdis := disL_of htab hdisB
  have hold : ∀ s, rho8T.all (fun x => !(x.2.1 == some s)) = true → (List.range ops.size).all (fun j => !(dstOf ops j == some s)) = true := fun s h => holdL htab s h
  refine region_detX val Wd (hac_of hac) hdis h0 ?_ ?_
  rotate_left
  · intro c L W hall hW
    have := hend c L W (by rw [← hosz]; exact hall) hW
    have e : frm ops a0 (val c) (fun _ => true) ops.size = (((((((((((a0.put (some 61) V1).put (some 62) (.slice (some ⟨g, q, none⟩) n cap)).put (some 63) (.int .i64 (jj : Int))).put (some 64) (.pointer (some ⟨g, q + jj * 2, none⟩))).put (some 65) (.pointer (some ⟨g, q + jj * 2 + 1, none⟩))).put (some 66) (.slice (some ⟨g2, o2, none⟩) n2 c2)).put (some 67) (.int .i64 (k : Int))).put (some 68) (.pointer (some ⟨g2, o2 + k * 5, none⟩))).put (some 69) V2).put (some 70) (.bool true)).put (some 13) (.bool true)) := by
      rw [hosz]
      simp only [frm, if_true]
      rw [tab_dst htab 0, tab_dst htab 1, tab_dst htab 2, tab_dst htab 3, tab_dst htab 4, tab_dst htab 5, tab_dst htab 6, tab_dst htab 7, tab_dst htab 8, tab_dst htab 9, tab_dst htab 10]
      rfl
    rw [e]
    exact this
  intro i o ho c L a w' hL hd ha hW
  have hi : i < 11 := by rw [← hosz]; exact (Array.getElem?_eq_some_iff.1 ho).1
  match i, ho, hL, hi with
  | 0, ho, hL, _ =>
    obtain ⟨hop, hdst, hgd⟩ := tab_at htab ho (show rho8T[0]? = _ from rfl)
    simp only at hop hgd
    have h0 := frm_old (val := val c) ha 11 _ (hold 11 rfl) o11
    exact doesX_of (doesL_run ho (wanted_none hgd) (hpure 0 (by decide) c L w' hW) (g_load hop (eval_of h0) (r0 c L w' hW hL)))
  | 1, ho, hL, _ =>
    obtain ⟨hop, hdst, hgd⟩ := tab_at htab ho (show rho8T[1]? = _ from rfl)
    simp only at hop hgd
    have h0 := frm_old (val := val c) ha 1 _ (hold 1 rfl) o1
    exact doesX_of (doesL_run ho (wanted_none hgd) (hpure 1 (by decide) c L w' hW) (by rw [run_move _ _ _ hop]; exact congrArg (fun v => Result.ok (Next.value v) w') (eval_of h0)))
  | 2, ho, hL, _ =>
    obtain ⟨hop, hdst, hgd⟩ := tab_at htab ho (show rho8T[2]? = _ from rfl)
    simp only at hop hgd
    have h0 := frm_old (val := val c) ha 9 _ (hold 9 rfl) o9
    exact doesX_of (doesL_run ho (wanted_none hgd) (hpure 2 (by decide) c L w' hW) (by rw [run_move _ _ _ hop]; exact congrArg (fun v => Result.ok (Next.value v) w') (eval_of h0)))
  | 3, ho, hL, _ =>
    obtain ⟨hop, hdst, hgd⟩ := tab_at htab ho (show rho8T[3]? = _ from rfl)
    simp only at hop hgd
    have h0 := frm_at (val := val c) hdis ha 1 62 (hds 1 62 rfl) (by omega) (depl_of hdep 3 1 (by decide) ho hd)
    have h1 := frm_at (val := val c) hdis ha 2 63 (hds 2 63 rfl) (by omega) (depl_of hdep 3 2 (by decide) ho hd)
    exact doesX_of (doesL_run ho (wanted_none hgd) (hpure 3 (by decide) c L w' hW) (g_ixa hop (eval_of h0) (eval_of h1) (r3 w')))
  | 4, ho, hL, _ =>
    obtain ⟨hop, hdst, hgd⟩ := tab_at htab ho (show rho8T[4]? = _ from rfl)
    simp only at hop hgd
    have h0 := frm_at (val := val c) hdis ha 3 64 (hds 3 64 rfl) (by omega) (depl_of hdep 4 3 (by decide) ho hd)
    exact doesX_of (doesL_run ho (wanted_none hgd) (hpure 4 (by decide) c L w' hW) (g_field hop (eval_of h0) (by kernel_rfl)))
  | 5, ho, hL, _ =>
    obtain ⟨hop, hdst, hgd⟩ := tab_at htab ho (show rho8T[5]? = _ from rfl)
    simp only at hop hgd
    have h0 := frm_at (val := val c) hdis ha 4 65 (hds 4 65 rfl) (by omega) (depl_of hdep 5 4 (by decide) ho hd)
    exact doesX_of (doesL_run ho (wanted_none hgd) (hpure 5 (by decide) c L w' hW) (g_load hop (eval_of h0) (r5 c L w' hW hL (depl_of hdep 5 4 (by decide) ho hd))))
  | 6, ho, hL, _ =>
    obtain ⟨hop, hdst, hgd⟩ := tab_at htab ho (show rho8T[6]? = _ from rfl)
    simp only at hop hgd
    have h0 := frm_old (val := val c) ha 10 _ (hold 10 rfl) o10
    exact doesX_of (doesL_run ho (wanted_none hgd) (hpure 6 (by decide) c L w' hW) (by rw [run_move _ _ _ hop]; exact congrArg (fun v => Result.ok (Next.value v) w') (eval_of h0)))
  | 7, ho, hL, _ =>
    obtain ⟨hop, hdst, hgd⟩ := tab_at htab ho (show rho8T[7]? = _ from rfl)
    simp only at hop hgd
    have h0 := frm_at (val := val c) hdis ha 5 66 (hds 5 66 rfl) (by omega) (depl_of hdep 7 5 (by decide) ho hd)
    have h1 := frm_at (val := val c) hdis ha 6 67 (hds 6 67 rfl) (by omega) (depl_of hdep 7 6 (by decide) ho hd)
    exact doesX_of (doesL_run ho (wanted_none hgd) (hpure 7 (by decide) c L w' hW) (g_ixa hop (eval_of h0) (eval_of h1) (r7 w')))
  | 8, ho, hL, _ =>
    obtain ⟨hop, hdst, hgd⟩ := tab_at htab ho (show rho8T[8]? = _ from rfl)
    simp only at hop hgd
    have h0 := frm_at (val := val c) hdis ha 7 68 (hds 7 68 rfl) (by omega) (depl_of hdep 8 7 (by decide) ho hd)
    exact doesX_of (doesL_run ho (wanted_none hgd) (hpure 8 (by decide) c L w' hW) (g_load hop (eval_of h0) (r8 c L w' hW hL (depl_of hdep 8 7 (by decide) ho hd))))
  | 9, ho, hL, _ =>
    obtain ⟨hop, hdst, hgd⟩ := tab_at htab ho (show rho8T[9]? = _ from rfl)
    simp only at hop hgd
    have h0 := frm_at (val := val c) hdis ha 0 61 (hds 0 61 rfl) (by omega) (depl_of hdep 9 0 (by decide) ho hd)
    have h1 := frm_at (val := val c) hdis ha 8 69 (hds 8 69 rfl) (by omega) (depl_of hdep 9 8 (by decide) ho hd)
    refine doesX_call ho (wanted_none hgd) 64 #[V1, V2] ?_ (r9 c L w' hW hL (depl_of hdep 9 0 (by decide) ho hd) (depl_of hdep 9 8 (by decide) ho hd))
    rw [run_calls Tryz.func64 (by kernel_rfl) rfl _ _ _ _ hop rfl]
    simp only [List.map_toArray, List.map_cons, List.map_nil, eval_of h0, eval_of h1]
    all_goals rfl
  | 10, ho, hL, _ =>
    obtain ⟨hop, hdst, hgd⟩ := tab_at htab ho (show rho8T[10]? = _ from rfl)
    simp only at hop hgd
    have h0 := frm_at (val := val c) hdis ha 9 70 (hds 9 70 rfl) (by omega) (depl_of hdep 10 9 (by decide) ho hd)
    exact doesX_of (doesL_run ho (wanted_none hgd) (hpure 10 (by decide) c L w' hW) (by rw [run_assign _ _ _ hop]; exact congrArg (fun v => Result.ok (Next.value v) w') (eval_of h0)))
  | (i + 11), ho, hL, hi => exact absurd hi (by omega)
def vrho15 (_X Z g2 o2 n2 c2 k : Nat) (V1 V2 : Value) (_c : Unit) (i : Nat) : Value := match i with
  | 0 => V1
  | 1 => (.pointer (some ⟨Z, 0 + 3, none⟩))
  | 2 => (.slice (some ⟨g2, o2, none⟩) n2 c2)
  | 3 => (.int .i64 (k : Int))
  | 4 => (.pointer (some ⟨g2, o2 + k * 5, none⟩))
  | 5 => V2
  | 6 => (.bool true)
  | 7 => (.bool true)
  | _ => undef
def rho15T : List (Op × Option Tmp × Option (Nat × Bool)) := [
  (.load 24 (.tmp 15), some 95, none),
  (.fieldAddr 83 (.tmp 6) 3, some 96, none),
  (.load 27 (.tmp 96), some 97, none),
  (.move (.tmp 14), some 98, none),
  (.indexAddr 27 (.tmp 97) (.tmp 98), some 99, none),
  (.load 24 (.tmp 99), some 100, none),
  (.call { callee := .value (.func 64), args := #[(.tmp 95), (.tmp 100)], argTypes := #[24, 24] }, some 101, none),
  (.assign (.tmp 101), some 17, none)]
def rho15D : List (Nat × Nat) := [(2, 1), (4, 2), (4, 3), (5, 4), (6, 0), (6, 5), (7, 6)]
set_option maxHeartbeats 4000000 in
theorem rho15 {ops : Array Oper} {id : Nat} {Q : Exit → Act → World → Prop} (X Z g2 o2 n2 c2 k : Nat) (V1 V2 : Value) (htab : ops.toList.map (fun o => (o.op, o.dst, o.guard)) = rho15T) (hdep : deplB rho15D ops = true) (hac : acB ops = true)
    (a0 : Act) (w : World) (hsz : 102 ≤ a0.tmps.size) (o6 : a0.tmps[6]? = some (.pointer (some ⟨Z, 0, none⟩))) (o14 : a0.tmps[14]? = some (.int .i64 (k : Int))) (o15 : a0.tmps[15]? = some (.pointer (some ⟨X, 0, none⟩)))
    (Wd : Unit → (Nat → Bool) → World → Prop) (h0 : ∃ c, Wd c (fun _ => false) w.drew) (hpure : ∀ i, i ∉ ([6] : List Nat) → ∀ c L W, Wd c L W → Wd c (upd L i) W)
    (r0 : ∀ c L W, Wd c L W → L 0 = false → (Instr.loadAt 24 (.pointer (some ⟨X, 0, none⟩))).run Tryz.prog W = .ok V1 W)
    (r2 : ∀ c L W, Wd c L W → L 2 = false → L 1 = true → (Instr.loadAt 27 (.pointer (some ⟨Z, 0 + 3, none⟩))).run Tryz.prog W = .ok (.slice (some ⟨g2, o2, none⟩) n2 c2) W)
    (r4 : ∀ W, (Instr.indexAt 27 (.slice (some ⟨g2, o2, none⟩) n2 c2) (.int .i64 (k : Int))).run Tryz.prog W = .ok (.pointer (some ⟨g2, o2 + k * 5, none⟩)) W)
    (r5 : ∀ c L W, Wd c L W → L 5 = false → L 4 = true → (Instr.loadAt 24 (.pointer (some ⟨g2, o2 + k * 5, none⟩))).run Tryz.prog W = .ok V2 W)
    (r6 : ∀ c L W, Wd c L W → L 6 = false → L 0 = true → L 5 = true → Calls Tryz.prog 64 #[V1, V2] W fun eg w' => ∃ c', (∀ j, L j = true → vrho15 X Z g2 o2 n2 c2 k V1 V2 c' j = vrho15 X Z g2 o2 n2 c2 k V1 V2 c j) ∧ eg = .returned (vrho15 X Z g2 o2 n2 c2 k V1 V2 c' 6) ∧ Wd c' (upd L 6) w')
    (hend : ∀ c L W, (∀ i, i < 8 → L i = true) → Wd c L W → Q .normal ((((((((a0.put (some 95) V1).put (some 96) (.pointer (some ⟨Z, 0 + 3, none⟩))).put (some 97) (.slice (some ⟨g2, o2, none⟩) n2 c2)).put (some 98) (.int .i64 (k : Int))).put (some 99) (.pointer (some ⟨g2, o2 + k * 5, none⟩))).put (some 100) V2).put (some 101) (.bool true)).put (some 17) (.bool true)) W) : (Code.region id ops true).wp Tryz.prog Q a0 w := by
  let val : Unit → Nat → Value := vrho15 X Z g2 o2 n2 c2 k V1 V2
  have hosz : ops.size = 8 := by
    have := congrArg List.length htab
    simpa [rho15T] using this
  have hds : ∀ i s, (rho15T[i]?).bind (·.2.1) = some s → dstOf ops i = some s := fun i s hi => by rw [tab_dst htab, hi]
  have hdisB : disL rho15T = true := by rfl
  have hdis := disL_of htab hdisB
  have hold : ∀ s, rho15T.all (fun x => !(x.2.1 == some s)) = true → (List.range ops.size).all (fun j => !(dstOf ops j == some s)) = true := fun s h => holdL htab s h
  refine region_detX val Wd (hac_of hac) hdis h0 ?_ ?_
  rotate_left
  · intro c L W hall hW
    have := hend c L W (by rw [← hosz]; exact hall) hW
    have e : frm ops a0 (val c) (fun _ => true) ops.size = ((((((((a0.put (some 95) V1).put (some 96) (.pointer (some ⟨Z, 0 + 3, none⟩))).put (some 97) (.slice (some ⟨g2, o2, none⟩) n2 c2)).put (some 98) (.int .i64 (k : Int))).put (some 99) (.pointer (some ⟨g2, o2 + k * 5, none⟩))).put (some 100) V2).put (some 101) (.bool true)).put (some 17) (.bool true)) := by
      rw [hosz]
      simp only [frm, if_true]
      rw [tab_dst htab 0, tab_dst htab 1, tab_dst htab 2, tab_dst htab 3, tab_dst htab 4, tab_dst htab 5, tab_dst htab 6, tab_dst htab 7]
      rfl
    rw [e]
    exact this
  intro i o ho c L a w' hL hd ha hW
  have hi : i < 8 := by rw [← hosz]; exact (Array.getElem?_eq_some_iff.1 ho).1
  match i, ho, hL, hi with
  | 0, ho, hL, _ =>
    obtain ⟨hop, hdst, hgd⟩ := tab_at htab ho (show rho15T[0]? = _ from rfl)
    simp only at hop hgd
    have h0 := frm_old (val := val c) ha 15 _ (hold 15 rfl) o15
    exact doesX_of (doesL_run ho (wanted_none hgd) (hpure 0 (by decide) c L w' hW) (g_load hop (eval_of h0) (r0 c L w' hW hL)))
  | 1, ho, hL, _ =>
    obtain ⟨hop, hdst, hgd⟩ := tab_at htab ho (show rho15T[1]? = _ from rfl)
    simp only at hop hgd
    have h0 := frm_old (val := val c) ha 6 _ (hold 6 rfl) o6
    exact doesX_of (doesL_run ho (wanted_none hgd) (hpure 1 (by decide) c L w' hW) (g_field hop (eval_of h0) (by kernel_rfl)))
  | 2, ho, hL, _ =>
    obtain ⟨hop, hdst, hgd⟩ := tab_at htab ho (show rho15T[2]? = _ from rfl)
    simp only at hop hgd
    have h0 := frm_at (val := val c) hdis ha 1 96 (hds 1 96 rfl) (by omega) (depl_of hdep 2 1 (by decide) ho hd)
    exact doesX_of (doesL_run ho (wanted_none hgd) (hpure 2 (by decide) c L w' hW) (g_load hop (eval_of h0) (r2 c L w' hW hL (depl_of hdep 2 1 (by decide) ho hd))))
  | 3, ho, hL, _ =>
    obtain ⟨hop, hdst, hgd⟩ := tab_at htab ho (show rho15T[3]? = _ from rfl)
    simp only at hop hgd
    have h0 := frm_old (val := val c) ha 14 _ (hold 14 rfl) o14
    exact doesX_of (doesL_run ho (wanted_none hgd) (hpure 3 (by decide) c L w' hW) (by rw [run_move _ _ _ hop]; exact congrArg (fun v => Result.ok (Next.value v) w') (eval_of h0)))
  | 4, ho, hL, _ =>
    obtain ⟨hop, hdst, hgd⟩ := tab_at htab ho (show rho15T[4]? = _ from rfl)
    simp only at hop hgd
    have h0 := frm_at (val := val c) hdis ha 2 97 (hds 2 97 rfl) (by omega) (depl_of hdep 4 2 (by decide) ho hd)
    have h1 := frm_at (val := val c) hdis ha 3 98 (hds 3 98 rfl) (by omega) (depl_of hdep 4 3 (by decide) ho hd)
    exact doesX_of (doesL_run ho (wanted_none hgd) (hpure 4 (by decide) c L w' hW) (g_ixa hop (eval_of h0) (eval_of h1) (r4 w')))
  | 5, ho, hL, _ =>
    obtain ⟨hop, hdst, hgd⟩ := tab_at htab ho (show rho15T[5]? = _ from rfl)
    simp only at hop hgd
    have h0 := frm_at (val := val c) hdis ha 4 99 (hds 4 99 rfl) (by omega) (depl_of hdep 5 4 (by decide) ho hd)
    exact doesX_of (doesL_run ho (wanted_none hgd) (hpure 5 (by decide) c L w' hW) (g_load hop (eval_of h0) (r5 c L w' hW hL (depl_of hdep 5 4 (by decide) ho hd))))
  | 6, ho, hL, _ =>
    obtain ⟨hop, hdst, hgd⟩ := tab_at htab ho (show rho15T[6]? = _ from rfl)
    simp only at hop hgd
    have h0 := frm_at (val := val c) hdis ha 0 95 (hds 0 95 rfl) (by omega) (depl_of hdep 6 0 (by decide) ho hd)
    have h1 := frm_at (val := val c) hdis ha 5 100 (hds 5 100 rfl) (by omega) (depl_of hdep 6 5 (by decide) ho hd)
    refine doesX_call ho (wanted_none hgd) 64 #[V1, V2] ?_ (r6 c L w' hW hL (depl_of hdep 6 0 (by decide) ho hd) (depl_of hdep 6 5 (by decide) ho hd))
    rw [run_calls Tryz.func64 (by kernel_rfl) rfl _ _ _ _ hop rfl]
    simp only [List.map_toArray, List.map_cons, List.map_nil, eval_of h0, eval_of h1]
    all_goals rfl
  | 7, ho, hL, _ =>
    obtain ⟨hop, hdst, hgd⟩ := tab_at htab ho (show rho15T[7]? = _ from rfl)
    simp only at hop hgd
    have h0 := frm_at (val := val c) hdis ha 6 101 (hds 6 101 rfl) (by omega) (depl_of hdep 7 6 (by decide) ho hd)
    exact doesX_of (doesL_run ho (wanted_none hgd) (hpure 7 (by decide) c L w' hW) (by rw [run_assign _ _ _ hop]; exact congrArg (fun v => Result.ok (Next.value v) w') (eval_of h0)))
  | (i + 8), ho, hL, hi => exact absurd hi (by omega)
end Go.Proofs.YtjopnhhdemfniaaGreatDoor
