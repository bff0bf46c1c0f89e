import Derived.Test.YtjopnhhdemfniaaGreatDoorRgpp
namespace Go.Proofs.YtjopnhhdemfniaaGreatDoor
open Go.RowKit
def vrpaA (g nn n cap pp oo jj : Nat) (z : Int) (_c : Unit) (i : Nat) : Value := match i with
  | 0 => (.int .i64 (jj : Int))
  | 1 => (.slice (some ⟨pp, oo, none⟩) n cap)
  | 2 => (.int .i64 (n : Int))
  | 3 => (.bool true)
  | 4 => (.bool true)
  | 5 => (.slice (some ⟨g, 0, none⟩) nn nn)
  | 6 => (.int .i64 (jj : Int))
  | 7 => (.pointer (some ⟨g, 0 + jj, none⟩))
  | 8 => (I z)
  | 9 => (.slice (some ⟨pp, oo, none⟩) n cap)
  | 10 => (.int .i64 (jj : Int))
  | 11 => (.pointer (some ⟨pp, oo + jj, none⟩))
  | 12 => (I z)
  | 13 => (.bool false)
  | 14 => (.bool false)
  | 15 => (.bool false)
  | 16 => (.int .i64 (jj : Int))
  | 17 => (.slice (some ⟨pp, oo, none⟩) n cap)
  | 18 => (.int .i64 (n : Int))
  | 19 => (.bool false)
  | 20 => (.bool false)
  | 21 => undef
  | 22 => undef
  | 23 => undef
  | 24 => undef
  | 25 => undef
  | 26 => (.bool false)
  | 27 => (.bool false)
  | _ => undef
def rpaAT : List (Op × Option Tmp × Option (Nat × Bool)) := [
  (.move (.tmp 13), some 67, none),
  (.move (.tmp 5), some 68, none),
  (.call { callee := .builtin .len, args := #[(.tmp 68)], argTypes := #[22] }, some 69, none),
  (.binOp .lss 3 (.tmp 67) (.tmp 69) 3, some 70, none),
  (.move (.tmp 70), some 71, none),
  (.move (.tmp 6), some 72, some (4, true)),
  (.move (.tmp 13), some 73, some (4, true)),
  (.indexAddr 22 (.tmp 72) (.tmp 73), some 74, some (4, true)),
  (.load 3 (.tmp 74), some 75, some (4, true)),
  (.move (.tmp 5), some 76, some (4, true)),
  (.move (.tmp 13), some 77, some (4, true)),
  (.indexAddr 22 (.tmp 76) (.tmp 77), some 78, some (4, true)),
  (.load 3 (.tmp 78), some 79, some (4, true)),
  (.binOp .neq 3 (.tmp 75) (.tmp 79) 3, some 80, some (4, true)),
  (.pick (.tmp 71) (.tmp 80) (.const (.bool false)), some 81, none),
  (.move (.tmp 81), some 82, none),
  (.move (.tmp 13), some 83, some (15, false)),
  (.move (.tmp 5), some 84, some (15, false)),
  (.call { callee := .builtin .len, args := #[(.tmp 84)], argTypes := #[22] }, some 85, some (15, false)),
  (.binOp .geq 3 (.tmp 83) (.tmp 85) 3, some 86, some (15, false)),
  (.move (.tmp 86), some 87, some (15, false)),
  (.move (.tmp 6), some 88, some (20, true)),
  (.move (.tmp 13), some 89, some (20, true)),
  (.indexAddr 22 (.tmp 88) (.tmp 89), some 90, some (20, true)),
  (.load 3 (.tmp 90), some 91, some (20, true)),
  (.binOp .neq 3 (.tmp 91) (.const (.int .i64 (-77))) 3, some 92, some (20, true)),
  (.pick (.tmp 87) (.tmp 92) (.const (.bool false)), some 93, some (15, false)),
  (.pick (.tmp 82) (.const (.bool true)) (.tmp 93), some 94, none)]
def rpaAD : List (Nat × Nat) := [(2, 1), (3, 0), (3, 2), (4, 3), (5, 4), (6, 4), (7, 4), (7, 5), (7, 6), (8, 4), (8, 7), (9, 4), (10, 4), (11, 4), (11, 9), (11, 10), (12, 4), (12, 11), (13, 4), (13, 8), (13, 12), (14, 4), (14, 13), (15, 14), (16, 15), (17, 15), (18, 15), (18, 17), (19, 15), (19, 16), (19, 18), (20, 15), (20, 19), (21, 20), (22, 20), (23, 20), (24, 20), (25, 20), (26, 15), (26, 20), (26, 25), (27, 15), (27, 26)]
set_option maxHeartbeats 4000000 in
theorem rpaA {ops : Array Oper} {id : Nat} {Q : Exit → Act → World → Prop} (g nn n cap pp oo jj : Nat) (z : Int) (htab : ops.toList.map (fun o => (o.op, o.dst, o.guard)) = rpaAT) (hdep : deplB rpaAD ops = true) (hac : acB ops = true)
    (a0 : Act) (w : World) (hsz : 95 ≤ a0.tmps.size) (o5 : a0.tmps[5]? = some (.slice (some ⟨pp, oo, none⟩) n cap)) (o6 : a0.tmps[6]? = some (.slice (some ⟨g, 0, none⟩) nn nn)) (o13 : a0.tmps[13]? = some (.int .i64 (jj : Int)))
    (Wd : Unit → (Nat → Bool) → World → Prop) (h0 : ∃ c, Wd c (fun _ => false) w.drew) (hpure : ∀ i, i ∉ ([] : List Nat) → ∀ c L W, Wd c L W → Wd c (upd L i) W)
    (r3 : ∀ W, (do eqGuard .lss 3 (.tmp 67) (.tmp 69) (.int .i64 (jj : Int)) (.int .i64 (n : Int)); binOp .lss 3 (.int .i64 (jj : Int)) (.int .i64 (n : Int))).run Tryz.prog W = .ok (.bool true) W)
    (r7 : ∀ W, (Instr.indexAt 22 (.slice (some ⟨g, 0, none⟩) nn nn) (.int .i64 (jj : Int))).run Tryz.prog W = .ok (.pointer (some ⟨g, 0 + jj, none⟩)) W)
    (r8 : ∀ c L W, Wd c L W → L 8 = false → L 7 = true → (Instr.loadAt 3 (.pointer (some ⟨g, 0 + jj, none⟩))).run Tryz.prog W = .ok (I z) W)
    (r11 : ∀ W, (Instr.indexAt 22 (.slice (some ⟨pp, oo, none⟩) n cap) (.int .i64 (jj : Int))).run Tryz.prog W = .ok (.pointer (some ⟨pp, oo + jj, none⟩)) W)
    (r12 : ∀ c L W, Wd c L W → L 12 = false → L 11 = true → (Instr.loadAt 3 (.pointer (some ⟨pp, oo + jj, none⟩))).run Tryz.prog W = .ok (I z) W)
    (r13 : ∀ W, (do eqGuard .neq 3 (.tmp 75) (.tmp 79) (I z) (I z); binOp .neq 3 (I z) (I z)).run Tryz.prog W = .ok (.bool false) W)
    (r19 : ∀ W, (do eqGuard .geq 3 (.tmp 83) (.tmp 85) (.int .i64 (jj : Int)) (.int .i64 (n : Int)); binOp .geq 3 (.int .i64 (jj : Int)) (.int .i64 (n : Int))).run Tryz.prog W = .ok (.bool false) W)
    (hend : ∀ c L W, (∀ i, i < 28 → L i = true) → Wd c L W → Q .normal ((((((((((((((((((((((((((((a0.put (some 67) (.int .i64 (jj : Int))).put (some 68) (.slice (some ⟨pp, oo, none⟩) n cap)).put (some 69) (.int .i64 (n : Int))).put (some 70) (.bool true)).put (some 71) (.bool true)).put (some 72) (.slice (some ⟨g, 0, none⟩) nn nn)).put (some 73) (.int .i64 (jj : Int))).put (some 74) (.pointer (some ⟨g, 0 + jj, none⟩))).put (some 75) (I z)).put (some 76) (.slice (some ⟨pp, oo, none⟩) n cap)).put (some 77) (.int .i64 (jj : Int))).put (some 78) (.pointer (some ⟨pp, oo + jj, none⟩))).put (some 79) (I z)).put (some 80) (.bool false)).put (some 81) (.bool false)).put (some 82) (.bool false)).put (some 83) (.int .i64 (jj : Int))).put (some 84) (.slice (some ⟨pp, oo, none⟩) n cap)).put (some 85) (.int .i64 (n : Int))).put (some 86) (.bool false)).put (some 87) (.bool false)).put (some 88) undef).put (some 89) undef).put (some 90) undef).put (some 91) undef).put (some 92) undef).put (some 93) (.bool false)).put (some 94) (.bool false)) W) : (Code.region id ops true).wp Tryz.prog Q a0 w := by
  let val : Unit → Nat → Value := vrpaA g nn n cap pp oo jj z
  have hosz : ops.size = 28 := by
    have := congrArg List.length htab
    simpa [rpaAT] using this
  have hds : ∀ i s, (rpaAT[i]?).bind (·.2.1) = some s → dstOf ops i = some s := fun i s hi => by rw [tab_dst htab, hi]
  have hdisB : disL rpaAT = true := by rfl
  have hdis := disL_of htab hdisB
  have hold : ∀ s, rpaAT.all (fun x => !(x.2.1 == some s)) = true → (List.range ops.size).all (fun j => !(dstOf ops j == some s)) = true := fun s h => holdL htab s h
  refine region_detX val Wd (hac_of hac) hdis h0 ?_ ?_
  rotate_left
  · intro c L W hall hW
    have := hend c L W (by rw [← hosz]; exact hall) hW
    have e : frm ops a0 (val c) (fun _ => true) ops.size = ((((((((((((((((((((((((((((a0.put (some 67) (.int .i64 (jj : Int))).put (some 68) (.slice (some ⟨pp, oo, none⟩) n cap)).put (some 69) (.int .i64 (n : Int))).put (some 70) (.bool true)).put (some 71) (.bool true)).put (some 72) (.slice (some ⟨g, 0, none⟩) nn nn)).put (some 73) (.int .i64 (jj : Int))).put (some 74) (.pointer (some ⟨g, 0 + jj, none⟩))).put (some 75) (I z)).put (some 76) (.slice (some ⟨pp, oo, none⟩) n cap)).put (some 77) (.int .i64 (jj : Int))).put (some 78) (.pointer (some ⟨pp, oo + jj, none⟩))).put (some 79) (I z)).put (some 80) (.bool false)).put (some 81) (.bool false)).put (some 82) (.bool false)).put (some 83) (.int .i64 (jj : Int))).put (some 84) (.slice (some ⟨pp, oo, none⟩) n cap)).put (some 85) (.int .i64 (n : Int))).put (some 86) (.bool false)).put (some 87) (.bool false)).put (some 88) undef).put (some 89) undef).put (some 90) undef).put (some 91) undef).put (some 92) undef).put (some 93) (.bool false)).put (some 94) (.bool false)) := by
      rw [hosz]
      simp only [frm, if_true]
      rw [tab_dst htab 0, tab_dst htab 1, tab_dst htab 2, tab_dst htab 3, tab_dst htab 4, tab_dst htab 5, tab_dst htab 6, tab_dst htab 7, tab_dst htab 8, tab_dst htab 9, tab_dst htab 10, tab_dst htab 11, tab_dst htab 12, tab_dst htab 13, tab_dst htab 14, tab_dst htab 15, tab_dst htab 16, tab_dst htab 17, tab_dst htab 18, tab_dst htab 19, tab_dst htab 20, tab_dst htab 21, tab_dst htab 22, tab_dst htab 23, tab_dst htab 24, tab_dst htab 25, tab_dst htab 26, tab_dst htab 27]
      rfl
    rw [e]
    exact this
  intro i o ho c L a w' hL hd ha hW
  have hi : i < 28 := by rw [← hosz]; exact (Array.getElem?_eq_some_iff.1 ho).1
  match i, ho, hL, hi with
  | 0, ho, hL, _ =>
    obtain ⟨hop, hdst, hgd⟩ := tab_at htab ho (show rpaAT[0]? = _ from rfl)
    simp only at hop hgd
    have h0 := frm_old (val := val c) ha 13 _ (hold 13 rfl) o13
    exact doesX_of (doesL_run ho (wanted_none hgd) (hpure 0 (by decide) c L w' hW) (by rw [run_move _ _ _ hop]; exact congrArg (fun v => Result.ok (Next.value v) w') (eval_of h0)))
  | 1, ho, hL, _ =>
    obtain ⟨hop, hdst, hgd⟩ := tab_at htab ho (show rpaAT[1]? = _ from rfl)
    simp only at hop hgd
    have h0 := frm_old (val := val c) ha 5 _ (hold 5 rfl) o5
    exact doesX_of (doesL_run ho (wanted_none hgd) (hpure 1 (by decide) c L w' hW) (by rw [run_move _ _ _ hop]; exact congrArg (fun v => Result.ok (Next.value v) w') (eval_of h0)))
  | 2, ho, hL, _ =>
    obtain ⟨hop, hdst, hgd⟩ := tab_at htab ho (show rpaAT[2]? = _ from rfl)
    simp only at hop hgd
    have h0 := frm_at (val := val c) hdis ha 1 68 (hds 1 68 rfl) (by omega) (depl_of hdep 2 1 (by decide) ho hd)
    exact doesX_of (doesL_run ho (wanted_none hgd) (hpure 2 (by decide) c L w' hW) (run_len22 _ _ _ hop _ _ _ (eval_of h0) _))
  | 3, ho, hL, _ =>
    obtain ⟨hop, hdst, hgd⟩ := tab_at htab ho (show rpaAT[3]? = _ from rfl)
    simp only at hop hgd
    have h0 := frm_at (val := val c) hdis ha 0 67 (hds 0 67 rfl) (by omega) (depl_of hdep 3 0 (by decide) ho hd)
    have h1 := frm_at (val := val c) hdis ha 2 69 (hds 2 69 rfl) (by omega) (depl_of hdep 3 2 (by decide) ho hd)
    exact doesX_of (doesL_run ho (wanted_none hgd) (hpure 3 (by decide) c L w' hW) (g_bin hop (eval_of h0) (eval_of h1) (r3 w')))
  | 4, ho, hL, _ =>
    obtain ⟨hop, hdst, hgd⟩ := tab_at htab ho (show rpaAT[4]? = _ from rfl)
    simp only at hop hgd
    have h0 := frm_at (val := val c) hdis ha 3 70 (hds 3 70 rfl) (by omega) (depl_of hdep 4 3 (by decide) ho hd)
    exact doesX_of (doesL_run ho (wanted_none hgd) (hpure 4 (by decide) c L w' hW) (by rw [run_move _ _ _ hop]; exact congrArg (fun v => Result.ok (Next.value v) w') (eval_of h0)))
  | 5, ho, hL, _ =>
    obtain ⟨hop, hdst, hgd⟩ := tab_at htab ho (show rpaAT[5]? = _ from rfl)
    simp only at hop hgd
    have hg := frm_at (val := val c) hdis ha 4 71 (hds 4 71 rfl) (by omega) (depl_of hdep 5 4 (by decide) ho hd)
    have h0 := frm_old (val := val c) ha 6 _ (hold 6 rfl) o6
    exact doesX_of (doesL_run ho (wanted_at (b := true) hgd (hds 4 71 rfl) hg) (hpure 5 (by decide) c L w' hW) (by rw [run_move _ _ _ hop]; exact congrArg (fun v => Result.ok (Next.value v) w') (eval_of h0)))
  | 6, ho, hL, _ =>
    obtain ⟨hop, hdst, hgd⟩ := tab_at htab ho (show rpaAT[6]? = _ from rfl)
    simp only at hop hgd
    have hg := frm_at (val := val c) hdis ha 4 71 (hds 4 71 rfl) (by omega) (depl_of hdep 6 4 (by decide) ho hd)
    have h0 := frm_old (val := val c) ha 13 _ (hold 13 rfl) o13
    exact doesX_of (doesL_run ho (wanted_at (b := true) hgd (hds 4 71 rfl) hg) (hpure 6 (by decide) c L w' hW) (by rw [run_move _ _ _ hop]; exact congrArg (fun v => Result.ok (Next.value v) w') (eval_of h0)))
  | 7, ho, hL, _ =>
    obtain ⟨hop, hdst, hgd⟩ := tab_at htab ho (show rpaAT[7]? = _ from rfl)
    simp only at hop hgd
    have hg := frm_at (val := val c) hdis ha 4 71 (hds 4 71 rfl) (by omega) (depl_of hdep 7 4 (by decide) ho hd)
    have h0 := frm_at (val := val c) hdis ha 5 72 (hds 5 72 rfl) (by omega) (depl_of hdep 7 5 (by decide) ho hd)
    have h1 := frm_at (val := val c) hdis ha 6 73 (hds 6 73 rfl) (by omega) (depl_of hdep 7 6 (by decide) ho hd)
    exact doesX_of (doesL_run ho (wanted_at (b := true) hgd (hds 4 71 rfl) hg) (hpure 7 (by decide) c L w' hW) (g_ixa hop (eval_of h0) (eval_of h1) (r7 w')))
  | 8, ho, hL, _ =>
    obtain ⟨hop, hdst, hgd⟩ := tab_at htab ho (show rpaAT[8]? = _ from rfl)
    simp only at hop hgd
    have hg := frm_at (val := val c) hdis ha 4 71 (hds 4 71 rfl) (by omega) (depl_of hdep 8 4 (by decide) ho hd)
    have h0 := frm_at (val := val c) hdis ha 7 74 (hds 7 74 rfl) (by omega) (depl_of hdep 8 7 (by decide) ho hd)
    exact doesX_of (doesL_run ho (wanted_at (b := true) hgd (hds 4 71 rfl) hg) (hpure 8 (by decide) c L w' hW) (g_load hop (eval_of h0) (r8 c L w' hW hL (depl_of hdep 8 7 (by decide) ho hd))))
  | 9, ho, hL, _ =>
    obtain ⟨hop, hdst, hgd⟩ := tab_at htab ho (show rpaAT[9]? = _ from rfl)
    simp only at hop hgd
    have hg := frm_at (val := val c) hdis ha 4 71 (hds 4 71 rfl) (by omega) (depl_of hdep 9 4 (by decide) ho hd)
    have h0 := frm_old (val := val c) ha 5 _ (hold 5 rfl) o5
    exact doesX_of (doesL_run ho (wanted_at (b := true) hgd (hds 4 71 rfl) hg) (hpure 9 (by decide) c L w' hW) (by rw [run_move _ _ _ hop]; exact congrArg (fun v => Result.ok (Next.value v) w') (eval_of h0)))
  | 10, ho, hL, _ =>
    obtain ⟨hop, hdst, hgd⟩ := tab_at htab ho (show rpaAT[10]? = _ from rfl)
    simp only at hop hgd
    have hg := frm_at (val := val c) hdis ha 4 71 (hds 4 71 rfl) (by omega) (depl_of hdep 10 4 (by decide) ho hd)
    have h0 := frm_old (val := val c) ha 13 _ (hold 13 rfl) o13
    exact doesX_of (doesL_run ho (wanted_at (b := true) hgd (hds 4 71 rfl) hg) (hpure 10 (by decide) c L w' hW) (by rw [run_move _ _ _ hop]; exact congrArg (fun v => Result.ok (Next.value v) w') (eval_of h0)))
  | 11, ho, hL, _ =>
    obtain ⟨hop, hdst, hgd⟩ := tab_at htab ho (show rpaAT[11]? = _ from rfl)
    simp only at hop hgd
    have hg := frm_at (val := val c) hdis ha 4 71 (hds 4 71 rfl) (by omega) (depl_of hdep 11 4 (by decide) ho hd)
    have h0 := frm_at (val := val c) hdis ha 9 76 (hds 9 76 rfl) (by omega) (depl_of hdep 11 9 (by decide) ho hd)
    have h1 := frm_at (val := val c) hdis ha 10 77 (hds 10 77 rfl) (by omega) (depl_of hdep 11 10 (by decide) ho hd)
    exact doesX_of (doesL_run ho (wanted_at (b := true) hgd (hds 4 71 rfl) hg) (hpure 11 (by decide) c L w' hW) (g_ixa hop (eval_of h0) (eval_of h1) (r11 w')))
  | 12, ho, hL, _ =>
    obtain ⟨hop, hdst, hgd⟩ := tab_at htab ho (show rpaAT[12]? = _ from rfl)
    simp only at hop hgd
    have hg := frm_at (val := val c) hdis ha 4 71 (hds 4 71 rfl) (by omega) (depl_of hdep 12 4 (by decide) ho hd)
    have h0 := frm_at (val := val c) hdis ha 11 78 (hds 11 78 rfl) (by omega) (depl_of hdep 12 11 (by decide) ho hd)
    exact doesX_of (doesL_run ho (wanted_at (b := true) hgd (hds 4 71 rfl) hg) (hpure 12 (by decide) c L w' hW) (g_load hop (eval_of h0) (r12 c L w' hW hL (depl_of hdep 12 11 (by decide) ho hd))))
  | 13, ho, hL, _ =>
    obtain ⟨hop, hdst, hgd⟩ := tab_at htab ho (show rpaAT[13]? = _ from rfl)
    simp only at hop hgd
    have hg := frm_at (val := val c) hdis ha 4 71 (hds 4 71 rfl) (by omega) (depl_of hdep 13 4 (by decide) ho hd)
    have h0 := frm_at (val := val c) hdis ha 8 75 (hds 8 75 rfl) (by omega) (depl_of hdep 13 8 (by decide) ho hd)
    have h1 := frm_at (val := val c) hdis ha 12 79 (hds 12 79 rfl) (by omega) (depl_of hdep 13 12 (by decide) ho hd)
    exact doesX_of (doesL_run ho (wanted_at (b := true) hgd (hds 4 71 rfl) hg) (hpure 13 (by decide) c L w' hW) (g_bin hop (eval_of h0) (eval_of h1) (r13 w')))
  | 14, ho, hL, _ =>
    obtain ⟨hop, hdst, hgd⟩ := tab_at htab ho (show rpaAT[14]? = _ from rfl)
    simp only at hop hgd
    have h0 := frm_at (val := val c) hdis ha 4 71 (hds 4 71 rfl) (by omega) (depl_of hdep 14 4 (by decide) ho hd)
    have h1 := frm_at (val := val c) hdis ha 13 80 (hds 13 80 rfl) (by omega) (depl_of hdep 14 13 (by decide) ho hd)
    exact doesX_of (doesL_run ho (wanted_none hgd) (hpure 14 (by decide) c L w' hW) (by rw [run_pick _ _ _ _ _ hop true (eval_of h0)]; exact congrArg (fun v => Result.ok (Next.value v) w') (eval_of h1)))
  | 15, ho, hL, _ =>
    obtain ⟨hop, hdst, hgd⟩ := tab_at htab ho (show rpaAT[15]? = _ from rfl)
    simp only at hop hgd
    have h0 := frm_at (val := val c) hdis ha 14 81 (hds 14 81 rfl) (by omega) (depl_of hdep 15 14 (by decide) ho hd)
    exact doesX_of (doesL_run ho (wanted_none hgd) (hpure 15 (by decide) c L w' hW) (by rw [run_move _ _ _ hop]; exact congrArg (fun v => Result.ok (Next.value v) w') (eval_of h0)))
  | 16, ho, hL, _ =>
    obtain ⟨hop, hdst, hgd⟩ := tab_at htab ho (show rpaAT[16]? = _ from rfl)
    simp only at hop hgd
    have hg := frm_at (val := val c) hdis ha 15 82 (hds 15 82 rfl) (by omega) (depl_of hdep 16 15 (by decide) ho hd)
    have h0 := frm_old (val := val c) ha 13 _ (hold 13 rfl) o13
    exact doesX_of (doesL_run ho (wanted_at (b := false) hgd (hds 15 82 rfl) hg) (hpure 16 (by decide) c L w' hW) (by rw [run_move _ _ _ hop]; exact congrArg (fun v => Result.ok (Next.value v) w') (eval_of h0)))
  | 17, ho, hL, _ =>
    obtain ⟨hop, hdst, hgd⟩ := tab_at htab ho (show rpaAT[17]? = _ from rfl)
    simp only at hop hgd
    have hg := frm_at (val := val c) hdis ha 15 82 (hds 15 82 rfl) (by omega) (depl_of hdep 17 15 (by decide) ho hd)
    have h0 := frm_old (val := val c) ha 5 _ (hold 5 rfl) o5
    exact doesX_of (doesL_run ho (wanted_at (b := false) hgd (hds 15 82 rfl) hg) (hpure 17 (by decide) c L w' hW) (by rw [run_move _ _ _ hop]; exact congrArg (fun v => Result.ok (Next.value v) w') (eval_of h0)))
  | 18, ho, hL, _ =>
    obtain ⟨hop, hdst, hgd⟩ := tab_at htab ho (show rpaAT[18]? = _ from rfl)
    simp only at hop hgd
    have hg := frm_at (val := val c) hdis ha 15 82 (hds 15 82 rfl) (by omega) (depl_of hdep 18 15 (by decide) ho hd)
    have h0 := frm_at (val := val c) hdis ha 17 84 (hds 17 84 rfl) (by omega) (depl_of hdep 18 17 (by decide) ho hd)
    exact doesX_of (doesL_run ho (wanted_at (b := false) hgd (hds 15 82 rfl) hg) (hpure 18 (by decide) c L w' hW) (run_len22 _ _ _ hop _ _ _ (eval_of h0) _))
  | 19, ho, hL, _ =>
    obtain ⟨hop, hdst, hgd⟩ := tab_at htab ho (show rpaAT[19]? = _ from rfl)
    simp only at hop hgd
    have hg := frm_at (val := val c) hdis ha 15 82 (hds 15 82 rfl) (by omega) (depl_of hdep 19 15 (by decide) ho hd)
    have h0 := frm_at (val := val c) hdis ha 16 83 (hds 16 83 rfl) (by omega) (depl_of hdep 19 16 (by decide) ho hd)
    have h1 := frm_at (val := val c) hdis ha 18 85 (hds 18 85 rfl) (by omega) (depl_of hdep 19 18 (by decide) ho hd)
    exact doesX_of (doesL_run ho (wanted_at (b := false) hgd (hds 15 82 rfl) hg) (hpure 19 (by decide) c L w' hW) (g_bin hop (eval_of h0) (eval_of h1) (r19 w')))
  | 20, ho, hL, _ =>
    obtain ⟨hop, hdst, hgd⟩ := tab_at htab ho (show rpaAT[20]? = _ from rfl)
    simp only at hop hgd
    have hg := frm_at (val := val c) hdis ha 15 82 (hds 15 82 rfl) (by omega) (depl_of hdep 20 15 (by decide) ho hd)
    have h0 := frm_at (val := val c) hdis ha 19 86 (hds 19 86 rfl) (by omega) (depl_of hdep 20 19 (by decide) ho hd)
    exact doesX_of (doesL_run ho (wanted_at (b := false) hgd (hds 15 82 rfl) hg) (hpure 20 (by decide) c L w' hW) (by rw [run_move _ _ _ hop]; exact congrArg (fun v => Result.ok (Next.value v) w') (eval_of h0)))
  | 21, ho, hL, _ =>
    obtain ⟨hop, hdst, hgd⟩ := tab_at htab ho (show rpaAT[21]? = _ from rfl)
    simp only at hop hgd
    have hg := frm_at (val := val c) hdis ha 20 87 (hds 20 87 rfl) (by omega) (depl_of hdep 21 20 (by decide) ho hd)
    exact doesX_of (doesL_skip ho (wanted_at (b := false) hgd (hds 20 87 rfl) hg) (hpure 21 (by decide) c L w' hW) rfl)
  | 22, ho, hL, _ =>
    obtain ⟨hop, hdst, hgd⟩ := tab_at htab ho (show rpaAT[22]? = _ from rfl)
    simp only at hop hgd
    have hg := frm_at (val := val c) hdis ha 20 87 (hds 20 87 rfl) (by omega) (depl_of hdep 22 20 (by decide) ho hd)
    exact doesX_of (doesL_skip ho (wanted_at (b := false) hgd (hds 20 87 rfl) hg) (hpure 22 (by decide) c L w' hW) rfl)
  | 23, ho, hL, _ =>
    obtain ⟨hop, hdst, hgd⟩ := tab_at htab ho (show rpaAT[23]? = _ from rfl)
    simp only at hop hgd
    have hg := frm_at (val := val c) hdis ha 20 87 (hds 20 87 rfl) (by omega) (depl_of hdep 23 20 (by decide) ho hd)
    exact doesX_of (doesL_skip ho (wanted_at (b := false) hgd (hds 20 87 rfl) hg) (hpure 23 (by decide) c L w' hW) rfl)
  | 24, ho, hL, _ =>
    obtain ⟨hop, hdst, hgd⟩ := tab_at htab ho (show rpaAT[24]? = _ from rfl)
    simp only at hop hgd
    have hg := frm_at (val := val c) hdis ha 20 87 (hds 20 87 rfl) (by omega) (depl_of hdep 24 20 (by decide) ho hd)
    exact doesX_of (doesL_skip ho (wanted_at (b := false) hgd (hds 20 87 rfl) hg) (hpure 24 (by decide) c L w' hW) rfl)
  | 25, ho, hL, _ =>
    obtain ⟨hop, hdst, hgd⟩ := tab_at htab ho (show rpaAT[25]? = _ from rfl)
    simp only at hop hgd
    have hg := frm_at (val := val c) hdis ha 20 87 (hds 20 87 rfl) (by omega) (depl_of hdep 25 20 (by decide) ho hd)
    exact doesX_of (doesL_skip ho (wanted_at (b := false) hgd (hds 20 87 rfl) hg) (hpure 25 (by decide) c L w' hW) rfl)
  | 26, ho, hL, _ =>
    obtain ⟨hop, hdst, hgd⟩ := tab_at htab ho (show rpaAT[26]? = _ from rfl)
    simp only at hop hgd
    have hg := frm_at (val := val c) hdis ha 15 82 (hds 15 82 rfl) (by omega) (depl_of hdep 26 15 (by decide) ho hd)
    have h0 := frm_at (val := val c) hdis ha 20 87 (hds 20 87 rfl) (by omega) (depl_of hdep 26 20 (by decide) ho hd)
    have h1 := frm_at (val := val c) hdis ha 25 92 (hds 25 92 rfl) (by omega) (depl_of hdep 26 25 (by decide) ho hd)
    exact doesX_of (doesL_run ho (wanted_at (b := false) hgd (hds 15 82 rfl) hg) (hpure 26 (by decide) c L w' hW) (by rw [run_pick _ _ _ _ _ hop false (eval_of h0)]; exact congrArg (fun v => Result.ok (Next.value v) w') rfl))
  | 27, ho, hL, _ =>
    obtain ⟨hop, hdst, hgd⟩ := tab_at htab ho (show rpaAT[27]? = _ from rfl)
    simp only at hop hgd
    have h0 := frm_at (val := val c) hdis ha 15 82 (hds 15 82 rfl) (by omega) (depl_of hdep 27 15 (by decide) ho hd)
    have h2 := frm_at (val := val c) hdis ha 26 93 (hds 26 93 rfl) (by omega) (depl_of hdep 27 26 (by decide) ho hd)
    exact doesX_of (doesL_run ho (wanted_none hgd) (hpure 27 (by decide) c L w' hW) (by rw [run_pick _ _ _ _ _ hop false (eval_of h0)]; exact congrArg (fun v => Result.ok (Next.value v) w') (eval_of h2)))
  | (i + 28), ho, hL, hi => exact absurd hi (by omega)
def vrpaB (g nn n cap jj : Nat) (aa : Option Addr) (_c : Unit) (i : Nat) : Value := match i with
  | 0 => (.int .i64 (jj : Int))
  | 1 => (.slice aa n cap)
  | 2 => (.int .i64 (n : Int))
  | 3 => (.bool false)
  | 4 => (.bool false)
  | 5 => undef
  | 6 => undef
  | 7 => undef
  | 8 => undef
  | 9 => undef
  | 10 => undef
  | 11 => undef
  | 12 => undef
  | 13 => undef
  | 14 => (.bool false)
  | 15 => (.bool false)
  | 16 => (.int .i64 (jj : Int))
  | 17 => (.slice aa n cap)
  | 18 => (.int .i64 (n : Int))
  | 19 => (.bool true)
  | 20 => (.bool true)
  | 21 => (.slice (some ⟨g, 0, none⟩) nn nn)
  | 22 => (.int .i64 (jj : Int))
  | 23 => (.pointer (some ⟨g, 0 + jj, none⟩))
  | 24 => (I (-77))
  | 25 => (.bool false)
  | 26 => (.bool false)
  | 27 => (.bool false)
  | _ => undef
def rpaBT : List (Op × Option Tmp × Option (Nat × Bool)) := [
  (.move (.tmp 13), some 67, none),
  (.move (.tmp 5), some 68, none),
  (.call { callee := .builtin .len, args := #[(.tmp 68)], argTypes := #[22] }, some 69, none),
  (.binOp .lss 3 (.tmp 67) (.tmp 69) 3, some 70, none),
  (.move (.tmp 70), some 71, none),
  (.move (.tmp 6), some 72, some (4, true)),
  (.move (.tmp 13), some 73, some (4, true)),
  (.indexAddr 22 (.tmp 72) (.tmp 73), some 74, some (4, true)),
  (.load 3 (.tmp 74), some 75, some (4, true)),
  (.move (.tmp 5), some 76, some (4, true)),
  (.move (.tmp 13), some 77, some (4, true)),
  (.indexAddr 22 (.tmp 76) (.tmp 77), some 78, some (4, true)),
  (.load 3 (.tmp 78), some 79, some (4, true)),
  (.binOp .neq 3 (.tmp 75) (.tmp 79) 3, some 80, some (4, true)),
  (.pick (.tmp 71) (.tmp 80) (.const (.bool false)), some 81, none),
  (.move (.tmp 81), some 82, none),
  (.move (.tmp 13), some 83, some (15, false)),
  (.move (.tmp 5), some 84, some (15, false)),
  (.call { callee := .builtin .len, args := #[(.tmp 84)], argTypes := #[22] }, some 85, some (15, false)),
  (.binOp .geq 3 (.tmp 83) (.tmp 85) 3, some 86, some (15, false)),
  (.move (.tmp 86), some 87, some (15, false)),
  (.move (.tmp 6), some 88, some (20, true)),
  (.move (.tmp 13), some 89, some (20, true)),
  (.indexAddr 22 (.tmp 88) (.tmp 89), some 90, some (20, true)),
  (.load 3 (.tmp 90), some 91, some (20, true)),
  (.binOp .neq 3 (.tmp 91) (.const (.int .i64 (-77))) 3, some 92, some (20, true)),
  (.pick (.tmp 87) (.tmp 92) (.const (.bool false)), some 93, some (15, false)),
  (.pick (.tmp 82) (.const (.bool true)) (.tmp 93), some 94, none)]
def rpaBD : List (Nat × Nat) := [(2, 1), (3, 0), (3, 2), (4, 3), (5, 4), (6, 4), (7, 4), (8, 4), (9, 4), (10, 4), (11, 4), (12, 4), (13, 4), (14, 4), (14, 13), (15, 14), (16, 15), (17, 15), (18, 15), (18, 17), (19, 15), (19, 16), (19, 18), (20, 15), (20, 19), (21, 20), (22, 20), (23, 20), (23, 21), (23, 22), (24, 20), (24, 23), (25, 20), (25, 24), (26, 15), (26, 20), (26, 25), (27, 15), (27, 26)]
set_option maxHeartbeats 4000000 in
theorem rpaB {ops : Array Oper} {id : Nat} {Q : Exit → Act → World → Prop} (g nn n cap jj : Nat) (aa : Option Addr) (htab : ops.toList.map (fun o => (o.op, o.dst, o.guard)) = rpaBT) (hdep : deplB rpaBD ops = true) (hac : acB ops = true)
    (a0 : Act) (w : World) (hsz : 95 ≤ a0.tmps.size) (o5 : a0.tmps[5]? = some (.slice aa n cap)) (o6 : a0.tmps[6]? = some (.slice (some ⟨g, 0, none⟩) nn nn)) (o13 : a0.tmps[13]? = some (.int .i64 (jj : Int)))
    (Wd : Unit → (Nat → Bool) → World → Prop) (h0 : ∃ c, Wd c (fun _ => false) w.drew) (hpure : ∀ i, i ∉ ([] : List Nat) → ∀ c L W, Wd c L W → Wd c (upd L i) W)
    (r3 : ∀ W, (do eqGuard .lss 3 (.tmp 67) (.tmp 69) (.int .i64 (jj : Int)) (.int .i64 (n : Int)); binOp .lss 3 (.int .i64 (jj : Int)) (.int .i64 (n : Int))).run Tryz.prog W = .ok (.bool false) W)
    (r19 : ∀ W, (do eqGuard .geq 3 (.tmp 83) (.tmp 85) (.int .i64 (jj : Int)) (.int .i64 (n : Int)); binOp .geq 3 (.int .i64 (jj : Int)) (.int .i64 (n : Int))).run Tryz.prog W = .ok (.bool true) W)
    (r23 : ∀ W, (Instr.indexAt 22 (.slice (some ⟨g, 0, none⟩) nn nn) (.int .i64 (jj : Int))).run Tryz.prog W = .ok (.pointer (some ⟨g, 0 + jj, none⟩)) W)
    (r24 : ∀ c L W, Wd c L W → L 24 = false → L 23 = true → (Instr.loadAt 3 (.pointer (some ⟨g, 0 + jj, none⟩))).run Tryz.prog W = .ok (I (-77)) W)
    (r25 : ∀ W, (do eqGuard .neq 3 (.tmp 91) (.const (.int .i64 (-77))) (I (-77)) (.int .i64 (-77)); binOp .neq 3 (I (-77)) (.int .i64 (-77))).run Tryz.prog W = .ok (.bool false) W)
    (hend : ∀ c L W, (∀ i, i < 28 → L i = true) → Wd c L W → Q .normal ((((((((((((((((((((((((((((a0.put (some 67) (.int .i64 (jj : Int))).put (some 68) (.slice aa n cap)).put (some 69) (.int .i64 (n : Int))).put (some 70) (.bool false)).put (some 71) (.bool false)).put (some 72) undef).put (some 73) undef).put (some 74) undef).put (some 75) undef).put (some 76) undef).put (some 77) undef).put (some 78) undef).put (some 79) undef).put (some 80) undef).put (some 81) (.bool false)).put (some 82) (.bool false)).put (some 83) (.int .i64 (jj : Int))).put (some 84) (.slice aa n cap)).put (some 85) (.int .i64 (n : Int))).put (some 86) (.bool true)).put (some 87) (.bool true)).put (some 88) (.slice (some ⟨g, 0, none⟩) nn nn)).put (some 89) (.int .i64 (jj : Int))).put (some 90) (.pointer (some ⟨g, 0 + jj, none⟩))).put (some 91) (I (-77))).put (some 92) (.bool false)).put (some 93) (.bool false)).put (some 94) (.bool false)) W) : (Code.region id ops true).wp Tryz.prog Q a0 w := by
  let val : Unit → Nat → Value := vrpaB g nn n cap jj aa
  have hosz : ops.size = 28 := by
    have := congrArg List.length htab
    simpa [rpaBT] using this
  have hds : ∀ i s, (rpaBT[i]?).bind (·.2.1) = some s → dstOf ops i = some s := fun i s hi => by rw [tab_dst htab, hi]
  have hdisB : disL rpaBT = true := by rfl
  have hdis := disL_of htab hdisB
  have hold : ∀ s, rpaBT.all (fun x => !(x.2.1 == some s)) = true → (List.range ops.size).all (fun j => !(dstOf ops j == some s)) = true := fun s h => holdL htab s h
  refine region_detX val Wd (hac_of hac) hdis h0 ?_ ?_
  rotate_left
  · intro c L W hall hW
    have := hend c L W (by rw [← hosz]; exact hall) hW
    have e : frm ops a0 (val c) (fun _ => true) ops.size = ((((((((((((((((((((((((((((a0.put (some 67) (.int .i64 (jj : Int))).put (some 68) (.slice aa n cap)).put (some 69) (.int .i64 (n : Int))).put (some 70) (.bool false)).put (some 71) (.bool false)).put (some 72) undef).put (some 73) undef).put (some 74) undef).put (some 75) undef).put (some 76) undef).put (some 77) undef).put (some 78) undef).put (some 79) undef).put (some 80) undef).put (some 81) (.bool false)).put (some 82) (.bool false)).put (some 83) (.int .i64 (jj : Int))).put (some 84) (.slice aa n cap)).put (some 85) (.int .i64 (n : Int))).put (some 86) (.bool true)).put (some 87) (.bool true)).put (some 88) (.slice (some ⟨g, 0, none⟩) nn nn)).put (some 89) (.int .i64 (jj : Int))).put (some 90) (.pointer (some ⟨g, 0 + jj, none⟩))).put (some 91) (I (-77))).put (some 92) (.bool false)).put (some 93) (.bool false)).put (some 94) (.bool false)) := by
      rw [hosz]
      simp only [frm, if_true]
      rw [tab_dst htab 0, tab_dst htab 1, tab_dst htab 2, tab_dst htab 3, tab_dst htab 4, tab_dst htab 5, tab_dst htab 6, tab_dst htab 7, tab_dst htab 8, tab_dst htab 9, tab_dst htab 10, tab_dst htab 11, tab_dst htab 12, tab_dst htab 13, tab_dst htab 14, tab_dst htab 15, tab_dst htab 16, tab_dst htab 17, tab_dst htab 18, tab_dst htab 19, tab_dst htab 20, tab_dst htab 21, tab_dst htab 22, tab_dst htab 23, tab_dst htab 24, tab_dst htab 25, tab_dst htab 26, tab_dst htab 27]
      rfl
    rw [e]
    exact this
  intro i o ho c L a w' hL hd ha hW
  have hi : i < 28 := by rw [← hosz]; exact (Array.getElem?_eq_some_iff.1 ho).1
  match i, ho, hL, hi with
  | 0, ho, hL, _ =>
    obtain ⟨hop, hdst, hgd⟩ := tab_at htab ho (show rpaBT[0]? = _ from rfl)
    simp only at hop hgd
    have h0 := frm_old (val := val c) ha 13 _ (hold 13 rfl) o13
    exact doesX_of (doesL_run ho (wanted_none hgd) (hpure 0 (by decide) c L w' hW) (by rw [run_move _ _ _ hop]; exact congrArg (fun v => Result.ok (Next.value v) w') (eval_of h0)))
  | 1, ho, hL, _ =>
    obtain ⟨hop, hdst, hgd⟩ := tab_at htab ho (show rpaBT[1]? = _ from rfl)
    simp only at hop hgd
    have h0 := frm_old (val := val c) ha 5 _ (hold 5 rfl) o5
    exact doesX_of (doesL_run ho (wanted_none hgd) (hpure 1 (by decide) c L w' hW) (by rw [run_move _ _ _ hop]; exact congrArg (fun v => Result.ok (Next.value v) w') (eval_of h0)))
  | 2, ho, hL, _ =>
    obtain ⟨hop, hdst, hgd⟩ := tab_at htab ho (show rpaBT[2]? = _ from rfl)
    simp only at hop hgd
    have h0 := frm_at (val := val c) hdis ha 1 68 (hds 1 68 rfl) (by omega) (depl_of hdep 2 1 (by decide) ho hd)
    exact doesX_of (doesL_run ho (wanted_none hgd) (hpure 2 (by decide) c L w' hW) (run_len22 _ _ _ hop _ _ _ (eval_of h0) _))
  | 3, ho, hL, _ =>
    obtain ⟨hop, hdst, hgd⟩ := tab_at htab ho (show rpaBT[3]? = _ from rfl)
    simp only at hop hgd
    have h0 := frm_at (val := val c) hdis ha 0 67 (hds 0 67 rfl) (by omega) (depl_of hdep 3 0 (by decide) ho hd)
    have h1 := frm_at (val := val c) hdis ha 2 69 (hds 2 69 rfl) (by omega) (depl_of hdep 3 2 (by decide) ho hd)
    exact doesX_of (doesL_run ho (wanted_none hgd) (hpure 3 (by decide) c L w' hW) (g_bin hop (eval_of h0) (eval_of h1) (r3 w')))
  | 4, ho, hL, _ =>
    obtain ⟨hop, hdst, hgd⟩ := tab_at htab ho (show rpaBT[4]? = _ from rfl)
    simp only at hop hgd
    have h0 := frm_at (val := val c) hdis ha 3 70 (hds 3 70 rfl) (by omega) (depl_of hdep 4 3 (by decide) ho hd)
    exact doesX_of (doesL_run ho (wanted_none hgd) (hpure 4 (by decide) c L w' hW) (by rw [run_move _ _ _ hop]; exact congrArg (fun v => Result.ok (Next.value v) w') (eval_of h0)))
  | 5, ho, hL, _ =>
    obtain ⟨hop, hdst, hgd⟩ := tab_at htab ho (show rpaBT[5]? = _ from rfl)
    simp only at hop hgd
    have hg := frm_at (val := val c) hdis ha 4 71 (hds 4 71 rfl) (by omega) (depl_of hdep 5 4 (by decide) ho hd)
    exact doesX_of (doesL_skip ho (wanted_at (b := false) hgd (hds 4 71 rfl) hg) (hpure 5 (by decide) c L w' hW) rfl)
  | 6, ho, hL, _ =>
    obtain ⟨hop, hdst, hgd⟩ := tab_at htab ho (show rpaBT[6]? = _ from rfl)
    simp only at hop hgd
    have hg := frm_at (val := val c) hdis ha 4 71 (hds 4 71 rfl) (by omega) (depl_of hdep 6 4 (by decide) ho hd)
    exact doesX_of (doesL_skip ho (wanted_at (b := false) hgd (hds 4 71 rfl) hg) (hpure 6 (by decide) c L w' hW) rfl)
  | 7, ho, hL, _ =>
    obtain ⟨hop, hdst, hgd⟩ := tab_at htab ho (show rpaBT[7]? = _ from rfl)
    simp only at hop hgd
    have hg := frm_at (val := val c) hdis ha 4 71 (hds 4 71 rfl) (by omega) (depl_of hdep 7 4 (by decide) ho hd)
    exact doesX_of (doesL_skip ho (wanted_at (b := false) hgd (hds 4 71 rfl) hg) (hpure 7 (by decide) c L w' hW) rfl)
  | 8, ho, hL, _ =>
    obtain ⟨hop, hdst, hgd⟩ := tab_at htab ho (show rpaBT[8]? = _ from rfl)
    simp only at hop hgd
    have hg := frm_at (val := val c) hdis ha 4 71 (hds 4 71 rfl) (by omega) (depl_of hdep 8 4 (by decide) ho hd)
    exact doesX_of (doesL_skip ho (wanted_at (b := false) hgd (hds 4 71 rfl) hg) (hpure 8 (by decide) c L w' hW) rfl)
  | 9, ho, hL, _ =>
    obtain ⟨hop, hdst, hgd⟩ := tab_at htab ho (show rpaBT[9]? = _ from rfl)
    simp only at hop hgd
    have hg := frm_at (val := val c) hdis ha 4 71 (hds 4 71 rfl) (by omega) (depl_of hdep 9 4 (by decide) ho hd)
    exact doesX_of (doesL_skip ho (wanted_at (b := false) hgd (hds 4 71 rfl) hg) (hpure 9 (by decide) c L w' hW) rfl)
  | 10, ho, hL, _ =>
    obtain ⟨hop, hdst, hgd⟩ := tab_at htab ho (show rpaBT[10]? = _ from rfl)
    simp only at hop hgd
    have hg := frm_at (val := val c) hdis ha 4 71 (hds 4 71 rfl) (by omega) (depl_of hdep 10 4 (by decide) ho hd)
    exact doesX_of (doesL_skip ho (wanted_at (b := false) hgd (hds 4 71 rfl) hg) (hpure 10 (by decide) c L w' hW) rfl)
  | 11, ho, hL, _ =>
    obtain ⟨hop, hdst, hgd⟩ := tab_at htab ho (show rpaBT[11]? = _ from rfl)
    simp only at hop hgd
    have hg := frm_at (val := val c) hdis ha 4 71 (hds 4 71 rfl) (by omega) (depl_of hdep 11 4 (by decide) ho hd)
    exact doesX_of (doesL_skip ho (wanted_at (b := false) hgd (hds 4 71 rfl) hg) (hpure 11 (by decide) c L w' hW) rfl)
  | 12, ho, hL, _ =>
    obtain ⟨hop, hdst, hgd⟩ := tab_at htab ho (show rpaBT[12]? = _ from rfl)
    simp only at hop hgd
    have hg := frm_at (val := val c) hdis ha 4 71 (hds 4 71 rfl) (by omega) (depl_of hdep 12 4 (by decide) ho hd)
    exact doesX_of (doesL_skip ho (wanted_at (b := false) hgd (hds 4 71 rfl) hg) (hpure 12 (by decide) c L w' hW) rfl)
  | 13, ho, hL, _ =>
    obtain ⟨hop, hdst, hgd⟩ := tab_at htab ho (show rpaBT[13]? = _ from rfl)
    simp only at hop hgd
    have hg := frm_at (val := val c) hdis ha 4 71 (hds 4 71 rfl) (by omega) (depl_of hdep 13 4 (by decide) ho hd)
    exact doesX_of (doesL_skip ho (wanted_at (b := false) hgd (hds 4 71 rfl) hg) (hpure 13 (by decide) c L w' hW) rfl)
  | 14, ho, hL, _ =>
    obtain ⟨hop, hdst, hgd⟩ := tab_at htab ho (show rpaBT[14]? = _ from rfl)
    simp only at hop hgd
    have h0 := frm_at (val := val c) hdis ha 4 71 (hds 4 71 rfl) (by omega) (depl_of hdep 14 4 (by decide) ho hd)
    have h1 := frm_at (val := val c) hdis ha 13 80 (hds 13 80 rfl) (by omega) (depl_of hdep 14 13 (by decide) ho hd)
    exact doesX_of (doesL_run ho (wanted_none hgd) (hpure 14 (by decide) c L w' hW) (by rw [run_pick _ _ _ _ _ hop false (eval_of h0)]; exact congrArg (fun v => Result.ok (Next.value v) w') rfl))
  | 15, ho, hL, _ =>
    obtain ⟨hop, hdst, hgd⟩ := tab_at htab ho (show rpaBT[15]? = _ from rfl)
    simp only at hop hgd
    have h0 := frm_at (val := val c) hdis ha 14 81 (hds 14 81 rfl) (by omega) (depl_of hdep 15 14 (by decide) ho hd)
    exact doesX_of (doesL_run ho (wanted_none hgd) (hpure 15 (by decide) c L w' hW) (by rw [run_move _ _ _ hop]; exact congrArg (fun v => Result.ok (Next.value v) w') (eval_of h0)))
  | 16, ho, hL, _ =>
    obtain ⟨hop, hdst, hgd⟩ := tab_at htab ho (show rpaBT[16]? = _ from rfl)
    simp only at hop hgd
    have hg := frm_at (val := val c) hdis ha 15 82 (hds 15 82 rfl) (by omega) (depl_of hdep 16 15 (by decide) ho hd)
    have h0 := frm_old (val := val c) ha 13 _ (hold 13 rfl) o13
    exact doesX_of (doesL_run ho (wanted_at (b := false) hgd (hds 15 82 rfl) hg) (hpure 16 (by decide) c L w' hW) (by rw [run_move _ _ _ hop]; exact congrArg (fun v => Result.ok (Next.value v) w') (eval_of h0)))
  | 17, ho, hL, _ =>
    obtain ⟨hop, hdst, hgd⟩ := tab_at htab ho (show rpaBT[17]? = _ from rfl)
    simp only at hop hgd
    have hg := frm_at (val := val c) hdis ha 15 82 (hds 15 82 rfl) (by omega) (depl_of hdep 17 15 (by decide) ho hd)
    have h0 := frm_old (val := val c) ha 5 _ (hold 5 rfl) o5
    exact doesX_of (doesL_run ho (wanted_at (b := false) hgd (hds 15 82 rfl) hg) (hpure 17 (by decide) c L w' hW) (by rw [run_move _ _ _ hop]; exact congrArg (fun v => Result.ok (Next.value v) w') (eval_of h0)))
  | 18, ho, hL, _ =>
    obtain ⟨hop, hdst, hgd⟩ := tab_at htab ho (show rpaBT[18]? = _ from rfl)
    simp only at hop hgd
    have hg := frm_at (val := val c) hdis ha 15 82 (hds 15 82 rfl) (by omega) (depl_of hdep 18 15 (by decide) ho hd)
    have h0 := frm_at (val := val c) hdis ha 17 84 (hds 17 84 rfl) (by omega) (depl_of hdep 18 17 (by decide) ho hd)
    exact doesX_of (doesL_run ho (wanted_at (b := false) hgd (hds 15 82 rfl) hg) (hpure 18 (by decide) c L w' hW) (run_len22 _ _ _ hop _ _ _ (eval_of h0) _))
  | 19, ho, hL, _ =>
    obtain ⟨hop, hdst, hgd⟩ := tab_at htab ho (show rpaBT[19]? = _ from rfl)
    simp only at hop hgd
    have hg := frm_at (val := val c) hdis ha 15 82 (hds 15 82 rfl) (by omega) (depl_of hdep 19 15 (by decide) ho hd)
    have h0 := frm_at (val := val c) hdis ha 16 83 (hds 16 83 rfl) (by omega) (depl_of hdep 19 16 (by decide) ho hd)
    have h1 := frm_at (val := val c) hdis ha 18 85 (hds 18 85 rfl) (by omega) (depl_of hdep 19 18 (by decide) ho hd)
    exact doesX_of (doesL_run ho (wanted_at (b := false) hgd (hds 15 82 rfl) hg) (hpure 19 (by decide) c L w' hW) (g_bin hop (eval_of h0) (eval_of h1) (r19 w')))
  | 20, ho, hL, _ =>
    obtain ⟨hop, hdst, hgd⟩ := tab_at htab ho (show rpaBT[20]? = _ from rfl)
    simp only at hop hgd
    have hg := frm_at (val := val c) hdis ha 15 82 (hds 15 82 rfl) (by omega) (depl_of hdep 20 15 (by decide) ho hd)
    have h0 := frm_at (val := val c) hdis ha 19 86 (hds 19 86 rfl) (by omega) (depl_of hdep 20 19 (by decide) ho hd)
    exact doesX_of (doesL_run ho (wanted_at (b := false) hgd (hds 15 82 rfl) hg) (hpure 20 (by decide) c L w' hW) (by rw [run_move _ _ _ hop]; exact congrArg (fun v => Result.ok (Next.value v) w') (eval_of h0)))
  | 21, ho, hL, _ =>
    obtain ⟨hop, hdst, hgd⟩ := tab_at htab ho (show rpaBT[21]? = _ from rfl)
    simp only at hop hgd
    have hg := frm_at (val := val c) hdis ha 20 87 (hds 20 87 rfl) (by omega) (depl_of hdep 21 20 (by decide) ho hd)
    have h0 := frm_old (val := val c) ha 6 _ (hold 6 rfl) o6
    exact doesX_of (doesL_run ho (wanted_at (b := true) hgd (hds 20 87 rfl) hg) (hpure 21 (by decide) c L w' hW) (by rw [run_move _ _ _ hop]; exact congrArg (fun v => Result.ok (Next.value v) w') (eval_of h0)))
  | 22, ho, hL, _ =>
    obtain ⟨hop, hdst, hgd⟩ := tab_at htab ho (show rpaBT[22]? = _ from rfl)
    simp only at hop hgd
    have hg := frm_at (val := val c) hdis ha 20 87 (hds 20 87 rfl) (by omega) (depl_of hdep 22 20 (by decide) ho hd)
    have h0 := frm_old (val := val c) ha 13 _ (hold 13 rfl) o13
    exact doesX_of (doesL_run ho (wanted_at (b := true) hgd (hds 20 87 rfl) hg) (hpure 22 (by decide) c L w' hW) (by rw [run_move _ _ _ hop]; exact congrArg (fun v => Result.ok (Next.value v) w') (eval_of h0)))
  | 23, ho, hL, _ =>
    obtain ⟨hop, hdst, hgd⟩ := tab_at htab ho (show rpaBT[23]? = _ from rfl)
    simp only at hop hgd
    have hg := frm_at (val := val c) hdis ha 20 87 (hds 20 87 rfl) (by omega) (depl_of hdep 23 20 (by decide) ho hd)
    have h0 := frm_at (val := val c) hdis ha 21 88 (hds 21 88 rfl) (by omega) (depl_of hdep 23 21 (by decide) ho hd)
    have h1 := frm_at (val := val c) hdis ha 22 89 (hds 22 89 rfl) (by omega) (depl_of hdep 23 22 (by decide) ho hd)
    exact doesX_of (doesL_run ho (wanted_at (b := true) hgd (hds 20 87 rfl) hg) (hpure 23 (by decide) c L w' hW) (g_ixa hop (eval_of h0) (eval_of h1) (r23 w')))
  | 24, ho, hL, _ =>
    obtain ⟨hop, hdst, hgd⟩ := tab_at htab ho (show rpaBT[24]? = _ from rfl)
    simp only at hop hgd
    have hg := frm_at (val := val c) hdis ha 20 87 (hds 20 87 rfl) (by omega) (depl_of hdep 24 20 (by decide) ho hd)
    have h0 := frm_at (val := val c) hdis ha 23 90 (hds 23 90 rfl) (by omega) (depl_of hdep 24 23 (by decide) ho hd)
    exact doesX_of (doesL_run ho (wanted_at (b := true) hgd (hds 20 87 rfl) hg) (hpure 24 (by decide) c L w' hW) (g_load hop (eval_of h0) (r24 c L w' hW hL (depl_of hdep 24 23 (by decide) ho hd))))
  | 25, ho, hL, _ =>
    obtain ⟨hop, hdst, hgd⟩ := tab_at htab ho (show rpaBT[25]? = _ from rfl)
    simp only at hop hgd
    have hg := frm_at (val := val c) hdis ha 20 87 (hds 20 87 rfl) (by omega) (depl_of hdep 25 20 (by decide) ho hd)
    have h0 := frm_at (val := val c) hdis ha 24 91 (hds 24 91 rfl) (by omega) (depl_of hdep 25 24 (by decide) ho hd)
    exact doesX_of (doesL_run ho (wanted_at (b := true) hgd (hds 20 87 rfl) hg) (hpure 25 (by decide) c L w' hW) (g_bin hop (eval_of h0) rfl (r25 w')))
  | 26, ho, hL, _ =>
    obtain ⟨hop, hdst, hgd⟩ := tab_at htab ho (show rpaBT[26]? = _ from rfl)
    simp only at hop hgd
    have hg := frm_at (val := val c) hdis ha 15 82 (hds 15 82 rfl) (by omega) (depl_of hdep 26 15 (by decide) ho hd)
    have h0 := frm_at (val := val c) hdis ha 20 87 (hds 20 87 rfl) (by omega) (depl_of hdep 26 20 (by decide) ho hd)
    have h1 := frm_at (val := val c) hdis ha 25 92 (hds 25 92 rfl) (by omega) (depl_of hdep 26 25 (by decide) ho hd)
    exact doesX_of (doesL_run ho (wanted_at (b := false) hgd (hds 15 82 rfl) hg) (hpure 26 (by decide) c L w' hW) (by rw [run_pick _ _ _ _ _ hop true (eval_of h0)]; exact congrArg (fun v => Result.ok (Next.value v) w') (eval_of h1)))
  | 27, ho, hL, _ =>
    obtain ⟨hop, hdst, hgd⟩ := tab_at htab ho (show rpaBT[27]? = _ from rfl)
    simp only at hop hgd
    have h0 := frm_at (val := val c) hdis ha 15 82 (hds 15 82 rfl) (by omega) (depl_of hdep 27 15 (by decide) ho hd)
    have h2 := frm_at (val := val c) hdis ha 26 93 (hds 26 93 rfl) (by omega) (depl_of hdep 27 26 (by decide) ho hd)
    exact doesX_of (doesL_run ho (wanted_none hgd) (hpure 27 (by decide) c L w' hW) (by rw [run_pick _ _ _ _ _ hop false (eval_of h0)]; exact congrArg (fun v => Result.ok (Next.value v) w') (eval_of h2)))
  | (i + 28), ho, hL, hi => exact absurd hi (by omega)
end Go.Proofs.YtjopnhhdemfniaaGreatDoor
