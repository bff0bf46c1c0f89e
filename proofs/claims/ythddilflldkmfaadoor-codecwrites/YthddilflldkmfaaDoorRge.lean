import Derived.Test.YthddilflldkmfaaDoorOpc
namespace Go.Proofs.YthddilflldkmfaaDoor
open Go.RowKit Go.Lib
def rgeT : List (Op × Option Tmp × Option (Nat × Bool)) := [
  (.move (.tmp 8), some 142, none),
  (.indexAddr 45 (.tmp 142) (.const (.int .i64 0)), some 143, none),
  (.load 43 (.tmp 143), some 144, none),
  (.call { callee := .value (.func 33), args := #[(.tmp 144)], argTypes := #[43] }, some 145, none),
  (.move (.tmp 9), some 146, none),
  (.indexAddr 48 (.tmp 146) (.const (.int .i64 0)), some 147, none),
  (.load 46 (.tmp 147), some 148, none),
  (.call { callee := .value (.func 34), args := #[(.tmp 148)], argTypes := #[46] }, some 149, none),
  (.binOp .eql 3 (.tmp 145) (.tmp 149) 3, some 150, none),
  (.move (.tmp 150), some 151, none),
  (.move (.tmp 8), some 152, some (9, true)),
  (.indexAddr 45 (.tmp 152) (.const (.int .i64 1)), some 153, some (9, true)),
  (.load 43 (.tmp 153), some 154, some (9, true)),
  (.call { callee := .value (.func 33), args := #[(.tmp 154)], argTypes := #[43] }, some 155, some (9, true)),
  (.move (.tmp 9), some 156, some (9, true)),
  (.indexAddr 48 (.tmp 156) (.const (.int .i64 1)), some 157, some (9, true)),
  (.load 46 (.tmp 157), some 158, some (9, true)),
  (.call { callee := .value (.func 34), args := #[(.tmp 158)], argTypes := #[46] }, some 159, some (9, true)),
  (.binOp .eql 3 (.tmp 155) (.tmp 159) 3, some 160, some (9, true)),
  (.pick (.tmp 151) (.tmp 160) (.const (.bool false)), some 161, none),
  (.move (.tmp 161), some 162, none),
  (.move (.tmp 8), some 163, some (20, true)),
  (.indexAddr 45 (.tmp 163) (.const (.int .i64 0)), some 164, some (20, true)),
  (.load 43 (.tmp 164), some 165, some (20, true)),
  (.call { callee := .value (.func 31), args := #[(.tmp 165)], argTypes := #[43] }, some 166, some (20, true)),
  (.move (.tmp 9), some 167, some (20, true)),
  (.indexAddr 48 (.tmp 167) (.const (.int .i64 0)), some 168, some (20, true)),
  (.load 46 (.tmp 168), some 169, some (20, true)),
  (.call { callee := .value (.func 32), args := #[(.tmp 169)], argTypes := #[46] }, some 170, some (20, true)),
  (.binOp .eql 39 (.tmp 166) (.tmp 170) 39, some 171, some (20, true)),
  (.pick (.tmp 162) (.tmp 171) (.const (.bool false)), some 172, none),
  (.move (.tmp 172), some 173, none),
  (.move (.tmp 8), some 174, some (31, true)),
  (.indexAddr 45 (.tmp 174) (.const (.int .i64 1)), some 175, some (31, true)),
  (.load 43 (.tmp 175), some 176, some (31, true)),
  (.call { callee := .value (.func 31), args := #[(.tmp 176)], argTypes := #[43] }, some 177, some (31, true)),
  (.move (.tmp 9), some 178, some (31, true)),
  (.indexAddr 48 (.tmp 178) (.const (.int .i64 1)), some 179, some (31, true)),
  (.load 46 (.tmp 179), some 180, some (31, true)),
  (.call { callee := .value (.func 32), args := #[(.tmp 180)], argTypes := #[46] }, some 181, some (31, true)),
  (.binOp .eql 39 (.tmp 177) (.tmp 181) 39, some 182, some (31, true)),
  (.pick (.tmp 173) (.tmp 182) (.const (.bool false)), some 183, none),
  (.assign (.tmp 183), some 6, none)]
def rgeD : List (Nat × Nat) := [(1, 0), (2, 1), (3, 2), (5, 4), (6, 5), (7, 6), (8, 3), (8, 7), (9, 8), (10, 9), (11, 9), (11, 10), (12, 9), (12, 11), (13, 9), (13, 12), (14, 9), (15, 9), (15, 14), (16, 9), (16, 15), (17, 9), (17, 16), (18, 9), (18, 13), (18, 17), (19, 9), (19, 18), (20, 19), (21, 20), (22, 20), (22, 21), (23, 20), (23, 22), (24, 20), (24, 23), (25, 20), (26, 20), (26, 25), (27, 20), (27, 26), (28, 20), (28, 27), (29, 20), (29, 24), (29, 28), (30, 20), (30, 29), (31, 30), (32, 31), (33, 31), (33, 32), (34, 31), (34, 33), (35, 31), (35, 34), (36, 31), (37, 31), (37, 36), (38, 31), (38, 37), (39, 31), (39, 38), (40, 31), (40, 35), (40, 39), (41, 31), (41, 40), (42, 41)]
set_option maxHeartbeats 2000000 in
theorem rge {ops : Array Oper} {id : Nat} {Q : Exit → Act → World → Prop} (gr gy b0 b1 y0 y1 : Nat) (l0 l1 d0 d1 : Int) (htab : ops.toList.map (fun o => (o.op, o.dst, o.guard)) = rgeT) (hdep : deplB rgeD ops = true) (hac : acB ops = true)
    (a0 : Act) (w : World) (hsz : 184 ≤ a0.tmps.size) (o8 : a0.tmps[8]? = some (.slice (some ⟨gr, 0, none⟩) 2 2)) (o9 : a0.tmps[9]? = some (.slice (some ⟨gy, 0, none⟩) 2 2))
    (Wd : (Nat → Bool) → World → Prop) (h0 : Wd (fun _ => false) w.drew) (hpure : ∀ i, i ∉ ([3, 7, 13, 17, 24, 28, 35, 39] : List Nat) → ∀ L W, Wd L W → Wd (upd L i) W)
    (l2 : ∀ L W, Wd L W → W.cell? ⟨gr, 0 + 0, none⟩ = some (.pointer (some ⟨b0, 0, none⟩))) (l6 : ∀ L W, Wd L W → W.cell? ⟨gy, 0 + 0, none⟩ = some (.pointer (some ⟨y0, 0, none⟩)))
    (c3 : ∀ L W, Wd L W → L 3 = false → Calls Tryd.prog 33 #[(.pointer (some ⟨b0, 0, none⟩))] W fun e w' => e = .returned (.int .i64 l0) ∧ Wd (upd L 3) w') (c7 : ∀ L W, Wd L W → L 7 = false → Calls Tryd.prog 34 #[(.pointer (some ⟨y0, 0, none⟩))] W fun e w' => e = .returned (.int .i64 l0) ∧ Wd (upd L 7) w')
    (l12 : ∀ L W, Wd L W → W.cell? ⟨gr, 0 + 1, none⟩ = some (.pointer (some ⟨b1, 0, none⟩))) (l16 : ∀ L W, Wd L W → W.cell? ⟨gy, 0 + 1, none⟩ = some (.pointer (some ⟨y1, 0, none⟩)))
    (c13 : ∀ L W, Wd L W → L 13 = false → Calls Tryd.prog 33 #[(.pointer (some ⟨b1, 0, none⟩))] W fun e w' => e = .returned (.int .i64 l1) ∧ Wd (upd L 13) w') (c17 : ∀ L W, Wd L W → L 17 = false → Calls Tryd.prog 34 #[(.pointer (some ⟨y1, 0, none⟩))] W fun e w' => e = .returned (.int .i64 l1) ∧ Wd (upd L 17) w')
    (l23 : ∀ L W, Wd L W → W.cell? ⟨gr, 0 + 0, none⟩ = some (.pointer (some ⟨b0, 0, none⟩))) (l27 : ∀ L W, Wd L W → W.cell? ⟨gy, 0 + 0, none⟩ = some (.pointer (some ⟨y0, 0, none⟩)))
    (c24 : ∀ L W, Wd L W → L 24 = false → Calls Tryd.prog 31 #[(.pointer (some ⟨b0, 0, none⟩))] W fun e w' => e = .returned (.int .i64 d0) ∧ Wd (upd L 24) w') (c28 : ∀ L W, Wd L W → L 28 = false → Calls Tryd.prog 32 #[(.pointer (some ⟨y0, 0, none⟩))] W fun e w' => e = .returned (.int .i64 d0) ∧ Wd (upd L 28) w')
    (l34 : ∀ L W, Wd L W → W.cell? ⟨gr, 0 + 1, none⟩ = some (.pointer (some ⟨b1, 0, none⟩))) (l38 : ∀ L W, Wd L W → W.cell? ⟨gy, 0 + 1, none⟩ = some (.pointer (some ⟨y1, 0, none⟩)))
    (c35 : ∀ L W, Wd L W → L 35 = false → Calls Tryd.prog 31 #[(.pointer (some ⟨b1, 0, none⟩))] W fun e w' => e = .returned (.int .i64 d1) ∧ Wd (upd L 35) w') (c39 : ∀ L W, Wd L W → L 39 = false → Calls Tryd.prog 32 #[(.pointer (some ⟨y1, 0, none⟩))] W fun e w' => e = .returned (.int .i64 d1) ∧ Wd (upd L 39) w')
    (hend : ∀ L W, (∀ i, i < 43 → L i = true) → Wd L W → Q .normal (((((((((((((((((((((((((((((((((((((((((((a0.put (some 142) (.slice (some ⟨gr, 0, none⟩) 2 2)).put (some 143) (.pointer (some ⟨gr, 0 + 0, none⟩))).put (some 144) (.pointer (some ⟨b0, 0, none⟩))).put (some 145) (.int .i64 l0)).put (some 146) (.slice (some ⟨gy, 0, none⟩) 2 2)).put (some 147) (.pointer (some ⟨gy, 0 + 0, none⟩))).put (some 148) (.pointer (some ⟨y0, 0, none⟩))).put (some 149) (.int .i64 l0)).put (some 150) (.bool true)).put (some 151) (.bool true)).put (some 152) (.slice (some ⟨gr, 0, none⟩) 2 2)).put (some 153) (.pointer (some ⟨gr, 0 + 1, none⟩))).put (some 154) (.pointer (some ⟨b1, 0, none⟩))).put (some 155) (.int .i64 l1)).put (some 156) (.slice (some ⟨gy, 0, none⟩) 2 2)).put (some 157) (.pointer (some ⟨gy, 0 + 1, none⟩))).put (some 158) (.pointer (some ⟨y1, 0, none⟩))).put (some 159) (.int .i64 l1)).put (some 160) (.bool true)).put (some 161) (.bool true)).put (some 162) (.bool true)).put (some 163) (.slice (some ⟨gr, 0, none⟩) 2 2)).put (some 164) (.pointer (some ⟨gr, 0 + 0, none⟩))).put (some 165) (.pointer (some ⟨b0, 0, none⟩))).put (some 166) (.int .i64 d0)).put (some 167) (.slice (some ⟨gy, 0, none⟩) 2 2)).put (some 168) (.pointer (some ⟨gy, 0 + 0, none⟩))).put (some 169) (.pointer (some ⟨y0, 0, none⟩))).put (some 170) (.int .i64 d0)).put (some 171) (.bool true)).put (some 172) (.bool true)).put (some 173) (.bool true)).put (some 174) (.slice (some ⟨gr, 0, none⟩) 2 2)).put (some 175) (.pointer (some ⟨gr, 0 + 1, none⟩))).put (some 176) (.pointer (some ⟨b1, 0, none⟩))).put (some 177) (.int .i64 d1)).put (some 178) (.slice (some ⟨gy, 0, none⟩) 2 2)).put (some 179) (.pointer (some ⟨gy, 0 + 1, none⟩))).put (some 180) (.pointer (some ⟨y1, 0, none⟩))).put (some 181) (.int .i64 d1)).put (some 182) (.bool true)).put (some 183) (.bool true)).put (some 6) (.bool true)) W) : (Code.region id ops true).wp Tryd.prog Q a0 w := by
  let val : Nat → Value := fun i => match i with
    | 0 => (.slice (some ⟨gr, 0, none⟩) 2 2)
    | 1 => (.pointer (some ⟨gr, 0 + 0, none⟩))
    | 2 => (.pointer (some ⟨b0, 0, none⟩))
    | 3 => (.int .i64 l0)
    | 4 => (.slice (some ⟨gy, 0, none⟩) 2 2)
    | 5 => (.pointer (some ⟨gy, 0 + 0, none⟩))
    | 6 => (.pointer (some ⟨y0, 0, none⟩))
    | 7 => (.int .i64 l0)
    | 8 => (.bool true)
    | 9 => (.bool true)
    | 10 => (.slice (some ⟨gr, 0, none⟩) 2 2)
    | 11 => (.pointer (some ⟨gr, 0 + 1, none⟩))
    | 12 => (.pointer (some ⟨b1, 0, none⟩))
    | 13 => (.int .i64 l1)
    | 14 => (.slice (some ⟨gy, 0, none⟩) 2 2)
    | 15 => (.pointer (some ⟨gy, 0 + 1, none⟩))
    | 16 => (.pointer (some ⟨y1, 0, none⟩))
    | 17 => (.int .i64 l1)
    | 18 => (.bool true)
    | 19 => (.bool true)
    | 20 => (.bool true)
    | 21 => (.slice (some ⟨gr, 0, none⟩) 2 2)
    | 22 => (.pointer (some ⟨gr, 0 + 0, none⟩))
    | 23 => (.pointer (some ⟨b0, 0, none⟩))
    | 24 => (.int .i64 d0)
    | 25 => (.slice (some ⟨gy, 0, none⟩) 2 2)
    | 26 => (.pointer (some ⟨gy, 0 + 0, none⟩))
    | 27 => (.pointer (some ⟨y0, 0, none⟩))
    | 28 => (.int .i64 d0)
    | 29 => (.bool true)
    | 30 => (.bool true)
    | 31 => (.bool true)
    | 32 => (.slice (some ⟨gr, 0, none⟩) 2 2)
    | 33 => (.pointer (some ⟨gr, 0 + 1, none⟩))
    | 34 => (.pointer (some ⟨b1, 0, none⟩))
    | 35 => (.int .i64 d1)
    | 36 => (.slice (some ⟨gy, 0, none⟩) 2 2)
    | 37 => (.pointer (some ⟨gy, 0 + 1, none⟩))
    | 38 => (.pointer (some ⟨y1, 0, none⟩))
    | 39 => (.int .i64 d1)
    | 40 => (.bool true)
    | 41 => (.bool true)
    | 42 => (.bool true)
    | _ => undef
  have hosz : ops.size = 43 := by
    have := congrArg List.length htab
    simpa [rgeT] using this
  have hds : ∀ i s, (rgeT[i]?).bind (·.2.1) = some s → dstOf ops i = some s := fun i s hi => by rw [tab_dst htab, hi]
  have hdisB : disL rgeT = true := by rfl
  have hdis := disL_of htab hdisB
  have hold : ∀ s, rgeT.all (fun x => !(x.2.1 == some s)) = true → (List.range ops.size).all (fun j => !(dstOf ops j == some s)) = true := fun s h => holdL htab s h
  refine region_detL val Wd (hac_of hac) hdis h0 ?_ ?_
  rotate_left
  · intro L W hall hW
    have := hend L W (by rw [← hosz]; exact hall) hW
    have e : frm ops a0 val (fun _ => true) ops.size = (((((((((((((((((((((((((((((((((((((((((((a0.put (some 142) (.slice (some ⟨gr, 0, none⟩) 2 2)).put (some 143) (.pointer (some ⟨gr, 0 + 0, none⟩))).put (some 144) (.pointer (some ⟨b0, 0, none⟩))).put (some 145) (.int .i64 l0)).put (some 146) (.slice (some ⟨gy, 0, none⟩) 2 2)).put (some 147) (.pointer (some ⟨gy, 0 + 0, none⟩))).put (some 148) (.pointer (some ⟨y0, 0, none⟩))).put (some 149) (.int .i64 l0)).put (some 150) (.bool true)).put (some 151) (.bool true)).put (some 152) (.slice (some ⟨gr, 0, none⟩) 2 2)).put (some 153) (.pointer (some ⟨gr, 0 + 1, none⟩))).put (some 154) (.pointer (some ⟨b1, 0, none⟩))).put (some 155) (.int .i64 l1)).put (some 156) (.slice (some ⟨gy, 0, none⟩) 2 2)).put (some 157) (.pointer (some ⟨gy, 0 + 1, none⟩))).put (some 158) (.pointer (some ⟨y1, 0, none⟩))).put (some 159) (.int .i64 l1)).put (some 160) (.bool true)).put (some 161) (.bool true)).put (some 162) (.bool true)).put (some 163) (.slice (some ⟨gr, 0, none⟩) 2 2)).put (some 164) (.pointer (some ⟨gr, 0 + 0, none⟩))).put (some 165) (.pointer (some ⟨b0, 0, none⟩))).put (some 166) (.int .i64 d0)).put (some 167) (.slice (some ⟨gy, 0, none⟩) 2 2)).put (some 168) (.pointer (some ⟨gy, 0 + 0, none⟩))).put (some 169) (.pointer (some ⟨y0, 0, none⟩))).put (some 170) (.int .i64 d0)).put (some 171) (.bool true)).put (some 172) (.bool true)).put (some 173) (.bool true)).put (some 174) (.slice (some ⟨gr, 0, none⟩) 2 2)).put (some 175) (.pointer (some ⟨gr, 0 + 1, none⟩))).put (some 176) (.pointer (some ⟨b1, 0, none⟩))).put (some 177) (.int .i64 d1)).put (some 178) (.slice (some ⟨gy, 0, none⟩) 2 2)).put (some 179) (.pointer (some ⟨gy, 0 + 1, none⟩))).put (some 180) (.pointer (some ⟨y1, 0, none⟩))).put (some 181) (.int .i64 d1)).put (some 182) (.bool true)).put (some 183) (.bool true)).put (some 6) (.bool true)) := by
      rw [hosz]
      simp only [frm, if_true]
      rw [tab_dst htab 0, tab_dst htab 1, tab_dst htab 2, tab_dst htab 3, tab_dst htab 4, tab_dst htab 5, tab_dst htab 6, tab_dst htab 7, tab_dst htab 8, tab_dst htab 9, tab_dst htab 10, tab_dst htab 11, tab_dst htab 12, tab_dst htab 13, tab_dst htab 14, tab_dst htab 15, tab_dst htab 16, tab_dst htab 17, tab_dst htab 18, tab_dst htab 19, tab_dst htab 20, tab_dst htab 21, tab_dst htab 22, tab_dst htab 23, tab_dst htab 24, tab_dst htab 25, tab_dst htab 26, tab_dst htab 27, tab_dst htab 28, tab_dst htab 29, tab_dst htab 30, tab_dst htab 31, tab_dst htab 32, tab_dst htab 33, tab_dst htab 34, tab_dst htab 35, tab_dst htab 36, tab_dst htab 37, tab_dst htab 38, tab_dst htab 39, tab_dst htab 40, tab_dst htab 41, tab_dst htab 42]
      rfl
    rw [e]
    exact this
  intro i o ho L a w' hL hd ha hW
  have hi : i < 43 := by rw [← hosz]; exact (Array.getElem?_eq_some_iff.1 ho).1
  match i, ho, hL, hi with
  | 0, ho, hL, _ =>
    obtain ⟨hop, hdst, hgd⟩ := tab_at htab ho (show rgeT[0]? = _ from rfl)
    simp only at hop hgd
    have h0 := frm_old ha 8 _ (hold 8 rfl) o8
    exact doesL_run ho (wanted_none hgd) (hpure 0 (by decide) L w' hW) (by rw [run_move _ _ _ hop]; exact congrArg (fun v => Result.ok (Next.value v) w') (eval_of h0))
  | 1, ho, hL, _ =>
    obtain ⟨hop, hdst, hgd⟩ := tab_at htab ho (show rgeT[1]? = _ from rfl)
    simp only at hop hgd
    have h0 := frm_at hdis ha 0 142 (hds 0 142 rfl) (by omega) (depl_of hdep 1 0 (by decide) ho hd)
    exact doesL_run ho (wanted_none hgd) (hpure 1 (by decide) L w' hW) (run_ia45 _ _ _ _ hop _ _ _ _ 0 (show 0 < 2 from by decide) (eval_of h0) rfl _)
  | 2, ho, hL, _ =>
    obtain ⟨hop, hdst, hgd⟩ := tab_at htab ho (show rgeT[2]? = _ from rfl)
    simp only at hop hgd
    have h0 := frm_at hdis ha 1 143 (hds 1 143 rfl) (by omega) (depl_of hdep 2 1 (by decide) ho hd)
    exact doesL_run ho (wanted_none hgd) (hpure 2 (by decide) L w' hW) (run_ld43 _ _ _ hop _ _ (eval_of h0) _ (l2 L w' hW))
  | 3, ho, hL, _ =>
    obtain ⟨hop, hdst, hgd⟩ := tab_at htab ho (show rgeT[3]? = _ from rfl)
    simp only at hop hgd
    have h0 := frm_at hdis ha 2 144 (hds 2 144 rfl) (by omega) (depl_of hdep 3 2 (by decide) ho hd)
    refine doesL_call ho (wanted_none hgd) 33 #[(.pointer (some ⟨b0, 0, none⟩))] ?_ (c3 L w' hW hL)
    rw [run_calls Tryd.func33 (by kernel_rfl) rfl _ _ _ _ hop rfl]
    simp only [List.map_toArray, List.map_cons, List.map_nil, eval_of h0]
    all_goals rfl
  | 4, ho, hL, _ =>
    obtain ⟨hop, hdst, hgd⟩ := tab_at htab ho (show rgeT[4]? = _ from rfl)
    simp only at hop hgd
    have h0 := frm_old ha 9 _ (hold 9 rfl) o9
    exact doesL_run ho (wanted_none hgd) (hpure 4 (by decide) L w' hW) (by rw [run_move _ _ _ hop]; exact congrArg (fun v => Result.ok (Next.value v) w') (eval_of h0))
  | 5, ho, hL, _ =>
    obtain ⟨hop, hdst, hgd⟩ := tab_at htab ho (show rgeT[5]? = _ from rfl)
    simp only at hop hgd
    have h0 := frm_at hdis ha 4 146 (hds 4 146 rfl) (by omega) (depl_of hdep 5 4 (by decide) ho hd)
    exact doesL_run ho (wanted_none hgd) (hpure 5 (by decide) L w' hW) (run_ia48 _ _ _ _ hop _ _ _ _ 0 (show 0 < 2 from by decide) (eval_of h0) rfl _)
  | 6, ho, hL, _ =>
    obtain ⟨hop, hdst, hgd⟩ := tab_at htab ho (show rgeT[6]? = _ from rfl)
    simp only at hop hgd
    have h0 := frm_at hdis ha 5 147 (hds 5 147 rfl) (by omega) (depl_of hdep 6 5 (by decide) ho hd)
    exact doesL_run ho (wanted_none hgd) (hpure 6 (by decide) L w' hW) (run_ld46 _ _ _ hop _ _ (eval_of h0) _ (l6 L w' hW))
  | 7, ho, hL, _ =>
    obtain ⟨hop, hdst, hgd⟩ := tab_at htab ho (show rgeT[7]? = _ from rfl)
    simp only at hop hgd
    have h0 := frm_at hdis ha 6 148 (hds 6 148 rfl) (by omega) (depl_of hdep 7 6 (by decide) ho hd)
    refine doesL_call ho (wanted_none hgd) 34 #[(.pointer (some ⟨y0, 0, none⟩))] ?_ (c7 L w' hW hL)
    rw [run_calls Tryd.func34 (by kernel_rfl) rfl _ _ _ _ hop rfl]
    simp only [List.map_toArray, List.map_cons, List.map_nil, eval_of h0]
    all_goals rfl
  | 8, ho, hL, _ =>
    obtain ⟨hop, hdst, hgd⟩ := tab_at htab ho (show rgeT[8]? = _ from rfl)
    simp only at hop hgd
    have h0 := frm_at hdis ha 3 145 (hds 3 145 rfl) (by omega) (depl_of hdep 8 3 (by decide) ho hd)
    have h1 := frm_at hdis ha 7 149 (hds 7 149 rfl) (by omega) (depl_of hdep 8 7 (by decide) ho hd)
    exact doesL_run ho (wanted_none hgd) (hpure 8 (by decide) L w' hW) (run_same _ _ _ _ _ _ hop _ (eval_of h0) (eval_of h1) _)
  | 9, ho, hL, _ =>
    obtain ⟨hop, hdst, hgd⟩ := tab_at htab ho (show rgeT[9]? = _ from rfl)
    simp only at hop hgd
    have h0 := frm_at hdis ha 8 150 (hds 8 150 rfl) (by omega) (depl_of hdep 9 8 (by decide) ho hd)
    exact doesL_run ho (wanted_none hgd) (hpure 9 (by decide) L w' hW) (by rw [run_move _ _ _ hop]; exact congrArg (fun v => Result.ok (Next.value v) w') (eval_of h0))
  | 10, ho, hL, _ =>
    obtain ⟨hop, hdst, hgd⟩ := tab_at htab ho (show rgeT[10]? = _ from rfl)
    simp only at hop hgd
    have hg := frm_at hdis ha 9 151 (hds 9 151 rfl) (by omega) (depl_of hdep 10 9 (by decide) ho hd)
    have h0 := frm_old ha 8 _ (hold 8 rfl) o8
    exact doesL_run ho (wanted_at (b := true) hgd (hds 9 151 rfl) hg) (hpure 10 (by decide) L w' hW) (by rw [run_move _ _ _ hop]; exact congrArg (fun v => Result.ok (Next.value v) w') (eval_of h0))
  | 11, ho, hL, _ =>
    obtain ⟨hop, hdst, hgd⟩ := tab_at htab ho (show rgeT[11]? = _ from rfl)
    simp only at hop hgd
    have hg := frm_at hdis ha 9 151 (hds 9 151 rfl) (by omega) (depl_of hdep 11 9 (by decide) ho hd)
    have h0 := frm_at hdis ha 10 152 (hds 10 152 rfl) (by omega) (depl_of hdep 11 10 (by decide) ho hd)
    exact doesL_run ho (wanted_at (b := true) hgd (hds 9 151 rfl) hg) (hpure 11 (by decide) L w' hW) (run_ia45 _ _ _ _ hop _ _ _ _ 1 (show 1 < 2 from by decide) (eval_of h0) rfl _)
  | 12, ho, hL, _ =>
    obtain ⟨hop, hdst, hgd⟩ := tab_at htab ho (show rgeT[12]? = _ from rfl)
    simp only at hop hgd
    have hg := frm_at hdis ha 9 151 (hds 9 151 rfl) (by omega) (depl_of hdep 12 9 (by decide) ho hd)
    have h0 := frm_at hdis ha 11 153 (hds 11 153 rfl) (by omega) (depl_of hdep 12 11 (by decide) ho hd)
    exact doesL_run ho (wanted_at (b := true) hgd (hds 9 151 rfl) hg) (hpure 12 (by decide) L w' hW) (run_ld43 _ _ _ hop _ _ (eval_of h0) _ (l12 L w' hW))
  | 13, ho, hL, _ =>
    obtain ⟨hop, hdst, hgd⟩ := tab_at htab ho (show rgeT[13]? = _ from rfl)
    simp only at hop hgd
    have hg := frm_at hdis ha 9 151 (hds 9 151 rfl) (by omega) (depl_of hdep 13 9 (by decide) ho hd)
    have h0 := frm_at hdis ha 12 154 (hds 12 154 rfl) (by omega) (depl_of hdep 13 12 (by decide) ho hd)
    refine doesL_call ho (wanted_at (b := true) hgd (hds 9 151 rfl) hg) 33 #[(.pointer (some ⟨b1, 0, none⟩))] ?_ (c13 L w' hW hL)
    rw [run_calls Tryd.func33 (by kernel_rfl) rfl _ _ _ _ hop rfl]
    simp only [List.map_toArray, List.map_cons, List.map_nil, eval_of h0]
    all_goals rfl
  | 14, ho, hL, _ =>
    obtain ⟨hop, hdst, hgd⟩ := tab_at htab ho (show rgeT[14]? = _ from rfl)
    simp only at hop hgd
    have hg := frm_at hdis ha 9 151 (hds 9 151 rfl) (by omega) (depl_of hdep 14 9 (by decide) ho hd)
    have h0 := frm_old ha 9 _ (hold 9 rfl) o9
    exact doesL_run ho (wanted_at (b := true) hgd (hds 9 151 rfl) hg) (hpure 14 (by decide) L w' hW) (by rw [run_move _ _ _ hop]; exact congrArg (fun v => Result.ok (Next.value v) w') (eval_of h0))
  | 15, ho, hL, _ =>
    obtain ⟨hop, hdst, hgd⟩ := tab_at htab ho (show rgeT[15]? = _ from rfl)
    simp only at hop hgd
    have hg := frm_at hdis ha 9 151 (hds 9 151 rfl) (by omega) (depl_of hdep 15 9 (by decide) ho hd)
    have h0 := frm_at hdis ha 14 156 (hds 14 156 rfl) (by omega) (depl_of hdep 15 14 (by decide) ho hd)
    exact doesL_run ho (wanted_at (b := true) hgd (hds 9 151 rfl) hg) (hpure 15 (by decide) L w' hW) (run_ia48 _ _ _ _ hop _ _ _ _ 1 (show 1 < 2 from by decide) (eval_of h0) rfl _)
  | 16, ho, hL, _ =>
    obtain ⟨hop, hdst, hgd⟩ := tab_at htab ho (show rgeT[16]? = _ from rfl)
    simp only at hop hgd
    have hg := frm_at hdis ha 9 151 (hds 9 151 rfl) (by omega) (depl_of hdep 16 9 (by decide) ho hd)
    have h0 := frm_at hdis ha 15 157 (hds 15 157 rfl) (by omega) (depl_of hdep 16 15 (by decide) ho hd)
    exact doesL_run ho (wanted_at (b := true) hgd (hds 9 151 rfl) hg) (hpure 16 (by decide) L w' hW) (run_ld46 _ _ _ hop _ _ (eval_of h0) _ (l16 L w' hW))
  | 17, ho, hL, _ =>
    obtain ⟨hop, hdst, hgd⟩ := tab_at htab ho (show rgeT[17]? = _ from rfl)
    simp only at hop hgd
    have hg := frm_at hdis ha 9 151 (hds 9 151 rfl) (by omega) (depl_of hdep 17 9 (by decide) ho hd)
    have h0 := frm_at hdis ha 16 158 (hds 16 158 rfl) (by omega) (depl_of hdep 17 16 (by decide) ho hd)
    refine doesL_call ho (wanted_at (b := true) hgd (hds 9 151 rfl) hg) 34 #[(.pointer (some ⟨y1, 0, none⟩))] ?_ (c17 L w' hW hL)
    rw [run_calls Tryd.func34 (by kernel_rfl) rfl _ _ _ _ hop rfl]
    simp only [List.map_toArray, List.map_cons, List.map_nil, eval_of h0]
    all_goals rfl
  | 18, ho, hL, _ =>
    obtain ⟨hop, hdst, hgd⟩ := tab_at htab ho (show rgeT[18]? = _ from rfl)
    simp only at hop hgd
    have hg := frm_at hdis ha 9 151 (hds 9 151 rfl) (by omega) (depl_of hdep 18 9 (by decide) ho hd)
    have h0 := frm_at hdis ha 13 155 (hds 13 155 rfl) (by omega) (depl_of hdep 18 13 (by decide) ho hd)
    have h1 := frm_at hdis ha 17 159 (hds 17 159 rfl) (by omega) (depl_of hdep 18 17 (by decide) ho hd)
    exact doesL_run ho (wanted_at (b := true) hgd (hds 9 151 rfl) hg) (hpure 18 (by decide) L w' hW) (run_same _ _ _ _ _ _ hop _ (eval_of h0) (eval_of h1) _)
  | 19, ho, hL, _ =>
    obtain ⟨hop, hdst, hgd⟩ := tab_at htab ho (show rgeT[19]? = _ from rfl)
    simp only at hop hgd
    have h0 := frm_at hdis ha 9 151 (hds 9 151 rfl) (by omega) (depl_of hdep 19 9 (by decide) ho hd)
    have h1 := frm_at hdis ha 18 160 (hds 18 160 rfl) (by omega) (depl_of hdep 19 18 (by decide) ho hd)
    exact doesL_run ho (wanted_none hgd) (hpure 19 (by decide) L w' hW) (by rw [run_pick _ _ _ _ _ hop true (eval_of h0)]; exact congrArg (fun v => Result.ok (Next.value v) w') (eval_of h1))
  | 20, ho, hL, _ =>
    obtain ⟨hop, hdst, hgd⟩ := tab_at htab ho (show rgeT[20]? = _ from rfl)
    simp only at hop hgd
    have h0 := frm_at hdis ha 19 161 (hds 19 161 rfl) (by omega) (depl_of hdep 20 19 (by decide) ho hd)
    exact doesL_run ho (wanted_none hgd) (hpure 20 (by decide) L w' hW) (by rw [run_move _ _ _ hop]; exact congrArg (fun v => Result.ok (Next.value v) w') (eval_of h0))
  | 21, ho, hL, _ =>
    obtain ⟨hop, hdst, hgd⟩ := tab_at htab ho (show rgeT[21]? = _ from rfl)
    simp only at hop hgd
    have hg := frm_at hdis ha 20 162 (hds 20 162 rfl) (by omega) (depl_of hdep 21 20 (by decide) ho hd)
    have h0 := frm_old ha 8 _ (hold 8 rfl) o8
    exact doesL_run ho (wanted_at (b := true) hgd (hds 20 162 rfl) hg) (hpure 21 (by decide) L w' hW) (by rw [run_move _ _ _ hop]; exact congrArg (fun v => Result.ok (Next.value v) w') (eval_of h0))
  | 22, ho, hL, _ =>
    obtain ⟨hop, hdst, hgd⟩ := tab_at htab ho (show rgeT[22]? = _ from rfl)
    simp only at hop hgd
    have hg := frm_at hdis ha 20 162 (hds 20 162 rfl) (by omega) (depl_of hdep 22 20 (by decide) ho hd)
    have h0 := frm_at hdis ha 21 163 (hds 21 163 rfl) (by omega) (depl_of hdep 22 21 (by decide) ho hd)
    exact doesL_run ho (wanted_at (b := true) hgd (hds 20 162 rfl) hg) (hpure 22 (by decide) L w' hW) (run_ia45 _ _ _ _ hop _ _ _ _ 0 (show 0 < 2 from by decide) (eval_of h0) rfl _)
  | 23, ho, hL, _ =>
    obtain ⟨hop, hdst, hgd⟩ := tab_at htab ho (show rgeT[23]? = _ from rfl)
    simp only at hop hgd
    have hg := frm_at hdis ha 20 162 (hds 20 162 rfl) (by omega) (depl_of hdep 23 20 (by decide) ho hd)
    have h0 := frm_at hdis ha 22 164 (hds 22 164 rfl) (by omega) (depl_of hdep 23 22 (by decide) ho hd)
    exact doesL_run ho (wanted_at (b := true) hgd (hds 20 162 rfl) hg) (hpure 23 (by decide) L w' hW) (run_ld43 _ _ _ hop _ _ (eval_of h0) _ (l23 L w' hW))
  | 24, ho, hL, _ =>
    obtain ⟨hop, hdst, hgd⟩ := tab_at htab ho (show rgeT[24]? = _ from rfl)
    simp only at hop hgd
    have hg := frm_at hdis ha 20 162 (hds 20 162 rfl) (by omega) (depl_of hdep 24 20 (by decide) ho hd)
    have h0 := frm_at hdis ha 23 165 (hds 23 165 rfl) (by omega) (depl_of hdep 24 23 (by decide) ho hd)
    refine doesL_call ho (wanted_at (b := true) hgd (hds 20 162 rfl) hg) 31 #[(.pointer (some ⟨b0, 0, none⟩))] ?_ (c24 L w' hW hL)
    rw [run_calls Tryd.func31 (by kernel_rfl) rfl _ _ _ _ hop rfl]
    simp only [List.map_toArray, List.map_cons, List.map_nil, eval_of h0]
    all_goals rfl
  | 25, ho, hL, _ =>
    obtain ⟨hop, hdst, hgd⟩ := tab_at htab ho (show rgeT[25]? = _ from rfl)
    simp only at hop hgd
    have hg := frm_at hdis ha 20 162 (hds 20 162 rfl) (by omega) (depl_of hdep 25 20 (by decide) ho hd)
    have h0 := frm_old ha 9 _ (hold 9 rfl) o9
    exact doesL_run ho (wanted_at (b := true) hgd (hds 20 162 rfl) hg) (hpure 25 (by decide) L w' hW) (by rw [run_move _ _ _ hop]; exact congrArg (fun v => Result.ok (Next.value v) w') (eval_of h0))
  | 26, ho, hL, _ =>
    obtain ⟨hop, hdst, hgd⟩ := tab_at htab ho (show rgeT[26]? = _ from rfl)
    simp only at hop hgd
    have hg := frm_at hdis ha 20 162 (hds 20 162 rfl) (by omega) (depl_of hdep 26 20 (by decide) ho hd)
    have h0 := frm_at hdis ha 25 167 (hds 25 167 rfl) (by omega) (depl_of hdep 26 25 (by decide) ho hd)
    exact doesL_run ho (wanted_at (b := true) hgd (hds 20 162 rfl) hg) (hpure 26 (by decide) L w' hW) (run_ia48 _ _ _ _ hop _ _ _ _ 0 (show 0 < 2 from by decide) (eval_of h0) rfl _)
  | 27, ho, hL, _ =>
    obtain ⟨hop, hdst, hgd⟩ := tab_at htab ho (show rgeT[27]? = _ from rfl)
    simp only at hop hgd
    have hg := frm_at hdis ha 20 162 (hds 20 162 rfl) (by omega) (depl_of hdep 27 20 (by decide) ho hd)
    have h0 := frm_at hdis ha 26 168 (hds 26 168 rfl) (by omega) (depl_of hdep 27 26 (by decide) ho hd)
    exact doesL_run ho (wanted_at (b := true) hgd (hds 20 162 rfl) hg) (hpure 27 (by decide) L w' hW) (run_ld46 _ _ _ hop _ _ (eval_of h0) _ (l27 L w' hW))
  | 28, ho, hL, _ =>
    obtain ⟨hop, hdst, hgd⟩ := tab_at htab ho (show rgeT[28]? = _ from rfl)
    simp only at hop hgd
    have hg := frm_at hdis ha 20 162 (hds 20 162 rfl) (by omega) (depl_of hdep 28 20 (by decide) ho hd)
    have h0 := frm_at hdis ha 27 169 (hds 27 169 rfl) (by omega) (depl_of hdep 28 27 (by decide) ho hd)
    refine doesL_call ho (wanted_at (b := true) hgd (hds 20 162 rfl) hg) 32 #[(.pointer (some ⟨y0, 0, none⟩))] ?_ (c28 L w' hW hL)
    rw [run_calls Tryd.func32 (by kernel_rfl) rfl _ _ _ _ hop rfl]
    simp only [List.map_toArray, List.map_cons, List.map_nil, eval_of h0]
    all_goals rfl
  | 29, ho, hL, _ =>
    obtain ⟨hop, hdst, hgd⟩ := tab_at htab ho (show rgeT[29]? = _ from rfl)
    simp only at hop hgd
    have hg := frm_at hdis ha 20 162 (hds 20 162 rfl) (by omega) (depl_of hdep 29 20 (by decide) ho hd)
    have h0 := frm_at hdis ha 24 166 (hds 24 166 rfl) (by omega) (depl_of hdep 29 24 (by decide) ho hd)
    have h1 := frm_at hdis ha 28 170 (hds 28 170 rfl) (by omega) (depl_of hdep 29 28 (by decide) ho hd)
    exact doesL_run ho (wanted_at (b := true) hgd (hds 20 162 rfl) hg) (hpure 29 (by decide) L w' hW) (run_same _ _ _ _ _ _ hop _ (eval_of h0) (eval_of h1) _)
  | 30, ho, hL, _ =>
    obtain ⟨hop, hdst, hgd⟩ := tab_at htab ho (show rgeT[30]? = _ from rfl)
    simp only at hop hgd
    have h0 := frm_at hdis ha 20 162 (hds 20 162 rfl) (by omega) (depl_of hdep 30 20 (by decide) ho hd)
    have h1 := frm_at hdis ha 29 171 (hds 29 171 rfl) (by omega) (depl_of hdep 30 29 (by decide) ho hd)
    exact doesL_run ho (wanted_none hgd) (hpure 30 (by decide) L w' hW) (by rw [run_pick _ _ _ _ _ hop true (eval_of h0)]; exact congrArg (fun v => Result.ok (Next.value v) w') (eval_of h1))
  | 31, ho, hL, _ =>
    obtain ⟨hop, hdst, hgd⟩ := tab_at htab ho (show rgeT[31]? = _ from rfl)
    simp only at hop hgd
    have h0 := frm_at hdis ha 30 172 (hds 30 172 rfl) (by omega) (depl_of hdep 31 30 (by decide) ho hd)
    exact doesL_run ho (wanted_none hgd) (hpure 31 (by decide) L w' hW) (by rw [run_move _ _ _ hop]; exact congrArg (fun v => Result.ok (Next.value v) w') (eval_of h0))
  | 32, ho, hL, _ =>
    obtain ⟨hop, hdst, hgd⟩ := tab_at htab ho (show rgeT[32]? = _ from rfl)
    simp only at hop hgd
    have hg := frm_at hdis ha 31 173 (hds 31 173 rfl) (by omega) (depl_of hdep 32 31 (by decide) ho hd)
    have h0 := frm_old ha 8 _ (hold 8 rfl) o8
    exact doesL_run ho (wanted_at (b := true) hgd (hds 31 173 rfl) hg) (hpure 32 (by decide) L w' hW) (by rw [run_move _ _ _ hop]; exact congrArg (fun v => Result.ok (Next.value v) w') (eval_of h0))
  | 33, ho, hL, _ =>
    obtain ⟨hop, hdst, hgd⟩ := tab_at htab ho (show rgeT[33]? = _ from rfl)
    simp only at hop hgd
    have hg := frm_at hdis ha 31 173 (hds 31 173 rfl) (by omega) (depl_of hdep 33 31 (by decide) ho hd)
    have h0 := frm_at hdis ha 32 174 (hds 32 174 rfl) (by omega) (depl_of hdep 33 32 (by decide) ho hd)
    exact doesL_run ho (wanted_at (b := true) hgd (hds 31 173 rfl) hg) (hpure 33 (by decide) L w' hW) (run_ia45 _ _ _ _ hop _ _ _ _ 1 (show 1 < 2 from by decide) (eval_of h0) rfl _)
  | 34, ho, hL, _ =>
    obtain ⟨hop, hdst, hgd⟩ := tab_at htab ho (show rgeT[34]? = _ from rfl)
    simp only at hop hgd
    have hg := frm_at hdis ha 31 173 (hds 31 173 rfl) (by omega) (depl_of hdep 34 31 (by decide) ho hd)
    have h0 := frm_at hdis ha 33 175 (hds 33 175 rfl) (by omega) (depl_of hdep 34 33 (by decide) ho hd)
    exact doesL_run ho (wanted_at (b := true) hgd (hds 31 173 rfl) hg) (hpure 34 (by decide) L w' hW) (run_ld43 _ _ _ hop _ _ (eval_of h0) _ (l34 L w' hW))
  | 35, ho, hL, _ =>
    obtain ⟨hop, hdst, hgd⟩ := tab_at htab ho (show rgeT[35]? = _ from rfl)
    simp only at hop hgd
    have hg := frm_at hdis ha 31 173 (hds 31 173 rfl) (by omega) (depl_of hdep 35 31 (by decide) ho hd)
    have h0 := frm_at hdis ha 34 176 (hds 34 176 rfl) (by omega) (depl_of hdep 35 34 (by decide) ho hd)
    refine doesL_call ho (wanted_at (b := true) hgd (hds 31 173 rfl) hg) 31 #[(.pointer (some ⟨b1, 0, none⟩))] ?_ (c35 L w' hW hL)
    rw [run_calls Tryd.func31 (by kernel_rfl) rfl _ _ _ _ hop rfl]
    simp only [List.map_toArray, List.map_cons, List.map_nil, eval_of h0]
    all_goals rfl
  | 36, ho, hL, _ =>
    obtain ⟨hop, hdst, hgd⟩ := tab_at htab ho (show rgeT[36]? = _ from rfl)
    simp only at hop hgd
    have hg := frm_at hdis ha 31 173 (hds 31 173 rfl) (by omega) (depl_of hdep 36 31 (by decide) ho hd)
    have h0 := frm_old ha 9 _ (hold 9 rfl) o9
    exact doesL_run ho (wanted_at (b := true) hgd (hds 31 173 rfl) hg) (hpure 36 (by decide) L w' hW) (by rw [run_move _ _ _ hop]; exact congrArg (fun v => Result.ok (Next.value v) w') (eval_of h0))
  | 37, ho, hL, _ =>
    obtain ⟨hop, hdst, hgd⟩ := tab_at htab ho (show rgeT[37]? = _ from rfl)
    simp only at hop hgd
    have hg := frm_at hdis ha 31 173 (hds 31 173 rfl) (by omega) (depl_of hdep 37 31 (by decide) ho hd)
    have h0 := frm_at hdis ha 36 178 (hds 36 178 rfl) (by omega) (depl_of hdep 37 36 (by decide) ho hd)
    exact doesL_run ho (wanted_at (b := true) hgd (hds 31 173 rfl) hg) (hpure 37 (by decide) L w' hW) (run_ia48 _ _ _ _ hop _ _ _ _ 1 (show 1 < 2 from by decide) (eval_of h0) rfl _)
  | 38, ho, hL, _ =>
    obtain ⟨hop, hdst, hgd⟩ := tab_at htab ho (show rgeT[38]? = _ from rfl)
    simp only at hop hgd
    have hg := frm_at hdis ha 31 173 (hds 31 173 rfl) (by omega) (depl_of hdep 38 31 (by decide) ho hd)
    have h0 := frm_at hdis ha 37 179 (hds 37 179 rfl) (by omega) (depl_of hdep 38 37 (by decide) ho hd)
    exact doesL_run ho (wanted_at (b := true) hgd (hds 31 173 rfl) hg) (hpure 38 (by decide) L w' hW) (run_ld46 _ _ _ hop _ _ (eval_of h0) _ (l38 L w' hW))
  | 39, ho, hL, _ =>
    obtain ⟨hop, hdst, hgd⟩ := tab_at htab ho (show rgeT[39]? = _ from rfl)
    simp only at hop hgd
    have hg := frm_at hdis ha 31 173 (hds 31 173 rfl) (by omega) (depl_of hdep 39 31 (by decide) ho hd)
    have h0 := frm_at hdis ha 38 180 (hds 38 180 rfl) (by omega) (depl_of hdep 39 38 (by decide) ho hd)
    refine doesL_call ho (wanted_at (b := true) hgd (hds 31 173 rfl) hg) 32 #[(.pointer (some ⟨y1, 0, none⟩))] ?_ (c39 L w' hW hL)
    rw [run_calls Tryd.func32 (by kernel_rfl) rfl _ _ _ _ hop rfl]
    simp only [List.map_toArray, List.map_cons, List.map_nil, eval_of h0]
    all_goals rfl
  | 40, ho, hL, _ =>
    obtain ⟨hop, hdst, hgd⟩ := tab_at htab ho (show rgeT[40]? = _ from rfl)
    simp only at hop hgd
    have hg := frm_at hdis ha 31 173 (hds 31 173 rfl) (by omega) (depl_of hdep 40 31 (by decide) ho hd)
    have h0 := frm_at hdis ha 35 177 (hds 35 177 rfl) (by omega) (depl_of hdep 40 35 (by decide) ho hd)
    have h1 := frm_at hdis ha 39 181 (hds 39 181 rfl) (by omega) (depl_of hdep 40 39 (by decide) ho hd)
    exact doesL_run ho (wanted_at (b := true) hgd (hds 31 173 rfl) hg) (hpure 40 (by decide) L w' hW) (run_same _ _ _ _ _ _ hop _ (eval_of h0) (eval_of h1) _)
  | 41, ho, hL, _ =>
    obtain ⟨hop, hdst, hgd⟩ := tab_at htab ho (show rgeT[41]? = _ from rfl)
    simp only at hop hgd
    have h0 := frm_at hdis ha 31 173 (hds 31 173 rfl) (by omega) (depl_of hdep 41 31 (by decide) ho hd)
    have h1 := frm_at hdis ha 40 182 (hds 40 182 rfl) (by omega) (depl_of hdep 41 40 (by decide) ho hd)
    exact doesL_run ho (wanted_none hgd) (hpure 41 (by decide) L w' hW) (by rw [run_pick _ _ _ _ _ hop true (eval_of h0)]; exact congrArg (fun v => Result.ok (Next.value v) w') (eval_of h1))
  | 42, ho, hL, _ =>
    obtain ⟨hop, hdst, hgd⟩ := tab_at htab ho (show rgeT[42]? = _ from rfl)
    simp only at hop hgd
    have h0 := frm_at hdis ha 41 183 (hds 41 183 rfl) (by omega) (depl_of hdep 42 41 (by decide) ho hd)
    exact doesL_run ho (wanted_none hgd) (hpure 42 (by decide) L w' hW) (by rw [run_assign _ _ _ hop]; exact congrArg (fun v => Result.ok (Next.value v) w') (eval_of h0))
  | (i + 43), ho, hL, hi => exact absurd hi (by omega)
def rgsT : List (Op × Option Tmp × Option (Nat × Bool)) := [
  (.move (.tmp 3), some 15, none),
  (.call { callee := .value (.func 22), args := #[(.tmp 15), (.const (.int .i64 100))], argTypes := #[3, 3] }, some 16, none),
  (.move (.tmp 0), some 17, none),
  (.move (.tmp 4), some 18, none),
  (.indexAddr 22 (.tmp 17) (.tmp 18), some 19, none),
  (.fieldAddr 33 (.tmp 19) 4, some 20, none),
  (.load 9 (.tmp 20), some 21, none),
  (.call { callee := .builtin .len, args := #[(.tmp 21)], argTypes := #[9] }, some 22, none),
  (.move (.tmp 0), some 23, none),
  (.move (.tmp 4), some 24, none),
  (.indexAddr 22 (.tmp 23) (.tmp 24), some 25, none),
  (.fieldAddr 33 (.tmp 25) 5, some 26, none),
  (.load 31 (.tmp 26), some 27, none),
  (.call { callee := .builtin .len, args := #[(.tmp 27)], argTypes := #[31] }, some 28, none),
  (.call { callee := .builtin .min, args := #[(.tmp 28), (.const (.int .i64 2147483647))], argTypes := #[3, 3] }, some 29, none),
  (.binOp .mul 3 (.const (.int .i64 8)) (.tmp 29) 3, some 30, none),
  (.call { callee := .value (.func 22), args := #[(.tmp 22), (.tmp 30)], argTypes := #[3, 3] }, some 31, none),
  (.call { callee := .value (.func 22), args := #[(.tmp 16), (.tmp 31)], argTypes := #[3, 3] }, some 32, none),
  (.assign (.tmp 32), some 3, none)]
def rgsD : List (Nat × Nat) := [(1, 0), (4, 2), (4, 3), (5, 4), (6, 5), (7, 6), (10, 8), (10, 9), (11, 10), (12, 11), (13, 12), (14, 13), (15, 14), (16, 7), (16, 15), (17, 1), (17, 16), (18, 0), (18, 17)]
set_option maxHeartbeats 2000000 in
theorem rgs {ops : Array Oper} {id : Nat} {Q : Exit → Act → World → Prop} (p q n cap k c ln lc mn d1 d2 d3 : Nat) (lp : Option Addr) (s : List UInt8) (htab : ops.toList.map (fun o => (o.op, o.dst, o.guard)) = rgsT) (hdep : deplB rgsD ops = true) (hac : acB ops = true)
    (a0 : Act) (w : World) (hsz : 33 ≤ a0.tmps.size) (o0 : a0.tmps[0]? = some (.slice (some ⟨p, q, none⟩) n cap)) (o3 : a0.tmps[3]? = some (.int .i64 (c : Int))) (o4 : a0.tmps[4]? = some (.int .i64 (k : Int)))
    (Wd : (Nat → Bool) → World → Prop) (h0 : Wd (fun _ => false) w.drew) (hpure : ∀ i, i ∉ ([1, 16, 17, 18] : List Nat) → ∀ L W, Wd L W → Wd (upd L i) W)
    (hcl18 : ∀ L W, Wd L W → L 18 = true → L 0 = true) (hpure18 : ∀ L W, Wd L W → L 0 = true → Wd (upd L 18) W) (i4 : k < n) (i10 : k < n)
    (l6 : ∀ L W, Wd L W → W.cell? ⟨p, q + k * 6 + 4, none⟩ = some (.string ⟨s.toArray⟩)) (l12 : ∀ L W, Wd L W → W.cell? ⟨p, q + k * 6 + 5, none⟩ = some (.slice lp ln lc))
    (m14 : Value.int .i64 (if (2147483647 : Int) < (ln : Int) then 2147483647 else (ln : Int)) = .int .i64 (mn : Int)) (m15 : -9223372036854775808 ≤ 8 * (mn : Int) ∧ 8 * (mn : Int) ≤ 9223372036854775807)
    (c1 : ∀ L W, Wd L W → L 1 = false → Calls Tryd.prog 22 #[.int .i64 (c : Int), .int .i64 100] W fun e w' => e = .returned (.int .i64 (d1 : Int)) ∧ Wd (upd L 1) w')
    (c16 : ∀ L W, Wd L W → L 16 = false → Calls Tryd.prog 22 #[.int .i64 (s.length : Int), .int .i64 (8 * (mn : Int))] W fun e w' => e = .returned (.int .i64 (d2 : Int)) ∧ Wd (upd L 16) w')
    (c17 : ∀ L W, Wd L W → L 17 = false → Calls Tryd.prog 22 #[.int .i64 (d1 : Int), .int .i64 (d2 : Int)] W fun e w' => e = .returned (.int .i64 (d3 : Int)) ∧ Wd (upd L 17) w')
    (hend : ∀ L W, (∀ i, i < 19 → L i = true) → Wd L W → Q .normal (((((((((((((((((((a0.put (some 15) (.int .i64 (c : Int))).put (some 16) (.int .i64 (d1 : Int))).put (some 17) (.slice (some ⟨p, q, none⟩) n cap)).put (some 18) (.int .i64 (k : Int))).put (some 19) (.pointer (some ⟨p, q + k * 6, none⟩))).put (some 20) (.pointer (some ⟨p, q + k * 6 + 4, none⟩))).put (some 21) (.string ⟨s.toArray⟩)).put (some 22) (.int .i64 (s.length : Int))).put (some 23) (.slice (some ⟨p, q, none⟩) n cap)).put (some 24) (.int .i64 (k : Int))).put (some 25) (.pointer (some ⟨p, q + k * 6, none⟩))).put (some 26) (.pointer (some ⟨p, q + k * 6 + 5, none⟩))).put (some 27) (.slice lp ln lc)).put (some 28) (.int .i64 (ln : Int))).put (some 29) (.int .i64 (mn : Int))).put (some 30) (.int .i64 (8 * (mn : Int)))).put (some 31) (.int .i64 (d2 : Int))).put (some 32) (.int .i64 (d3 : Int))).put (some 3) (.int .i64 (d3 : Int))) W) : (Code.region id ops true).wp Tryd.prog Q a0 w := by
  let val : Nat → Value := fun i => match i with
    | 0 => (.int .i64 (c : Int))
    | 1 => (.int .i64 (d1 : Int))
    | 2 => (.slice (some ⟨p, q, none⟩) n cap)
    | 3 => (.int .i64 (k : Int))
    | 4 => (.pointer (some ⟨p, q + k * 6, none⟩))
    | 5 => (.pointer (some ⟨p, q + k * 6 + 4, none⟩))
    | 6 => (.string ⟨s.toArray⟩)
    | 7 => (.int .i64 (s.length : Int))
    | 8 => (.slice (some ⟨p, q, none⟩) n cap)
    | 9 => (.int .i64 (k : Int))
    | 10 => (.pointer (some ⟨p, q + k * 6, none⟩))
    | 11 => (.pointer (some ⟨p, q + k * 6 + 5, none⟩))
    | 12 => (.slice lp ln lc)
    | 13 => (.int .i64 (ln : Int))
    | 14 => (.int .i64 (mn : Int))
    | 15 => (.int .i64 (8 * (mn : Int)))
    | 16 => (.int .i64 (d2 : Int))
    | 17 => (.int .i64 (d3 : Int))
    | 18 => (.int .i64 (d3 : Int))
    | _ => undef
  have hosz : ops.size = 19 := by
    have := congrArg List.length htab
    simpa [rgsT] using this
  have hds : ∀ i s, (rgsT[i]?).bind (·.2.1) = some s → dstOf ops i = some s := fun i s hi => by rw [tab_dst htab, hi]
  have hdisB : disL rgsT = true := by rfl
  have hdis := disL_of htab hdisB
  have hold : ∀ s, rgsT.all (fun x => !(x.2.1 == some s)) = true → (List.range ops.size).all (fun j => !(dstOf ops j == some s)) = true := fun s h => holdL htab s h
  refine region_detL val Wd (hac_of hac) hdis h0 ?_ ?_
  rotate_left
  · intro L W hall hW
    have := hend L W (by rw [← hosz]; exact hall) hW
    have e : frm ops a0 val (fun _ => true) ops.size = (((((((((((((((((((a0.put (some 15) (.int .i64 (c : Int))).put (some 16) (.int .i64 (d1 : Int))).put (some 17) (.slice (some ⟨p, q, none⟩) n cap)).put (some 18) (.int .i64 (k : Int))).put (some 19) (.pointer (some ⟨p, q + k * 6, none⟩))).put (some 20) (.pointer (some ⟨p, q + k * 6 + 4, none⟩))).put (some 21) (.string ⟨s.toArray⟩)).put (some 22) (.int .i64 (s.length : Int))).put (some 23) (.slice (some ⟨p, q, none⟩) n cap)).put (some 24) (.int .i64 (k : Int))).put (some 25) (.pointer (some ⟨p, q + k * 6, none⟩))).put (some 26) (.pointer (some ⟨p, q + k * 6 + 5, none⟩))).put (some 27) (.slice lp ln lc)).put (some 28) (.int .i64 (ln : Int))).put (some 29) (.int .i64 (mn : Int))).put (some 30) (.int .i64 (8 * (mn : Int)))).put (some 31) (.int .i64 (d2 : Int))).put (some 32) (.int .i64 (d3 : Int))).put (some 3) (.int .i64 (d3 : Int))) := by
      rw [hosz]
      simp only [frm, if_true]
      rw [tab_dst htab 0, tab_dst htab 1, tab_dst htab 2, tab_dst htab 3, tab_dst htab 4, tab_dst htab 5, tab_dst htab 6, tab_dst htab 7, tab_dst htab 8, tab_dst htab 9, tab_dst htab 10, tab_dst htab 11, tab_dst htab 12, tab_dst htab 13, tab_dst htab 14, tab_dst htab 15, tab_dst htab 16, tab_dst htab 17, tab_dst htab 18]
      rfl
    rw [e]
    exact this
  intro i o ho L a w' hL hd ha hW
  have hi : i < 19 := by rw [← hosz]; exact (Array.getElem?_eq_some_iff.1 ho).1
  match i, ho, hL, hi with
  | 0, ho, hL, _ =>
    obtain ⟨hop, hdst, hgd⟩ := tab_at htab ho (show rgsT[0]? = _ from rfl)
    simp only at hop hgd
    have h0 : a.tmps[3]? = some (.int .i64 (c : Int)) := by rw [ha, frm_late a0 val L 3 18 (Bool.eq_false_iff.2 (fun h => by have := hcl18 L w' hW h; rw [hL] at this; cases this)) ops.size (late_of htab (by rfl))]; exact o3
    exact doesL_run ho (wanted_none hgd) (hpure 0 (by decide) L w' hW) (by rw [run_move _ _ _ hop]; exact congrArg (fun v => Result.ok (Next.value v) w') (eval_of h0))
  | 1, ho, hL, _ =>
    obtain ⟨hop, hdst, hgd⟩ := tab_at htab ho (show rgsT[1]? = _ from rfl)
    simp only at hop hgd
    have h0 := frm_at hdis ha 0 15 (hds 0 15 rfl) (by omega) (depl_of hdep 1 0 (by decide) ho hd)
    refine doesL_call ho (wanted_none hgd) 22 #[.int .i64 (c : Int), .int .i64 100] ?_ (c1 L w' hW hL)
    rw [run_calls Tryd.func22 (by kernel_rfl) rfl _ _ _ _ hop rfl]
    simp only [List.map_toArray, List.map_cons, List.map_nil, eval_of h0]
    all_goals rfl
  | 2, ho, hL, _ =>
    obtain ⟨hop, hdst, hgd⟩ := tab_at htab ho (show rgsT[2]? = _ from rfl)
    simp only at hop hgd
    have h0 := frm_old ha 0 _ (hold 0 rfl) o0
    exact doesL_run ho (wanted_none hgd) (hpure 2 (by decide) L w' hW) (by rw [run_move _ _ _ hop]; exact congrArg (fun v => Result.ok (Next.value v) w') (eval_of h0))
  | 3, ho, hL, _ =>
    obtain ⟨hop, hdst, hgd⟩ := tab_at htab ho (show rgsT[3]? = _ from rfl)
    simp only at hop hgd
    have h0 := frm_old ha 4 _ (hold 4 rfl) o4
    exact doesL_run ho (wanted_none hgd) (hpure 3 (by decide) L w' hW) (by rw [run_move _ _ _ hop]; exact congrArg (fun v => Result.ok (Next.value v) w') (eval_of h0))
  | 4, ho, hL, _ =>
    obtain ⟨hop, hdst, hgd⟩ := tab_at htab ho (show rgsT[4]? = _ from rfl)
    simp only at hop hgd
    have h0 := frm_at hdis ha 2 17 (hds 2 17 rfl) (by omega) (depl_of hdep 4 2 (by decide) ho hd)
    have h1 := frm_at hdis ha 3 18 (hds 3 18 rfl) (by omega) (depl_of hdep 4 3 (by decide) ho hd)
    exact doesL_run ho (wanted_none hgd) (hpure 4 (by decide) L w' hW) (run_ia22 _ _ _ _ hop _ _ _ _ _ i4 (eval_of h0) (eval_of h1) _)
  | 5, ho, hL, _ =>
    obtain ⟨hop, hdst, hgd⟩ := tab_at htab ho (show rgsT[5]? = _ from rfl)
    simp only at hop hgd
    have h0 := frm_at hdis ha 4 19 (hds 4 19 rfl) (by omega) (depl_of hdep 5 4 (by decide) ho hd)
    exact doesL_run ho (wanted_none hgd) (hpure 5 (by decide) L w' hW) (run_f33 _ _ _ 4 (by decide) hop _ _ (eval_of h0) _)
  | 6, ho, hL, _ =>
    obtain ⟨hop, hdst, hgd⟩ := tab_at htab ho (show rgsT[6]? = _ from rfl)
    simp only at hop hgd
    have h0 := frm_at hdis ha 5 20 (hds 5 20 rfl) (by omega) (depl_of hdep 6 5 (by decide) ho hd)
    exact doesL_run ho (wanted_none hgd) (hpure 6 (by decide) L w' hW) (run_ld _ _ _ hop _ _ (eval_of h0) _ (l6 L w' hW))
  | 7, ho, hL, _ =>
    obtain ⟨hop, hdst, hgd⟩ := tab_at htab ho (show rgsT[7]? = _ from rfl)
    simp only at hop hgd
    have h0 := frm_at hdis ha 6 21 (hds 6 21 rfl) (by omega) (depl_of hdep 7 6 (by decide) ho hd)
    exact doesL_run ho (wanted_none hgd) (hpure 7 (by decide) L w' hW) (run_len _ _ _ hop _ (eval_of h0) _)
  | 8, ho, hL, _ =>
    obtain ⟨hop, hdst, hgd⟩ := tab_at htab ho (show rgsT[8]? = _ from rfl)
    simp only at hop hgd
    have h0 := frm_old ha 0 _ (hold 0 rfl) o0
    exact doesL_run ho (wanted_none hgd) (hpure 8 (by decide) L w' hW) (by rw [run_move _ _ _ hop]; exact congrArg (fun v => Result.ok (Next.value v) w') (eval_of h0))
  | 9, ho, hL, _ =>
    obtain ⟨hop, hdst, hgd⟩ := tab_at htab ho (show rgsT[9]? = _ from rfl)
    simp only at hop hgd
    have h0 := frm_old ha 4 _ (hold 4 rfl) o4
    exact doesL_run ho (wanted_none hgd) (hpure 9 (by decide) L w' hW) (by rw [run_move _ _ _ hop]; exact congrArg (fun v => Result.ok (Next.value v) w') (eval_of h0))
  | 10, ho, hL, _ =>
    obtain ⟨hop, hdst, hgd⟩ := tab_at htab ho (show rgsT[10]? = _ from rfl)
    simp only at hop hgd
    have h0 := frm_at hdis ha 8 23 (hds 8 23 rfl) (by omega) (depl_of hdep 10 8 (by decide) ho hd)
    have h1 := frm_at hdis ha 9 24 (hds 9 24 rfl) (by omega) (depl_of hdep 10 9 (by decide) ho hd)
    exact doesL_run ho (wanted_none hgd) (hpure 10 (by decide) L w' hW) (run_ia22 _ _ _ _ hop _ _ _ _ _ i10 (eval_of h0) (eval_of h1) _)
  | 11, ho, hL, _ =>
    obtain ⟨hop, hdst, hgd⟩ := tab_at htab ho (show rgsT[11]? = _ from rfl)
    simp only at hop hgd
    have h0 := frm_at hdis ha 10 25 (hds 10 25 rfl) (by omega) (depl_of hdep 11 10 (by decide) ho hd)
    exact doesL_run ho (wanted_none hgd) (hpure 11 (by decide) L w' hW) (run_f33 _ _ _ 5 (by decide) hop _ _ (eval_of h0) _)
  | 12, ho, hL, _ =>
    obtain ⟨hop, hdst, hgd⟩ := tab_at htab ho (show rgsT[12]? = _ from rfl)
    simp only at hop hgd
    have h0 := frm_at hdis ha 11 26 (hds 11 26 rfl) (by omega) (depl_of hdep 12 11 (by decide) ho hd)
    exact doesL_run ho (wanted_none hgd) (hpure 12 (by decide) L w' hW) (run_ld31 _ _ _ hop _ _ (eval_of h0) _ (l12 L w' hW))
  | 13, ho, hL, _ =>
    obtain ⟨hop, hdst, hgd⟩ := tab_at htab ho (show rgsT[13]? = _ from rfl)
    simp only at hop hgd
    have h0 := frm_at hdis ha 12 27 (hds 12 27 rfl) (by omega) (depl_of hdep 13 12 (by decide) ho hd)
    exact doesL_run ho (wanted_none hgd) (hpure 13 (by decide) L w' hW) (run_lenS _ _ _ hop _ _ _ (eval_of h0) _)
  | 14, ho, hL, _ =>
    obtain ⟨hop, hdst, hgd⟩ := tab_at htab ho (show rgsT[14]? = _ from rfl)
    simp only at hop hgd
    have h0 := frm_at hdis ha 13 28 (hds 13 28 rfl) (by omega) (depl_of hdep 14 13 (by decide) ho hd)
    exact doesL_run ho (wanted_none hgd) (hpure 14 (by decide) L w' hW) ((run_min _ _ _ _ _ hop _ _ (eval_of h0) rfl _).trans (congrArg (fun v => Result.ok (Next.value v) w') m14))
  | 15, ho, hL, _ =>
    obtain ⟨hop, hdst, hgd⟩ := tab_at htab ho (show rgsT[15]? = _ from rfl)
    simp only at hop hgd
    have h1 := frm_at hdis ha 14 29 (hds 14 29 rfl) (by omega) (depl_of hdep 15 14 (by decide) ho hd)
    exact doesL_run ho (wanted_none hgd) (hpure 15 (by decide) L w' hW) (run_mul _ _ _ _ hop _ _ rfl (eval_of h1) (m15).1 (m15).2 _)
  | 16, ho, hL, _ =>
    obtain ⟨hop, hdst, hgd⟩ := tab_at htab ho (show rgsT[16]? = _ from rfl)
    simp only at hop hgd
    have h0 := frm_at hdis ha 7 22 (hds 7 22 rfl) (by omega) (depl_of hdep 16 7 (by decide) ho hd)
    have h1 := frm_at hdis ha 15 30 (hds 15 30 rfl) (by omega) (depl_of hdep 16 15 (by decide) ho hd)
    refine doesL_call ho (wanted_none hgd) 22 #[.int .i64 (s.length : Int), .int .i64 (8 * (mn : Int))] ?_ (c16 L w' hW hL)
    rw [run_calls Tryd.func22 (by kernel_rfl) rfl _ _ _ _ hop rfl]
    simp only [List.map_toArray, List.map_cons, List.map_nil, eval_of h0, eval_of h1]
    all_goals rfl
  | 17, ho, hL, _ =>
    obtain ⟨hop, hdst, hgd⟩ := tab_at htab ho (show rgsT[17]? = _ from rfl)
    simp only at hop hgd
    have h0 := frm_at hdis ha 1 16 (hds 1 16 rfl) (by omega) (depl_of hdep 17 1 (by decide) ho hd)
    have h1 := frm_at hdis ha 16 31 (hds 16 31 rfl) (by omega) (depl_of hdep 17 16 (by decide) ho hd)
    refine doesL_call ho (wanted_none hgd) 22 #[.int .i64 (d1 : Int), .int .i64 (d2 : Int)] ?_ (c17 L w' hW hL)
    rw [run_calls Tryd.func22 (by kernel_rfl) rfl _ _ _ _ hop rfl]
    simp only [List.map_toArray, List.map_cons, List.map_nil, eval_of h0, eval_of h1]
    all_goals rfl
  | 18, ho, hL, _ =>
    obtain ⟨hop, hdst, hgd⟩ := tab_at htab ho (show rgsT[18]? = _ from rfl)
    simp only at hop hgd
    have h0 := frm_at hdis ha 17 32 (hds 17 32 rfl) (by omega) (depl_of hdep 18 17 (by decide) ho hd)
    exact doesL_run ho (wanted_none hgd) (hpure18 L w' hW (depl_of hdep 18 0 (by decide) ho hd)) (by rw [run_assign _ _ _ hop]; exact congrArg (fun v => Result.ok (Next.value v) w') (eval_of h0))
  | (i + 19), ho, hL, hi => exact absurd hi (by omega)
end Go.Proofs.YthddilflldkmfaaDoor
