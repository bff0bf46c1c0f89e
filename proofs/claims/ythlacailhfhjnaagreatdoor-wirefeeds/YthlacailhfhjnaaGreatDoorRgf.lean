import Derived.Test.YthlacailhfhjnaaGreatDoorZdetl
import Derived.Test.YthlacailhfhjnaaGreatDoorZwbd
namespace Go.Proofs.YthlacailhfhjnaaGreatDoor
open Go.RowKit Go.Lib
def rfdT : List (Op × Option Tmp × Option (Nat × Bool)) := [
  (.move (.tmp 6), some 50, none),
  (.fieldAddr 89 (.tmp 9) 0, some 51, none),
  (.load 9 (.tmp 51), some 52, none),
  (.fieldAddr 89 (.tmp 9) 1, some 53, none),
  (.load 9 (.tmp 53), some 54, none),
  (.move (.tmp 0), some 55, none),
  (.nilCheck (.tmp 55), some 56, none),
  (.fieldAddr 84 (.tmp 56) 0, some 57, none),
  (.load 80 (.tmp 57), some 58, none),
  (.nilCheck (.tmp 58), some 59, none),
  (.fieldAddr 91 (.tmp 59) 5, some 60, none),
  (.load 22 (.tmp 60), some 61, none),
  (.move (.tmp 0), some 62, none),
  (.nilCheck (.tmp 62), some 63, none),
  (.fieldAddr 84 (.tmp 63) 0, some 64, none),
  (.load 80 (.tmp 64), some 65, none),
  (.nilCheck (.tmp 65), some 66, none),
  (.fieldAddr 91 (.tmp 66) 7, some 67, none),
  (.load 9 (.tmp 67), some 68, none),
  (.build 24 #[(0, (.tmp 52)), (1, (.tmp 54)), (2, (.tmp 61)), (3, (.tmp 68))], some 69, none),
  (.buildSlice 54 1 #[(0, (.tmp 69))], some 70, none),
  (.call { callee := .builtin .append, args := #[(.tmp 50), (.tmp 70)], argTypes := #[54, 54] }, some 71, none),
  (.assign (.tmp 71), some 6, none)]
def rfdD : List (Nat × Nat) := [(2, 1), (4, 3), (6, 5), (7, 6), (8, 7), (9, 8), (10, 9), (11, 10), (13, 12), (14, 13), (15, 14), (16, 15), (17, 16), (18, 17), (19, 2), (19, 4), (19, 11), (19, 18), (20, 19), (21, 0), (21, 20), (22, 0), (22, 21)]
set_option maxHeartbeats 2000000 in
theorem rfd {ops : Array Oper} {id : Nat} {Q : Exit → Act → World → Prop} (R P F N0 n cv m ca : Nat) (pv pa : Option Addr) (a b d : Bs) (V2 : Value) (htab : ops.toList.map (fun o => (o.op, o.dst, o.guard)) = rfdT) (hdep : deplB rfdD ops = true) (hac : acB ops = true)
    (a0 : Act) (w : World) (hsz : 72 ≤ a0.tmps.size) (o0 : a0.tmps[0]? = some (.pointer (some ⟨R, 0, none⟩))) (o6 : a0.tmps[6]? = some (.slice pv n cv)) (o9 : a0.tmps[9]? = some (.pointer (some ⟨F, 0, none⟩)))
    (Wd : (Nat → Bool) → World → Prop) (h0 : Wd (fun _ => false) w.drew) (hpure : ∀ i, i ∉ ([20, 21, 22] : List Nat) → ∀ L W, Wd L W → Wd (upd L i) W)
    (hcl22 : ∀ L W, Wd L W → L 22 = true → L 0 = true) (hpure22 : ∀ L W, Wd L W → L 0 = true → Wd (upd L 22) W)
    (l2 : ∀ L W, Wd L W → W.cell? ⟨F, 0 + 0, none⟩ = some (S a)) (l4 : ∀ L W, Wd L W → W.cell? ⟨F, 0 + 1, none⟩ = some (S b)) (l8 : ∀ L W, Wd L W → W.cell? ⟨R, 0 + 0, none⟩ = some (.pointer (some ⟨P, 0, none⟩))) (l15 : ∀ L W, Wd L W → W.cell? ⟨R, 0 + 0, none⟩ = some (.pointer (some ⟨P, 0, none⟩)))
    (l11 : ∀ L W, Wd L W → W.cell? ⟨P, 0 + 7, none⟩ = some (.slice pa m ca)) (l18 : ∀ L W, Wd L W → W.cell? ⟨P, 0 + 9, none⟩ = some (S d))
    (n20 : ∀ L W, Wd L W → L 20 = false → Wd (upd L 20) (W.alloc (.cells #[S a, S b, .slice pa m ca, S d] 24)) ∧ W.heap.size = N0)
    (n21 : ∀ tt L W, Wd L W → L 21 = false → L 0 = true → L 20 = true → ∃ W', (Builtin.append_ #[54, 54] tt #[.slice pv n cv, .slice (some ⟨N0, 0, none⟩) 1 1]).run Tryz.prog W = .ok V2 W' ∧ Wd (upd L 21) W')
    (hend : ∀ L W, (∀ i, i < 23 → L i = true) → Wd L W → Q .normal (((((((((((((((((((((((a0.put (some 50) (.slice pv n cv)).put (some 51) (.pointer (some ⟨F, 0 + 0, none⟩))).put (some 52) (S a)).put (some 53) (.pointer (some ⟨F, 0 + 1, none⟩))).put (some 54) (S b)).put (some 55) (.pointer (some ⟨R, 0, none⟩))).put (some 56) (.pointer (some ⟨R, 0, none⟩))).put (some 57) (.pointer (some ⟨R, 0 + 0, none⟩))).put (some 58) (.pointer (some ⟨P, 0, none⟩))).put (some 59) (.pointer (some ⟨P, 0, none⟩))).put (some 60) (.pointer (some ⟨P, 0 + 7, none⟩))).put (some 61) (.slice pa m ca)).put (some 62) (.pointer (some ⟨R, 0, none⟩))).put (some 63) (.pointer (some ⟨R, 0, none⟩))).put (some 64) (.pointer (some ⟨R, 0 + 0, none⟩))).put (some 65) (.pointer (some ⟨P, 0, none⟩))).put (some 66) (.pointer (some ⟨P, 0, none⟩))).put (some 67) (.pointer (some ⟨P, 0 + 9, none⟩))).put (some 68) (S d)).put (some 69) (.agg #[S a, S b, .slice pa m ca, S d])).put (some 70) (.slice (some ⟨N0, 0, none⟩) 1 1)).put (some 71) V2).put (some 6) V2) W) : (Code.region id ops true).wp Tryz.prog Q a0 w := by
  let val : Nat → Value := fun i => match i with
    | 0 => (.slice pv n cv)
    | 1 => (.pointer (some ⟨F, 0 + 0, none⟩))
    | 2 => (S a)
    | 3 => (.pointer (some ⟨F, 0 + 1, none⟩))
    | 4 => (S b)
    | 5 => (.pointer (some ⟨R, 0, none⟩))
    | 6 => (.pointer (some ⟨R, 0, none⟩))
    | 7 => (.pointer (some ⟨R, 0 + 0, none⟩))
    | 8 => (.pointer (some ⟨P, 0, none⟩))
    | 9 => (.pointer (some ⟨P, 0, none⟩))
    | 10 => (.pointer (some ⟨P, 0 + 7, none⟩))
    | 11 => (.slice pa m ca)
    | 12 => (.pointer (some ⟨R, 0, none⟩))
    | 13 => (.pointer (some ⟨R, 0, none⟩))
    | 14 => (.pointer (some ⟨R, 0 + 0, none⟩))
    | 15 => (.pointer (some ⟨P, 0, none⟩))
    | 16 => (.pointer (some ⟨P, 0, none⟩))
    | 17 => (.pointer (some ⟨P, 0 + 9, none⟩))
    | 18 => (S d)
    | 19 => (.agg #[S a, S b, .slice pa m ca, S d])
    | 20 => (.slice (some ⟨N0, 0, none⟩) 1 1)
    | 21 => V2
    | 22 => V2
    | _ => undef
  have hosz : ops.size = 23 := by
    have := congrArg List.length htab
    simpa [rfdT] using this
  have hds : ∀ i s, (rfdT[i]?).bind (·.2.1) = some s → dstOf ops i = some s := fun i s hi => by rw [tab_dst htab, hi]
  have hdisB : disL rfdT = true := by rfl
  have hdis := disL_of htab hdisB
  have hold : ∀ s, rfdT.all (fun x => !(x.2.1 == some s)) = true → (List.range ops.size).all (fun j => !(dstOf ops j == some s)) = true := fun s h => holdL htab s h
  refine region_detL val Wd (hac_of hac) hdis h0 ?_ ?_
  rotate_left
  · intro L W hall hW
    have := hend L W (by rw [← hosz]; exact hall) hW
    have e : frm ops a0 val (fun _ => true) ops.size = (((((((((((((((((((((((a0.put (some 50) (.slice pv n cv)).put (some 51) (.pointer (some ⟨F, 0 + 0, none⟩))).put (some 52) (S a)).put (some 53) (.pointer (some ⟨F, 0 + 1, none⟩))).put (some 54) (S b)).put (some 55) (.pointer (some ⟨R, 0, none⟩))).put (some 56) (.pointer (some ⟨R, 0, none⟩))).put (some 57) (.pointer (some ⟨R, 0 + 0, none⟩))).put (some 58) (.pointer (some ⟨P, 0, none⟩))).put (some 59) (.pointer (some ⟨P, 0, none⟩))).put (some 60) (.pointer (some ⟨P, 0 + 7, none⟩))).put (some 61) (.slice pa m ca)).put (some 62) (.pointer (some ⟨R, 0, none⟩))).put (some 63) (.pointer (some ⟨R, 0, none⟩))).put (some 64) (.pointer (some ⟨R, 0 + 0, none⟩))).put (some 65) (.pointer (some ⟨P, 0, none⟩))).put (some 66) (.pointer (some ⟨P, 0, none⟩))).put (some 67) (.pointer (some ⟨P, 0 + 9, none⟩))).put (some 68) (S d)).put (some 69) (.agg #[S a, S b, .slice pa m ca, S d])).put (some 70) (.slice (some ⟨N0, 0, none⟩) 1 1)).put (some 71) V2).put (some 6) V2) := by
      rw [hosz]
      simp only [frm, if_true]
      rw [tab_dst htab 0, tab_dst htab 1, tab_dst htab 2, tab_dst htab 3, tab_dst htab 4, tab_dst htab 5, tab_dst htab 6, tab_dst htab 7, tab_dst htab 8, tab_dst htab 9, tab_dst htab 10, tab_dst htab 11, tab_dst htab 12, tab_dst htab 13, tab_dst htab 14, tab_dst htab 15, tab_dst htab 16, tab_dst htab 17, tab_dst htab 18, tab_dst htab 19, tab_dst htab 20, tab_dst htab 21, tab_dst htab 22]
      rfl
    rw [e]
    exact this
  intro i o ho L a w' hL hd ha hW
  have hi : i < 23 := by rw [← hosz]; exact (Array.getElem?_eq_some_iff.1 ho).1
  match i, ho, hL, hi with
  | 0, ho, hL, _ =>
    obtain ⟨hop, hdst, hgd⟩ := tab_at htab ho (show rfdT[0]? = _ from rfl)
    simp only at hop hgd
    have h0 : a.tmps[6]? = some (.slice pv n cv) := by rw [ha, frm_late a0 val L 6 22 (Bool.eq_false_iff.2 (fun h => by have := hcl22 L w' hW h; rw [hL] at this; cases this)) ops.size (late_of htab (by rfl))]; exact o6
    exact doesL_run ho (wanted_none hgd) (hpure 0 (by decide) L w' hW) (by rw [run_move _ _ _ hop]; exact congrArg (fun v => Result.ok (Next.value v) w') (eval_of h0))
  | 1, ho, hL, _ =>
    obtain ⟨hop, hdst, hgd⟩ := tab_at htab ho (show rfdT[1]? = _ from rfl)
    simp only at hop hgd
    have h0 := frm_old ha 9 _ (hold 9 rfl) o9
    exact doesL_run ho (wanted_none hgd) (hpure 1 (by decide) L w' hW) (run_f89_0 _ _ _ hop _ _ (eval_of h0) _)
  | 2, ho, hL, _ =>
    obtain ⟨hop, hdst, hgd⟩ := tab_at htab ho (show rfdT[2]? = _ from rfl)
    simp only at hop hgd
    have h0 := frm_at hdis ha 1 51 (hds 1 51 rfl) (by omega) (depl_of hdep 2 1 (by decide) ho hd)
    exact doesL_run ho (wanted_none hgd) (hpure 2 (by decide) L w' hW) (run_ld _ _ _ hop _ _ (eval_of h0) _ (l2 L w' hW))
  | 3, ho, hL, _ =>
    obtain ⟨hop, hdst, hgd⟩ := tab_at htab ho (show rfdT[3]? = _ from rfl)
    simp only at hop hgd
    have h0 := frm_old ha 9 _ (hold 9 rfl) o9
    exact doesL_run ho (wanted_none hgd) (hpure 3 (by decide) L w' hW) (run_f89_1 _ _ _ hop _ _ (eval_of h0) _)
  | 4, ho, hL, _ =>
    obtain ⟨hop, hdst, hgd⟩ := tab_at htab ho (show rfdT[4]? = _ from rfl)
    simp only at hop hgd
    have h0 := frm_at hdis ha 3 53 (hds 3 53 rfl) (by omega) (depl_of hdep 4 3 (by decide) ho hd)
    exact doesL_run ho (wanted_none hgd) (hpure 4 (by decide) L w' hW) (run_ld _ _ _ hop _ _ (eval_of h0) _ (l4 L w' hW))
  | 5, ho, hL, _ =>
    obtain ⟨hop, hdst, hgd⟩ := tab_at htab ho (show rfdT[5]? = _ from rfl)
    simp only at hop hgd
    have h0 := frm_old ha 0 _ (hold 0 rfl) o0
    exact doesL_run ho (wanted_none hgd) (hpure 5 (by decide) L w' hW) (by rw [run_move _ _ _ hop]; exact congrArg (fun v => Result.ok (Next.value v) w') (eval_of h0))
  | 6, ho, hL, _ =>
    obtain ⟨hop, hdst, hgd⟩ := tab_at htab ho (show rfdT[6]? = _ from rfl)
    simp only at hop hgd
    have h0 := frm_at hdis ha 5 55 (hds 5 55 rfl) (by omega) (depl_of hdep 6 5 (by decide) ho hd)
    exact doesL_run ho (wanted_none hgd) (hpure 6 (by decide) L w' hW) (run_nil _ _ _ hop _ (eval_of h0) _)
  | 7, ho, hL, _ =>
    obtain ⟨hop, hdst, hgd⟩ := tab_at htab ho (show rfdT[7]? = _ from rfl)
    simp only at hop hgd
    have h0 := frm_at hdis ha 6 56 (hds 6 56 rfl) (by omega) (depl_of hdep 7 6 (by decide) ho hd)
    exact doesL_run ho (wanted_none hgd) (hpure 7 (by decide) L w' hW) (run_f84_0 _ _ _ hop _ _ (eval_of h0) _)
  | 8, ho, hL, _ =>
    obtain ⟨hop, hdst, hgd⟩ := tab_at htab ho (show rfdT[8]? = _ from rfl)
    simp only at hop hgd
    have h0 := frm_at hdis ha 7 57 (hds 7 57 rfl) (by omega) (depl_of hdep 8 7 (by decide) ho hd)
    exact doesL_run ho (wanted_none hgd) (hpure 8 (by decide) L w' hW) (run_ld80 _ _ _ hop _ _ (eval_of h0) _ (l8 L w' hW))
  | 9, ho, hL, _ =>
    obtain ⟨hop, hdst, hgd⟩ := tab_at htab ho (show rfdT[9]? = _ from rfl)
    simp only at hop hgd
    have h0 := frm_at hdis ha 8 58 (hds 8 58 rfl) (by omega) (depl_of hdep 9 8 (by decide) ho hd)
    exact doesL_run ho (wanted_none hgd) (hpure 9 (by decide) L w' hW) (run_nil _ _ _ hop _ (eval_of h0) _)
  | 10, ho, hL, _ =>
    obtain ⟨hop, hdst, hgd⟩ := tab_at htab ho (show rfdT[10]? = _ from rfl)
    simp only at hop hgd
    have h0 := frm_at hdis ha 9 59 (hds 9 59 rfl) (by omega) (depl_of hdep 10 9 (by decide) ho hd)
    exact doesL_run ho (wanted_none hgd) (hpure 10 (by decide) L w' hW) (run_f91_5 _ _ _ hop _ _ (eval_of h0) _)
  | 11, ho, hL, _ =>
    obtain ⟨hop, hdst, hgd⟩ := tab_at htab ho (show rfdT[11]? = _ from rfl)
    simp only at hop hgd
    have h0 := frm_at hdis ha 10 60 (hds 10 60 rfl) (by omega) (depl_of hdep 11 10 (by decide) ho hd)
    exact doesL_run ho (wanted_none hgd) (hpure 11 (by decide) L w' hW) (run_ld22 _ _ _ hop _ _ (eval_of h0) _ (l11 L w' hW))
  | 12, ho, hL, _ =>
    obtain ⟨hop, hdst, hgd⟩ := tab_at htab ho (show rfdT[12]? = _ from rfl)
    simp only at hop hgd
    have h0 := frm_old ha 0 _ (hold 0 rfl) o0
    exact doesL_run ho (wanted_none hgd) (hpure 12 (by decide) L w' hW) (by rw [run_move _ _ _ hop]; exact congrArg (fun v => Result.ok (Next.value v) w') (eval_of h0))
  | 13, ho, hL, _ =>
    obtain ⟨hop, hdst, hgd⟩ := tab_at htab ho (show rfdT[13]? = _ from rfl)
    simp only at hop hgd
    have h0 := frm_at hdis ha 12 62 (hds 12 62 rfl) (by omega) (depl_of hdep 13 12 (by decide) ho hd)
    exact doesL_run ho (wanted_none hgd) (hpure 13 (by decide) L w' hW) (run_nil _ _ _ hop _ (eval_of h0) _)
  | 14, ho, hL, _ =>
    obtain ⟨hop, hdst, hgd⟩ := tab_at htab ho (show rfdT[14]? = _ from rfl)
    simp only at hop hgd
    have h0 := frm_at hdis ha 13 63 (hds 13 63 rfl) (by omega) (depl_of hdep 14 13 (by decide) ho hd)
    exact doesL_run ho (wanted_none hgd) (hpure 14 (by decide) L w' hW) (run_f84_0 _ _ _ hop _ _ (eval_of h0) _)
  | 15, ho, hL, _ =>
    obtain ⟨hop, hdst, hgd⟩ := tab_at htab ho (show rfdT[15]? = _ from rfl)
    simp only at hop hgd
    have h0 := frm_at hdis ha 14 64 (hds 14 64 rfl) (by omega) (depl_of hdep 15 14 (by decide) ho hd)
    exact doesL_run ho (wanted_none hgd) (hpure 15 (by decide) L w' hW) (run_ld80 _ _ _ hop _ _ (eval_of h0) _ (l15 L w' hW))
  | 16, ho, hL, _ =>
    obtain ⟨hop, hdst, hgd⟩ := tab_at htab ho (show rfdT[16]? = _ from rfl)
    simp only at hop hgd
    have h0 := frm_at hdis ha 15 65 (hds 15 65 rfl) (by omega) (depl_of hdep 16 15 (by decide) ho hd)
    exact doesL_run ho (wanted_none hgd) (hpure 16 (by decide) L w' hW) (run_nil _ _ _ hop _ (eval_of h0) _)
  | 17, ho, hL, _ =>
    obtain ⟨hop, hdst, hgd⟩ := tab_at htab ho (show rfdT[17]? = _ from rfl)
    simp only at hop hgd
    have h0 := frm_at hdis ha 16 66 (hds 16 66 rfl) (by omega) (depl_of hdep 17 16 (by decide) ho hd)
    exact doesL_run ho (wanted_none hgd) (hpure 17 (by decide) L w' hW) (run_f91_7 _ _ _ hop _ _ (eval_of h0) _)
  | 18, ho, hL, _ =>
    obtain ⟨hop, hdst, hgd⟩ := tab_at htab ho (show rfdT[18]? = _ from rfl)
    simp only at hop hgd
    have h0 := frm_at hdis ha 17 67 (hds 17 67 rfl) (by omega) (depl_of hdep 18 17 (by decide) ho hd)
    exact doesL_run ho (wanted_none hgd) (hpure 18 (by decide) L w' hW) (run_ld _ _ _ hop _ _ (eval_of h0) _ (l18 L w' hW))
  | 19, ho, hL, _ =>
    obtain ⟨hop, hdst, hgd⟩ := tab_at htab ho (show rfdT[19]? = _ from rfl)
    simp only at hop hgd
    have h0 := frm_at hdis ha 2 52 (hds 2 52 rfl) (by omega) (depl_of hdep 19 2 (by decide) ho hd)
    have h1 := frm_at hdis ha 4 54 (hds 4 54 rfl) (by omega) (depl_of hdep 19 4 (by decide) ho hd)
    have h2 := frm_at hdis ha 11 61 (hds 11 61 rfl) (by omega) (depl_of hdep 19 11 (by decide) ho hd)
    have h3 := frm_at hdis ha 18 68 (hds 18 68 rfl) (by omega) (depl_of hdep 19 18 (by decide) ho hd)
    exact doesL_run ho (wanted_none hgd) (hpure 19 (by decide) L w' hW) (run_build24 _ _ _ _ _ _ hop _ _ _ _ _ _ (eval_of h0) (eval_of h1) (eval_of h2) (eval_of h3) _)
  | 20, ho, hL, _ =>
    obtain ⟨hop, hdst, hgd⟩ := tab_at htab ho (show rfdT[20]? = _ from rfl)
    simp only at hop hgd
    have h0 := frm_at hdis ha 19 69 (hds 19 69 rfl) (by omega) (depl_of hdep 20 19 (by decide) ho hd)
    exact doesL_runw ho (wanted_none hgd) (n20 L w' hW hL).1 ((run_bs54 _ _ _ hop _ _ _ _ _ _ (eval_of h0) _).trans (by rw [(n20 L w' hW hL).2]; rfl))
  | 21, ho, hL, _ =>
    obtain ⟨hop, hdst, hgd⟩ := tab_at htab ho (show rfdT[21]? = _ from rfl)
    simp only at hop hgd
    have h0 := frm_at hdis ha 0 50 (hds 0 50 rfl) (by omega) (depl_of hdep 21 0 (by decide) ho hd)
    have h1 := frm_at hdis ha 20 70 (hds 20 70 rfl) (by omega) (depl_of hdep 21 20 (by decide) ho hd)
    obtain ⟨W', q1, q2⟩ := n21 o.type L w' hW hL (depl_of hdep 21 0 (by decide) ho hd) (depl_of hdep 21 20 (by decide) ho hd)
    exact doesL_runw ho (wanted_none hgd) q2 (run_app _ _ _ _ _ hop _ _ _ (eval_of h0) (eval_of h1) _ _ q1)
  | 22, ho, hL, _ =>
    obtain ⟨hop, hdst, hgd⟩ := tab_at htab ho (show rfdT[22]? = _ from rfl)
    simp only at hop hgd
    have h0 := frm_at hdis ha 21 71 (hds 21 71 rfl) (by omega) (depl_of hdep 22 21 (by decide) ho hd)
    exact doesL_run ho (wanted_none hgd) (hpure22 L w' hW (depl_of hdep 22 0 (by decide) ho hd)) (by rw [run_assign _ _ _ hop]; exact congrArg (fun v => Result.ok (Next.value v) w') (eval_of h0))
  | (i + 23), ho, hL, hi => exact absurd hi (by omega)
end Go.Proofs.YthlacailhfhjnaaGreatDoor
