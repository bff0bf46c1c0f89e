import Derived.Test.YtknlafgaagimjaaDoorOpz
namespace Go.Proofs.YtknlafgaagimjaaDoor
open Go.RowKit Go.Lib
def rghT : List (Op × Option Tmp × Option (Nat × Bool)) := [
  (.move (.tmp 12), some 117, none),
  (.move (.tmp 23), some 118, none),
  (.indexAddr 25 (.tmp 117) (.tmp 118), some 119, none),
  (.load 24 (.tmp 119), some 120, none),
  (.move (.tmp 13), some 121, none),
  (.move (.tmp 23), some 122, none),
  (.indexAddr 25 (.tmp 121) (.tmp 122), some 123, none),
  (.load 24 (.tmp 123), some 124, none),
  (.call { callee := .value (.func 12), args := #[(.tmp 120), (.tmp 124)], argTypes := #[24, 24] }, some 125, none),
  (.assign (.tmp 125), some 24, none)]
def rghD : List (Nat × Nat) := [(2, 0), (2, 1), (3, 2), (6, 4), (6, 5), (7, 6), (8, 3), (8, 7), (9, 8)]
set_option maxHeartbeats 2000000 in
theorem rgh {ops : Array Oper} {id : Nat} {Q : Exit → Act → World → Prop} (G nb cb H nw cw r nv cv nv2 cv2 : Nat) (pv pw : Option Addr) (htab : ops.toList.map (fun o => (o.op, o.dst, o.guard)) = rghT) (hdep : deplB rghD ops = true) (hac : acB ops = true)
    (a0 : Act) (w : World) (hsz : 126 ≤ a0.tmps.size) (o12 : a0.tmps[12]? = some (.slice (some ⟨G, 0, none⟩) nb cb)) (o13 : a0.tmps[13]? = some (.slice (some ⟨H, 0, none⟩) nw cw)) (o23 : a0.tmps[23]? = some (.int .i64 (r : Int)))
    (Wd : (Nat → Bool) → World → Prop) (h0 : Wd (fun _ => false) w.drew) (hpure : ∀ i, i ∉ ([8] : List Nat) → ∀ L W, Wd L W → Wd (upd L i) W)
    (i2 : r < nb) (i6 : r < nw) (l3 : ∀ L W, Wd L W → W.cell? ⟨G, 0 + r, none⟩ = some (.slice pv nv cv)) (l7 : ∀ L W, Wd L W → W.cell? ⟨H, 0 + r, none⟩ = some (.slice pw nv2 cv2))
    (c8 : ∀ L W, Wd L W → L 8 = false → Calls Tryd.prog 12 #[.slice pv nv cv, .slice pw nv2 cv2] W fun e w' => e = .returned (.bool true) ∧ Wd (upd L 8) w')
    (hend : ∀ L W, (∀ i, i < 10 → L i = true) → Wd L W → Q .normal ((((((((((a0.put (some 117) (.slice (some ⟨G, 0, none⟩) nb cb)).put (some 118) (.int .i64 (r : Int))).put (some 119) (.pointer (some ⟨G, 0 + r, none⟩))).put (some 120) (.slice pv nv cv)).put (some 121) (.slice (some ⟨H, 0, none⟩) nw cw)).put (some 122) (.int .i64 (r : Int))).put (some 123) (.pointer (some ⟨H, 0 + r, none⟩))).put (some 124) (.slice pw nv2 cv2)).put (some 125) (.bool true)).put (some 24) (.bool true)) W) : (Code.region id ops true).wp Tryd.prog Q a0 w := by
  let val : Nat → Value := fun i => match i with
    | 0 => (.slice (some ⟨G, 0, none⟩) nb cb)
    | 1 => (.int .i64 (r : Int))
    | 2 => (.pointer (some ⟨G, 0 + r, none⟩))
    | 3 => (.slice pv nv cv)
    | 4 => (.slice (some ⟨H, 0, none⟩) nw cw)
    | 5 => (.int .i64 (r : Int))
    | 6 => (.pointer (some ⟨H, 0 + r, none⟩))
    | 7 => (.slice pw nv2 cv2)
    | 8 => (.bool true)
    | 9 => (.bool true)
    | _ => undef
  have hosz : ops.size = 10 := by
    have := congrArg List.length htab
    simpa [rghT] using this
  have hds : ∀ i s, (rghT[i]?).bind (·.2.1) = some s → dstOf ops i = some s := fun i s hi => by rw [tab_dst htab, hi]
  have hdisB : disL rghT = true := by rfl
  have hdis := disL_of htab hdisB
  have hold : ∀ s, rghT.all (fun x => !(x.2.1 == some s)) = true → (List.range ops.size).all (fun j => !(dstOf ops j == some s)) = true := fun s h => holdL htab s h
  refine region_detL val Wd (hac_of hac) hdis h0 ?_ ?_
  rotate_left
  · intro L W hall hW
    have := hend L W (by rw [← hosz]; exact hall) hW
    have e : frm ops a0 val (fun _ => true) ops.size = ((((((((((a0.put (some 117) (.slice (some ⟨G, 0, none⟩) nb cb)).put (some 118) (.int .i64 (r : Int))).put (some 119) (.pointer (some ⟨G, 0 + r, none⟩))).put (some 120) (.slice pv nv cv)).put (some 121) (.slice (some ⟨H, 0, none⟩) nw cw)).put (some 122) (.int .i64 (r : Int))).put (some 123) (.pointer (some ⟨H, 0 + r, none⟩))).put (some 124) (.slice pw nv2 cv2)).put (some 125) (.bool true)).put (some 24) (.bool true)) := by
      rw [hosz]
      simp only [frm, if_true]
      rw [tab_dst htab 0, tab_dst htab 1, tab_dst htab 2, tab_dst htab 3, tab_dst htab 4, tab_dst htab 5, tab_dst htab 6, tab_dst htab 7, tab_dst htab 8, tab_dst htab 9]
      rfl
    rw [e]
    exact this
  intro i o ho L a w' hL hd ha hW
  have hi : i < 10 := by rw [← hosz]; exact (Array.getElem?_eq_some_iff.1 ho).1
  match i, ho, hL, hi with
  | 0, ho, hL, _ =>
    obtain ⟨hop, hdst, hgd⟩ := tab_at htab ho (show rghT[0]? = _ from rfl)
    simp only at hop hgd
    have h0 := frm_old ha 12 _ (hold 12 rfl) o12
    exact doesL_run ho (wanted_none hgd) (hpure 0 (by decide) L w' hW) (by rw [run_move _ _ _ hop]; exact congrArg (fun v => Result.ok (Next.value v) w') (eval_of h0))
  | 1, ho, hL, _ =>
    obtain ⟨hop, hdst, hgd⟩ := tab_at htab ho (show rghT[1]? = _ from rfl)
    simp only at hop hgd
    have h0 := frm_old ha 23 _ (hold 23 rfl) o23
    exact doesL_run ho (wanted_none hgd) (hpure 1 (by decide) L w' hW) (by rw [run_move _ _ _ hop]; exact congrArg (fun v => Result.ok (Next.value v) w') (eval_of h0))
  | 2, ho, hL, _ =>
    obtain ⟨hop, hdst, hgd⟩ := tab_at htab ho (show rghT[2]? = _ from rfl)
    simp only at hop hgd
    have h0 := frm_at hdis ha 0 117 (hds 0 117 rfl) (by omega) (depl_of hdep 2 0 (by decide) ho hd)
    have h1 := frm_at hdis ha 1 118 (hds 1 118 rfl) (by omega) (depl_of hdep 2 1 (by decide) ho hd)
    exact doesL_run ho (wanted_none hgd) (hpure 2 (by decide) L w' hW) (run_ia25 _ _ _ _ hop _ _ _ _ _ i2 (eval_of h0) (eval_of h1) _)
  | 3, ho, hL, _ =>
    obtain ⟨hop, hdst, hgd⟩ := tab_at htab ho (show rghT[3]? = _ from rfl)
    simp only at hop hgd
    have h0 := frm_at hdis ha 2 119 (hds 2 119 rfl) (by omega) (depl_of hdep 3 2 (by decide) ho hd)
    exact doesL_run ho (wanted_none hgd) (hpure 3 (by decide) L w' hW) (run_ld24 _ _ _ hop _ _ (eval_of h0) _ (l3 L w' hW))
  | 4, ho, hL, _ =>
    obtain ⟨hop, hdst, hgd⟩ := tab_at htab ho (show rghT[4]? = _ from rfl)
    simp only at hop hgd
    have h0 := frm_old ha 13 _ (hold 13 rfl) o13
    exact doesL_run ho (wanted_none hgd) (hpure 4 (by decide) L w' hW) (by rw [run_move _ _ _ hop]; exact congrArg (fun v => Result.ok (Next.value v) w') (eval_of h0))
  | 5, ho, hL, _ =>
    obtain ⟨hop, hdst, hgd⟩ := tab_at htab ho (show rghT[5]? = _ from rfl)
    simp only at hop hgd
    have h0 := frm_old ha 23 _ (hold 23 rfl) o23
    exact doesL_run ho (wanted_none hgd) (hpure 5 (by decide) L w' hW) (by rw [run_move _ _ _ hop]; exact congrArg (fun v => Result.ok (Next.value v) w') (eval_of h0))
  | 6, ho, hL, _ =>
    obtain ⟨hop, hdst, hgd⟩ := tab_at htab ho (show rghT[6]? = _ from rfl)
    simp only at hop hgd
    have h0 := frm_at hdis ha 4 121 (hds 4 121 rfl) (by omega) (depl_of hdep 6 4 (by decide) ho hd)
    have h1 := frm_at hdis ha 5 122 (hds 5 122 rfl) (by omega) (depl_of hdep 6 5 (by decide) ho hd)
    exact doesL_run ho (wanted_none hgd) (hpure 6 (by decide) L w' hW) (run_ia25 _ _ _ _ hop _ _ _ _ _ i6 (eval_of h0) (eval_of h1) _)
  | 7, ho, hL, _ =>
    obtain ⟨hop, hdst, hgd⟩ := tab_at htab ho (show rghT[7]? = _ from rfl)
    simp only at hop hgd
    have h0 := frm_at hdis ha 6 123 (hds 6 123 rfl) (by omega) (depl_of hdep 7 6 (by decide) ho hd)
    exact doesL_run ho (wanted_none hgd) (hpure 7 (by decide) L w' hW) (run_ld24 _ _ _ hop _ _ (eval_of h0) _ (l7 L w' hW))
  | 8, ho, hL, _ =>
    obtain ⟨hop, hdst, hgd⟩ := tab_at htab ho (show rghT[8]? = _ from rfl)
    simp only at hop hgd
    have h0 := frm_at hdis ha 3 120 (hds 3 120 rfl) (by omega) (depl_of hdep 8 3 (by decide) ho hd)
    have h1 := frm_at hdis ha 7 124 (hds 7 124 rfl) (by omega) (depl_of hdep 8 7 (by decide) ho hd)
    refine doesL_call ho (wanted_none hgd) 12 #[.slice pv nv cv, .slice pw nv2 cv2] ?_ (c8 L w' hW hL)
    rw [run_calls Tryd.func12 (by kernel_rfl) rfl _ _ _ _ hop rfl]
    simp only [List.map_toArray, List.map_cons, List.map_nil, eval_of h0, eval_of h1]
    all_goals rfl
  | 9, ho, hL, _ =>
    obtain ⟨hop, hdst, hgd⟩ := tab_at htab ho (show rghT[9]? = _ from rfl)
    simp only at hop hgd
    have h0 := frm_at hdis ha 8 125 (hds 8 125 rfl) (by omega) (depl_of hdep 9 8 (by decide) ho hd)
    exact doesL_run ho (wanted_none hgd) (hpure 9 (by decide) L w' hW) (by rw [run_assign _ _ _ hop]; exact congrArg (fun v => Result.ok (Next.value v) w') (eval_of h0))
  | (i + 10), ho, hL, hi => exact absurd hi (by omega)
end Go.Proofs.YtknlafgaagimjaaDoor
