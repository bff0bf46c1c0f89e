import Derived.Test.YtknlafgaagimjaaDoorOpz
namespace Go.Proofs.YtknlafgaagimjaaDoor
open Go.RowKit Go.Lib
def rgaT : List (Op × Option Tmp × Option (Nat × Bool)) := [
  (.move (.tmp 0), some 27, none),
  (.move (.tmp 3), some 28, none),
  (.indexAddr 25 (.tmp 27) (.tmp 28), some 29, none),
  (.load 24 (.tmp 29), some 30, none),
  (.move (.tmp 4), some 31, none),
  (.move (.tmp 3), some 32, none),
  (.call { callee := .value (.func 33), args := #[(.tmp 32)], argTypes := #[3] }, some 33, none),
  (.indexAddr 24 (.tmp 30) (.tmp 31), some 34, none),
  (.store 9 (.tmp 34) (.tmp 33), none, none)]
def rgaD : List (Nat × Nat) := [(2, 0), (2, 1), (3, 2), (6, 5), (7, 3), (7, 4), (8, 6), (8, 7)]
set_option maxHeartbeats 2000000 in
theorem rga {ops : Array Oper} {id : Nat} {Q : Exit → Act → World → Prop} (G n cap g m c r k : Nat) (htab : ops.toList.map (fun o => (o.op, o.dst, o.guard)) = rgaT) (hdep : deplB rgaD ops = true) (hac : acB ops = true)
    (a0 : Act) (w : World) (hsz : 35 ≤ a0.tmps.size) (o0 : a0.tmps[0]? = some (.slice (some ⟨G, 0, none⟩) n cap)) (o3 : a0.tmps[3]? = some (.int .i64 (r : Int))) (o4 : a0.tmps[4]? = some (.int .i64 (k : Int)))
    (Wd : (Nat → Bool) → World → Prop) (h0 : Wd (fun _ => false) w.drew) (hpure : ∀ i, i ∉ ([6, 8] : List Nat) → ∀ L W, Wd L W → Wd (upd L i) W)
    (i2 : r < n) (i7 : k < m) (l3 : ∀ L W, Wd L W → W.cell? ⟨G, 0 + r, none⟩ = some (.slice (some ⟨g, 0, none⟩) m c))
    (c6 : ∀ L W, Wd L W → L 6 = false → Calls Tryd.prog 33 #[.int .i64 (r : Int)] W fun e w' => e = .returned (S (mk r)) ∧ Wd (upd L 6) w')
    (s8 : ∀ L W, Wd L W → L 8 = false → L 6 = true → L 7 = true → ∃ cur, W.heap[g]? = some (.cells cur 9 (0, 0)) ∧ 0 + k < cur.size ∧ Wd (upd L 8) (W.setCell ⟨g, 0 + k, none⟩ (S (mk r))))
    (hend : ∀ L W, (∀ i, i < 9 → L i = true) → Wd L W → Q .normal ((((((((a0.put (some 27) (.slice (some ⟨G, 0, none⟩) n cap)).put (some 28) (.int .i64 (r : Int))).put (some 29) (.pointer (some ⟨G, 0 + r, none⟩))).put (some 30) (.slice (some ⟨g, 0, none⟩) m c)).put (some 31) (.int .i64 (k : Int))).put (some 32) (.int .i64 (r : Int))).put (some 33) (S (mk r))).put (some 34) (.pointer (some ⟨g, 0 + k, none⟩))) W) : (Code.region id ops true).wp Tryd.prog Q a0 w := by
  let val : Nat → Value := fun i => match i with
    | 0 => (.slice (some ⟨G, 0, none⟩) n cap)
    | 1 => (.int .i64 (r : Int))
    | 2 => (.pointer (some ⟨G, 0 + r, none⟩))
    | 3 => (.slice (some ⟨g, 0, none⟩) m c)
    | 4 => (.int .i64 (k : Int))
    | 5 => (.int .i64 (r : Int))
    | 6 => (S (mk r))
    | 7 => (.pointer (some ⟨g, 0 + k, none⟩))
    | 8 => undef
    | _ => undef
  have hosz : ops.size = 9 := by
    have := congrArg List.length htab
    simpa [rgaT] using this
  have hds : ∀ i s, (rgaT[i]?).bind (·.2.1) = some s → dstOf ops i = some s := fun i s hi => by rw [tab_dst htab, hi]
  have hdisB : disL rgaT = true := by rfl
  have hdis := disL_of htab hdisB
  have hold : ∀ s, rgaT.all (fun x => !(x.2.1 == some s)) = true → (List.range ops.size).all (fun j => !(dstOf ops j == some s)) = true := fun s h => holdL htab s h
  refine region_detL val Wd (hac_of hac) hdis h0 ?_ ?_
  rotate_left
  · intro L W hall hW
    have := hend L W (by rw [← hosz]; exact hall) hW
    have e : frm ops a0 val (fun _ => true) ops.size = ((((((((a0.put (some 27) (.slice (some ⟨G, 0, none⟩) n cap)).put (some 28) (.int .i64 (r : Int))).put (some 29) (.pointer (some ⟨G, 0 + r, none⟩))).put (some 30) (.slice (some ⟨g, 0, none⟩) m c)).put (some 31) (.int .i64 (k : Int))).put (some 32) (.int .i64 (r : Int))).put (some 33) (S (mk r))).put (some 34) (.pointer (some ⟨g, 0 + k, none⟩))) := by
      rw [hosz]
      simp only [frm, if_true]
      rw [tab_dst htab 0, tab_dst htab 1, tab_dst htab 2, tab_dst htab 3, tab_dst htab 4, tab_dst htab 5, tab_dst htab 6, tab_dst htab 7, (show dstOf ops 8 = none from (tab_dst htab 8).trans rfl), put_none]
      rfl
    rw [e]
    exact this
  intro i o ho L a w' hL hd ha hW
  have hi : i < 9 := by rw [← hosz]; exact (Array.getElem?_eq_some_iff.1 ho).1
  match i, ho, hL, hi with
  | 0, ho, hL, _ =>
    obtain ⟨hop, hdst, hgd⟩ := tab_at htab ho (show rgaT[0]? = _ from rfl)
    simp only at hop hgd
    have h0 := frm_old ha 0 _ (hold 0 rfl) o0
    exact doesL_run ho (wanted_none hgd) (hpure 0 (by decide) L w' hW) (by rw [run_move _ _ _ hop]; exact congrArg (fun v => Result.ok (Next.value v) w') (eval_of h0))
  | 1, ho, hL, _ =>
    obtain ⟨hop, hdst, hgd⟩ := tab_at htab ho (show rgaT[1]? = _ from rfl)
    simp only at hop hgd
    have h0 := frm_old ha 3 _ (hold 3 rfl) o3
    exact doesL_run ho (wanted_none hgd) (hpure 1 (by decide) L w' hW) (by rw [run_move _ _ _ hop]; exact congrArg (fun v => Result.ok (Next.value v) w') (eval_of h0))
  | 2, ho, hL, _ =>
    obtain ⟨hop, hdst, hgd⟩ := tab_at htab ho (show rgaT[2]? = _ from rfl)
    simp only at hop hgd
    have h0 := frm_at hdis ha 0 27 (hds 0 27 rfl) (by omega) (depl_of hdep 2 0 (by decide) ho hd)
    have h1 := frm_at hdis ha 1 28 (hds 1 28 rfl) (by omega) (depl_of hdep 2 1 (by decide) ho hd)
    exact doesL_run ho (wanted_none hgd) (hpure 2 (by decide) L w' hW) (run_ia25 _ _ _ _ hop _ _ _ _ _ i2 (eval_of h0) (eval_of h1) _)
  | 3, ho, hL, _ =>
    obtain ⟨hop, hdst, hgd⟩ := tab_at htab ho (show rgaT[3]? = _ from rfl)
    simp only at hop hgd
    have h0 := frm_at hdis ha 2 29 (hds 2 29 rfl) (by omega) (depl_of hdep 3 2 (by decide) ho hd)
    exact doesL_run ho (wanted_none hgd) (hpure 3 (by decide) L w' hW) (run_ld24 _ _ _ hop _ _ (eval_of h0) _ (l3 L w' hW))
  | 4, ho, hL, _ =>
    obtain ⟨hop, hdst, hgd⟩ := tab_at htab ho (show rgaT[4]? = _ from rfl)
    simp only at hop hgd
    have h0 := frm_old ha 4 _ (hold 4 rfl) o4
    exact doesL_run ho (wanted_none hgd) (hpure 4 (by decide) L w' hW) (by rw [run_move _ _ _ hop]; exact congrArg (fun v => Result.ok (Next.value v) w') (eval_of h0))
  | 5, ho, hL, _ =>
    obtain ⟨hop, hdst, hgd⟩ := tab_at htab ho (show rgaT[5]? = _ from rfl)
    simp only at hop hgd
    have h0 := frm_old ha 3 _ (hold 3 rfl) o3
    exact doesL_run ho (wanted_none hgd) (hpure 5 (by decide) L w' hW) (by rw [run_move _ _ _ hop]; exact congrArg (fun v => Result.ok (Next.value v) w') (eval_of h0))
  | 6, ho, hL, _ =>
    obtain ⟨hop, hdst, hgd⟩ := tab_at htab ho (show rgaT[6]? = _ from rfl)
    simp only at hop hgd
    have h0 := frm_at hdis ha 5 32 (hds 5 32 rfl) (by omega) (depl_of hdep 6 5 (by decide) ho hd)
    refine doesL_call ho (wanted_none hgd) 33 #[.int .i64 (r : Int)] ?_ (c6 L w' hW hL)
    rw [run_calls Tryd.func33 (by kernel_rfl) rfl _ _ _ _ hop rfl]
    simp only [List.map_toArray, List.map_cons, List.map_nil, eval_of h0]
    all_goals rfl
  | 7, ho, hL, _ =>
    obtain ⟨hop, hdst, hgd⟩ := tab_at htab ho (show rgaT[7]? = _ from rfl)
    simp only at hop hgd
    have h0 := frm_at hdis ha 3 30 (hds 3 30 rfl) (by omega) (depl_of hdep 7 3 (by decide) ho hd)
    have h1 := frm_at hdis ha 4 31 (hds 4 31 rfl) (by omega) (depl_of hdep 7 4 (by decide) ho hd)
    exact doesL_run ho (wanted_none hgd) (hpure 7 (by decide) L w' hW) (run_ia24 _ _ _ _ hop _ _ _ _ _ i7 (eval_of h0) (eval_of h1) _)
  | 8, ho, hL, _ =>
    obtain ⟨hop, hdst, hgd⟩ := tab_at htab ho (show rgaT[8]? = _ from rfl)
    simp only at hop hgd
    have h0 := frm_at hdis ha 7 34 (hds 7 34 rfl) (by omega) (depl_of hdep 8 7 (by decide) ho hd)
    have h1 := frm_at hdis ha 6 33 (hds 6 33 rfl) (by omega) (depl_of hdep 8 6 (by decide) ho hd)
    obtain ⟨cur, s1, s2, s3⟩ := s8 L w' hW hL (depl_of hdep 8 6 (by decide) ho hd) (depl_of hdep 8 7 (by decide) ho hd)
    exact doesL_skp ho (wanted_none hgd) rfl s3 (run_st9 _ _ _ _ hop _ _ _ (eval_of h0) (eval_of h1) _ cur s1 s2)
  | (i + 9), ho, hL, hi => exact absurd hi (by omega)
def rgbT : List (Op × Option Tmp × Option (Nat × Bool)) := [
  (.move (.tmp 5), some 77, none),
  (.move (.tmp 10), some 78, none),
  (.indexAddr 25 (.tmp 77) (.tmp 78), some 79, none),
  (.load 24 (.tmp 79), some 80, none),
  (.move (.tmp 11), some 81, none),
  (.indexAddr 24 (.tmp 80) (.tmp 81), some 82, none),
  (.load 9 (.tmp 82), some 83, none),
  (.move (.tmp 6), some 84, none),
  (.move (.tmp 10), some 85, none),
  (.indexAddr 52 (.tmp 84) (.tmp 85), some 86, none),
  (.load 3 (.tmp 86), some 87, none),
  (.call { callee := .value (.func 33), args := #[(.tmp 87)], argTypes := #[3] }, some 88, none),
  (.binOp .neq 9 (.tmp 83) (.tmp 88) 9, some 89, none)]
def rgbD : List (Nat × Nat) := [(2, 0), (2, 1), (3, 2), (5, 3), (5, 4), (6, 5), (9, 7), (9, 8), (10, 9), (11, 10), (12, 6), (12, 11)]
set_option maxHeartbeats 2000000 in
theorem rgb {ops : Array Oper} {id : Nat} {Q : Exit → Act → World → Prop} (G n cap H n6 cap6 g m c r k j : Nat) (f : Bs) (htab : ops.toList.map (fun o => (o.op, o.dst, o.guard)) = rgbT) (hdep : deplB rgbD ops = true) (hac : acB ops = true)
    (a0 : Act) (w : World) (hsz : 90 ≤ a0.tmps.size) (o5 : a0.tmps[5]? = some (.slice (some ⟨G, 0, none⟩) n cap)) (o6 : a0.tmps[6]? = some (.slice (some ⟨H, 0, none⟩) n6 cap6)) (o10 : a0.tmps[10]? = some (.int .i64 (r : Int))) (o11 : a0.tmps[11]? = some (.int .i64 (k : Int)))
    (Wd : (Nat → Bool) → World → Prop) (h0 : Wd (fun _ => false) w.drew) (hpure : ∀ i, i ∉ ([11] : List Nat) → ∀ L W, Wd L W → Wd (upd L i) W)
    (i2 : r < n) (i5 : k < m) (i9 : r < n6) (l3 : ∀ L W, Wd L W → W.cell? ⟨G, 0 + r, none⟩ = some (.slice (some ⟨g, 0, none⟩) m c))
    (l6 : ∀ L W, Wd L W → W.cell? ⟨g, 0 + k, none⟩ = some (S f)) (l10 : ∀ L W, Wd L W → W.cell? ⟨H, 0 + r, none⟩ = some (.int .i64 (j : Int)))
    (c11 : ∀ L W, Wd L W → L 11 = false → Calls Tryd.prog 33 #[.int .i64 (j : Int)] W fun e w' => e = .returned (S (mk j)) ∧ Wd (upd L 11) w')
    (hend : ∀ L W, (∀ i, i < 13 → L i = true) → Wd L W → Q .normal (((((((((((((a0.put (some 77) (.slice (some ⟨G, 0, none⟩) n cap)).put (some 78) (.int .i64 (r : Int))).put (some 79) (.pointer (some ⟨G, 0 + r, none⟩))).put (some 80) (.slice (some ⟨g, 0, none⟩) m c)).put (some 81) (.int .i64 (k : Int))).put (some 82) (.pointer (some ⟨g, 0 + k, none⟩))).put (some 83) (S f)).put (some 84) (.slice (some ⟨H, 0, none⟩) n6 cap6)).put (some 85) (.int .i64 (r : Int))).put (some 86) (.pointer (some ⟨H, 0 + r, none⟩))).put (some 87) (.int .i64 (j : Int))).put (some 88) (S (mk j))).put (some 89) (.bool (!decide (f = mk j)))) W) : (Code.region id ops true).wp Tryd.prog Q a0 w := by
  let val : Nat → Value := fun i => match i with
    | 0 => (.slice (some ⟨G, 0, none⟩) n cap)
    | 1 => (.int .i64 (r : Int))
    | 2 => (.pointer (some ⟨G, 0 + r, none⟩))
    | 3 => (.slice (some ⟨g, 0, none⟩) m c)
    | 4 => (.int .i64 (k : Int))
    | 5 => (.pointer (some ⟨g, 0 + k, none⟩))
    | 6 => (S f)
    | 7 => (.slice (some ⟨H, 0, none⟩) n6 cap6)
    | 8 => (.int .i64 (r : Int))
    | 9 => (.pointer (some ⟨H, 0 + r, none⟩))
    | 10 => (.int .i64 (j : Int))
    | 11 => (S (mk j))
    | 12 => (.bool (!decide (f = mk j)))
    | _ => undef
  have hosz : ops.size = 13 := by
    have := congrArg List.length htab
    simpa [rgbT] using this
  have hds : ∀ i s, (rgbT[i]?).bind (·.2.1) = some s → dstOf ops i = some s := fun i s hi => by rw [tab_dst htab, hi]
  have hdisB : disL rgbT = true := by rfl
  have hdis := disL_of htab hdisB
  have hold : ∀ s, rgbT.all (fun x => !(x.2.1 == some s)) = true → (List.range ops.size).all (fun j => !(dstOf ops j == some s)) = true := fun s h => holdL htab s h
  refine region_detL val Wd (hac_of hac) hdis h0 ?_ ?_
  rotate_left
  · intro L W hall hW
    have := hend L W (by rw [← hosz]; exact hall) hW
    have e : frm ops a0 val (fun _ => true) ops.size = (((((((((((((a0.put (some 77) (.slice (some ⟨G, 0, none⟩) n cap)).put (some 78) (.int .i64 (r : Int))).put (some 79) (.pointer (some ⟨G, 0 + r, none⟩))).put (some 80) (.slice (some ⟨g, 0, none⟩) m c)).put (some 81) (.int .i64 (k : Int))).put (some 82) (.pointer (some ⟨g, 0 + k, none⟩))).put (some 83) (S f)).put (some 84) (.slice (some ⟨H, 0, none⟩) n6 cap6)).put (some 85) (.int .i64 (r : Int))).put (some 86) (.pointer (some ⟨H, 0 + r, none⟩))).put (some 87) (.int .i64 (j : Int))).put (some 88) (S (mk j))).put (some 89) (.bool (!decide (f = mk j)))) := by
      rw [hosz]
      simp only [frm, if_true]
      rw [tab_dst htab 0, tab_dst htab 1, tab_dst htab 2, tab_dst htab 3, tab_dst htab 4, tab_dst htab 5, tab_dst htab 6, tab_dst htab 7, tab_dst htab 8, tab_dst htab 9, tab_dst htab 10, tab_dst htab 11, tab_dst htab 12]
      rfl
    rw [e]
    exact this
  intro i o ho L a w' hL hd ha hW
  have hi : i < 13 := by rw [← hosz]; exact (Array.getElem?_eq_some_iff.1 ho).1
  match i, ho, hL, hi with
  | 0, ho, hL, _ =>
    obtain ⟨hop, hdst, hgd⟩ := tab_at htab ho (show rgbT[0]? = _ from rfl)
    simp only at hop hgd
    have h0 := frm_old ha 5 _ (hold 5 rfl) o5
    exact doesL_run ho (wanted_none hgd) (hpure 0 (by decide) L w' hW) (by rw [run_move _ _ _ hop]; exact congrArg (fun v => Result.ok (Next.value v) w') (eval_of h0))
  | 1, ho, hL, _ =>
    obtain ⟨hop, hdst, hgd⟩ := tab_at htab ho (show rgbT[1]? = _ from rfl)
    simp only at hop hgd
    have h0 := frm_old ha 10 _ (hold 10 rfl) o10
    exact doesL_run ho (wanted_none hgd) (hpure 1 (by decide) L w' hW) (by rw [run_move _ _ _ hop]; exact congrArg (fun v => Result.ok (Next.value v) w') (eval_of h0))
  | 2, ho, hL, _ =>
    obtain ⟨hop, hdst, hgd⟩ := tab_at htab ho (show rgbT[2]? = _ from rfl)
    simp only at hop hgd
    have h0 := frm_at hdis ha 0 77 (hds 0 77 rfl) (by omega) (depl_of hdep 2 0 (by decide) ho hd)
    have h1 := frm_at hdis ha 1 78 (hds 1 78 rfl) (by omega) (depl_of hdep 2 1 (by decide) ho hd)
    exact doesL_run ho (wanted_none hgd) (hpure 2 (by decide) L w' hW) (run_ia25 _ _ _ _ hop _ _ _ _ _ i2 (eval_of h0) (eval_of h1) _)
  | 3, ho, hL, _ =>
    obtain ⟨hop, hdst, hgd⟩ := tab_at htab ho (show rgbT[3]? = _ from rfl)
    simp only at hop hgd
    have h0 := frm_at hdis ha 2 79 (hds 2 79 rfl) (by omega) (depl_of hdep 3 2 (by decide) ho hd)
    exact doesL_run ho (wanted_none hgd) (hpure 3 (by decide) L w' hW) (run_ld24 _ _ _ hop _ _ (eval_of h0) _ (l3 L w' hW))
  | 4, ho, hL, _ =>
    obtain ⟨hop, hdst, hgd⟩ := tab_at htab ho (show rgbT[4]? = _ from rfl)
    simp only at hop hgd
    have h0 := frm_old ha 11 _ (hold 11 rfl) o11
    exact doesL_run ho (wanted_none hgd) (hpure 4 (by decide) L w' hW) (by rw [run_move _ _ _ hop]; exact congrArg (fun v => Result.ok (Next.value v) w') (eval_of h0))
  | 5, ho, hL, _ =>
    obtain ⟨hop, hdst, hgd⟩ := tab_at htab ho (show rgbT[5]? = _ from rfl)
    simp only at hop hgd
    have h0 := frm_at hdis ha 3 80 (hds 3 80 rfl) (by omega) (depl_of hdep 5 3 (by decide) ho hd)
    have h1 := frm_at hdis ha 4 81 (hds 4 81 rfl) (by omega) (depl_of hdep 5 4 (by decide) ho hd)
    exact doesL_run ho (wanted_none hgd) (hpure 5 (by decide) L w' hW) (run_ia24 _ _ _ _ hop _ _ _ _ _ i5 (eval_of h0) (eval_of h1) _)
  | 6, ho, hL, _ =>
    obtain ⟨hop, hdst, hgd⟩ := tab_at htab ho (show rgbT[6]? = _ from rfl)
    simp only at hop hgd
    have h0 := frm_at hdis ha 5 82 (hds 5 82 rfl) (by omega) (depl_of hdep 6 5 (by decide) ho hd)
    exact doesL_run ho (wanted_none hgd) (hpure 6 (by decide) L w' hW) (run_ld9 _ _ _ hop _ _ (eval_of h0) _ (l6 L w' hW))
  | 7, ho, hL, _ =>
    obtain ⟨hop, hdst, hgd⟩ := tab_at htab ho (show rgbT[7]? = _ from rfl)
    simp only at hop hgd
    have h0 := frm_old ha 6 _ (hold 6 rfl) o6
    exact doesL_run ho (wanted_none hgd) (hpure 7 (by decide) L w' hW) (by rw [run_move _ _ _ hop]; exact congrArg (fun v => Result.ok (Next.value v) w') (eval_of h0))
  | 8, ho, hL, _ =>
    obtain ⟨hop, hdst, hgd⟩ := tab_at htab ho (show rgbT[8]? = _ from rfl)
    simp only at hop hgd
    have h0 := frm_old ha 10 _ (hold 10 rfl) o10
    exact doesL_run ho (wanted_none hgd) (hpure 8 (by decide) L w' hW) (by rw [run_move _ _ _ hop]; exact congrArg (fun v => Result.ok (Next.value v) w') (eval_of h0))
  | 9, ho, hL, _ =>
    obtain ⟨hop, hdst, hgd⟩ := tab_at htab ho (show rgbT[9]? = _ from rfl)
    simp only at hop hgd
    have h0 := frm_at hdis ha 7 84 (hds 7 84 rfl) (by omega) (depl_of hdep 9 7 (by decide) ho hd)
    have h1 := frm_at hdis ha 8 85 (hds 8 85 rfl) (by omega) (depl_of hdep 9 8 (by decide) ho hd)
    exact doesL_run ho (wanted_none hgd) (hpure 9 (by decide) L w' hW) (run_ia52 _ _ _ _ hop _ _ _ _ _ i9 (eval_of h0) (eval_of h1) _)
  | 10, ho, hL, _ =>
    obtain ⟨hop, hdst, hgd⟩ := tab_at htab ho (show rgbT[10]? = _ from rfl)
    simp only at hop hgd
    have h0 := frm_at hdis ha 9 86 (hds 9 86 rfl) (by omega) (depl_of hdep 10 9 (by decide) ho hd)
    exact doesL_run ho (wanted_none hgd) (hpure 10 (by decide) L w' hW) (run_ld3 _ _ _ hop _ _ (eval_of h0) _ (l10 L w' hW))
  | 11, ho, hL, _ =>
    obtain ⟨hop, hdst, hgd⟩ := tab_at htab ho (show rgbT[11]? = _ from rfl)
    simp only at hop hgd
    have h0 := frm_at hdis ha 10 87 (hds 10 87 rfl) (by omega) (depl_of hdep 11 10 (by decide) ho hd)
    refine doesL_call ho (wanted_none hgd) 33 #[.int .i64 (j : Int)] ?_ (c11 L w' hW hL)
    rw [run_calls Tryd.func33 (by kernel_rfl) rfl _ _ _ _ hop rfl]
    simp only [List.map_toArray, List.map_cons, List.map_nil, eval_of h0]
    all_goals rfl
  | 12, ho, hL, _ =>
    obtain ⟨hop, hdst, hgd⟩ := tab_at htab ho (show rgbT[12]? = _ from rfl)
    simp only at hop hgd
    have h0 := frm_at hdis ha 6 83 (hds 6 83 rfl) (by omega) (depl_of hdep 12 6 (by decide) ho hd)
    have h1 := frm_at hdis ha 11 88 (hds 11 88 rfl) (by omega) (depl_of hdep 12 11 (by decide) ho hd)
    exact doesL_run ho (wanted_none hgd) (hpure 12 (by decide) L w' hW) (run_ne9 _ _ _ _ hop _ _ (eval_of h0) (eval_of h1) _)
  | (i + 13), ho, hL, hi => exact absurd hi (by omega)
end Go.Proofs.YtknlafgaagimjaaDoor
