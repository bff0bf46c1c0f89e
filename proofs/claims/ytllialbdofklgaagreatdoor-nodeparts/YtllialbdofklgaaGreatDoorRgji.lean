import Derived.Test.YtllialbdofklgaaGreatDoorRgcq
namespace Go.Proofs.YtllialbdofklgaaGreatDoor
open Go.RowKit
theorem run_bs22_1 (ρ : Operand → Value) (o : Oper) (a : Operand) (ho : o.op = .buildSlice 22 1 #[(0, a)]) (x : Bs) (ha : ρ a = S x) (w : World) : (execOp ρ o).run Tryz.prog w = .ok (.value (.slice (some ⟨w.heap.size, 0, none⟩) 1 1)) (w.alloc (.cells #[S x] 9)) := by
  unfold execOp
  simp only [ho]
  simp [go_sem, ha, Tryz.zeroValue9, Tryz.sizeOf9]
theorem run_bs33_3 (ρ : Operand → Value) (o : Oper) (a b c : Operand) (ho : o.op = .buildSlice 33 3 #[(0, a), (1, b), (2, c)]) (p1 p2 p3 : Option Addr) (n1 c1 n2 c2 n3 c3 : Nat) (ha : ρ a = .slice p1 n1 c1) (hb : ρ b = .slice p2 n2 c2) (hc : ρ c = .slice p3 n3 c3) (w : World) : (execOp ρ o).run Tryz.prog w = .ok (.value (.slice (some ⟨w.heap.size, 0, none⟩) 3 3)) (w.alloc (.cells #[.slice p1 n1 c1, .slice p2 n2 c2, .slice p3 n3 c3] 22)) := by
  unfold execOp
  simp only [ho]
  simp [go_sem, ha, hb, hc, Tryz.zeroValue22, Tryz.sizeOf22]
theorem run_bs34_2 (ρ : Operand → Value) (o : Oper) (a b : Operand) (ho : o.op = .buildSlice 34 2 #[(0, a), (1, b)]) (p1 p2 : Option Addr) (n1 c1 n2 c2 : Nat) (ha : ρ a = .slice p1 n1 c1) (hb : ρ b = .slice p2 n2 c2) (w : World) : (execOp ρ o).run Tryz.prog w = .ok (.value (.slice (some ⟨w.heap.size, 0, none⟩) 2 2)) (w.alloc (.cells #[.slice p1 n1 c1, .slice p2 n2 c2] 23)) := by
  unfold execOp
  simp only [ho]
  simp [go_sem, ha, hb, Tryz.zeroValue23, Tryz.sizeOf23]
theorem run_build25i (ρ : Operand → Value) (o : Oper) (b d : Operand) (ho : o.op = .build 25 #[(1, b), (3, d)]) (p1 p3 : Option Addr) (n1 c1 n3 c3 : Nat) (hb : ρ b = .slice p1 n1 c1) (hd : ρ d = .slice p3 n3 c3) (w : World) : (execOp ρ o).run Tryz.prog w = .ok (.value (.agg #[.bool false, .slice p1 n1 c1, .slice none 0 0, .slice p3 n3 c3])) w := by
  unfold execOp
  simp only [ho]
  simp [go_sem, hb, hd, Tryz.zeroValue25]
def vji (X Y k1 k2 i1 i2 kc kd ic jd kl il : Nat) (ka kb ia ib : Option Addr) (key : Bs) (c : Ch3) (i : Nat) : Value := match i with
  | 0 => (.pointer (some ⟨X, 0 + 1, none⟩))
  | 1 => (.slice ka k1 kc)
  | 2 => (S key)
  | 3 => (.slice (some ⟨c.g1, 0, none⟩) 1 1)
  | 4 => (.pointer (some ⟨Y, 0 + 1, none⟩))
  | 5 => (.slice kb k2 kd)
  | 6 => (.slice (some ⟨c.g2, 0, none⟩) 3 3)
  | 7 => (.slice c.p1 kl c.c1)
  | 8 => (.pointer (some ⟨X, 0 + 3, none⟩))
  | 9 => (.slice ia i1 ic)
  | 10 => (.pointer (some ⟨Y, 0 + 3, none⟩))
  | 11 => (.slice ib i2 jd)
  | 12 => (.slice (some ⟨c.g3, 0, none⟩) 2 2)
  | 13 => (.slice c.p3 il c.c3)
  | 14 => (.agg #[.bool false, .slice c.p1 kl c.c1, .slice none 0 0, .slice c.p3 il c.c3])
  | 15 => undef
  | _ => undef
def rjiT : List (Op × Option Tmp × Option (Nat × Bool)) := [
  (.fieldAddr 25 (.tmp 3) 1, some 22, none),
  (.load 22 (.tmp 22), some 23, none),
  (.move (.tmp 1), some 24, none),
  (.buildSlice 22 1 #[(0, (.tmp 24))], some 25, none),
  (.fieldAddr 25 (.tmp 5) 1, some 26, none),
  (.load 22 (.tmp 26), some 27, none),
  (.buildSlice 33 3 #[(0, (.tmp 23)), (1, (.tmp 25)), (2, (.tmp 27))], some 28, none),
  (.call { callee := .value (.func 105), args := #[(.tmp 28)], argTypes := #[33] }, some 29, none),
  (.fieldAddr 25 (.tmp 3) 3, some 30, none),
  (.load 23 (.tmp 30), some 31, none),
  (.fieldAddr 25 (.tmp 5) 3, some 32, none),
  (.load 23 (.tmp 32), some 33, none),
  (.buildSlice 34 2 #[(0, (.tmp 31)), (1, (.tmp 33))], some 34, none),
  (.call { callee := .value (.func 104), args := #[(.tmp 34)], argTypes := #[34] }, some 35, none),
  (.build 25 #[(1, (.tmp 29)), (3, (.tmp 35))], some 36, none),
  (.store 25 (.tmp 6) (.tmp 36), none, none)]
def rjiD : List (Nat × Nat) := [(1, 0), (3, 2), (5, 4), (6, 1), (6, 3), (6, 5), (7, 6), (9, 8), (11, 10), (12, 9), (12, 11), (13, 12), (14, 7), (14, 13), (15, 14)]
set_option maxHeartbeats 2000000 in
theorem rji {ops : Array Oper} {id : Nat} {Q : Exit → Act → World → Prop} (X Y A k1 k2 i1 i2 kc kd ic jd kl il : Nat) (ka kb ia ib : Option Addr) (key : Bs) (htab : ops.toList.map (fun o => (o.op, o.dst, o.guard)) = rjiT) (hdep : deplB rjiD ops = true) (hac : acB ops = true)
    (a0 : Act) (w : World) (hsz : 37 ≤ a0.tmps.size) (o1 : a0.tmps[1]? = some (S key)) (o3 : a0.tmps[3]? = some (.pointer (some ⟨X, 0, none⟩))) (o5 : a0.tmps[5]? = some (.pointer (some ⟨Y, 0, none⟩))) (o6 : a0.tmps[6]? = some (.pointer (some ⟨A, 0, none⟩)))
    (Wd : Ch3 → (Nat → Bool) → World → Prop) (h0 : ∃ c, Wd c (fun _ => false) w.drew) (hpure : ∀ i, i ∉ ([3, 6, 7, 12, 13, 15, 14] : List Nat) → ∀ c L W, Wd c L W → Wd c (upd L i) W)
    (l1 : ∀ c L W, Wd c L W → W.cell? ⟨X, 0 + 1, none⟩ = some (.slice ka k1 kc))
    (l5 : ∀ c L W, Wd c L W → W.cell? ⟨Y, 0 + 1, none⟩ = some (.slice kb k2 kd))
    (l9 : ∀ c L W, Wd c L W → W.cell? ⟨X, 0 + 3, none⟩ = some (.slice ia i1 ic))
    (l11 : ∀ c L W, Wd c L W → W.cell? ⟨Y, 0 + 3, none⟩ = some (.slice ib i2 jd))
    (hpure14 : ∀ c L W, Wd c L W → L 7 = true → L 13 = true → Wd c (upd L 14) W)
    (n3 : ∀ c L W, Wd c L W → L 3 = false → ∃ c' : Ch3, (∀ j, L j = true → vji X Y k1 k2 i1 i2 kc kd ic jd kl il ka kb ia ib key c' j = vji X Y k1 k2 i1 i2 kc kd ic jd kl il ka kb ia ib key c j) ∧ c'.g1 = W.heap.size ∧ Wd c' (upd L 3) (W.alloc (.cells #[S key] 9)))
    (n6 : ∀ c L W, Wd c L W → L 6 = false → L 3 = true → ∃ c' : Ch3, (∀ j, L j = true → vji X Y k1 k2 i1 i2 kc kd ic jd kl il ka kb ia ib key c' j = vji X Y k1 k2 i1 i2 kc kd ic jd kl il ka kb ia ib key c j) ∧ c'.g2 = W.heap.size ∧ Wd c' (upd L 6) (W.alloc (.cells #[.slice ka k1 kc, .slice (some ⟨c.g1, 0, none⟩) 1 1, .slice kb k2 kd] 22)))
    (n12 : ∀ c L W, Wd c L W → L 12 = false → ∃ c' : Ch3, (∀ j, L j = true → vji X Y k1 k2 i1 i2 kc kd ic jd kl il ka kb ia ib key c' j = vji X Y k1 k2 i1 i2 kc kd ic jd kl il ka kb ia ib key c j) ∧ c'.g3 = W.heap.size ∧ Wd c' (upd L 12) (W.alloc (.cells #[.slice ia i1 ic, .slice ib i2 jd] 23)))
    (c7 : ∀ c L W, Wd c L W → L 7 = false → L 6 = true → Calls Tryz.prog 105 #[.slice (some ⟨c.g2, 0, none⟩) 3 3] W fun e w' => ∃ c' : Ch3, (∀ j, L j = true → vji X Y k1 k2 i1 i2 kc kd ic jd kl il ka kb ia ib key c' j = vji X Y k1 k2 i1 i2 kc kd ic jd kl il ka kb ia ib key c j) ∧ e = .returned (.slice c'.p1 kl c'.c1) ∧ Wd c' (upd L 7) w')
    (c13 : ∀ c L W, Wd c L W → L 13 = false → L 12 = true → Calls Tryz.prog 104 #[.slice (some ⟨c.g3, 0, none⟩) 2 2] W fun e w' => ∃ c' : Ch3, (∀ j, L j = true → vji X Y k1 k2 i1 i2 kc kd ic jd kl il ka kb ia ib key c' j = vji X Y k1 k2 i1 i2 kc kd ic jd kl il ka kb ia ib key c j) ∧ e = .returned (.slice c'.p3 il c'.c3) ∧ Wd c' (upd L 13) w')
    (n15 : ∀ c L W, Wd c L W → L 15 = false → L 14 = true → Wd c (upd L 15) ((((W.setCell ⟨A, 0, none⟩ (.bool false)).setCell ⟨A, 1, none⟩ (.slice c.p1 kl c.c1)).setCell ⟨A, 2, none⟩ (.slice none 0 0)).setCell ⟨A, 3, none⟩ (.slice c.p3 il c.c3)) ∧ W.heap[A]? = some (.cells #[.bool false, .slice none 0 0, .slice none 0 0, .slice none 0 0] 25 (0, 0)))
    (hend : ∀ c L W, (∀ i, i < 16 → L i = true) → Wd c L W → Q .normal (((((((((((((((a0.put (some 22) (.pointer (some ⟨X, 0 + 1, none⟩))).put (some 23) (.slice ka k1 kc)).put (some 24) (S key)).put (some 25) (.slice (some ⟨c.g1, 0, none⟩) 1 1)).put (some 26) (.pointer (some ⟨Y, 0 + 1, none⟩))).put (some 27) (.slice kb k2 kd)).put (some 28) (.slice (some ⟨c.g2, 0, none⟩) 3 3)).put (some 29) (.slice c.p1 kl c.c1)).put (some 30) (.pointer (some ⟨X, 0 + 3, none⟩))).put (some 31) (.slice ia i1 ic)).put (some 32) (.pointer (some ⟨Y, 0 + 3, none⟩))).put (some 33) (.slice ib i2 jd)).put (some 34) (.slice (some ⟨c.g3, 0, none⟩) 2 2)).put (some 35) (.slice c.p3 il c.c3)).put (some 36) (.agg #[.bool false, .slice c.p1 kl c.c1, .slice none 0 0, .slice c.p3 il c.c3])) W) : (Code.region id ops true).wp Tryz.prog Q a0 w := by
  let val : Ch3 → Nat → Value := vji X Y k1 k2 i1 i2 kc kd ic jd kl il ka kb ia ib key
  have hosz : ops.size = 16 := by
    have := congrArg List.length htab
    simpa [rjiT] using this
  have hds : ∀ i s, (rjiT[i]?).bind (·.2.1) = some s → dstOf ops i = some s := fun i s hi => by rw [tab_dst htab, hi]
  have hdisB : disL rjiT = true := by rfl
  have hdis := disL_of htab hdisB
  have hold : ∀ s, rjiT.all (fun x => !(x.2.1 == some s)) = true → (List.range ops.size).all (fun j => !(dstOf ops j == some s)) = true := fun s h => holdL htab s h
  refine region_detX val Wd (hac_of hac) hdis h0 ?_ ?_
  rotate_left
  · intro c L W hall hW
    have := hend c L W (by rw [← hosz]; exact hall) hW
    have e : frm ops a0 (val c) (fun _ => true) ops.size = (((((((((((((((a0.put (some 22) (.pointer (some ⟨X, 0 + 1, none⟩))).put (some 23) (.slice ka k1 kc)).put (some 24) (S key)).put (some 25) (.slice (some ⟨c.g1, 0, none⟩) 1 1)).put (some 26) (.pointer (some ⟨Y, 0 + 1, none⟩))).put (some 27) (.slice kb k2 kd)).put (some 28) (.slice (some ⟨c.g2, 0, none⟩) 3 3)).put (some 29) (.slice c.p1 kl c.c1)).put (some 30) (.pointer (some ⟨X, 0 + 3, none⟩))).put (some 31) (.slice ia i1 ic)).put (some 32) (.pointer (some ⟨Y, 0 + 3, none⟩))).put (some 33) (.slice ib i2 jd)).put (some 34) (.slice (some ⟨c.g3, 0, none⟩) 2 2)).put (some 35) (.slice c.p3 il c.c3)).put (some 36) (.agg #[.bool false, .slice c.p1 kl c.c1, .slice none 0 0, .slice c.p3 il c.c3])) := by
      rw [hosz]
      simp only [frm, if_true]
      rw [tab_dst htab 0, tab_dst htab 1, tab_dst htab 2, tab_dst htab 3, tab_dst htab 4, tab_dst htab 5, tab_dst htab 6, tab_dst htab 7, tab_dst htab 8, tab_dst htab 9, tab_dst htab 10, tab_dst htab 11, tab_dst htab 12, tab_dst htab 13, tab_dst htab 14, (show dstOf ops 15 = none from (tab_dst htab 15).trans rfl), put_none]
      rfl
    rw [e]
    exact this
  intro i o ho c L a w' hL hd ha hW
  have hi : i < 16 := by rw [← hosz]; exact (Array.getElem?_eq_some_iff.1 ho).1
  match i, ho, hL, hi with
  | 0, ho, hL, _ =>
    obtain ⟨hop, hdst, hgd⟩ := tab_at htab ho (show rjiT[0]? = _ from rfl)
    simp only at hop hgd
    have h0 := frm_old (val := val c) ha 3 _ (hold 3 rfl) o3
    exact doesX_of (doesL_run ho (wanted_none hgd) (hpure 0 (by decide) c L w' hW) (run_f25_1 _ _ _ hop _ _ (eval_of h0) _))
  | 1, ho, hL, _ =>
    obtain ⟨hop, hdst, hgd⟩ := tab_at htab ho (show rjiT[1]? = _ from rfl)
    simp only at hop hgd
    have h0 := frm_at (val := val c) hdis ha 0 22 (hds 0 22 rfl) (by omega) (depl_of hdep 1 0 (by decide) ho hd)
    exact doesX_of (doesL_run ho (wanted_none hgd) (hpure 1 (by decide) c L w' hW) (run_ld22 _ _ _ hop _ _ (eval_of h0) _ (l1 c L w' hW)))
  | 2, ho, hL, _ =>
    obtain ⟨hop, hdst, hgd⟩ := tab_at htab ho (show rjiT[2]? = _ from rfl)
    simp only at hop hgd
    have h0 := frm_old (val := val c) ha 1 _ (hold 1 rfl) o1
    exact doesX_of (doesL_run ho (wanted_none hgd) (hpure 2 (by decide) c L w' hW) (by rw [run_move _ _ _ hop]; exact congrArg (fun v => Result.ok (Next.value v) w') (eval_of h0)))
  | 3, ho, hL, _ =>
    obtain ⟨hop, hdst, hgd⟩ := tab_at htab ho (show rjiT[3]? = _ from rfl)
    simp only at hop hgd
    have h0 := frm_at (val := val c) hdis ha 2 24 (hds 2 24 rfl) (by omega) (depl_of hdep 3 2 (by decide) ho hd)
    obtain ⟨c', q0, q1, q2⟩ := n3 c L w' hW hL
    refine doesX_runw ho (wanted_none hgd) c' q0 q2 ((run_bs22_1 _ _ _ hop _ (eval_of h0) _).trans (by rw [← q1]; rfl))
  | 4, ho, hL, _ =>
    obtain ⟨hop, hdst, hgd⟩ := tab_at htab ho (show rjiT[4]? = _ from rfl)
    simp only at hop hgd
    have h0 := frm_old (val := val c) ha 5 _ (hold 5 rfl) o5
    exact doesX_of (doesL_run ho (wanted_none hgd) (hpure 4 (by decide) c L w' hW) (run_f25_1 _ _ _ hop _ _ (eval_of h0) _))
  | 5, ho, hL, _ =>
    obtain ⟨hop, hdst, hgd⟩ := tab_at htab ho (show rjiT[5]? = _ from rfl)
    simp only at hop hgd
    have h0 := frm_at (val := val c) hdis ha 4 26 (hds 4 26 rfl) (by omega) (depl_of hdep 5 4 (by decide) ho hd)
    exact doesX_of (doesL_run ho (wanted_none hgd) (hpure 5 (by decide) c L w' hW) (run_ld22 _ _ _ hop _ _ (eval_of h0) _ (l5 c L w' hW)))
  | 6, ho, hL, _ =>
    obtain ⟨hop, hdst, hgd⟩ := tab_at htab ho (show rjiT[6]? = _ from rfl)
    simp only at hop hgd
    have h0 := frm_at (val := val c) hdis ha 1 23 (hds 1 23 rfl) (by omega) (depl_of hdep 6 1 (by decide) ho hd)
    have h1 := frm_at (val := val c) hdis ha 3 25 (hds 3 25 rfl) (by omega) (depl_of hdep 6 3 (by decide) ho hd)
    have h2 := frm_at (val := val c) hdis ha 5 27 (hds 5 27 rfl) (by omega) (depl_of hdep 6 5 (by decide) ho hd)
    obtain ⟨c', q0, q1, q2⟩ := n6 c L w' hW hL (depl_of hdep 6 3 (by decide) ho hd)
    refine doesX_runw ho (wanted_none hgd) c' q0 q2 ((run_bs33_3 _ _ _ _ _ hop _ _ _ _ _ _ _ _ _ (eval_of h0) (eval_of h1) (eval_of h2) _).trans (by rw [← q1]; rfl))
  | 7, ho, hL, _ =>
    obtain ⟨hop, hdst, hgd⟩ := tab_at htab ho (show rjiT[7]? = _ from rfl)
    simp only at hop hgd
    have h0 := frm_at (val := val c) hdis ha 6 28 (hds 6 28 rfl) (by omega) (depl_of hdep 7 6 (by decide) ho hd)
    refine doesX_call ho (wanted_none hgd) 105 #[.slice (some ⟨c.g2, 0, none⟩) 3 3] ?_ (c7 c L w' hW hL (depl_of hdep 7 6 (by decide) ho hd))
    rw [run_calls Tryz.func105 (by kernel_rfl) rfl _ _ _ _ hop rfl]
    simp only [List.map_toArray, List.map_cons, List.map_nil, eval_of h0]
    all_goals rfl
  | 8, ho, hL, _ =>
    obtain ⟨hop, hdst, hgd⟩ := tab_at htab ho (show rjiT[8]? = _ from rfl)
    simp only at hop hgd
    have h0 := frm_old (val := val c) ha 3 _ (hold 3 rfl) o3
    exact doesX_of (doesL_run ho (wanted_none hgd) (hpure 8 (by decide) c L w' hW) (run_f25_3 _ _ _ hop _ _ (eval_of h0) _))
  | 9, ho, hL, _ =>
    obtain ⟨hop, hdst, hgd⟩ := tab_at htab ho (show rjiT[9]? = _ from rfl)
    simp only at hop hgd
    have h0 := frm_at (val := val c) hdis ha 8 30 (hds 8 30 rfl) (by omega) (depl_of hdep 9 8 (by decide) ho hd)
    exact doesX_of (doesL_run ho (wanted_none hgd) (hpure 9 (by decide) c L w' hW) (run_ld23 _ _ _ hop _ _ (eval_of h0) _ (l9 c L w' hW)))
  | 10, ho, hL, _ =>
    obtain ⟨hop, hdst, hgd⟩ := tab_at htab ho (show rjiT[10]? = _ from rfl)
    simp only at hop hgd
    have h0 := frm_old (val := val c) ha 5 _ (hold 5 rfl) o5
    exact doesX_of (doesL_run ho (wanted_none hgd) (hpure 10 (by decide) c L w' hW) (run_f25_3 _ _ _ hop _ _ (eval_of h0) _))
  | 11, ho, hL, _ =>
    obtain ⟨hop, hdst, hgd⟩ := tab_at htab ho (show rjiT[11]? = _ from rfl)
    simp only at hop hgd
    have h0 := frm_at (val := val c) hdis ha 10 32 (hds 10 32 rfl) (by omega) (depl_of hdep 11 10 (by decide) ho hd)
    exact doesX_of (doesL_run ho (wanted_none hgd) (hpure 11 (by decide) c L w' hW) (run_ld23 _ _ _ hop _ _ (eval_of h0) _ (l11 c L w' hW)))
  | 12, ho, hL, _ =>
    obtain ⟨hop, hdst, hgd⟩ := tab_at htab ho (show rjiT[12]? = _ from rfl)
    simp only at hop hgd
    have h0 := frm_at (val := val c) hdis ha 9 31 (hds 9 31 rfl) (by omega) (depl_of hdep 12 9 (by decide) ho hd)
    have h1 := frm_at (val := val c) hdis ha 11 33 (hds 11 33 rfl) (by omega) (depl_of hdep 12 11 (by decide) ho hd)
    obtain ⟨c', q0, q1, q2⟩ := n12 c L w' hW hL
    refine doesX_runw ho (wanted_none hgd) c' q0 q2 ((run_bs34_2 _ _ _ _ hop _ _ _ _ _ _ (eval_of h0) (eval_of h1) _).trans (by rw [← q1]; rfl))
  | 13, ho, hL, _ =>
    obtain ⟨hop, hdst, hgd⟩ := tab_at htab ho (show rjiT[13]? = _ from rfl)
    simp only at hop hgd
    have h0 := frm_at (val := val c) hdis ha 12 34 (hds 12 34 rfl) (by omega) (depl_of hdep 13 12 (by decide) ho hd)
    refine doesX_call ho (wanted_none hgd) 104 #[.slice (some ⟨c.g3, 0, none⟩) 2 2] ?_ (c13 c L w' hW hL (depl_of hdep 13 12 (by decide) ho hd))
    rw [run_calls Tryz.func104 (by kernel_rfl) rfl _ _ _ _ hop rfl]
    simp only [List.map_toArray, List.map_cons, List.map_nil, eval_of h0]
    all_goals rfl
  | 14, ho, hL, _ =>
    obtain ⟨hop, hdst, hgd⟩ := tab_at htab ho (show rjiT[14]? = _ from rfl)
    simp only at hop hgd
    have h0 := frm_at (val := val c) hdis ha 7 29 (hds 7 29 rfl) (by omega) (depl_of hdep 14 7 (by decide) ho hd)
    have h1 := frm_at (val := val c) hdis ha 13 35 (hds 13 35 rfl) (by omega) (depl_of hdep 14 13 (by decide) ho hd)
    exact doesX_of (doesL_run ho (wanted_none hgd) (hpure14 c L w' hW (depl_of hdep 14 7 (by decide) ho hd) (depl_of hdep 14 13 (by decide) ho hd)) (run_build25i _ _ _ _ hop _ _ _ _ _ _ (eval_of h0) (eval_of h1) _))
  | 15, ho, hL, _ =>
    obtain ⟨hop, hdst, hgd⟩ := tab_at htab ho (show rjiT[15]? = _ from rfl)
    simp only at hop hgd
    have h0 := frm_old (val := val c) ha 6 _ (hold 6 rfl) o6
    have h1 := frm_at (val := val c) hdis ha 14 36 (hds 14 36 rfl) (by omega) (depl_of hdep 15 14 (by decide) ho hd)
    obtain ⟨s1, s2⟩ := n15 c L w' hW hL (depl_of hdep 15 14 (by decide) ho hd)
    exact doesX_of (doesL_skp ho (wanted_none hgd) rfl s1 (run_st25 _ _ _ _ hop _ _ _ _ _ (eval_of h0) (eval_of h1) _ _ _ _ _ s2 ⟨rfl, rfl, rfl, rfl⟩))
  | (i + 16), ho, hL, hi => exact absurd hi (by omega)
end Go.Proofs.YtllialbdofklgaaGreatDoor
