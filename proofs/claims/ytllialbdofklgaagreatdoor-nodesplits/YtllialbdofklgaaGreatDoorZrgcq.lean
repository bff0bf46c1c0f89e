import Derived.Test.YtllialbdofklgaaGreatDoorZrgsd
namespace Go.Proofs.YtllialbdofklgaaGreatDoor
open Go.RowKit
/-- What comes up as three rows are made: where they lie; and where lists of lists lie. -/
structure Ch3 where
  p1 : Option Addr
  c1 : Nat
  p2 : Option Addr
  c2 : Nat
  p3 : Option Addr
  c3 : Nat
  g1 : Nat
  g2 : Nat
  g3 : Nat
def vcq (X kl kc vl vc il ic : Nat) (ka va ia : Option Addr) (lf : Bool) (c : Ch3) (i : Nat) : Value := match i with
  | 0 => (.pointer (some ⟨X, 0 + 0, none⟩))
  | 1 => (.bool lf)
  | 2 => (.pointer (some ⟨X, 0 + 1, none⟩))
  | 3 => (.slice ka kl kc)
  | 4 => (.slice c.p1 kl c.c1)
  | 5 => (.pointer (some ⟨X, 0 + 2, none⟩))
  | 6 => (.slice va vl vc)
  | 7 => (.slice c.p2 vl c.c2)
  | 8 => (.pointer (some ⟨X, 0 + 3, none⟩))
  | 9 => (.slice ia il ic)
  | 10 => (.slice c.p3 il c.c3)
  | 11 => (.agg #[.bool lf, .slice c.p1 kl c.c1, .slice c.p2 vl c.c2, .slice c.p3 il c.c3])
  | 12 => undef
  | _ => undef
def rcqT : List (Op × Option Tmp × Option (Nat × Bool)) := [
  (.fieldAddr 25 (.tmp 1) 0, some 3, none),
  (.load 4 (.tmp 3), some 4, none),
  (.fieldAddr 25 (.tmp 1) 1, some 5, none),
  (.load 22 (.tmp 5), some 6, none),
  (.call { callee := .value (.func 100), args := #[(.tmp 6)], argTypes := #[22] }, some 7, none),
  (.fieldAddr 25 (.tmp 1) 2, some 8, none),
  (.load 22 (.tmp 8), some 9, none),
  (.call { callee := .value (.func 100), args := #[(.tmp 9)], argTypes := #[22] }, some 10, none),
  (.fieldAddr 25 (.tmp 1) 3, some 11, none),
  (.load 23 (.tmp 11), some 12, none),
  (.call { callee := .value (.func 61), args := #[(.tmp 12)], argTypes := #[23] }, some 13, none),
  (.build 25 #[(0, (.tmp 4)), (1, (.tmp 7)), (2, (.tmp 10)), (3, (.tmp 13))], some 14, none),
  (.store 25 (.tmp 2) (.tmp 14), none, none)]
def rcqD : List (Nat × Nat) := [(1, 0), (3, 2), (4, 3), (6, 5), (7, 6), (9, 8), (10, 9), (11, 1), (11, 4), (11, 7), (11, 10), (12, 11)]
set_option maxHeartbeats 2000000 in
theorem rcq {ops : Array Oper} {id : Nat} {Q : Exit → Act → World → Prop} (X A kl kc vl vc il ic : Nat) (ka va ia : Option Addr) (lf : Bool) (htab : ops.toList.map (fun o => (o.op, o.dst, o.guard)) = rcqT) (hdep : deplB rcqD ops = true) (hac : acB ops = true)
    (a0 : Act) (w : World) (hsz : 15 ≤ a0.tmps.size) (o1 : a0.tmps[1]? = some (.pointer (some ⟨X, 0, none⟩))) (o2 : a0.tmps[2]? = some (.pointer (some ⟨A, 0, none⟩)))
    (Wd : Ch3 → (Nat → Bool) → World → Prop) (h0 : ∃ c, Wd c (fun _ => false) w.drew) (hpure : ∀ i, i ∉ ([4, 7, 10, 12, 11] : List Nat) → ∀ c L W, Wd c L W → Wd c (upd L i) W)
    (l1 : ∀ c L W, Wd c L W → W.cell? ⟨X, 0 + 0, none⟩ = some (.bool lf))
    (l3 : ∀ c L W, Wd c L W → W.cell? ⟨X, 0 + 1, none⟩ = some (.slice ka kl kc))
    (l6 : ∀ c L W, Wd c L W → W.cell? ⟨X, 0 + 2, none⟩ = some (.slice va vl vc))
    (l9 : ∀ c L W, Wd c L W → W.cell? ⟨X, 0 + 3, none⟩ = some (.slice ia il ic))
    (hpure11 : ∀ c L W, Wd c L W → L 4 = true → L 7 = true → L 10 = true → Wd c (upd L 11) W)
    (c4 : ∀ c L W, Wd c L W → L 4 = false → Calls Tryz.prog 100 #[.slice ka kl kc] W fun e w' => ∃ c' : Ch3, (∀ j, L j = true → vcq X kl kc vl vc il ic ka va ia lf c' j = vcq X kl kc vl vc il ic ka va ia lf c j) ∧ e = .returned (.slice c'.p1 kl c'.c1) ∧ Wd c' (upd L 4) w')
    (c7 : ∀ c L W, Wd c L W → L 7 = false → Calls Tryz.prog 100 #[.slice va vl vc] W fun e w' => ∃ c' : Ch3, (∀ j, L j = true → vcq X kl kc vl vc il ic ka va ia lf c' j = vcq X kl kc vl vc il ic ka va ia lf c j) ∧ e = .returned (.slice c'.p2 vl c'.c2) ∧ Wd c' (upd L 7) w')
    (c10 : ∀ c L W, Wd c L W → L 10 = false → Calls Tryz.prog 61 #[.slice ia il ic] W fun e w' => ∃ c' : Ch3, (∀ j, L j = true → vcq X kl kc vl vc il ic ka va ia lf c' j = vcq X kl kc vl vc il ic ka va ia lf c j) ∧ e = .returned (.slice c'.p3 il c'.c3) ∧ Wd c' (upd L 10) w')
    (n12 : ∀ c L W, Wd c L W → L 12 = false → L 11 = true → Wd c (upd L 12) ((((W.setCell ⟨A, 0, none⟩ (.bool lf)).setCell ⟨A, 1, none⟩ (.slice c.p1 kl c.c1)).setCell ⟨A, 2, none⟩ (.slice c.p2 vl c.c2)).setCell ⟨A, 3, none⟩ (.slice c.p3 il c.c3)) ∧ W.heap[A]? = some (.cells #[.bool false, .slice none 0 0, .slice none 0 0, .slice none 0 0] 25 (0, 0)))
    (hend : ∀ c L W, (∀ i, i < 13 → L i = true) → Wd c L W → Q .normal ((((((((((((a0.put (some 3) (.pointer (some ⟨X, 0 + 0, none⟩))).put (some 4) (.bool lf)).put (some 5) (.pointer (some ⟨X, 0 + 1, none⟩))).put (some 6) (.slice ka kl kc)).put (some 7) (.slice c.p1 kl c.c1)).put (some 8) (.pointer (some ⟨X, 0 + 2, none⟩))).put (some 9) (.slice va vl vc)).put (some 10) (.slice c.p2 vl c.c2)).put (some 11) (.pointer (some ⟨X, 0 + 3, none⟩))).put (some 12) (.slice ia il ic)).put (some 13) (.slice c.p3 il c.c3)).put (some 14) (.agg #[.bool lf, .slice c.p1 kl c.c1, .slice c.p2 vl c.c2, .slice c.p3 il c.c3])) W) : (Code.region id ops true).wp Tryz.prog Q a0 w := by
  let val : Ch3 → Nat → Value := vcq X kl kc vl vc il ic ka va ia lf
  have hosz : ops.size = 13 := by
    have := congrArg List.length htab
    simpa [rcqT] using this
  have hds : ∀ i s, (rcqT[i]?).bind (·.2.1) = some s → dstOf ops i = some s := fun i s hi => by rw [tab_dst htab, hi]
  have hdisB : disL rcqT = true := by rfl
  have hdis := disL_of htab hdisB
  have hold : ∀ s, rcqT.all (fun x => !(x.2.1 == some s)) = true → (List.range ops.size).all (fun j => !(dstOf ops j == some s)) = true := fun s h => holdL htab s h
  refine region_detX val Wd (hac_of hac) hdis h0 ?_ ?_
  rotate_left
  · intro c L W hall hW
    have := hend c L W (by rw [← hosz]; exact hall) hW
    have e : frm ops a0 (val c) (fun _ => true) ops.size = ((((((((((((a0.put (some 3) (.pointer (some ⟨X, 0 + 0, none⟩))).put (some 4) (.bool lf)).put (some 5) (.pointer (some ⟨X, 0 + 1, none⟩))).put (some 6) (.slice ka kl kc)).put (some 7) (.slice c.p1 kl c.c1)).put (some 8) (.pointer (some ⟨X, 0 + 2, none⟩))).put (some 9) (.slice va vl vc)).put (some 10) (.slice c.p2 vl c.c2)).put (some 11) (.pointer (some ⟨X, 0 + 3, none⟩))).put (some 12) (.slice ia il ic)).put (some 13) (.slice c.p3 il c.c3)).put (some 14) (.agg #[.bool lf, .slice c.p1 kl c.c1, .slice c.p2 vl c.c2, .slice c.p3 il c.c3])) := by
      rw [hosz]
      simp only [frm, if_true]
      rw [tab_dst htab 0, tab_dst htab 1, tab_dst htab 2, tab_dst htab 3, tab_dst htab 4, tab_dst htab 5, tab_dst htab 6, tab_dst htab 7, tab_dst htab 8, tab_dst htab 9, tab_dst htab 10, tab_dst htab 11, (show dstOf ops 12 = none from (tab_dst htab 12).trans rfl), put_none]
      rfl
    rw [e]
    exact this
  intro i o ho c L a w' hL hd ha hW
  have hi : i < 13 := by rw [← hosz]; exact (Array.getElem?_eq_some_iff.1 ho).1
  match i, ho, hL, hi with
  | 0, ho, hL, _ =>
    obtain ⟨hop, hdst, hgd⟩ := tab_at htab ho (show rcqT[0]? = _ from rfl)
    simp only at hop hgd
    have h0 := frm_old (val := val c) ha 1 _ (hold 1 rfl) o1
    exact doesX_of (doesL_run ho (wanted_none hgd) (hpure 0 (by decide) c L w' hW) (run_f25_0 _ _ _ hop _ _ (eval_of h0) _))
  | 1, ho, hL, _ =>
    obtain ⟨hop, hdst, hgd⟩ := tab_at htab ho (show rcqT[1]? = _ from rfl)
    simp only at hop hgd
    have h0 := frm_at (val := val c) hdis ha 0 3 (hds 0 3 rfl) (by omega) (depl_of hdep 1 0 (by decide) ho hd)
    exact doesX_of (doesL_run ho (wanted_none hgd) (hpure 1 (by decide) c L w' hW) (run_ld4 _ _ _ hop _ _ (eval_of h0) _ (l1 c L w' hW)))
  | 2, ho, hL, _ =>
    obtain ⟨hop, hdst, hgd⟩ := tab_at htab ho (show rcqT[2]? = _ from rfl)
    simp only at hop hgd
    have h0 := frm_old (val := val c) ha 1 _ (hold 1 rfl) o1
    exact doesX_of (doesL_run ho (wanted_none hgd) (hpure 2 (by decide) c L w' hW) (run_f25_1 _ _ _ hop _ _ (eval_of h0) _))
  | 3, ho, hL, _ =>
    obtain ⟨hop, hdst, hgd⟩ := tab_at htab ho (show rcqT[3]? = _ from rfl)
    simp only at hop hgd
    have h0 := frm_at (val := val c) hdis ha 2 5 (hds 2 5 rfl) (by omega) (depl_of hdep 3 2 (by decide) ho hd)
    exact doesX_of (doesL_run ho (wanted_none hgd) (hpure 3 (by decide) c L w' hW) (run_ld22 _ _ _ hop _ _ (eval_of h0) _ (l3 c L w' hW)))
  | 4, ho, hL, _ =>
    obtain ⟨hop, hdst, hgd⟩ := tab_at htab ho (show rcqT[4]? = _ from rfl)
    simp only at hop hgd
    have h0 := frm_at (val := val c) hdis ha 3 6 (hds 3 6 rfl) (by omega) (depl_of hdep 4 3 (by decide) ho hd)
    refine doesX_call ho (wanted_none hgd) 100 #[.slice ka kl kc] ?_ (c4 c L w' hW hL)
    rw [run_calls Tryz.func100 (by kernel_rfl) rfl _ _ _ _ hop rfl]
    simp only [List.map_toArray, List.map_cons, List.map_nil, eval_of h0]
    all_goals rfl
  | 5, ho, hL, _ =>
    obtain ⟨hop, hdst, hgd⟩ := tab_at htab ho (show rcqT[5]? = _ from rfl)
    simp only at hop hgd
    have h0 := frm_old (val := val c) ha 1 _ (hold 1 rfl) o1
    exact doesX_of (doesL_run ho (wanted_none hgd) (hpure 5 (by decide) c L w' hW) (run_f25_2 _ _ _ hop _ _ (eval_of h0) _))
  | 6, ho, hL, _ =>
    obtain ⟨hop, hdst, hgd⟩ := tab_at htab ho (show rcqT[6]? = _ from rfl)
    simp only at hop hgd
    have h0 := frm_at (val := val c) hdis ha 5 8 (hds 5 8 rfl) (by omega) (depl_of hdep 6 5 (by decide) ho hd)
    exact doesX_of (doesL_run ho (wanted_none hgd) (hpure 6 (by decide) c L w' hW) (run_ld22 _ _ _ hop _ _ (eval_of h0) _ (l6 c L w' hW)))
  | 7, ho, hL, _ =>
    obtain ⟨hop, hdst, hgd⟩ := tab_at htab ho (show rcqT[7]? = _ from rfl)
    simp only at hop hgd
    have h0 := frm_at (val := val c) hdis ha 6 9 (hds 6 9 rfl) (by omega) (depl_of hdep 7 6 (by decide) ho hd)
    refine doesX_call ho (wanted_none hgd) 100 #[.slice va vl vc] ?_ (c7 c L w' hW hL)
    rw [run_calls Tryz.func100 (by kernel_rfl) rfl _ _ _ _ hop rfl]
    simp only [List.map_toArray, List.map_cons, List.map_nil, eval_of h0]
    all_goals rfl
  | 8, ho, hL, _ =>
    obtain ⟨hop, hdst, hgd⟩ := tab_at htab ho (show rcqT[8]? = _ from rfl)
    simp only at hop hgd
    have h0 := frm_old (val := val c) ha 1 _ (hold 1 rfl) o1
    exact doesX_of (doesL_run ho (wanted_none hgd) (hpure 8 (by decide) c L w' hW) (run_f25_3 _ _ _ hop _ _ (eval_of h0) _))
  | 9, ho, hL, _ =>
    obtain ⟨hop, hdst, hgd⟩ := tab_at htab ho (show rcqT[9]? = _ from rfl)
    simp only at hop hgd
    have h0 := frm_at (val := val c) hdis ha 8 11 (hds 8 11 rfl) (by omega) (depl_of hdep 9 8 (by decide) ho hd)
    exact doesX_of (doesL_run ho (wanted_none hgd) (hpure 9 (by decide) c L w' hW) (run_ld23 _ _ _ hop _ _ (eval_of h0) _ (l9 c L w' hW)))
  | 10, ho, hL, _ =>
    obtain ⟨hop, hdst, hgd⟩ := tab_at htab ho (show rcqT[10]? = _ from rfl)
    simp only at hop hgd
    have h0 := frm_at (val := val c) hdis ha 9 12 (hds 9 12 rfl) (by omega) (depl_of hdep 10 9 (by decide) ho hd)
    refine doesX_call ho (wanted_none hgd) 61 #[.slice ia il ic] ?_ (c10 c L w' hW hL)
    rw [run_calls Tryz.func61 (by kernel_rfl) rfl _ _ _ _ hop rfl]
    simp only [List.map_toArray, List.map_cons, List.map_nil, eval_of h0]
    all_goals rfl
  | 11, ho, hL, _ =>
    obtain ⟨hop, hdst, hgd⟩ := tab_at htab ho (show rcqT[11]? = _ from rfl)
    simp only at hop hgd
    have h0 := frm_at (val := val c) hdis ha 1 4 (hds 1 4 rfl) (by omega) (depl_of hdep 11 1 (by decide) ho hd)
    have h1 := frm_at (val := val c) hdis ha 4 7 (hds 4 7 rfl) (by omega) (depl_of hdep 11 4 (by decide) ho hd)
    have h2 := frm_at (val := val c) hdis ha 7 10 (hds 7 10 rfl) (by omega) (depl_of hdep 11 7 (by decide) ho hd)
    have h3 := frm_at (val := val c) hdis ha 10 13 (hds 10 13 rfl) (by omega) (depl_of hdep 11 10 (by decide) ho hd)
    exact doesX_of (doesL_run ho (wanted_none hgd) (hpure11 c L w' hW (depl_of hdep 11 4 (by decide) ho hd) (depl_of hdep 11 7 (by decide) ho hd) (depl_of hdep 11 10 (by decide) ho hd)) (run_build25 _ _ _ _ _ _ hop _ _ _ _ _ _ _ _ _ _ (eval_of h0) (eval_of h1) (eval_of h2) (eval_of h3) _))
  | 12, ho, hL, _ =>
    obtain ⟨hop, hdst, hgd⟩ := tab_at htab ho (show rcqT[12]? = _ from rfl)
    simp only at hop hgd
    have h0 := frm_old (val := val c) ha 2 _ (hold 2 rfl) o2
    have h1 := frm_at (val := val c) hdis ha 11 14 (hds 11 14 rfl) (by omega) (depl_of hdep 12 11 (by decide) ho hd)
    obtain ⟨s1, s2⟩ := n12 c L w' hW hL (depl_of hdep 12 11 (by decide) ho hd)
    exact doesX_of (doesL_skp ho (wanted_none hgd) rfl s1 (run_st25 _ _ _ _ hop _ _ _ _ _ (eval_of h0) (eval_of h1) _ _ _ _ _ s2 ⟨rfl, rfl, rfl, rfl⟩))
  | (i + 13), ho, hL, hi => exact absurd hi (by omega)
end Go.Proofs.YtllialbdofklgaaGreatDoor
namespace Go.Proofs.YtllialbdofklgaaGreatDoor
open Go.RowKit
theorem run_bs22_1 (ρ : Operand → Value) (o : Oper) (a : Operand) (ho : o.op = .buildSlice 22 1 #[(0, a)]) (x : Bs) (ha : ρ a = S x) (w : World) : (execOp ρ o).run Tryz.prog w = .ok (.value (.slice (some ⟨w.heap.size, 0, none⟩) 1 1)) (w.alloc (.cells #[S x] 9)) := by
  unfold execOp
  simp only [ho]
  simp [go_sem, ha, Tryz.zeroValue9, Tryz.sizeOf9]
theorem run_bs33_3 (ρ : Operand → Value) (o : Oper) (a b c : Operand) (ho : o.op = .buildSlice 33 3 #[(0, a), (1, b), (2, c)]) (p1 p2 p3 : Option Addr) (n1 c1 n2 c2 n3 c3 : Nat) (ha : ρ a = .slice p1 n1 c1) (hb : ρ b = .slice p2 n2 c2) (hc : ρ c = .slice p3 n3 c3) (w : World) : (execOp ρ o).run Tryz.prog w = .ok (.value (.slice (some ⟨w.heap.size, 0, none⟩) 3 3)) (w.alloc (.cells #[.slice p1 n1 c1, .slice p2 n2 c2, .slice p3 n3 c3] 22)) := by
  unfold execOp
  simp only [ho]
  simp [go_sem, ha, hb, hc, Tryz.zeroValue22, Tryz.sizeOf22]
theorem run_bs34_2 (ρ : Operand → Value) (o : Oper) (a b : Operand) (ho : o.op = .buildSlice 34 2 #[(0, a), (1, b)]) (p1 p2 : Option Addr) (n1 c1 n2 c2 : Nat) (ha : ρ a = .slice p1 n1 c1) (hb : ρ b = .slice p2 n2 c2) (w : World) : (execOp ρ o).run Tryz.prog w = .ok (.value (.slice (some ⟨w.heap.size, 0, none⟩) 2 2)) (w.alloc (.cells #[.slice p1 n1 c1, .slice p2 n2 c2] 23)) := by
  unfold execOp
  simp only [ho]
  simp [go_sem, ha, hb, Tryz.zeroValue23, Tryz.sizeOf23]
theorem run_build25i (ρ : Operand → Value) (o : Oper) (b d : Operand) (ho : o.op = .build 25 #[(1, b), (3, d)]) (p1 p3 : Option Addr) (n1 c1 n3 c3 : Nat) (hb : ρ b = .slice p1 n1 c1) (hd : ρ d = .slice p3 n3 c3) (w : World) : (execOp ρ o).run Tryz.prog w = .ok (.value (.agg #[.bool false, .slice p1 n1 c1, .slice none 0 0, .slice p3 n3 c3])) w := by
  unfold execOp
  simp only [ho]
  simp [go_sem, hb, hd, Tryz.zeroValue25]
def vji (X Y k1 k2 i1 i2 kc kd ic jd kl il : Nat) (ka kb ia ib : Option Addr) (key : Bs) (c : Ch3) (i : Nat) : Value := match i with
  | 0 => (.pointer (some ⟨X, 0 + 1, none⟩))
  | 1 => (.slice ka k1 kc)
  | 2 => (S key)
  | 3 => (.slice (some ⟨c.g1, 0, none⟩) 1 1)
  | 4 => (.pointer (some ⟨Y, 0 + 1, none⟩))
  | 5 => (.slice kb k2 kd)
  | 6 => (.slice (some ⟨c.g2, 0, none⟩) 3 3)
  | 7 => (.slice c.p1 kl c.c1)
  | 8 => (.pointer (some ⟨X, 0 + 3, none⟩))
  | 9 => (.slice ia i1 ic)
  | 10 => (.pointer (some ⟨Y, 0 + 3, none⟩))
  | 11 => (.slice ib i2 jd)
  | 12 => (.slice (some ⟨c.g3, 0, none⟩) 2 2)
  | 13 => (.slice c.p3 il c.c3)
  | 14 => (.agg #[.bool false, .slice c.p1 kl c.c1, .slice none 0 0, .slice c.p3 il c.c3])
  | 15 => undef
  | _ => undef
def rjiT : List (Op × Option Tmp × Option (Nat × Bool)) := [
  (.fieldAddr 25 (.tmp 3) 1, some 22, none),
  (.load 22 (.tmp 22), some 23, none),
  (.move (.tmp 1), some 24, none),
  (.buildSlice 22 1 #[(0, (.tmp 24))], some 25, none),
  (.fieldAddr 25 (.tmp 5) 1, some 26, none),
  (.load 22 (.tmp 26), some 27, none),
  (.buildSlice 33 3 #[(0, (.tmp 23)), (1, (.tmp 25)), (2, (.tmp 27))], some 28, none),
  (.call { callee := .value (.func 105), args := #[(.tmp 28)], argTypes := #[33] }, some 29, none),
  (.fieldAddr 25 (.tmp 3) 3, some 30, none),
  (.load 23 (.tmp 30), some 31, none),
  (.fieldAddr 25 (.tmp 5) 3, some 32, none),
  (.load 23 (.tmp 32), some 33, none),
  (.buildSlice 34 2 #[(0, (.tmp 31)), (1, (.tmp 33))], some 34, none),
  (.call { callee := .value (.func 104), args := #[(.tmp 34)], argTypes := #[34] }, some 35, none),
  (.build 25 #[(1, (.tmp 29)), (3, (.tmp 35))], some 36, none),
  (.store 25 (.tmp 6) (.tmp 36), none, none)]
def rjiD : List (Nat × Nat) := [(1, 0), (3, 2), (5, 4), (6, 1), (6, 3), (6, 5), (7, 6), (9, 8), (11, 10), (12, 9), (12, 11), (13, 12), (14, 7), (14, 13), (15, 14)]
set_option maxHeartbeats 2000000 in
theorem rji {ops : Array Oper} {id : Nat} {Q : Exit → Act → World → Prop} (X Y A k1 k2 i1 i2 kc kd ic jd kl il : Nat) (ka kb ia ib : Option Addr) (key : Bs) (htab : ops.toList.map (fun o => (o.op, o.dst, o.guard)) = rjiT) (hdep : deplB rjiD ops = true) (hac : acB ops = true)
    (a0 : Act) (w : World) (hsz : 37 ≤ a0.tmps.size) (o1 : a0.tmps[1]? = some (S key)) (o3 : a0.tmps[3]? = some (.pointer (some ⟨X, 0, none⟩))) (o5 : a0.tmps[5]? = some (.pointer (some ⟨Y, 0, none⟩))) (o6 : a0.tmps[6]? = some (.pointer (some ⟨A, 0, none⟩)))
    (Wd : Ch3 → (Nat → Bool) → World → Prop) (h0 : ∃ c, Wd c (fun _ => false) w.drew) (hpure : ∀ i, i ∉ ([3, 6, 7, 12, 13, 15, 14] : List Nat) → ∀ c L W, Wd c L W → Wd c (upd L i) W)
    (l1 : ∀ c L W, Wd c L W → W.cell? ⟨X, 0 + 1, none⟩ = some (.slice ka k1 kc))
    (l5 : ∀ c L W, Wd c L W → W.cell? ⟨Y, 0 + 1, none⟩ = some (.slice kb k2 kd))
    (l9 : ∀ c L W, Wd c L W → W.cell? ⟨X, 0 + 3, none⟩ = some (.slice ia i1 ic))
    (l11 : ∀ c L W, Wd c L W → W.cell? ⟨Y, 0 + 3, none⟩ = some (.slice ib i2 jd))
    (hpure14 : ∀ c L W, Wd c L W → L 7 = true → L 13 = true → Wd c (upd L 14) W)
    (n3 : ∀ c L W, Wd c L W → L 3 = false → ∃ c' : Ch3, (∀ j, L j = true → vji X Y k1 k2 i1 i2 kc kd ic jd kl il ka kb ia ib key c' j = vji X Y k1 k2 i1 i2 kc kd ic jd kl il ka kb ia ib key c j) ∧ c'.g1 = W.heap.size ∧ Wd c' (upd L 3) (W.alloc (.cells #[S key] 9)))
    (n6 : ∀ c L W, Wd c L W → L 6 = false → L 3 = true → ∃ c' : Ch3, (∀ j, L j = true → vji X Y k1 k2 i1 i2 kc kd ic jd kl il ka kb ia ib key c' j = vji X Y k1 k2 i1 i2 kc kd ic jd kl il ka kb ia ib key c j) ∧ c'.g2 = W.heap.size ∧ Wd c' (upd L 6) (W.alloc (.cells #[.slice ka k1 kc, .slice (some ⟨c.g1, 0, none⟩) 1 1, .slice kb k2 kd] 22)))
    (n12 : ∀ c L W, Wd c L W → L 12 = false → ∃ c' : Ch3, (∀ j, L j = true → vji X Y k1 k2 i1 i2 kc kd ic jd kl il ka kb ia ib key c' j = vji X Y k1 k2 i1 i2 kc kd ic jd kl il ka kb ia ib key c j) ∧ c'.g3 = W.heap.size ∧ Wd c' (upd L 12) (W.alloc (.cells #[.slice ia i1 ic, .slice ib i2 jd] 23)))
    (c7 : ∀ c L W, Wd c L W → L 7 = false → L 6 = true → Calls Tryz.prog 105 #[.slice (some ⟨c.g2, 0, none⟩) 3 3] W fun e w' => ∃ c' : Ch3, (∀ j, L j = true → vji X Y k1 k2 i1 i2 kc kd ic jd kl il ka kb ia ib key c' j = vji X Y k1 k2 i1 i2 kc kd ic jd kl il ka kb ia ib key c j) ∧ e = .returned (.slice c'.p1 kl c'.c1) ∧ Wd c' (upd L 7) w')
    (c13 : ∀ c L W, Wd c L W → L 13 = false → L 12 = true → Calls Tryz.prog 104 #[.slice (some ⟨c.g3, 0, none⟩) 2 2] W fun e w' => ∃ c' : Ch3, (∀ j, L j = true → vji X Y k1 k2 i1 i2 kc kd ic jd kl il ka kb ia ib key c' j = vji X Y k1 k2 i1 i2 kc kd ic jd kl il ka kb ia ib key c j) ∧ e = .returned (.slice c'.p3 il c'.c3) ∧ Wd c' (upd L 13) w')
    (n15 : ∀ c L W, Wd c L W → L 15 = false → L 14 = true → Wd c (upd L 15) ((((W.setCell ⟨A, 0, none⟩ (.bool false)).setCell ⟨A, 1, none⟩ (.slice c.p1 kl c.c1)).setCell ⟨A, 2, none⟩ (.slice none 0 0)).setCell ⟨A, 3, none⟩ (.slice c.p3 il c.c3)) ∧ W.heap[A]? = some (.cells #[.bool false, .slice none 0 0, .slice none 0 0, .slice none 0 0] 25 (0, 0)))
    (hend : ∀ c L W, (∀ i, i < 16 → L i = true) → Wd c L W → Q .normal (((((((((((((((a0.put (some 22) (.pointer (some ⟨X, 0 + 1, none⟩))).put (some 23) (.slice ka k1 kc)).put (some 24) (S key)).put (some 25) (.slice (some ⟨c.g1, 0, none⟩) 1 1)).put (some 26) (.pointer (some ⟨Y, 0 + 1, none⟩))).put (some 27) (.slice kb k2 kd)).put (some 28) (.slice (some ⟨c.g2, 0, none⟩) 3 3)).put (some 29) (.slice c.p1 kl c.c1)).put (some 30) (.pointer (some ⟨X, 0 + 3, none⟩))).put (some 31) (.slice ia i1 ic)).put (some 32) (.pointer (some ⟨Y, 0 + 3, none⟩))).put (some 33) (.slice ib i2 jd)).put (some 34) (.slice (some ⟨c.g3, 0, none⟩) 2 2)).put (some 35) (.slice c.p3 il c.c3)).put (some 36) (.agg #[.bool false, .slice c.p1 kl c.c1, .slice none 0 0, .slice c.p3 il c.c3])) W) : (Code.region id ops true).wp Tryz.prog Q a0 w := by
  let val : Ch3 → Nat → Value := vji X Y k1 k2 i1 i2 kc kd ic jd kl il ka kb ia ib key
  have hosz : ops.size = 16 := by
    have := congrArg List.length htab
    simpa [rjiT] using this
  have hds : ∀ i s, (rjiT[i]?).bind (·.2.1) = some s → dstOf ops i = some s := fun i s hi => by rw [tab_dst htab, hi]
  have hdisB : disL rjiT = true := by rfl
  have hdis := disL_of htab hdisB
  have hold : ∀ s, rjiT.all (fun x => !(x.2.1 == some s)) = true → (List.range ops.size).all (fun j => !(dstOf ops j == some s)) = true := fun s h => holdL htab s h
  refine region_detX val Wd (hac_of hac) hdis h0 ?_ ?_
  rotate_left
  · intro c L W hall hW
    have := hend c L W (by rw [← hosz]; exact hall) hW
    have e : frm ops a0 (val c) (fun _ => true) ops.size = (((((((((((((((a0.put (some 22) (.pointer (some ⟨X, 0 + 1, none⟩))).put (some 23) (.slice ka k1 kc)).put (some 24) (S key)).put (some 25) (.slice (some ⟨c.g1, 0, none⟩) 1 1)).put (some 26) (.pointer (some ⟨Y, 0 + 1, none⟩))).put (some 27) (.slice kb k2 kd)).put (some 28) (.slice (some ⟨c.g2, 0, none⟩) 3 3)).put (some 29) (.slice c.p1 kl c.c1)).put (some 30) (.pointer (some ⟨X, 0 + 3, none⟩))).put (some 31) (.slice ia i1 ic)).put (some 32) (.pointer (some ⟨Y, 0 + 3, none⟩))).put (some 33) (.slice ib i2 jd)).put (some 34) (.slice (some ⟨c.g3, 0, none⟩) 2 2)).put (some 35) (.slice c.p3 il c.c3)).put (some 36) (.agg #[.bool false, .slice c.p1 kl c.c1, .slice none 0 0, .slice c.p3 il c.c3])) := by
      rw [hosz]
      simp only [frm, if_true]
      rw [tab_dst htab 0, tab_dst htab 1, tab_dst htab 2, tab_dst htab 3, tab_dst htab 4, tab_dst htab 5, tab_dst htab 6, tab_dst htab 7, tab_dst htab 8, tab_dst htab 9, tab_dst htab 10, tab_dst htab 11, tab_dst htab 12, tab_dst htab 13, tab_dst htab 14, (show dstOf ops 15 = none from (tab_dst htab 15).trans rfl), put_none]
      rfl
    rw [e]
    exact this
  intro i o ho c L a w' hL hd ha hW
  have hi : i < 16 := by rw [← hosz]; exact (Array.getElem?_eq_some_iff.1 ho).1
  match i, ho, hL, hi with
  | 0, ho, hL, _ =>
    obtain ⟨hop, hdst, hgd⟩ := tab_at htab ho (show rjiT[0]? = _ from rfl)
    simp only at hop hgd
    have h0 := frm_old (val := val c) ha 3 _ (hold 3 rfl) o3
    exact doesX_of (doesL_run ho (wanted_none hgd) (hpure 0 (by decide) c L w' hW) (run_f25_1 _ _ _ hop _ _ (eval_of h0) _))
  | 1, ho, hL, _ =>
    obtain ⟨hop, hdst, hgd⟩ := tab_at htab ho (show rjiT[1]? = _ from rfl)
    simp only at hop hgd
    have h0 := frm_at (val := val c) hdis ha 0 22 (hds 0 22 rfl) (by omega) (depl_of hdep 1 0 (by decide) ho hd)
    exact doesX_of (doesL_run ho (wanted_none hgd) (hpure 1 (by decide) c L w' hW) (run_ld22 _ _ _ hop _ _ (eval_of h0) _ (l1 c L w' hW)))
  | 2, ho, hL, _ =>
    obtain ⟨hop, hdst, hgd⟩ := tab_at htab ho (show rjiT[2]? = _ from rfl)
    simp only at hop hgd
    have h0 := frm_old (val := val c) ha 1 _ (hold 1 rfl) o1
    exact doesX_of (doesL_run ho (wanted_none hgd) (hpure 2 (by decide) c L w' hW) (by rw [run_move _ _ _ hop]; exact congrArg (fun v => Result.ok (Next.value v) w') (eval_of h0)))
  | 3, ho, hL, _ =>
    obtain ⟨hop, hdst, hgd⟩ := tab_at htab ho (show rjiT[3]? = _ from rfl)
    simp only at hop hgd
    have h0 := frm_at (val := val c) hdis ha 2 24 (hds 2 24 rfl) (by omega) (depl_of hdep 3 2 (by decide) ho hd)
    obtain ⟨c', q0, q1, q2⟩ := n3 c L w' hW hL
    refine doesX_runw ho (wanted_none hgd) c' q0 q2 ((run_bs22_1 _ _ _ hop _ (eval_of h0) _).trans (by rw [← q1]; rfl))
  | 4, ho, hL, _ =>
    obtain ⟨hop, hdst, hgd⟩ := tab_at htab ho (show rjiT[4]? = _ from rfl)
    simp only at hop hgd
    have h0 := frm_old (val := val c) ha 5 _ (hold 5 rfl) o5
    exact doesX_of (doesL_run ho (wanted_none hgd) (hpure 4 (by decide) c L w' hW) (run_f25_1 _ _ _ hop _ _ (eval_of h0) _))
  | 5, ho, hL, _ =>
    obtain ⟨hop, hdst, hgd⟩ := tab_at htab ho (show rjiT[5]? = _ from rfl)
    simp only at hop hgd
    have h0 := frm_at (val := val c) hdis ha 4 26 (hds 4 26 rfl) (by omega) (depl_of hdep 5 4 (by decide) ho hd)
    exact doesX_of (doesL_run ho (wanted_none hgd) (hpure 5 (by decide) c L w' hW) (run_ld22 _ _ _ hop _ _ (eval_of h0) _ (l5 c L w' hW)))
  | 6, ho, hL, _ =>
    obtain ⟨hop, hdst, hgd⟩ := tab_at htab ho (show rjiT[6]? = _ from rfl)
    simp only at hop hgd
    have h0 := frm_at (val := val c) hdis ha 1 23 (hds 1 23 rfl) (by omega) (depl_of hdep 6 1 (by decide) ho hd)
    have h1 := frm_at (val := val c) hdis ha 3 25 (hds 3 25 rfl) (by omega) (depl_of hdep 6 3 (by decide) ho hd)
    have h2 := frm_at (val := val c) hdis ha 5 27 (hds 5 27 rfl) (by omega) (depl_of hdep 6 5 (by decide) ho hd)
    obtain ⟨c', q0, q1, q2⟩ := n6 c L w' hW hL (depl_of hdep 6 3 (by decide) ho hd)
    refine doesX_runw ho (wanted_none hgd) c' q0 q2 ((run_bs33_3 _ _ _ _ _ hop _ _ _ _ _ _ _ _ _ (eval_of h0) (eval_of h1) (eval_of h2) _).trans (by rw [← q1]; rfl))
  | 7, ho, hL, _ =>
    obtain ⟨hop, hdst, hgd⟩ := tab_at htab ho (show rjiT[7]? = _ from rfl)
    simp only at hop hgd
    have h0 := frm_at (val := val c) hdis ha 6 28 (hds 6 28 rfl) (by omega) (depl_of hdep 7 6 (by decide) ho hd)
    refine doesX_call ho (wanted_none hgd) 105 #[.slice (some ⟨c.g2, 0, none⟩) 3 3] ?_ (c7 c L w' hW hL (depl_of hdep 7 6 (by decide) ho hd))
    rw [run_calls Tryz.func105 (by kernel_rfl) rfl _ _ _ _ hop rfl]
    simp only [List.map_toArray, List.map_cons, List.map_nil, eval_of h0]
    all_goals rfl
  | 8, ho, hL, _ =>
    obtain ⟨hop, hdst, hgd⟩ := tab_at htab ho (show rjiT[8]? = _ from rfl)
    simp only at hop hgd
    have h0 := frm_old (val := val c) ha 3 _ (hold 3 rfl) o3
    exact doesX_of (doesL_run ho (wanted_none hgd) (hpure 8 (by decide) c L w' hW) (run_f25_3 _ _ _ hop _ _ (eval_of h0) _))
  | 9, ho, hL, _ =>
    obtain ⟨hop, hdst, hgd⟩ := tab_at htab ho (show rjiT[9]? = _ from rfl)
    simp only at hop hgd
    have h0 := frm_at (val := val c) hdis ha 8 30 (hds 8 30 rfl) (by omega) (depl_of hdep 9 8 (by decide) ho hd)
    exact doesX_of (doesL_run ho (wanted_none hgd) (hpure 9 (by decide) c L w' hW) (run_ld23 _ _ _ hop _ _ (eval_of h0) _ (l9 c L w' hW)))
  | 10, ho, hL, _ =>
    obtain ⟨hop, hdst, hgd⟩ := tab_at htab ho (show rjiT[10]? = _ from rfl)
    simp only at hop hgd
    have h0 := frm_old (val := val c) ha 5 _ (hold 5 rfl) o5
    exact doesX_of (doesL_run ho (wanted_none hgd) (hpure 10 (by decide) c L w' hW) (run_f25_3 _ _ _ hop _ _ (eval_of h0) _))
  | 11, ho, hL, _ =>
    obtain ⟨hop, hdst, hgd⟩ := tab_at htab ho (show rjiT[11]? = _ from rfl)
    simp only at hop hgd
    have h0 := frm_at (val := val c) hdis ha 10 32 (hds 10 32 rfl) (by omega) (depl_of hdep 11 10 (by decide) ho hd)
    exact doesX_of (doesL_run ho (wanted_none hgd) (hpure 11 (by decide) c L w' hW) (run_ld23 _ _ _ hop _ _ (eval_of h0) _ (l11 c L w' hW)))
  | 12, ho, hL, _ =>
    obtain ⟨hop, hdst, hgd⟩ := tab_at htab ho (show rjiT[12]? = _ from rfl)
    simp only at hop hgd
    have h0 := frm_at (val := val c) hdis ha 9 31 (hds 9 31 rfl) (by omega) (depl_of hdep 12 9 (by decide) ho hd)
    have h1 := frm_at (val := val c) hdis ha 11 33 (hds 11 33 rfl) (by omega) (depl_of hdep 12 11 (by decide) ho hd)
    obtain ⟨c', q0, q1, q2⟩ := n12 c L w' hW hL
    refine doesX_runw ho (wanted_none hgd) c' q0 q2 ((run_bs34_2 _ _ _ _ hop _ _ _ _ _ _ (eval_of h0) (eval_of h1) _).trans (by rw [← q1]; rfl))
  | 13, ho, hL, _ =>
    obtain ⟨hop, hdst, hgd⟩ := tab_at htab ho (show rjiT[13]? = _ from rfl)
    simp only at hop hgd
    have h0 := frm_at (val := val c) hdis ha 12 34 (hds 12 34 rfl) (by omega) (depl_of hdep 13 12 (by decide) ho hd)
    refine doesX_call ho (wanted_none hgd) 104 #[.slice (some ⟨c.g3, 0, none⟩) 2 2] ?_ (c13 c L w' hW hL (depl_of hdep 13 12 (by decide) ho hd))
    rw [run_calls Tryz.func104 (by kernel_rfl) rfl _ _ _ _ hop rfl]
    simp only [List.map_toArray, List.map_cons, List.map_nil, eval_of h0]
    all_goals rfl
  | 14, ho, hL, _ =>
    obtain ⟨hop, hdst, hgd⟩ := tab_at htab ho (show rjiT[14]? = _ from rfl)
    simp only at hop hgd
    have h0 := frm_at (val := val c) hdis ha 7 29 (hds 7 29 rfl) (by omega) (depl_of hdep 14 7 (by decide) ho hd)
    have h1 := frm_at (val := val c) hdis ha 13 35 (hds 13 35 rfl) (by omega) (depl_of hdep 14 13 (by decide) ho hd)
    exact doesX_of (doesL_run ho (wanted_none hgd) (hpure14 c L w' hW (depl_of hdep 14 7 (by decide) ho hd) (depl_of hdep 14 13 (by decide) ho hd)) (run_build25i _ _ _ _ hop _ _ _ _ _ _ (eval_of h0) (eval_of h1) _))
  | 15, ho, hL, _ =>
    obtain ⟨hop, hdst, hgd⟩ := tab_at htab ho (show rjiT[15]? = _ from rfl)
    simp only at hop hgd
    have h0 := frm_old (val := val c) ha 6 _ (hold 6 rfl) o6
    have h1 := frm_at (val := val c) hdis ha 14 36 (hds 14 36 rfl) (by omega) (depl_of hdep 15 14 (by decide) ho hd)
    obtain ⟨s1, s2⟩ := n15 c L w' hW hL (depl_of hdep 15 14 (by decide) ho hd)
    exact doesX_of (doesL_skp ho (wanted_none hgd) rfl s1 (run_st25 _ _ _ _ hop _ _ _ _ _ (eval_of h0) (eval_of h1) _ _ _ _ _ s2 ⟨rfl, rfl, rfl, rfl⟩))
  | (i + 16), ho, hL, hi => exact absurd hi (by omega)
end Go.Proofs.YtllialbdofklgaaGreatDoor
namespace Go.Proofs.YtllialbdofklgaaGreatDoor
open Go.RowKit
theorem run_cutH22 (ρ : Operand → Value) (o : Oper) (x y : Operand) (ho : o.op = .slice 22 x none (some y) none) (g q n cap k : Nat) (hk : k ≤ cap) (hx : ρ x = .slice (some ⟨g, q, none⟩) n cap) (hy : ρ y = .int .i64 (k : Int)) (w : World) : (execOp ρ o).run Tryz.prog w = .ok (.value (.slice (some ⟨g, q, none⟩) k cap)) w := by
  unfold execOp
  simp only [ho, hx]
  have u := Tryz.underlying22
  simp [go_sem, u, hy, hk]
theorem run_cutL22 (ρ : Operand → Value) (o : Oper) (x y : Operand) (ho : o.op = .slice 22 x (some y) none none) (g q n cap k : Nat) (hk : k ≤ n ∧ n ≤ cap ∧ cap ≠ k) (hx : ρ x = .slice (some ⟨g, q, none⟩) n cap) (hy : ρ y = .int .i64 (k : Int)) (w : World) : (execOp ρ o).run Tryz.prog w = .ok (.value (.slice (some ⟨g, q + k, none⟩) (n - k) (cap - k))) w := by
  unfold execOp
  simp only [ho, hx]
  have u := Tryz.underlying22
  simp [go_sem, u, hy, hk.1, hk.2.2]
theorem run_al25 (ρ : Operand → Value) (o : Oper) (ho : o.op = .alloc 25) (w : World) : (execOp ρ o).run Tryz.prog w = .ok (.value (.pointer (some ⟨w.heap.size, 0, none⟩))) (w.alloc (.cells #[.bool false, .slice none 0 0, .slice none 0 0, .slice none 0 0] 25)) := by
  unfold execOp
  simp only [ho]
  simp [go_sem, Tryz.zeroValue25]
theorem run_addi1 (ρ : Operand → Value) (o : Oper) (x : Operand) (ho : o.op = .binOp .add 3 x (.const (.int .i64 1)) 3) (k : Nat) (hk : k ≤ 4294967296) (hx : ρ x = .int .i64 (k : Int)) (hc : ρ (.const (.int .i64 1)) = .int .i64 1) (w : World) : (execOp ρ o).run Tryz.prog w = .ok (.value (.int .i64 ((k + 1 : Nat) : Int))) w := by
  unfold execOp
  simp only [ho, hx, hc]
  have q : IntKind.i64.wrap ((k : Int) + 1) = (k : Int) + 1 := by rw [IntKind.wrap_i64]; omega
  simp [go_sem, q]
theorem run_cutH23 (ρ : Operand → Value) (o : Oper) (x y : Operand) (ho : o.op = .slice 23 x none (some y) none) (g q n cap k : Nat) (hk : k ≤ cap) (hx : ρ x = .slice (some ⟨g, q, none⟩) n cap) (hy : ρ y = .int .i64 (k : Int)) (w : World) : (execOp ρ o).run Tryz.prog w = .ok (.value (.slice (some ⟨g, q, none⟩) k cap)) w := by
  unfold execOp
  simp only [ho, hx]
  have u := Tryz.underlying23
  simp [go_sem, u, hy, hk]
theorem run_cutL23 (ρ : Operand → Value) (o : Oper) (x y : Operand) (ho : o.op = .slice 23 x (some y) none none) (g q n cap k : Nat) (hk : k ≤ n ∧ n ≤ cap ∧ cap ≠ k) (hx : ρ x = .slice (some ⟨g, q, none⟩) n cap) (hy : ρ y = .int .i64 (k : Int)) (w : World) : (execOp ρ o).run Tryz.prog w = .ok (.value (.slice (some ⟨g, q + k, none⟩) (n - k) (cap - k))) w := by
  unfold execOp
  simp only [ho, hx]
  have u := Tryz.underlying23
  simp [go_sem, u, hy, hk.1, hk.2.2]
def vrpa (X kl kc vl vc ii ga oa gb ob : Nat) (c : Ch3) (i : Nat) : Value := match i with
  | 0 => (.pointer (some ⟨X, 0 + 1, none⟩))
  | 1 => (.slice (some ⟨ga, oa, none⟩) kl kc)
  | 2 => (.int .i64 (ii : Int))
  | 3 => (.slice (some ⟨ga, oa, none⟩) ii kc)
  | 4 => (.slice c.p1 ii c.c1)
  | 5 => (.pointer (some ⟨X, 0 + 2, none⟩))
  | 6 => (.slice (some ⟨gb, ob, none⟩) vl vc)
  | 7 => (.int .i64 (ii : Int))
  | 8 => (.slice (some ⟨gb, ob, none⟩) ii vc)
  | 9 => (.slice c.p2 ii c.c2)
  | 10 => (.agg #[.bool true, (.slice c.p1 ii c.c1), (.slice c.p2 ii c.c2), .slice none 0 0])
  | 11 => (.pointer (some ⟨c.g1, 0, none⟩))
  | 12 => undef
  | _ => undef
def rpaT : List (Op × Option Tmp × Option (Nat × Bool)) := [
  (.fieldAddr 25 (.tmp 2) 1, some 13, none),
  (.load 22 (.tmp 13), some 14, none),
  (.move (.tmp 1), some 15, none),
  (.slice 22 (.tmp 14) none (some (.tmp 15)) none, some 16, none),
  (.call { callee := .value (.func 82), args := #[(.tmp 16)], argTypes := #[22] }, some 17, none),
  (.fieldAddr 25 (.tmp 2) 2, some 18, none),
  (.load 22 (.tmp 18), some 19, none),
  (.move (.tmp 1), some 20, none),
  (.slice 22 (.tmp 19) none (some (.tmp 20)) none, some 21, none),
  (.call { callee := .value (.func 82), args := #[(.tmp 21)], argTypes := #[22] }, some 22, none),
  (.build 25 #[(0, (.const (.bool true))), (1, (.tmp 17)), (2, (.tmp 22))], some 23, none),
  (.alloc 25, some 7, none),
  (.store 25 (.tmp 7) (.tmp 23), none, none)]
def rpaD : List (Nat × Nat) := [(1, 0), (3, 1), (3, 2), (4, 3), (6, 5), (8, 6), (8, 7), (9, 8), (10, 4), (10, 9), (12, 10), (12, 11)]
set_option maxHeartbeats 2000000 in
theorem rpa {ops : Array Oper} {id : Nat} {Q : Exit → Act → World → Prop} (X kl kc vl vc ii ga oa gb ob : Nat) (htab : ops.toList.map (fun o => (o.op, o.dst, o.guard)) = rpaT) (hdep : deplB rpaD ops = true) (hac : acB ops = true)
    (a0 : Act) (w : World) (hsz : 24 ≤ a0.tmps.size) (o1 : a0.tmps[1]? = some (.int .i64 (ii : Int))) (o2 : a0.tmps[2]? = some (.pointer (some ⟨X, 0, none⟩)))
    (Wd : Ch3 → (Nat → Bool) → World → Prop) (h0 : ∃ c, Wd c (fun _ => false) w.drew) (hpure : ∀ i, i ∉ ([4, 9, 11, 12, 10] : List Nat) → ∀ c L W, Wd c L W → Wd c (upd L i) W)
    (s3 : ii ≤ kc)
    (s8 : ii ≤ vc)
    (l1 : ∀ c L W, Wd c L W → W.cell? ⟨X, 0 + 1, none⟩ = some (.slice (some ⟨ga, oa, none⟩) kl kc))
    (l6 : ∀ c L W, Wd c L W → W.cell? ⟨X, 0 + 2, none⟩ = some (.slice (some ⟨gb, ob, none⟩) vl vc))
    (hpure10 : ∀ c L W, Wd c L W → L 4 = true → L 9 = true → Wd c (upd L 10) W)
    (c4 : ∀ c L W, Wd c L W → L 4 = false → Calls Tryz.prog 82 #[(.slice (some ⟨ga, oa, none⟩) ii kc)] W fun e w' => ∃ c' : Ch3, (∀ j, L j = true → vrpa X kl kc vl vc ii ga oa gb ob c' j = vrpa X kl kc vl vc ii ga oa gb ob c j) ∧ e = .returned (.slice c'.p1 ii c'.c1) ∧ Wd c' (upd L 4) w')
    (c9 : ∀ c L W, Wd c L W → L 9 = false → Calls Tryz.prog 82 #[(.slice (some ⟨gb, ob, none⟩) ii vc)] W fun e w' => ∃ c' : Ch3, (∀ j, L j = true → vrpa X kl kc vl vc ii ga oa gb ob c' j = vrpa X kl kc vl vc ii ga oa gb ob c j) ∧ e = .returned (.slice c'.p2 ii c'.c2) ∧ Wd c' (upd L 9) w')
    (n11 : ∀ c L W, Wd c L W → L 11 = false → ∃ c' : Ch3, (∀ j, L j = true → vrpa X kl kc vl vc ii ga oa gb ob c' j = vrpa X kl kc vl vc ii ga oa gb ob c j) ∧ c'.g1 = W.heap.size ∧ Wd c' (upd L 11) (W.alloc (.cells #[.bool false, .slice none 0 0, .slice none 0 0, .slice none 0 0] 25)))
    (n12 : ∀ c L W, Wd c L W → L 12 = false → L 10 = true → L 11 = true → Wd c (upd L 12) ((((W.setCell ⟨c.g1, 0, none⟩ (.bool true)).setCell ⟨c.g1, 1, none⟩ (.slice c.p1 ii c.c1)).setCell ⟨c.g1, 2, none⟩ (.slice c.p2 ii c.c2)).setCell ⟨c.g1, 3, none⟩ (.slice none 0 0)) ∧ W.heap[c.g1]? = some (.cells #[.bool false, .slice none 0 0, .slice none 0 0, .slice none 0 0] 25 (0, 0)))
    (hend : ∀ c L W, (∀ i, i < 13 → L i = true) → Wd c L W → Q .normal ((((((((((((a0.put (some 13) (.pointer (some ⟨X, 0 + 1, none⟩))).put (some 14) (.slice (some ⟨ga, oa, none⟩) kl kc)).put (some 15) (.int .i64 (ii : Int))).put (some 16) (.slice (some ⟨ga, oa, none⟩) ii kc)).put (some 17) (.slice c.p1 ii c.c1)).put (some 18) (.pointer (some ⟨X, 0 + 2, none⟩))).put (some 19) (.slice (some ⟨gb, ob, none⟩) vl vc)).put (some 20) (.int .i64 (ii : Int))).put (some 21) (.slice (some ⟨gb, ob, none⟩) ii vc)).put (some 22) (.slice c.p2 ii c.c2)).put (some 23) (.agg #[.bool true, (.slice c.p1 ii c.c1), (.slice c.p2 ii c.c2), .slice none 0 0])).put (some 7) (.pointer (some ⟨c.g1, 0, none⟩))) W) : (Code.region id ops true).wp Tryz.prog Q a0 w := by
  let val : Ch3 → Nat → Value := vrpa X kl kc vl vc ii ga oa gb ob
  have hosz : ops.size = 13 := by
    have := congrArg List.length htab
    simpa [rpaT] using this
  have hds : ∀ i s, (rpaT[i]?).bind (·.2.1) = some s → dstOf ops i = some s := fun i s hi => by rw [tab_dst htab, hi]
  have hdisB : disL rpaT = true := by rfl
  have hdis := disL_of htab hdisB
  have hold : ∀ s, rpaT.all (fun x => !(x.2.1 == some s)) = true → (List.range ops.size).all (fun j => !(dstOf ops j == some s)) = true := fun s h => holdL htab s h
  refine region_detX val Wd (hac_of hac) hdis h0 ?_ ?_
  rotate_left
  · intro c L W hall hW
    have := hend c L W (by rw [← hosz]; exact hall) hW
    have e : frm ops a0 (val c) (fun _ => true) ops.size = ((((((((((((a0.put (some 13) (.pointer (some ⟨X, 0 + 1, none⟩))).put (some 14) (.slice (some ⟨ga, oa, none⟩) kl kc)).put (some 15) (.int .i64 (ii : Int))).put (some 16) (.slice (some ⟨ga, oa, none⟩) ii kc)).put (some 17) (.slice c.p1 ii c.c1)).put (some 18) (.pointer (some ⟨X, 0 + 2, none⟩))).put (some 19) (.slice (some ⟨gb, ob, none⟩) vl vc)).put (some 20) (.int .i64 (ii : Int))).put (some 21) (.slice (some ⟨gb, ob, none⟩) ii vc)).put (some 22) (.slice c.p2 ii c.c2)).put (some 23) (.agg #[.bool true, (.slice c.p1 ii c.c1), (.slice c.p2 ii c.c2), .slice none 0 0])).put (some 7) (.pointer (some ⟨c.g1, 0, none⟩))) := by
      rw [hosz]
      simp only [frm, if_true]
      rw [tab_dst htab 0, tab_dst htab 1, tab_dst htab 2, tab_dst htab 3, tab_dst htab 4, tab_dst htab 5, tab_dst htab 6, tab_dst htab 7, tab_dst htab 8, tab_dst htab 9, tab_dst htab 10, tab_dst htab 11, (show dstOf ops 12 = none from (tab_dst htab 12).trans rfl), put_none]
      rfl
    rw [e]
    exact this
  intro i o ho c L a w' hL hd ha hW
  have hi : i < 13 := by rw [← hosz]; exact (Array.getElem?_eq_some_iff.1 ho).1
  match i, ho, hL, hi with
  | 0, ho, hL, _ =>
    obtain ⟨hop, hdst, hgd⟩ := tab_at htab ho (show rpaT[0]? = _ from rfl)
    simp only at hop hgd
    have h0 := frm_old (val := val c) ha 2 _ (hold 2 rfl) o2
    exact doesX_of (doesL_run ho (wanted_none hgd) (hpure 0 (by decide) c L w' hW) (run_f25_1 _ _ _ hop _ _ (eval_of h0) _))
  | 1, ho, hL, _ =>
    obtain ⟨hop, hdst, hgd⟩ := tab_at htab ho (show rpaT[1]? = _ from rfl)
    simp only at hop hgd
    have h0 := frm_at (val := val c) hdis ha 0 13 (hds 0 13 rfl) (by omega) (depl_of hdep 1 0 (by decide) ho hd)
    exact doesX_of (doesL_run ho (wanted_none hgd) (hpure 1 (by decide) c L w' hW) (run_ld22 _ _ _ hop _ _ (eval_of h0) _ (l1 c L w' hW)))
  | 2, ho, hL, _ =>
    obtain ⟨hop, hdst, hgd⟩ := tab_at htab ho (show rpaT[2]? = _ from rfl)
    simp only at hop hgd
    have h0 := frm_old (val := val c) ha 1 _ (hold 1 rfl) o1
    exact doesX_of (doesL_run ho (wanted_none hgd) (hpure 2 (by decide) c L w' hW) (by rw [run_move _ _ _ hop]; exact congrArg (fun v => Result.ok (Next.value v) w') (eval_of h0)))
  | 3, ho, hL, _ =>
    obtain ⟨hop, hdst, hgd⟩ := tab_at htab ho (show rpaT[3]? = _ from rfl)
    simp only at hop hgd
    have h0 := frm_at (val := val c) hdis ha 1 14 (hds 1 14 rfl) (by omega) (depl_of hdep 3 1 (by decide) ho hd)
    have h1 := frm_at (val := val c) hdis ha 2 15 (hds 2 15 rfl) (by omega) (depl_of hdep 3 2 (by decide) ho hd)
    exact doesX_of (doesL_run ho (wanted_none hgd) (hpure 3 (by decide) c L w' hW) (run_cutH22 _ _ _ _ hop _ _ _ _ _ s3 (eval_of h0) (eval_of h1) _))
  | 4, ho, hL, _ =>
    obtain ⟨hop, hdst, hgd⟩ := tab_at htab ho (show rpaT[4]? = _ from rfl)
    simp only at hop hgd
    have h0 := frm_at (val := val c) hdis ha 3 16 (hds 3 16 rfl) (by omega) (depl_of hdep 4 3 (by decide) ho hd)
    refine doesX_call ho (wanted_none hgd) 82 #[.slice (some ⟨ga, oa, none⟩) ii kc] ?_ (c4 c L w' hW hL)
    rw [run_calls Tryz.func82 (by kernel_rfl) rfl _ _ _ _ hop rfl]
    simp only [List.map_toArray, List.map_cons, List.map_nil, eval_of h0]
    all_goals rfl
  | 5, ho, hL, _ =>
    obtain ⟨hop, hdst, hgd⟩ := tab_at htab ho (show rpaT[5]? = _ from rfl)
    simp only at hop hgd
    have h0 := frm_old (val := val c) ha 2 _ (hold 2 rfl) o2
    exact doesX_of (doesL_run ho (wanted_none hgd) (hpure 5 (by decide) c L w' hW) (run_f25_2 _ _ _ hop _ _ (eval_of h0) _))
  | 6, ho, hL, _ =>
    obtain ⟨hop, hdst, hgd⟩ := tab_at htab ho (show rpaT[6]? = _ from rfl)
    simp only at hop hgd
    have h0 := frm_at (val := val c) hdis ha 5 18 (hds 5 18 rfl) (by omega) (depl_of hdep 6 5 (by decide) ho hd)
    exact doesX_of (doesL_run ho (wanted_none hgd) (hpure 6 (by decide) c L w' hW) (run_ld22 _ _ _ hop _ _ (eval_of h0) _ (l6 c L w' hW)))
  | 7, ho, hL, _ =>
    obtain ⟨hop, hdst, hgd⟩ := tab_at htab ho (show rpaT[7]? = _ from rfl)
    simp only at hop hgd
    have h0 := frm_old (val := val c) ha 1 _ (hold 1 rfl) o1
    exact doesX_of (doesL_run ho (wanted_none hgd) (hpure 7 (by decide) c L w' hW) (by rw [run_move _ _ _ hop]; exact congrArg (fun v => Result.ok (Next.value v) w') (eval_of h0)))
  | 8, ho, hL, _ =>
    obtain ⟨hop, hdst, hgd⟩ := tab_at htab ho (show rpaT[8]? = _ from rfl)
    simp only at hop hgd
    have h0 := frm_at (val := val c) hdis ha 6 19 (hds 6 19 rfl) (by omega) (depl_of hdep 8 6 (by decide) ho hd)
    have h1 := frm_at (val := val c) hdis ha 7 20 (hds 7 20 rfl) (by omega) (depl_of hdep 8 7 (by decide) ho hd)
    exact doesX_of (doesL_run ho (wanted_none hgd) (hpure 8 (by decide) c L w' hW) (run_cutH22 _ _ _ _ hop _ _ _ _ _ s8 (eval_of h0) (eval_of h1) _))
  | 9, ho, hL, _ =>
    obtain ⟨hop, hdst, hgd⟩ := tab_at htab ho (show rpaT[9]? = _ from rfl)
    simp only at hop hgd
    have h0 := frm_at (val := val c) hdis ha 8 21 (hds 8 21 rfl) (by omega) (depl_of hdep 9 8 (by decide) ho hd)
    refine doesX_call ho (wanted_none hgd) 82 #[.slice (some ⟨gb, ob, none⟩) ii vc] ?_ (c9 c L w' hW hL)
    rw [run_calls Tryz.func82 (by kernel_rfl) rfl _ _ _ _ hop rfl]
    simp only [List.map_toArray, List.map_cons, List.map_nil, eval_of h0]
    all_goals rfl
  | 10, ho, hL, _ =>
    obtain ⟨hop, hdst, hgd⟩ := tab_at htab ho (show rpaT[10]? = _ from rfl)
    simp only at hop hgd
    have h1 := frm_at (val := val c) hdis ha 4 17 (hds 4 17 rfl) (by omega) (depl_of hdep 10 4 (by decide) ho hd)
    have h2 := frm_at (val := val c) hdis ha 9 22 (hds 9 22 rfl) (by omega) (depl_of hdep 10 9 (by decide) ho hd)
    exact doesX_of (doesL_run ho (wanted_none hgd) (hpure10 c L w' hW (depl_of hdep 10 4 (by decide) ho hd) (depl_of hdep 10 9 (by decide) ho hd)) (run_build25' _ _ _ _ _ hop _ _ _ _ _ _ _ rfl (eval_of h1) (eval_of h2) _))
  | 11, ho, hL, _ =>
    obtain ⟨hop, hdst, hgd⟩ := tab_at htab ho (show rpaT[11]? = _ from rfl)
    simp only at hop hgd
    obtain ⟨c', q0, q1, q2⟩ := n11 c L w' hW hL
    refine doesX_runw ho (wanted_none hgd) c' q0 q2 ((run_al25 _ _ hop _).trans (by rw [← q1]; rfl))
  | 12, ho, hL, _ =>
    obtain ⟨hop, hdst, hgd⟩ := tab_at htab ho (show rpaT[12]? = _ from rfl)
    simp only at hop hgd
    have h0 := frm_at (val := val c) hdis ha 11 7 (hds 11 7 rfl) (by omega) (depl_of hdep 12 11 (by decide) ho hd)
    have h1 := frm_at (val := val c) hdis ha 10 23 (hds 10 23 rfl) (by omega) (depl_of hdep 12 10 (by decide) ho hd)
    obtain ⟨s1, s2⟩ := n12 c L w' hW hL (depl_of hdep 12 10 (by decide) ho hd) (depl_of hdep 12 11 (by decide) ho hd)
    exact doesX_of (doesL_skp ho (wanted_none hgd) rfl s1 (run_st25 _ _ _ _ hop _ _ _ _ _ (eval_of h0) (eval_of h1) _ _ _ _ _ s2 ⟨rfl, rfl, rfl, rfl⟩))
  | (i + 13), ho, hL, hi => exact absurd hi (by omega)
def vrpb (X kl kc vl vc ii ga oa gb ob : Nat) (c : Ch3) (i : Nat) : Value := match i with
  | 0 => (.pointer (some ⟨X, 0 + 1, none⟩))
  | 1 => (.slice (some ⟨ga, oa, none⟩) kl kc)
  | 2 => (.int .i64 (ii : Int))
  | 3 => (.slice (some ⟨ga, oa + ii, none⟩) (kl - ii) (kc - ii))
  | 4 => (.slice c.p1 (kl - ii) c.c1)
  | 5 => (.pointer (some ⟨X, 0 + 2, none⟩))
  | 6 => (.slice (some ⟨gb, ob, none⟩) vl vc)
  | 7 => (.int .i64 (ii : Int))
  | 8 => (.slice (some ⟨gb, ob + ii, none⟩) (vl - ii) (vc - ii))
  | 9 => (.slice c.p2 (vl - ii) c.c2)
  | 10 => (.agg #[.bool true, (.slice c.p1 (kl - ii) c.c1), (.slice c.p2 (vl - ii) c.c2), .slice none 0 0])
  | 11 => (.pointer (some ⟨c.g1, 0, none⟩))
  | 12 => undef
  | _ => undef
def rpbT : List (Op × Option Tmp × Option (Nat × Bool)) := [
  (.fieldAddr 25 (.tmp 2) 1, some 24, none),
  (.load 22 (.tmp 24), some 25, none),
  (.move (.tmp 1), some 26, none),
  (.slice 22 (.tmp 25) (some (.tmp 26)) none none, some 27, none),
  (.call { callee := .value (.func 82), args := #[(.tmp 27)], argTypes := #[22] }, some 28, none),
  (.fieldAddr 25 (.tmp 2) 2, some 29, none),
  (.load 22 (.tmp 29), some 30, none),
  (.move (.tmp 1), some 31, none),
  (.slice 22 (.tmp 30) (some (.tmp 31)) none none, some 32, none),
  (.call { callee := .value (.func 82), args := #[(.tmp 32)], argTypes := #[22] }, some 33, none),
  (.build 25 #[(0, (.const (.bool true))), (1, (.tmp 28)), (2, (.tmp 33))], some 34, none),
  (.alloc 25, some 8, none),
  (.store 25 (.tmp 8) (.tmp 34), none, none)]
def rpbD : List (Nat × Nat) := [(1, 0), (3, 1), (3, 2), (4, 3), (6, 5), (8, 6), (8, 7), (9, 8), (10, 4), (10, 9), (12, 10), (12, 11)]
set_option maxHeartbeats 2000000 in
theorem rpb {ops : Array Oper} {id : Nat} {Q : Exit → Act → World → Prop} (X kl kc vl vc ii ga oa gb ob : Nat) (htab : ops.toList.map (fun o => (o.op, o.dst, o.guard)) = rpbT) (hdep : deplB rpbD ops = true) (hac : acB ops = true)
    (a0 : Act) (w : World) (hsz : 35 ≤ a0.tmps.size) (o1 : a0.tmps[1]? = some (.int .i64 (ii : Int))) (o2 : a0.tmps[2]? = some (.pointer (some ⟨X, 0, none⟩)))
    (Wd : Ch3 → (Nat → Bool) → World → Prop) (h0 : ∃ c, Wd c (fun _ => false) w.drew) (hpure : ∀ i, i ∉ ([4, 9, 11, 12, 10] : List Nat) → ∀ c L W, Wd c L W → Wd c (upd L i) W)
    (s3 : ii ≤ kl ∧ kl ≤ kc ∧ kc ≠ ii)
    (s8 : ii ≤ vl ∧ vl ≤ vc ∧ vc ≠ ii)
    (l1 : ∀ c L W, Wd c L W → W.cell? ⟨X, 0 + 1, none⟩ = some (.slice (some ⟨ga, oa, none⟩) kl kc))
    (l6 : ∀ c L W, Wd c L W → W.cell? ⟨X, 0 + 2, none⟩ = some (.slice (some ⟨gb, ob, none⟩) vl vc))
    (hpure10 : ∀ c L W, Wd c L W → L 4 = true → L 9 = true → Wd c (upd L 10) W)
    (c4 : ∀ c L W, Wd c L W → L 4 = false → Calls Tryz.prog 82 #[(.slice (some ⟨ga, oa + ii, none⟩) (kl - ii) (kc - ii))] W fun e w' => ∃ c' : Ch3, (∀ j, L j = true → vrpb X kl kc vl vc ii ga oa gb ob c' j = vrpb X kl kc vl vc ii ga oa gb ob c j) ∧ e = .returned (.slice c'.p1 (kl - ii) c'.c1) ∧ Wd c' (upd L 4) w')
    (c9 : ∀ c L W, Wd c L W → L 9 = false → Calls Tryz.prog 82 #[(.slice (some ⟨gb, ob + ii, none⟩) (vl - ii) (vc - ii))] W fun e w' => ∃ c' : Ch3, (∀ j, L j = true → vrpb X kl kc vl vc ii ga oa gb ob c' j = vrpb X kl kc vl vc ii ga oa gb ob c j) ∧ e = .returned (.slice c'.p2 (vl - ii) c'.c2) ∧ Wd c' (upd L 9) w')
    (n11 : ∀ c L W, Wd c L W → L 11 = false → ∃ c' : Ch3, (∀ j, L j = true → vrpb X kl kc vl vc ii ga oa gb ob c' j = vrpb X kl kc vl vc ii ga oa gb ob c j) ∧ c'.g1 = W.heap.size ∧ Wd c' (upd L 11) (W.alloc (.cells #[.bool false, .slice none 0 0, .slice none 0 0, .slice none 0 0] 25)))
    (n12 : ∀ c L W, Wd c L W → L 12 = false → L 10 = true → L 11 = true → Wd c (upd L 12) ((((W.setCell ⟨c.g1, 0, none⟩ (.bool true)).setCell ⟨c.g1, 1, none⟩ (.slice c.p1 (kl - ii) c.c1)).setCell ⟨c.g1, 2, none⟩ (.slice c.p2 (vl - ii) c.c2)).setCell ⟨c.g1, 3, none⟩ (.slice none 0 0)) ∧ W.heap[c.g1]? = some (.cells #[.bool false, .slice none 0 0, .slice none 0 0, .slice none 0 0] 25 (0, 0)))
    (hend : ∀ c L W, (∀ i, i < 13 → L i = true) → Wd c L W → Q .normal ((((((((((((a0.put (some 24) (.pointer (some ⟨X, 0 + 1, none⟩))).put (some 25) (.slice (some ⟨ga, oa, none⟩) kl kc)).put (some 26) (.int .i64 (ii : Int))).put (some 27) (.slice (some ⟨ga, oa + ii, none⟩) (kl - ii) (kc - ii))).put (some 28) (.slice c.p1 (kl - ii) c.c1)).put (some 29) (.pointer (some ⟨X, 0 + 2, none⟩))).put (some 30) (.slice (some ⟨gb, ob, none⟩) vl vc)).put (some 31) (.int .i64 (ii : Int))).put (some 32) (.slice (some ⟨gb, ob + ii, none⟩) (vl - ii) (vc - ii))).put (some 33) (.slice c.p2 (vl - ii) c.c2)).put (some 34) (.agg #[.bool true, (.slice c.p1 (kl - ii) c.c1), (.slice c.p2 (vl - ii) c.c2), .slice none 0 0])).put (some 8) (.pointer (some ⟨c.g1, 0, none⟩))) W) : (Code.region id ops true).wp Tryz.prog Q a0 w := by
  let val : Ch3 → Nat → Value := vrpb X kl kc vl vc ii ga oa gb ob
  have hosz : ops.size = 13 := by
    have := congrArg List.length htab
    simpa [rpbT] using this
  have hds : ∀ i s, (rpbT[i]?).bind (·.2.1) = some s → dstOf ops i = some s := fun i s hi => by rw [tab_dst htab, hi]
  have hdisB : disL rpbT = true := by rfl
  have hdis := disL_of htab hdisB
  have hold : ∀ s, rpbT.all (fun x => !(x.2.1 == some s)) = true → (List.range ops.size).all (fun j => !(dstOf ops j == some s)) = true := fun s h => holdL htab s h
  refine region_detX val Wd (hac_of hac) hdis h0 ?_ ?_
  rotate_left
  · intro c L W hall hW
    have := hend c L W (by rw [← hosz]; exact hall) hW
    have e : frm ops a0 (val c) (fun _ => true) ops.size = ((((((((((((a0.put (some 24) (.pointer (some ⟨X, 0 + 1, none⟩))).put (some 25) (.slice (some ⟨ga, oa, none⟩) kl kc)).put (some 26) (.int .i64 (ii : Int))).put (some 27) (.slice (some ⟨ga, oa + ii, none⟩) (kl - ii) (kc - ii))).put (some 28) (.slice c.p1 (kl - ii) c.c1)).put (some 29) (.pointer (some ⟨X, 0 + 2, none⟩))).put (some 30) (.slice (some ⟨gb, ob, none⟩) vl vc)).put (some 31) (.int .i64 (ii : Int))).put (some 32) (.slice (some ⟨gb, ob + ii, none⟩) (vl - ii) (vc - ii))).put (some 33) (.slice c.p2 (vl - ii) c.c2)).put (some 34) (.agg #[.bool true, (.slice c.p1 (kl - ii) c.c1), (.slice c.p2 (vl - ii) c.c2), .slice none 0 0])).put (some 8) (.pointer (some ⟨c.g1, 0, none⟩))) := by
      rw [hosz]
      simp only [frm, if_true]
      rw [tab_dst htab 0, tab_dst htab 1, tab_dst htab 2, tab_dst htab 3, tab_dst htab 4, tab_dst htab 5, tab_dst htab 6, tab_dst htab 7, tab_dst htab 8, tab_dst htab 9, tab_dst htab 10, tab_dst htab 11, (show dstOf ops 12 = none from (tab_dst htab 12).trans rfl), put_none]
      rfl
    rw [e]
    exact this
  intro i o ho c L a w' hL hd ha hW
  have hi : i < 13 := by rw [← hosz]; exact (Array.getElem?_eq_some_iff.1 ho).1
  match i, ho, hL, hi with
  | 0, ho, hL, _ =>
    obtain ⟨hop, hdst, hgd⟩ := tab_at htab ho (show rpbT[0]? = _ from rfl)
    simp only at hop hgd
    have h0 := frm_old (val := val c) ha 2 _ (hold 2 rfl) o2
    exact doesX_of (doesL_run ho (wanted_none hgd) (hpure 0 (by decide) c L w' hW) (run_f25_1 _ _ _ hop _ _ (eval_of h0) _))
  | 1, ho, hL, _ =>
    obtain ⟨hop, hdst, hgd⟩ := tab_at htab ho (show rpbT[1]? = _ from rfl)
    simp only at hop hgd
    have h0 := frm_at (val := val c) hdis ha 0 24 (hds 0 24 rfl) (by omega) (depl_of hdep 1 0 (by decide) ho hd)
    exact doesX_of (doesL_run ho (wanted_none hgd) (hpure 1 (by decide) c L w' hW) (run_ld22 _ _ _ hop _ _ (eval_of h0) _ (l1 c L w' hW)))
  | 2, ho, hL, _ =>
    obtain ⟨hop, hdst, hgd⟩ := tab_at htab ho (show rpbT[2]? = _ from rfl)
    simp only at hop hgd
    have h0 := frm_old (val := val c) ha 1 _ (hold 1 rfl) o1
    exact doesX_of (doesL_run ho (wanted_none hgd) (hpure 2 (by decide) c L w' hW) (by rw [run_move _ _ _ hop]; exact congrArg (fun v => Result.ok (Next.value v) w') (eval_of h0)))
  | 3, ho, hL, _ =>
    obtain ⟨hop, hdst, hgd⟩ := tab_at htab ho (show rpbT[3]? = _ from rfl)
    simp only at hop hgd
    have h0 := frm_at (val := val c) hdis ha 1 25 (hds 1 25 rfl) (by omega) (depl_of hdep 3 1 (by decide) ho hd)
    have h1 := frm_at (val := val c) hdis ha 2 26 (hds 2 26 rfl) (by omega) (depl_of hdep 3 2 (by decide) ho hd)
    exact doesX_of (doesL_run ho (wanted_none hgd) (hpure 3 (by decide) c L w' hW) (run_cutL22 _ _ _ _ hop _ _ _ _ _ s3 (eval_of h0) (eval_of h1) _))
  | 4, ho, hL, _ =>
    obtain ⟨hop, hdst, hgd⟩ := tab_at htab ho (show rpbT[4]? = _ from rfl)
    simp only at hop hgd
    have h0 := frm_at (val := val c) hdis ha 3 27 (hds 3 27 rfl) (by omega) (depl_of hdep 4 3 (by decide) ho hd)
    refine doesX_call ho (wanted_none hgd) 82 #[.slice (some ⟨ga, oa + ii, none⟩) (kl - ii) (kc - ii)] ?_ (c4 c L w' hW hL)
    rw [run_calls Tryz.func82 (by kernel_rfl) rfl _ _ _ _ hop rfl]
    simp only [List.map_toArray, List.map_cons, List.map_nil, eval_of h0]
    all_goals rfl
  | 5, ho, hL, _ =>
    obtain ⟨hop, hdst, hgd⟩ := tab_at htab ho (show rpbT[5]? = _ from rfl)
    simp only at hop hgd
    have h0 := frm_old (val := val c) ha 2 _ (hold 2 rfl) o2
    exact doesX_of (doesL_run ho (wanted_none hgd) (hpure 5 (by decide) c L w' hW) (run_f25_2 _ _ _ hop _ _ (eval_of h0) _))
  | 6, ho, hL, _ =>
    obtain ⟨hop, hdst, hgd⟩ := tab_at htab ho (show rpbT[6]? = _ from rfl)
    simp only at hop hgd
    have h0 := frm_at (val := val c) hdis ha 5 29 (hds 5 29 rfl) (by omega) (depl_of hdep 6 5 (by decide) ho hd)
    exact doesX_of (doesL_run ho (wanted_none hgd) (hpure 6 (by decide) c L w' hW) (run_ld22 _ _ _ hop _ _ (eval_of h0) _ (l6 c L w' hW)))
  | 7, ho, hL, _ =>
    obtain ⟨hop, hdst, hgd⟩ := tab_at htab ho (show rpbT[7]? = _ from rfl)
    simp only at hop hgd
    have h0 := frm_old (val := val c) ha 1 _ (hold 1 rfl) o1
    exact doesX_of (doesL_run ho (wanted_none hgd) (hpure 7 (by decide) c L w' hW) (by rw [run_move _ _ _ hop]; exact congrArg (fun v => Result.ok (Next.value v) w') (eval_of h0)))
  | 8, ho, hL, _ =>
    obtain ⟨hop, hdst, hgd⟩ := tab_at htab ho (show rpbT[8]? = _ from rfl)
    simp only at hop hgd
    have h0 := frm_at (val := val c) hdis ha 6 30 (hds 6 30 rfl) (by omega) (depl_of hdep 8 6 (by decide) ho hd)
    have h1 := frm_at (val := val c) hdis ha 7 31 (hds 7 31 rfl) (by omega) (depl_of hdep 8 7 (by decide) ho hd)
    exact doesX_of (doesL_run ho (wanted_none hgd) (hpure 8 (by decide) c L w' hW) (run_cutL22 _ _ _ _ hop _ _ _ _ _ s8 (eval_of h0) (eval_of h1) _))
  | 9, ho, hL, _ =>
    obtain ⟨hop, hdst, hgd⟩ := tab_at htab ho (show rpbT[9]? = _ from rfl)
    simp only at hop hgd
    have h0 := frm_at (val := val c) hdis ha 8 32 (hds 8 32 rfl) (by omega) (depl_of hdep 9 8 (by decide) ho hd)
    refine doesX_call ho (wanted_none hgd) 82 #[.slice (some ⟨gb, ob + ii, none⟩) (vl - ii) (vc - ii)] ?_ (c9 c L w' hW hL)
    rw [run_calls Tryz.func82 (by kernel_rfl) rfl _ _ _ _ hop rfl]
    simp only [List.map_toArray, List.map_cons, List.map_nil, eval_of h0]
    all_goals rfl
  | 10, ho, hL, _ =>
    obtain ⟨hop, hdst, hgd⟩ := tab_at htab ho (show rpbT[10]? = _ from rfl)
    simp only at hop hgd
    have h1 := frm_at (val := val c) hdis ha 4 28 (hds 4 28 rfl) (by omega) (depl_of hdep 10 4 (by decide) ho hd)
    have h2 := frm_at (val := val c) hdis ha 9 33 (hds 9 33 rfl) (by omega) (depl_of hdep 10 9 (by decide) ho hd)
    exact doesX_of (doesL_run ho (wanted_none hgd) (hpure10 c L w' hW (depl_of hdep 10 4 (by decide) ho hd) (depl_of hdep 10 9 (by decide) ho hd)) (run_build25' _ _ _ _ _ hop _ _ _ _ _ _ _ rfl (eval_of h1) (eval_of h2) _))
  | 11, ho, hL, _ =>
    obtain ⟨hop, hdst, hgd⟩ := tab_at htab ho (show rpbT[11]? = _ from rfl)
    simp only at hop hgd
    obtain ⟨c', q0, q1, q2⟩ := n11 c L w' hW hL
    refine doesX_runw ho (wanted_none hgd) c' q0 q2 ((run_al25 _ _ hop _).trans (by rw [← q1]; rfl))
  | 12, ho, hL, _ =>
    obtain ⟨hop, hdst, hgd⟩ := tab_at htab ho (show rpbT[12]? = _ from rfl)
    simp only at hop hgd
    have h0 := frm_at (val := val c) hdis ha 11 8 (hds 11 8 rfl) (by omega) (depl_of hdep 12 11 (by decide) ho hd)
    have h1 := frm_at (val := val c) hdis ha 10 34 (hds 10 34 rfl) (by omega) (depl_of hdep 12 10 (by decide) ho hd)
    obtain ⟨s1, s2⟩ := n12 c L w' hW hL (depl_of hdep 12 10 (by decide) ho hd) (depl_of hdep 12 11 (by decide) ho hd)
    exact doesX_of (doesL_skp ho (wanted_none hgd) rfl s1 (run_st25 _ _ _ _ hop _ _ _ _ _ (eval_of h0) (eval_of h1) _ _ _ _ _ s2 ⟨rfl, rfl, rfl, rfl⟩))
  | (i + 13), ho, hL, hi => exact absurd hi (by omega)
def vrpc (X kl kc vl vc ii ga oa gb ob : Nat) (c : Ch3) (i : Nat) : Value := match i with
  | 0 => (.pointer (some ⟨X, 0 + 1, none⟩))
  | 1 => (.slice (some ⟨ga, oa, none⟩) kl kc)
  | 2 => (.int .i64 (ii : Int))
  | 3 => (.slice (some ⟨ga, oa, none⟩) ii kc)
  | 4 => (.slice c.p1 ii c.c1)
  | 5 => (.pointer (some ⟨X, 0 + 3, none⟩))
  | 6 => (.slice (some ⟨gb, ob, none⟩) vl vc)
  | 7 => (.int .i64 (ii : Int))
  | 8 => (.int .i64 ((ii + 1 : Nat) : Int))
  | 9 => (.slice (some ⟨gb, ob, none⟩) (ii + 1) vc)
  | 10 => (.slice c.p2 (ii + 1) c.c2)
  | 11 => (.agg #[.bool false, (.slice c.p1 ii c.c1), .slice none 0 0, (.slice c.p2 (ii + 1) c.c2)])
  | 12 => (.pointer (some ⟨c.g1, 0, none⟩))
  | 13 => undef
  | _ => undef
def rpcT : List (Op × Option Tmp × Option (Nat × Bool)) := [
  (.fieldAddr 25 (.tmp 2) 1, some 49, none),
  (.load 22 (.tmp 49), some 50, none),
  (.move (.tmp 1), some 51, none),
  (.slice 22 (.tmp 50) none (some (.tmp 51)) none, some 52, none),
  (.call { callee := .value (.func 82), args := #[(.tmp 52)], argTypes := #[22] }, some 53, none),
  (.fieldAddr 25 (.tmp 2) 3, some 54, none),
  (.load 23 (.tmp 54), some 55, none),
  (.move (.tmp 1), some 56, none),
  (.binOp .add 3 (.tmp 56) (.const (.int .i64 1)) 3, some 57, none),
  (.slice 23 (.tmp 55) none (some (.tmp 57)) none, some 58, none),
  (.call { callee := .value (.func 83), args := #[(.tmp 58)], argTypes := #[23] }, some 59, none),
  (.build 25 #[(1, (.tmp 53)), (3, (.tmp 59))], some 60, none),
  (.alloc 25, some 9, none),
  (.store 25 (.tmp 9) (.tmp 60), none, none)]
def rpcD : List (Nat × Nat) := [(1, 0), (3, 1), (3, 2), (4, 3), (6, 5), (8, 7), (9, 6), (9, 8), (10, 9), (11, 4), (11, 10), (13, 11), (13, 12)]
set_option maxHeartbeats 2000000 in
theorem rpc {ops : Array Oper} {id : Nat} {Q : Exit → Act → World → Prop} (X kl kc vl vc ii ga oa gb ob : Nat) (hii : ii ≤ 4294967296) (htab : ops.toList.map (fun o => (o.op, o.dst, o.guard)) = rpcT) (hdep : deplB rpcD ops = true) (hac : acB ops = true)
    (a0 : Act) (w : World) (hsz : 61 ≤ a0.tmps.size) (o1 : a0.tmps[1]? = some (.int .i64 (ii : Int))) (o2 : a0.tmps[2]? = some (.pointer (some ⟨X, 0, none⟩)))
    (Wd : Ch3 → (Nat → Bool) → World → Prop) (h0 : ∃ c, Wd c (fun _ => false) w.drew) (hpure : ∀ i, i ∉ ([4, 10, 12, 13, 11] : List Nat) → ∀ c L W, Wd c L W → Wd c (upd L i) W)
    (s3 : ii ≤ kc)
    (s9 : (ii + 1) ≤ vc)
    (l1 : ∀ c L W, Wd c L W → W.cell? ⟨X, 0 + 1, none⟩ = some (.slice (some ⟨ga, oa, none⟩) kl kc))
    (l6 : ∀ c L W, Wd c L W → W.cell? ⟨X, 0 + 3, none⟩ = some (.slice (some ⟨gb, ob, none⟩) vl vc))
    (hpure11 : ∀ c L W, Wd c L W → L 4 = true → L 10 = true → Wd c (upd L 11) W)
    (c4 : ∀ c L W, Wd c L W → L 4 = false → Calls Tryz.prog 82 #[(.slice (some ⟨ga, oa, none⟩) ii kc)] W fun e w' => ∃ c' : Ch3, (∀ j, L j = true → vrpc X kl kc vl vc ii ga oa gb ob c' j = vrpc X kl kc vl vc ii ga oa gb ob c j) ∧ e = .returned (.slice c'.p1 ii c'.c1) ∧ Wd c' (upd L 4) w')
    (c10 : ∀ c L W, Wd c L W → L 10 = false → Calls Tryz.prog 83 #[(.slice (some ⟨gb, ob, none⟩) (ii + 1) vc)] W fun e w' => ∃ c' : Ch3, (∀ j, L j = true → vrpc X kl kc vl vc ii ga oa gb ob c' j = vrpc X kl kc vl vc ii ga oa gb ob c j) ∧ e = .returned (.slice c'.p2 (ii + 1) c'.c2) ∧ Wd c' (upd L 10) w')
    (n12 : ∀ c L W, Wd c L W → L 12 = false → ∃ c' : Ch3, (∀ j, L j = true → vrpc X kl kc vl vc ii ga oa gb ob c' j = vrpc X kl kc vl vc ii ga oa gb ob c j) ∧ c'.g1 = W.heap.size ∧ Wd c' (upd L 12) (W.alloc (.cells #[.bool false, .slice none 0 0, .slice none 0 0, .slice none 0 0] 25)))
    (n13 : ∀ c L W, Wd c L W → L 13 = false → L 11 = true → L 12 = true → Wd c (upd L 13) ((((W.setCell ⟨c.g1, 0, none⟩ (.bool false)).setCell ⟨c.g1, 1, none⟩ (.slice c.p1 ii c.c1)).setCell ⟨c.g1, 2, none⟩ (.slice none 0 0)).setCell ⟨c.g1, 3, none⟩ (.slice c.p2 (ii + 1) c.c2)) ∧ W.heap[c.g1]? = some (.cells #[.bool false, .slice none 0 0, .slice none 0 0, .slice none 0 0] 25 (0, 0)))
    (hend : ∀ c L W, (∀ i, i < 14 → L i = true) → Wd c L W → Q .normal (((((((((((((a0.put (some 49) (.pointer (some ⟨X, 0 + 1, none⟩))).put (some 50) (.slice (some ⟨ga, oa, none⟩) kl kc)).put (some 51) (.int .i64 (ii : Int))).put (some 52) (.slice (some ⟨ga, oa, none⟩) ii kc)).put (some 53) (.slice c.p1 ii c.c1)).put (some 54) (.pointer (some ⟨X, 0 + 3, none⟩))).put (some 55) (.slice (some ⟨gb, ob, none⟩) vl vc)).put (some 56) (.int .i64 (ii : Int))).put (some 57) (.int .i64 ((ii + 1 : Nat) : Int))).put (some 58) (.slice (some ⟨gb, ob, none⟩) (ii + 1) vc)).put (some 59) (.slice c.p2 (ii + 1) c.c2)).put (some 60) (.agg #[.bool false, (.slice c.p1 ii c.c1), .slice none 0 0, (.slice c.p2 (ii + 1) c.c2)])).put (some 9) (.pointer (some ⟨c.g1, 0, none⟩))) W) : (Code.region id ops true).wp Tryz.prog Q a0 w := by
  let val : Ch3 → Nat → Value := vrpc X kl kc vl vc ii ga oa gb ob
  have hosz : ops.size = 14 := by
    have := congrArg List.length htab
    simpa [rpcT] using this
  have hds : ∀ i s, (rpcT[i]?).bind (·.2.1) = some s → dstOf ops i = some s := fun i s hi => by rw [tab_dst htab, hi]
  have hdisB : disL rpcT = true := by rfl
  have hdis := disL_of htab hdisB
  have hold : ∀ s, rpcT.all (fun x => !(x.2.1 == some s)) = true → (List.range ops.size).all (fun j => !(dstOf ops j == some s)) = true := fun s h => holdL htab s h
  refine region_detX val Wd (hac_of hac) hdis h0 ?_ ?_
  rotate_left
  · intro c L W hall hW
    have := hend c L W (by rw [← hosz]; exact hall) hW
    have e : frm ops a0 (val c) (fun _ => true) ops.size = (((((((((((((a0.put (some 49) (.pointer (some ⟨X, 0 + 1, none⟩))).put (some 50) (.slice (some ⟨ga, oa, none⟩) kl kc)).put (some 51) (.int .i64 (ii : Int))).put (some 52) (.slice (some ⟨ga, oa, none⟩) ii kc)).put (some 53) (.slice c.p1 ii c.c1)).put (some 54) (.pointer (some ⟨X, 0 + 3, none⟩))).put (some 55) (.slice (some ⟨gb, ob, none⟩) vl vc)).put (some 56) (.int .i64 (ii : Int))).put (some 57) (.int .i64 ((ii + 1 : Nat) : Int))).put (some 58) (.slice (some ⟨gb, ob, none⟩) (ii + 1) vc)).put (some 59) (.slice c.p2 (ii + 1) c.c2)).put (some 60) (.agg #[.bool false, (.slice c.p1 ii c.c1), .slice none 0 0, (.slice c.p2 (ii + 1) c.c2)])).put (some 9) (.pointer (some ⟨c.g1, 0, none⟩))) := by
      rw [hosz]
      simp only [frm, if_true]
      rw [tab_dst htab 0, tab_dst htab 1, tab_dst htab 2, tab_dst htab 3, tab_dst htab 4, tab_dst htab 5, tab_dst htab 6, tab_dst htab 7, tab_dst htab 8, tab_dst htab 9, tab_dst htab 10, tab_dst htab 11, tab_dst htab 12, (show dstOf ops 13 = none from (tab_dst htab 13).trans rfl), put_none]
      rfl
    rw [e]
    exact this
  intro i o ho c L a w' hL hd ha hW
  have hi : i < 14 := by rw [← hosz]; exact (Array.getElem?_eq_some_iff.1 ho).1
  match i, ho, hL, hi with
  | 0, ho, hL, _ =>
    obtain ⟨hop, hdst, hgd⟩ := tab_at htab ho (show rpcT[0]? = _ from rfl)
    simp only at hop hgd
    have h0 := frm_old (val := val c) ha 2 _ (hold 2 rfl) o2
    exact doesX_of (doesL_run ho (wanted_none hgd) (hpure 0 (by decide) c L w' hW) (run_f25_1 _ _ _ hop _ _ (eval_of h0) _))
  | 1, ho, hL, _ =>
    obtain ⟨hop, hdst, hgd⟩ := tab_at htab ho (show rpcT[1]? = _ from rfl)
    simp only at hop hgd
    have h0 := frm_at (val := val c) hdis ha 0 49 (hds 0 49 rfl) (by omega) (depl_of hdep 1 0 (by decide) ho hd)
    exact doesX_of (doesL_run ho (wanted_none hgd) (hpure 1 (by decide) c L w' hW) (run_ld22 _ _ _ hop _ _ (eval_of h0) _ (l1 c L w' hW)))
  | 2, ho, hL, _ =>
    obtain ⟨hop, hdst, hgd⟩ := tab_at htab ho (show rpcT[2]? = _ from rfl)
    simp only at hop hgd
    have h0 := frm_old (val := val c) ha 1 _ (hold 1 rfl) o1
    exact doesX_of (doesL_run ho (wanted_none hgd) (hpure 2 (by decide) c L w' hW) (by rw [run_move _ _ _ hop]; exact congrArg (fun v => Result.ok (Next.value v) w') (eval_of h0)))
  | 3, ho, hL, _ =>
    obtain ⟨hop, hdst, hgd⟩ := tab_at htab ho (show rpcT[3]? = _ from rfl)
    simp only at hop hgd
    have h0 := frm_at (val := val c) hdis ha 1 50 (hds 1 50 rfl) (by omega) (depl_of hdep 3 1 (by decide) ho hd)
    have h1 := frm_at (val := val c) hdis ha 2 51 (hds 2 51 rfl) (by omega) (depl_of hdep 3 2 (by decide) ho hd)
    exact doesX_of (doesL_run ho (wanted_none hgd) (hpure 3 (by decide) c L w' hW) (run_cutH22 _ _ _ _ hop _ _ _ _ _ s3 (eval_of h0) (eval_of h1) _))
  | 4, ho, hL, _ =>
    obtain ⟨hop, hdst, hgd⟩ := tab_at htab ho (show rpcT[4]? = _ from rfl)
    simp only at hop hgd
    have h0 := frm_at (val := val c) hdis ha 3 52 (hds 3 52 rfl) (by omega) (depl_of hdep 4 3 (by decide) ho hd)
    refine doesX_call ho (wanted_none hgd) 82 #[.slice (some ⟨ga, oa, none⟩) ii kc] ?_ (c4 c L w' hW hL)
    rw [run_calls Tryz.func82 (by kernel_rfl) rfl _ _ _ _ hop rfl]
    simp only [List.map_toArray, List.map_cons, List.map_nil, eval_of h0]
    all_goals rfl
  | 5, ho, hL, _ =>
    obtain ⟨hop, hdst, hgd⟩ := tab_at htab ho (show rpcT[5]? = _ from rfl)
    simp only at hop hgd
    have h0 := frm_old (val := val c) ha 2 _ (hold 2 rfl) o2
    exact doesX_of (doesL_run ho (wanted_none hgd) (hpure 5 (by decide) c L w' hW) (run_f25_3 _ _ _ hop _ _ (eval_of h0) _))
  | 6, ho, hL, _ =>
    obtain ⟨hop, hdst, hgd⟩ := tab_at htab ho (show rpcT[6]? = _ from rfl)
    simp only at hop hgd
    have h0 := frm_at (val := val c) hdis ha 5 54 (hds 5 54 rfl) (by omega) (depl_of hdep 6 5 (by decide) ho hd)
    exact doesX_of (doesL_run ho (wanted_none hgd) (hpure 6 (by decide) c L w' hW) (run_ld23 _ _ _ hop _ _ (eval_of h0) _ (l6 c L w' hW)))
  | 7, ho, hL, _ =>
    obtain ⟨hop, hdst, hgd⟩ := tab_at htab ho (show rpcT[7]? = _ from rfl)
    simp only at hop hgd
    have h0 := frm_old (val := val c) ha 1 _ (hold 1 rfl) o1
    exact doesX_of (doesL_run ho (wanted_none hgd) (hpure 7 (by decide) c L w' hW) (by rw [run_move _ _ _ hop]; exact congrArg (fun v => Result.ok (Next.value v) w') (eval_of h0)))
  | 8, ho, hL, _ =>
    obtain ⟨hop, hdst, hgd⟩ := tab_at htab ho (show rpcT[8]? = _ from rfl)
    simp only at hop hgd
    have h0 := frm_at (val := val c) hdis ha 7 56 (hds 7 56 rfl) (by omega) (depl_of hdep 8 7 (by decide) ho hd)
    exact doesX_of (doesL_run ho (wanted_none hgd) (hpure 8 (by decide) c L w' hW) (run_addi1 _ _ _ hop _ hii (eval_of h0) rfl _))
  | 9, ho, hL, _ =>
    obtain ⟨hop, hdst, hgd⟩ := tab_at htab ho (show rpcT[9]? = _ from rfl)
    simp only at hop hgd
    have h0 := frm_at (val := val c) hdis ha 6 55 (hds 6 55 rfl) (by omega) (depl_of hdep 9 6 (by decide) ho hd)
    have h1 := frm_at (val := val c) hdis ha 8 57 (hds 8 57 rfl) (by omega) (depl_of hdep 9 8 (by decide) ho hd)
    exact doesX_of (doesL_run ho (wanted_none hgd) (hpure 9 (by decide) c L w' hW) (run_cutH23 _ _ _ _ hop _ _ _ _ _ s9 (eval_of h0) (eval_of h1) _))
  | 10, ho, hL, _ =>
    obtain ⟨hop, hdst, hgd⟩ := tab_at htab ho (show rpcT[10]? = _ from rfl)
    simp only at hop hgd
    have h0 := frm_at (val := val c) hdis ha 9 58 (hds 9 58 rfl) (by omega) (depl_of hdep 10 9 (by decide) ho hd)
    refine doesX_call ho (wanted_none hgd) 83 #[.slice (some ⟨gb, ob, none⟩) (ii + 1) vc] ?_ (c10 c L w' hW hL)
    rw [run_calls Tryz.func83 (by kernel_rfl) rfl _ _ _ _ hop rfl]
    simp only [List.map_toArray, List.map_cons, List.map_nil, eval_of h0]
    all_goals rfl
  | 11, ho, hL, _ =>
    obtain ⟨hop, hdst, hgd⟩ := tab_at htab ho (show rpcT[11]? = _ from rfl)
    simp only at hop hgd
    have h0 := frm_at (val := val c) hdis ha 4 53 (hds 4 53 rfl) (by omega) (depl_of hdep 11 4 (by decide) ho hd)
    have h1 := frm_at (val := val c) hdis ha 10 59 (hds 10 59 rfl) (by omega) (depl_of hdep 11 10 (by decide) ho hd)
    exact doesX_of (doesL_run ho (wanted_none hgd) (hpure11 c L w' hW (depl_of hdep 11 4 (by decide) ho hd) (depl_of hdep 11 10 (by decide) ho hd)) (run_build25i _ _ _ _ hop _ _ _ _ _ _ (eval_of h0) (eval_of h1) _))
  | 12, ho, hL, _ =>
    obtain ⟨hop, hdst, hgd⟩ := tab_at htab ho (show rpcT[12]? = _ from rfl)
    simp only at hop hgd
    obtain ⟨c', q0, q1, q2⟩ := n12 c L w' hW hL
    refine doesX_runw ho (wanted_none hgd) c' q0 q2 ((run_al25 _ _ hop _).trans (by rw [← q1]; rfl))
  | 13, ho, hL, _ =>
    obtain ⟨hop, hdst, hgd⟩ := tab_at htab ho (show rpcT[13]? = _ from rfl)
    simp only at hop hgd
    have h0 := frm_at (val := val c) hdis ha 12 9 (hds 12 9 rfl) (by omega) (depl_of hdep 13 12 (by decide) ho hd)
    have h1 := frm_at (val := val c) hdis ha 11 60 (hds 11 60 rfl) (by omega) (depl_of hdep 13 11 (by decide) ho hd)
    obtain ⟨s1, s2⟩ := n13 c L w' hW hL (depl_of hdep 13 11 (by decide) ho hd) (depl_of hdep 13 12 (by decide) ho hd)
    exact doesX_of (doesL_skp ho (wanted_none hgd) rfl s1 (run_st25 _ _ _ _ hop _ _ _ _ _ (eval_of h0) (eval_of h1) _ _ _ _ _ s2 ⟨rfl, rfl, rfl, rfl⟩))
  | (i + 14), ho, hL, hi => exact absurd hi (by omega)
def vrpd (X kl kc vl vc ii ga oa gb ob : Nat) (c : Ch3) (i : Nat) : Value := match i with
  | 0 => (.pointer (some ⟨X, 0 + 1, none⟩))
  | 1 => (.slice (some ⟨ga, oa, none⟩) kl kc)
  | 2 => (.int .i64 (ii : Int))
  | 3 => (.int .i64 ((ii + 1 : Nat) : Int))
  | 4 => (.slice (some ⟨ga, oa + (ii + 1), none⟩) (kl - (ii + 1)) (kc - (ii + 1)))
  | 5 => (.slice c.p1 (kl - (ii + 1)) c.c1)
  | 6 => (.pointer (some ⟨X, 0 + 3, none⟩))
  | 7 => (.slice (some ⟨gb, ob, none⟩) vl vc)
  | 8 => (.int .i64 (ii : Int))
  | 9 => (.int .i64 ((ii + 1 : Nat) : Int))
  | 10 => (.slice (some ⟨gb, ob + (ii + 1), none⟩) (vl - (ii + 1)) (vc - (ii + 1)))
  | 11 => (.slice c.p2 (vl - (ii + 1)) c.c2)
  | 12 => (.agg #[.bool false, (.slice c.p1 (kl - (ii + 1)) c.c1), .slice none 0 0, (.slice c.p2 (vl - (ii + 1)) c.c2)])
  | 13 => (.pointer (some ⟨c.g1, 0, none⟩))
  | 14 => undef
  | _ => undef
def rpdT : List (Op × Option Tmp × Option (Nat × Bool)) := [
  (.fieldAddr 25 (.tmp 2) 1, some 61, none),
  (.load 22 (.tmp 61), some 62, none),
  (.move (.tmp 1), some 63, none),
  (.binOp .add 3 (.tmp 63) (.const (.int .i64 1)) 3, some 64, none),
  (.slice 22 (.tmp 62) (some (.tmp 64)) none none, some 65, none),
  (.call { callee := .value (.func 82), args := #[(.tmp 65)], argTypes := #[22] }, some 66, none),
  (.fieldAddr 25 (.tmp 2) 3, some 67, none),
  (.load 23 (.tmp 67), some 68, none),
  (.move (.tmp 1), some 69, none),
  (.binOp .add 3 (.tmp 69) (.const (.int .i64 1)) 3, some 70, none),
  (.slice 23 (.tmp 68) (some (.tmp 70)) none none, some 71, none),
  (.call { callee := .value (.func 83), args := #[(.tmp 71)], argTypes := #[23] }, some 72, none),
  (.build 25 #[(1, (.tmp 66)), (3, (.tmp 72))], some 73, none),
  (.alloc 25, some 10, none),
  (.store 25 (.tmp 10) (.tmp 73), none, none)]
def rpdD : List (Nat × Nat) := [(1, 0), (3, 2), (4, 1), (4, 3), (5, 4), (7, 6), (9, 8), (10, 7), (10, 9), (11, 10), (12, 5), (12, 11), (14, 12), (14, 13)]
set_option maxHeartbeats 2000000 in
theorem rpd {ops : Array Oper} {id : Nat} {Q : Exit → Act → World → Prop} (X kl kc vl vc ii ga oa gb ob : Nat) (hii : ii ≤ 4294967296) (htab : ops.toList.map (fun o => (o.op, o.dst, o.guard)) = rpdT) (hdep : deplB rpdD ops = true) (hac : acB ops = true)
    (a0 : Act) (w : World) (hsz : 74 ≤ a0.tmps.size) (o1 : a0.tmps[1]? = some (.int .i64 (ii : Int))) (o2 : a0.tmps[2]? = some (.pointer (some ⟨X, 0, none⟩)))
    (Wd : Ch3 → (Nat → Bool) → World → Prop) (h0 : ∃ c, Wd c (fun _ => false) w.drew) (hpure : ∀ i, i ∉ ([5, 11, 13, 14, 12] : List Nat) → ∀ c L W, Wd c L W → Wd c (upd L i) W)
    (s4 : (ii + 1) ≤ kl ∧ kl ≤ kc ∧ kc ≠ (ii + 1))
    (s10 : (ii + 1) ≤ vl ∧ vl ≤ vc ∧ vc ≠ (ii + 1))
    (l1 : ∀ c L W, Wd c L W → W.cell? ⟨X, 0 + 1, none⟩ = some (.slice (some ⟨ga, oa, none⟩) kl kc))
    (l7 : ∀ c L W, Wd c L W → W.cell? ⟨X, 0 + 3, none⟩ = some (.slice (some ⟨gb, ob, none⟩) vl vc))
    (hpure12 : ∀ c L W, Wd c L W → L 5 = true → L 11 = true → Wd c (upd L 12) W)
    (c5 : ∀ c L W, Wd c L W → L 5 = false → Calls Tryz.prog 82 #[(.slice (some ⟨ga, oa + (ii + 1), none⟩) (kl - (ii + 1)) (kc - (ii + 1)))] W fun e w' => ∃ c' : Ch3, (∀ j, L j = true → vrpd X kl kc vl vc ii ga oa gb ob c' j = vrpd X kl kc vl vc ii ga oa gb ob c j) ∧ e = .returned (.slice c'.p1 (kl - (ii + 1)) c'.c1) ∧ Wd c' (upd L 5) w')
    (c11 : ∀ c L W, Wd c L W → L 11 = false → Calls Tryz.prog 83 #[(.slice (some ⟨gb, ob + (ii + 1), none⟩) (vl - (ii + 1)) (vc - (ii + 1)))] W fun e w' => ∃ c' : Ch3, (∀ j, L j = true → vrpd X kl kc vl vc ii ga oa gb ob c' j = vrpd X kl kc vl vc ii ga oa gb ob c j) ∧ e = .returned (.slice c'.p2 (vl - (ii + 1)) c'.c2) ∧ Wd c' (upd L 11) w')
    (n13 : ∀ c L W, Wd c L W → L 13 = false → ∃ c' : Ch3, (∀ j, L j = true → vrpd X kl kc vl vc ii ga oa gb ob c' j = vrpd X kl kc vl vc ii ga oa gb ob c j) ∧ c'.g1 = W.heap.size ∧ Wd c' (upd L 13) (W.alloc (.cells #[.bool false, .slice none 0 0, .slice none 0 0, .slice none 0 0] 25)))
    (n14 : ∀ c L W, Wd c L W → L 14 = false → L 12 = true → L 13 = true → Wd c (upd L 14) ((((W.setCell ⟨c.g1, 0, none⟩ (.bool false)).setCell ⟨c.g1, 1, none⟩ (.slice c.p1 (kl - (ii + 1)) c.c1)).setCell ⟨c.g1, 2, none⟩ (.slice none 0 0)).setCell ⟨c.g1, 3, none⟩ (.slice c.p2 (vl - (ii + 1)) c.c2)) ∧ W.heap[c.g1]? = some (.cells #[.bool false, .slice none 0 0, .slice none 0 0, .slice none 0 0] 25 (0, 0)))
    (hend : ∀ c L W, (∀ i, i < 15 → L i = true) → Wd c L W → Q .normal ((((((((((((((a0.put (some 61) (.pointer (some ⟨X, 0 + 1, none⟩))).put (some 62) (.slice (some ⟨ga, oa, none⟩) kl kc)).put (some 63) (.int .i64 (ii : Int))).put (some 64) (.int .i64 ((ii + 1 : Nat) : Int))).put (some 65) (.slice (some ⟨ga, oa + (ii + 1), none⟩) (kl - (ii + 1)) (kc - (ii + 1)))).put (some 66) (.slice c.p1 (kl - (ii + 1)) c.c1)).put (some 67) (.pointer (some ⟨X, 0 + 3, none⟩))).put (some 68) (.slice (some ⟨gb, ob, none⟩) vl vc)).put (some 69) (.int .i64 (ii : Int))).put (some 70) (.int .i64 ((ii + 1 : Nat) : Int))).put (some 71) (.slice (some ⟨gb, ob + (ii + 1), none⟩) (vl - (ii + 1)) (vc - (ii + 1)))).put (some 72) (.slice c.p2 (vl - (ii + 1)) c.c2)).put (some 73) (.agg #[.bool false, (.slice c.p1 (kl - (ii + 1)) c.c1), .slice none 0 0, (.slice c.p2 (vl - (ii + 1)) c.c2)])).put (some 10) (.pointer (some ⟨c.g1, 0, none⟩))) W) : (Code.region id ops true).wp Tryz.prog Q a0 w := by
  let val : Ch3 → Nat → Value := vrpd X kl kc vl vc ii ga oa gb ob
  have hosz : ops.size = 15 := by
    have := congrArg List.length htab
    simpa [rpdT] using this
  have hds : ∀ i s, (rpdT[i]?).bind (·.2.1) = some s → dstOf ops i = some s := fun i s hi => by rw [tab_dst htab, hi]
  have hdisB : disL rpdT = true := by rfl
  have hdis := disL_of htab hdisB
  have hold : ∀ s, rpdT.all (fun x => !(x.2.1 == some s)) = true → (List.range ops.size).all (fun j => !(dstOf ops j == some s)) = true := fun s h => holdL htab s h
  refine region_detX val Wd (hac_of hac) hdis h0 ?_ ?_
  rotate_left
  · intro c L W hall hW
    have := hend c L W (by rw [← hosz]; exact hall) hW
    have e : frm ops a0 (val c) (fun _ => true) ops.size = ((((((((((((((a0.put (some 61) (.pointer (some ⟨X, 0 + 1, none⟩))).put (some 62) (.slice (some ⟨ga, oa, none⟩) kl kc)).put (some 63) (.int .i64 (ii : Int))).put (some 64) (.int .i64 ((ii + 1 : Nat) : Int))).put (some 65) (.slice (some ⟨ga, oa + (ii + 1), none⟩) (kl - (ii + 1)) (kc - (ii + 1)))).put (some 66) (.slice c.p1 (kl - (ii + 1)) c.c1)).put (some 67) (.pointer (some ⟨X, 0 + 3, none⟩))).put (some 68) (.slice (some ⟨gb, ob, none⟩) vl vc)).put (some 69) (.int .i64 (ii : Int))).put (some 70) (.int .i64 ((ii + 1 : Nat) : Int))).put (some 71) (.slice (some ⟨gb, ob + (ii + 1), none⟩) (vl - (ii + 1)) (vc - (ii + 1)))).put (some 72) (.slice c.p2 (vl - (ii + 1)) c.c2)).put (some 73) (.agg #[.bool false, (.slice c.p1 (kl - (ii + 1)) c.c1), .slice none 0 0, (.slice c.p2 (vl - (ii + 1)) c.c2)])).put (some 10) (.pointer (some ⟨c.g1, 0, none⟩))) := by
      rw [hosz]
      simp only [frm, if_true]
      rw [tab_dst htab 0, tab_dst htab 1, tab_dst htab 2, tab_dst htab 3, tab_dst htab 4, tab_dst htab 5, tab_dst htab 6, tab_dst htab 7, tab_dst htab 8, tab_dst htab 9, tab_dst htab 10, tab_dst htab 11, tab_dst htab 12, tab_dst htab 13, (show dstOf ops 14 = none from (tab_dst htab 14).trans rfl), put_none]
      rfl
    rw [e]
    exact this
  intro i o ho c L a w' hL hd ha hW
  have hi : i < 15 := by rw [← hosz]; exact (Array.getElem?_eq_some_iff.1 ho).1
  match i, ho, hL, hi with
  | 0, ho, hL, _ =>
    obtain ⟨hop, hdst, hgd⟩ := tab_at htab ho (show rpdT[0]? = _ from rfl)
    simp only at hop hgd
    have h0 := frm_old (val := val c) ha 2 _ (hold 2 rfl) o2
    exact doesX_of (doesL_run ho (wanted_none hgd) (hpure 0 (by decide) c L w' hW) (run_f25_1 _ _ _ hop _ _ (eval_of h0) _))
  | 1, ho, hL, _ =>
    obtain ⟨hop, hdst, hgd⟩ := tab_at htab ho (show rpdT[1]? = _ from rfl)
    simp only at hop hgd
    have h0 := frm_at (val := val c) hdis ha 0 61 (hds 0 61 rfl) (by omega) (depl_of hdep 1 0 (by decide) ho hd)
    exact doesX_of (doesL_run ho (wanted_none hgd) (hpure 1 (by decide) c L w' hW) (run_ld22 _ _ _ hop _ _ (eval_of h0) _ (l1 c L w' hW)))
  | 2, ho, hL, _ =>
    obtain ⟨hop, hdst, hgd⟩ := tab_at htab ho (show rpdT[2]? = _ from rfl)
    simp only at hop hgd
    have h0 := frm_old (val := val c) ha 1 _ (hold 1 rfl) o1
    exact doesX_of (doesL_run ho (wanted_none hgd) (hpure 2 (by decide) c L w' hW) (by rw [run_move _ _ _ hop]; exact congrArg (fun v => Result.ok (Next.value v) w') (eval_of h0)))
  | 3, ho, hL, _ =>
    obtain ⟨hop, hdst, hgd⟩ := tab_at htab ho (show rpdT[3]? = _ from rfl)
    simp only at hop hgd
    have h0 := frm_at (val := val c) hdis ha 2 63 (hds 2 63 rfl) (by omega) (depl_of hdep 3 2 (by decide) ho hd)
    exact doesX_of (doesL_run ho (wanted_none hgd) (hpure 3 (by decide) c L w' hW) (run_addi1 _ _ _ hop _ hii (eval_of h0) rfl _))
  | 4, ho, hL, _ =>
    obtain ⟨hop, hdst, hgd⟩ := tab_at htab ho (show rpdT[4]? = _ from rfl)
    simp only at hop hgd
    have h0 := frm_at (val := val c) hdis ha 1 62 (hds 1 62 rfl) (by omega) (depl_of hdep 4 1 (by decide) ho hd)
    have h1 := frm_at (val := val c) hdis ha 3 64 (hds 3 64 rfl) (by omega) (depl_of hdep 4 3 (by decide) ho hd)
    exact doesX_of (doesL_run ho (wanted_none hgd) (hpure 4 (by decide) c L w' hW) (run_cutL22 _ _ _ _ hop _ _ _ _ _ s4 (eval_of h0) (eval_of h1) _))
  | 5, ho, hL, _ =>
    obtain ⟨hop, hdst, hgd⟩ := tab_at htab ho (show rpdT[5]? = _ from rfl)
    simp only at hop hgd
    have h0 := frm_at (val := val c) hdis ha 4 65 (hds 4 65 rfl) (by omega) (depl_of hdep 5 4 (by decide) ho hd)
    refine doesX_call ho (wanted_none hgd) 82 #[.slice (some ⟨ga, oa + (ii + 1), none⟩) (kl - (ii + 1)) (kc - (ii + 1))] ?_ (c5 c L w' hW hL)
    rw [run_calls Tryz.func82 (by kernel_rfl) rfl _ _ _ _ hop rfl]
    simp only [List.map_toArray, List.map_cons, List.map_nil, eval_of h0]
    all_goals rfl
  | 6, ho, hL, _ =>
    obtain ⟨hop, hdst, hgd⟩ := tab_at htab ho (show rpdT[6]? = _ from rfl)
    simp only at hop hgd
    have h0 := frm_old (val := val c) ha 2 _ (hold 2 rfl) o2
    exact doesX_of (doesL_run ho (wanted_none hgd) (hpure 6 (by decide) c L w' hW) (run_f25_3 _ _ _ hop _ _ (eval_of h0) _))
  | 7, ho, hL, _ =>
    obtain ⟨hop, hdst, hgd⟩ := tab_at htab ho (show rpdT[7]? = _ from rfl)
    simp only at hop hgd
    have h0 := frm_at (val := val c) hdis ha 6 67 (hds 6 67 rfl) (by omega) (depl_of hdep 7 6 (by decide) ho hd)
    exact doesX_of (doesL_run ho (wanted_none hgd) (hpure 7 (by decide) c L w' hW) (run_ld23 _ _ _ hop _ _ (eval_of h0) _ (l7 c L w' hW)))
  | 8, ho, hL, _ =>
    obtain ⟨hop, hdst, hgd⟩ := tab_at htab ho (show rpdT[8]? = _ from rfl)
    simp only at hop hgd
    have h0 := frm_old (val := val c) ha 1 _ (hold 1 rfl) o1
    exact doesX_of (doesL_run ho (wanted_none hgd) (hpure 8 (by decide) c L w' hW) (by rw [run_move _ _ _ hop]; exact congrArg (fun v => Result.ok (Next.value v) w') (eval_of h0)))
  | 9, ho, hL, _ =>
    obtain ⟨hop, hdst, hgd⟩ := tab_at htab ho (show rpdT[9]? = _ from rfl)
    simp only at hop hgd
    have h0 := frm_at (val := val c) hdis ha 8 69 (hds 8 69 rfl) (by omega) (depl_of hdep 9 8 (by decide) ho hd)
    exact doesX_of (doesL_run ho (wanted_none hgd) (hpure 9 (by decide) c L w' hW) (run_addi1 _ _ _ hop _ hii (eval_of h0) rfl _))
  | 10, ho, hL, _ =>
    obtain ⟨hop, hdst, hgd⟩ := tab_at htab ho (show rpdT[10]? = _ from rfl)
    simp only at hop hgd
    have h0 := frm_at (val := val c) hdis ha 7 68 (hds 7 68 rfl) (by omega) (depl_of hdep 10 7 (by decide) ho hd)
    have h1 := frm_at (val := val c) hdis ha 9 70 (hds 9 70 rfl) (by omega) (depl_of hdep 10 9 (by decide) ho hd)
    exact doesX_of (doesL_run ho (wanted_none hgd) (hpure 10 (by decide) c L w' hW) (run_cutL23 _ _ _ _ hop _ _ _ _ _ s10 (eval_of h0) (eval_of h1) _))
  | 11, ho, hL, _ =>
    obtain ⟨hop, hdst, hgd⟩ := tab_at htab ho (show rpdT[11]? = _ from rfl)
    simp only at hop hgd
    have h0 := frm_at (val := val c) hdis ha 10 71 (hds 10 71 rfl) (by omega) (depl_of hdep 11 10 (by decide) ho hd)
    refine doesX_call ho (wanted_none hgd) 83 #[.slice (some ⟨gb, ob + (ii + 1), none⟩) (vl - (ii + 1)) (vc - (ii + 1))] ?_ (c11 c L w' hW hL)
    rw [run_calls Tryz.func83 (by kernel_rfl) rfl _ _ _ _ hop rfl]
    simp only [List.map_toArray, List.map_cons, List.map_nil, eval_of h0]
    all_goals rfl
  | 12, ho, hL, _ =>
    obtain ⟨hop, hdst, hgd⟩ := tab_at htab ho (show rpdT[12]? = _ from rfl)
    simp only at hop hgd
    have h0 := frm_at (val := val c) hdis ha 5 66 (hds 5 66 rfl) (by omega) (depl_of hdep 12 5 (by decide) ho hd)
    have h1 := frm_at (val := val c) hdis ha 11 72 (hds 11 72 rfl) (by omega) (depl_of hdep 12 11 (by decide) ho hd)
    exact doesX_of (doesL_run ho (wanted_none hgd) (hpure12 c L w' hW (depl_of hdep 12 5 (by decide) ho hd) (depl_of hdep 12 11 (by decide) ho hd)) (run_build25i _ _ _ _ hop _ _ _ _ _ _ (eval_of h0) (eval_of h1) _))
  | 13, ho, hL, _ =>
    obtain ⟨hop, hdst, hgd⟩ := tab_at htab ho (show rpdT[13]? = _ from rfl)
    simp only at hop hgd
    obtain ⟨c', q0, q1, q2⟩ := n13 c L w' hW hL
    refine doesX_runw ho (wanted_none hgd) c' q0 q2 ((run_al25 _ _ hop _).trans (by rw [← q1]; rfl))
  | 14, ho, hL, _ =>
    obtain ⟨hop, hdst, hgd⟩ := tab_at htab ho (show rpdT[14]? = _ from rfl)
    simp only at hop hgd
    have h0 := frm_at (val := val c) hdis ha 13 10 (hds 13 10 rfl) (by omega) (depl_of hdep 14 13 (by decide) ho hd)
    have h1 := frm_at (val := val c) hdis ha 12 73 (hds 12 73 rfl) (by omega) (depl_of hdep 14 12 (by decide) ho hd)
    obtain ⟨s1, s2⟩ := n14 c L w' hW hL (depl_of hdep 14 12 (by decide) ho hd) (depl_of hdep 14 13 (by decide) ho hd)
    exact doesX_of (doesL_skp ho (wanted_none hgd) rfl s1 (run_st25 _ _ _ _ hop _ _ _ _ _ (eval_of h0) (eval_of h1) _ _ _ _ _ s2 ⟨rfl, rfl, rfl, rfl⟩))
  | (i + 15), ho, hL, hi => exact absurd hi (by omega)
end Go.Proofs.YtllialbdofklgaaGreatDoor
namespace Go.Proofs.YtllialbdofklgaaGreatDoor
open Go.RowKit
theorem run_subi1 (ρ : Operand → Value) (o : Oper) (x : Operand) (ho : o.op = .binOp .sub 3 x (.const (.int .i64 1)) 3) (k : Nat) (hk : 1 ≤ k ∧ k ≤ 4294967296) (hx : ρ x = .int .i64 (k : Int)) (hc : ρ (.const (.int .i64 1)) = .int .i64 1) (w : World) : (execOp ρ o).run Tryz.prog w = .ok (.value (.int .i64 ((k - 1 : Nat) : Int))) w := by
  unfold execOp
  simp only [ho, hx, hc]
  have q : IntKind.i64.wrap ((k : Int) - 1) = ((k - 1 : Nat) : Int) := by rw [IntKind.wrap_i64]; omega
  simp [go_sem, q]
theorem run_ia22 (ρ : Operand → Value) (o : Oper) (x y : Operand) (ho : o.op = .indexAddr 22 x y) (g q n cap k : Nat) (hk : k < n) (hx : ρ x = .slice (some ⟨g, q, none⟩) n cap) (hy : ρ y = .int .i64 (k : Int)) (w : World) : (execOp ρ o).run Tryz.prog w = .ok (.value (.pointer (some ⟨g, q + k, none⟩))) w := by
  unfold execOp
  simp only [ho, hx, hy]
  have h1 : (k : Int) < (n : Int) := by omega
  have u := Tryz.underlying22
  have z := Tryz.sizeOf9
  simp [go_sem, u, z, h1]
theorem run_ld9 (ρ : Operand → Value) (o : Oper) (x : Operand) (ho : o.op = .load 9 x) (p : Addr) (v : Value) (ha : ρ x = .pointer (some p)) (w : World) (hc : w.cell? p = some v) : (execOp ρ o).run Tryz.prog w = .ok (.value v) w := by
  unfold execOp
  simp only [ho, ha]
  simp [Instr.loadAt, go_sem, hc, Tryz.isAgg9]
def rpeT : List (Op × Option Tmp × Option (Nat × Bool)) := [
  (.load 25 (.tmp 7), some 35, none),
  (.fieldAddr 25 (.tmp 2) 1, some 36, none),
  (.load 22 (.tmp 36), some 37, none),
  (.move (.tmp 1), some 38, none),
  (.binOp .sub 3 (.tmp 38) (.const (.int .i64 1)) 3, some 39, none),
  (.indexAddr 22 (.tmp 37) (.tmp 39), some 40, none),
  (.load 9 (.tmp 40), some 41, none),
  (.fieldAddr 25 (.tmp 2) 1, some 42, none),
  (.load 22 (.tmp 42), some 43, none),
  (.move (.tmp 1), some 44, none),
  (.indexAddr 22 (.tmp 43) (.tmp 44), some 45, none),
  (.load 9 (.tmp 45), some 46, none),
  (.call { callee := .value (.func 28), args := #[(.tmp 41), (.tmp 46)], argTypes := #[9, 9] }, some 47, none),
  (.load 25 (.tmp 8), some 48, none),
  (.store 25 (.tmp 4) (.tmp 35), none, none),
  (.assign (.tmp 47), some 5, none),
  (.store 25 (.tmp 6) (.tmp 48), none, none)]
def rpeD : List (Nat × Nat) := [(2, 1), (4, 3), (5, 2), (5, 4), (6, 5), (8, 7), (10, 8), (10, 9), (11, 10), (12, 6), (12, 11), (14, 0), (15, 12), (16, 13)]
set_option maxHeartbeats 2000000 in
theorem rpe {ops : Array Oper} {id : Nat} {Q : Exit → Act → World → Prop} (X Y Z A D kl kc ii ga oa m1 m2 n1 n2 c1 c2 d1 d2 : Nat) (p1 p2 q1 q2 : Option Addr) (xx yy : Bs) (key : Bs) (hii : 1 ≤ ii ∧ ii ≤ 4294967296) (htab : ops.toList.map (fun o => (o.op, o.dst, o.guard)) = rpeT) (hdep : deplB rpeD ops = true) (hac : acB ops = true)
    (a0 : Act) (w : World) (hsz : 49 ≤ a0.tmps.size) (o1 : a0.tmps[1]? = some (.int .i64 (ii : Int))) (o2 : a0.tmps[2]? = some (.pointer (some ⟨X, 0, none⟩))) (o4 : a0.tmps[4]? = some (.pointer (some ⟨A, 0, none⟩))) (o6 : a0.tmps[6]? = some (.pointer (some ⟨D, 0, none⟩))) (o7 : a0.tmps[7]? = some (.pointer (some ⟨Y, 0, none⟩))) (o8 : a0.tmps[8]? = some (.pointer (some ⟨Z, 0, none⟩)))
    (Wd : (Nat → Bool) → World → Prop) (h0 : Wd (fun _ => false) w.drew) (hpure : ∀ i, i ∉ ([12, 14, 16] : List Nat) → ∀ L W, Wd L W → Wd (upd L i) W)
    (i5 : ii - 1 < kl)
    (i10 : ii < kl)
    (l0 : ∀ L W, Wd L W → W.cell? ⟨Y, 0, none⟩ = some (.bool true) ∧ W.cell? ⟨Y, 1, none⟩ = some (.slice p1 m1 c1) ∧ W.cell? ⟨Y, 2, none⟩ = some (.slice p2 m2 c2) ∧ W.cell? ⟨Y, 3, none⟩ = some (.slice none 0 0))
    (l2 : ∀ L W, Wd L W → W.cell? ⟨X, 0 + 1, none⟩ = some (.slice (some ⟨ga, oa, none⟩) kl kc))
    (l6 : ∀ L W, Wd L W → W.cell? ⟨ga, oa + (ii - 1), none⟩ = some (S xx))
    (l8 : ∀ L W, Wd L W → W.cell? ⟨X, 0 + 1, none⟩ = some (.slice (some ⟨ga, oa, none⟩) kl kc))
    (l11 : ∀ L W, Wd L W → W.cell? ⟨ga, oa + ii, none⟩ = some (S yy))
    (c12 : ∀ L W, Wd L W → L 12 = false → Calls Tryz.prog 28 #[S xx, S yy] W fun e w' => e = .returned (S key) ∧ Wd (upd L 12) w')
    (l13 : ∀ L W, Wd L W → W.cell? ⟨Z, 0, none⟩ = some (.bool true) ∧ W.cell? ⟨Z, 1, none⟩ = some (.slice q1 n1 d1) ∧ W.cell? ⟨Z, 2, none⟩ = some (.slice q2 n2 d2) ∧ W.cell? ⟨Z, 3, none⟩ = some (.slice none 0 0))
    (n14 : ∀ L W, Wd L W → L 14 = false → L 0 = true → Wd (upd L 14) ((((W.setCell ⟨A, 0, none⟩ (.bool true)).setCell ⟨A, 1, none⟩ (.slice p1 m1 c1)).setCell ⟨A, 2, none⟩ (.slice p2 m2 c2)).setCell ⟨A, 3, none⟩ (.slice none 0 0)) ∧ W.heap[A]? = some (.cells #[.bool false, .slice none 0 0, .slice none 0 0, .slice none 0 0] 25 (0, 0)))
    (n16 : ∀ L W, Wd L W → L 16 = false → L 13 = true → Wd (upd L 16) ((((W.setCell ⟨D, 0, none⟩ (.bool true)).setCell ⟨D, 1, none⟩ (.slice q1 n1 d1)).setCell ⟨D, 2, none⟩ (.slice q2 n2 d2)).setCell ⟨D, 3, none⟩ (.slice none 0 0)) ∧ W.heap[D]? = some (.cells #[.bool false, .slice none 0 0, .slice none 0 0, .slice none 0 0] 25 (0, 0)))
    (hend : ∀ L W, (∀ i, i < 17 → L i = true) → Wd L W → Q .normal (((((((((((((((a0.put (some 35) (.agg #[.bool true, .slice p1 m1 c1, .slice p2 m2 c2, .slice none 0 0])).put (some 36) (.pointer (some ⟨X, 0 + 1, none⟩))).put (some 37) (.slice (some ⟨ga, oa, none⟩) kl kc)).put (some 38) (.int .i64 (ii : Int))).put (some 39) (.int .i64 ((ii - 1 : Nat) : Int))).put (some 40) (.pointer (some ⟨ga, oa + (ii - 1), none⟩))).put (some 41) (S xx)).put (some 42) (.pointer (some ⟨X, 0 + 1, none⟩))).put (some 43) (.slice (some ⟨ga, oa, none⟩) kl kc)).put (some 44) (.int .i64 (ii : Int))).put (some 45) (.pointer (some ⟨ga, oa + ii, none⟩))).put (some 46) (S yy)).put (some 47) (S key)).put (some 48) (.agg #[.bool true, .slice q1 n1 d1, .slice q2 n2 d2, .slice none 0 0])).put (some 5) (S key)) W) : (Code.region id ops true).wp Tryz.prog Q a0 w := by
  let val : Nat → Value := fun i => match i with
    | 0 => (.agg #[.bool true, .slice p1 m1 c1, .slice p2 m2 c2, .slice none 0 0])
    | 1 => (.pointer (some ⟨X, 0 + 1, none⟩))
    | 2 => (.slice (some ⟨ga, oa, none⟩) kl kc)
    | 3 => (.int .i64 (ii : Int))
    | 4 => (.int .i64 ((ii - 1 : Nat) : Int))
    | 5 => (.pointer (some ⟨ga, oa + (ii - 1), none⟩))
    | 6 => (S xx)
    | 7 => (.pointer (some ⟨X, 0 + 1, none⟩))
    | 8 => (.slice (some ⟨ga, oa, none⟩) kl kc)
    | 9 => (.int .i64 (ii : Int))
    | 10 => (.pointer (some ⟨ga, oa + ii, none⟩))
    | 11 => (S yy)
    | 12 => (S key)
    | 13 => (.agg #[.bool true, .slice q1 n1 d1, .slice q2 n2 d2, .slice none 0 0])
    | 14 => undef
    | 15 => (S key)
    | 16 => undef
    | _ => undef
  have hosz : ops.size = 17 := by
    have := congrArg List.length htab
    simpa [rpeT] using this
  have hds : ∀ i s, (rpeT[i]?).bind (·.2.1) = some s → dstOf ops i = some s := fun i s hi => by rw [tab_dst htab, hi]
  have hdisB : disL rpeT = true := by rfl
  have hdis := disL_of htab hdisB
  have hold : ∀ s, rpeT.all (fun x => !(x.2.1 == some s)) = true → (List.range ops.size).all (fun j => !(dstOf ops j == some s)) = true := fun s h => holdL htab s h
  refine region_detL val Wd (hac_of hac) hdis h0 ?_ ?_
  rotate_left
  · intro L W hall hW
    have := hend L W (by rw [← hosz]; exact hall) hW
    have e : frm ops a0 val (fun _ => true) ops.size = (((((((((((((((a0.put (some 35) (.agg #[.bool true, .slice p1 m1 c1, .slice p2 m2 c2, .slice none 0 0])).put (some 36) (.pointer (some ⟨X, 0 + 1, none⟩))).put (some 37) (.slice (some ⟨ga, oa, none⟩) kl kc)).put (some 38) (.int .i64 (ii : Int))).put (some 39) (.int .i64 ((ii - 1 : Nat) : Int))).put (some 40) (.pointer (some ⟨ga, oa + (ii - 1), none⟩))).put (some 41) (S xx)).put (some 42) (.pointer (some ⟨X, 0 + 1, none⟩))).put (some 43) (.slice (some ⟨ga, oa, none⟩) kl kc)).put (some 44) (.int .i64 (ii : Int))).put (some 45) (.pointer (some ⟨ga, oa + ii, none⟩))).put (some 46) (S yy)).put (some 47) (S key)).put (some 48) (.agg #[.bool true, .slice q1 n1 d1, .slice q2 n2 d2, .slice none 0 0])).put (some 5) (S key)) := by
      rw [hosz]
      simp only [frm, if_true]
      rw [tab_dst htab 0, tab_dst htab 1, tab_dst htab 2, tab_dst htab 3, tab_dst htab 4, tab_dst htab 5, tab_dst htab 6, tab_dst htab 7, tab_dst htab 8, tab_dst htab 9, tab_dst htab 10, tab_dst htab 11, tab_dst htab 12, tab_dst htab 13, (show dstOf ops 14 = none from (tab_dst htab 14).trans rfl), put_none, tab_dst htab 15, (show dstOf ops 16 = none from (tab_dst htab 16).trans rfl), put_none]
      rfl
    rw [e]
    exact this
  intro i o ho L a w' hL hd ha hW
  have hi : i < 17 := by rw [← hosz]; exact (Array.getElem?_eq_some_iff.1 ho).1
  match i, ho, hL, hi with
  | 0, ho, hL, _ =>
    obtain ⟨hop, hdst, hgd⟩ := tab_at htab ho (show rpeT[0]? = _ from rfl)
    simp only at hop hgd
    have h0 := frm_old ha 7 _ (hold 7 rfl) o7
    exact doesL_run ho (wanted_none hgd) (hpure 0 (by decide) L w' hW) (run_ld25 _ _ _ hop _ _ _ _ _ (eval_of h0) _ (l0 L w' hW).1 (l0 L w' hW).2.1 (l0 L w' hW).2.2.1 (l0 L w' hW).2.2.2)
  | 1, ho, hL, _ =>
    obtain ⟨hop, hdst, hgd⟩ := tab_at htab ho (show rpeT[1]? = _ from rfl)
    simp only at hop hgd
    have h0 := frm_old ha 2 _ (hold 2 rfl) o2
    exact doesL_run ho (wanted_none hgd) (hpure 1 (by decide) L w' hW) (run_f25_1 _ _ _ hop _ _ (eval_of h0) _)
  | 2, ho, hL, _ =>
    obtain ⟨hop, hdst, hgd⟩ := tab_at htab ho (show rpeT[2]? = _ from rfl)
    simp only at hop hgd
    have h0 := frm_at hdis ha 1 36 (hds 1 36 rfl) (by omega) (depl_of hdep 2 1 (by decide) ho hd)
    exact doesL_run ho (wanted_none hgd) (hpure 2 (by decide) L w' hW) (run_ld22 _ _ _ hop _ _ (eval_of h0) _ (l2 L w' hW))
  | 3, ho, hL, _ =>
    obtain ⟨hop, hdst, hgd⟩ := tab_at htab ho (show rpeT[3]? = _ from rfl)
    simp only at hop hgd
    have h0 := frm_old ha 1 _ (hold 1 rfl) o1
    exact doesL_run ho (wanted_none hgd) (hpure 3 (by decide) L w' hW) (by rw [run_move _ _ _ hop]; exact congrArg (fun v => Result.ok (Next.value v) w') (eval_of h0))
  | 4, ho, hL, _ =>
    obtain ⟨hop, hdst, hgd⟩ := tab_at htab ho (show rpeT[4]? = _ from rfl)
    simp only at hop hgd
    have h0 := frm_at hdis ha 3 38 (hds 3 38 rfl) (by omega) (depl_of hdep 4 3 (by decide) ho hd)
    exact doesL_run ho (wanted_none hgd) (hpure 4 (by decide) L w' hW) (run_subi1 _ _ _ hop _ hii (eval_of h0) rfl _)
  | 5, ho, hL, _ =>
    obtain ⟨hop, hdst, hgd⟩ := tab_at htab ho (show rpeT[5]? = _ from rfl)
    simp only at hop hgd
    have h0 := frm_at hdis ha 2 37 (hds 2 37 rfl) (by omega) (depl_of hdep 5 2 (by decide) ho hd)
    have h1 := frm_at hdis ha 4 39 (hds 4 39 rfl) (by omega) (depl_of hdep 5 4 (by decide) ho hd)
    exact doesL_run ho (wanted_none hgd) (hpure 5 (by decide) L w' hW) (run_ia22 _ _ _ _ hop _ _ _ _ _ i5 (eval_of h0) (eval_of h1) _)
  | 6, ho, hL, _ =>
    obtain ⟨hop, hdst, hgd⟩ := tab_at htab ho (show rpeT[6]? = _ from rfl)
    simp only at hop hgd
    have h0 := frm_at hdis ha 5 40 (hds 5 40 rfl) (by omega) (depl_of hdep 6 5 (by decide) ho hd)
    exact doesL_run ho (wanted_none hgd) (hpure 6 (by decide) L w' hW) (run_ld9 _ _ _ hop _ _ (eval_of h0) _ (l6 L w' hW))
  | 7, ho, hL, _ =>
    obtain ⟨hop, hdst, hgd⟩ := tab_at htab ho (show rpeT[7]? = _ from rfl)
    simp only at hop hgd
    have h0 := frm_old ha 2 _ (hold 2 rfl) o2
    exact doesL_run ho (wanted_none hgd) (hpure 7 (by decide) L w' hW) (run_f25_1 _ _ _ hop _ _ (eval_of h0) _)
  | 8, ho, hL, _ =>
    obtain ⟨hop, hdst, hgd⟩ := tab_at htab ho (show rpeT[8]? = _ from rfl)
    simp only at hop hgd
    have h0 := frm_at hdis ha 7 42 (hds 7 42 rfl) (by omega) (depl_of hdep 8 7 (by decide) ho hd)
    exact doesL_run ho (wanted_none hgd) (hpure 8 (by decide) L w' hW) (run_ld22 _ _ _ hop _ _ (eval_of h0) _ (l8 L w' hW))
  | 9, ho, hL, _ =>
    obtain ⟨hop, hdst, hgd⟩ := tab_at htab ho (show rpeT[9]? = _ from rfl)
    simp only at hop hgd
    have h0 := frm_old ha 1 _ (hold 1 rfl) o1
    exact doesL_run ho (wanted_none hgd) (hpure 9 (by decide) L w' hW) (by rw [run_move _ _ _ hop]; exact congrArg (fun v => Result.ok (Next.value v) w') (eval_of h0))
  | 10, ho, hL, _ =>
    obtain ⟨hop, hdst, hgd⟩ := tab_at htab ho (show rpeT[10]? = _ from rfl)
    simp only at hop hgd
    have h0 := frm_at hdis ha 8 43 (hds 8 43 rfl) (by omega) (depl_of hdep 10 8 (by decide) ho hd)
    have h1 := frm_at hdis ha 9 44 (hds 9 44 rfl) (by omega) (depl_of hdep 10 9 (by decide) ho hd)
    exact doesL_run ho (wanted_none hgd) (hpure 10 (by decide) L w' hW) (run_ia22 _ _ _ _ hop _ _ _ _ _ i10 (eval_of h0) (eval_of h1) _)
  | 11, ho, hL, _ =>
    obtain ⟨hop, hdst, hgd⟩ := tab_at htab ho (show rpeT[11]? = _ from rfl)
    simp only at hop hgd
    have h0 := frm_at hdis ha 10 45 (hds 10 45 rfl) (by omega) (depl_of hdep 11 10 (by decide) ho hd)
    exact doesL_run ho (wanted_none hgd) (hpure 11 (by decide) L w' hW) (run_ld9 _ _ _ hop _ _ (eval_of h0) _ (l11 L w' hW))
  | 12, ho, hL, _ =>
    obtain ⟨hop, hdst, hgd⟩ := tab_at htab ho (show rpeT[12]? = _ from rfl)
    simp only at hop hgd
    have h0 := frm_at hdis ha 6 41 (hds 6 41 rfl) (by omega) (depl_of hdep 12 6 (by decide) ho hd)
    have h1 := frm_at hdis ha 11 46 (hds 11 46 rfl) (by omega) (depl_of hdep 12 11 (by decide) ho hd)
    refine doesL_call ho (wanted_none hgd) 28 #[S xx, S yy] ?_ (c12 L w' hW hL)
    rw [run_calls Tryz.func28 (by kernel_rfl) rfl _ _ _ _ hop rfl]
    simp only [List.map_toArray, List.map_cons, List.map_nil, eval_of h0, eval_of h1]
    all_goals rfl
  | 13, ho, hL, _ =>
    obtain ⟨hop, hdst, hgd⟩ := tab_at htab ho (show rpeT[13]? = _ from rfl)
    simp only at hop hgd
    have h0 := frm_old ha 8 _ (hold 8 rfl) o8
    exact doesL_run ho (wanted_none hgd) (hpure 13 (by decide) L w' hW) (run_ld25 _ _ _ hop _ _ _ _ _ (eval_of h0) _ (l13 L w' hW).1 (l13 L w' hW).2.1 (l13 L w' hW).2.2.1 (l13 L w' hW).2.2.2)
  | 14, ho, hL, _ =>
    obtain ⟨hop, hdst, hgd⟩ := tab_at htab ho (show rpeT[14]? = _ from rfl)
    simp only at hop hgd
    have h0 := frm_old ha 4 _ (hold 4 rfl) o4
    have h1 := frm_at hdis ha 0 35 (hds 0 35 rfl) (by omega) (depl_of hdep 14 0 (by decide) ho hd)
    obtain ⟨s1, s2⟩ := n14 L w' hW hL (depl_of hdep 14 0 (by decide) ho hd)
    exact doesL_skp ho (wanted_none hgd) rfl s1 (run_st25 _ _ _ _ hop _ _ _ _ _ (eval_of h0) (eval_of h1) _ _ _ _ _ s2 ⟨rfl, rfl, rfl, rfl⟩)
  | 15, ho, hL, _ =>
    obtain ⟨hop, hdst, hgd⟩ := tab_at htab ho (show rpeT[15]? = _ from rfl)
    simp only at hop hgd
    have h0 := frm_at hdis ha 12 47 (hds 12 47 rfl) (by omega) (depl_of hdep 15 12 (by decide) ho hd)
    exact doesL_run ho (wanted_none hgd) (hpure 15 (by decide) L w' hW) (by rw [run_assign _ _ _ hop]; exact congrArg (fun v => Result.ok (Next.value v) w') (eval_of h0))
  | 16, ho, hL, _ =>
    obtain ⟨hop, hdst, hgd⟩ := tab_at htab ho (show rpeT[16]? = _ from rfl)
    simp only at hop hgd
    have h0 := frm_old ha 6 _ (hold 6 rfl) o6
    have h1 := frm_at hdis ha 13 48 (hds 13 48 rfl) (by omega) (depl_of hdep 16 13 (by decide) ho hd)
    obtain ⟨s1, s2⟩ := n16 L w' hW hL (depl_of hdep 16 13 (by decide) ho hd)
    exact doesL_skp ho (wanted_none hgd) rfl s1 (run_st25 _ _ _ _ hop _ _ _ _ _ (eval_of h0) (eval_of h1) _ _ _ _ _ s2 ⟨rfl, rfl, rfl, rfl⟩)
  | (i + 17), ho, hL, hi => exact absurd hi (by omega)
def rpfT : List (Op × Option Tmp × Option (Nat × Bool)) := [
  (.load 25 (.tmp 9), some 74, none),
  (.fieldAddr 25 (.tmp 2) 1, some 75, none),
  (.load 22 (.tmp 75), some 76, none),
  (.move (.tmp 1), some 77, none),
  (.indexAddr 22 (.tmp 76) (.tmp 77), some 78, none),
  (.load 9 (.tmp 78), some 79, none),
  (.load 25 (.tmp 10), some 80, none),
  (.store 25 (.tmp 4) (.tmp 74), none, none),
  (.assign (.tmp 79), some 5, none),
  (.store 25 (.tmp 6) (.tmp 80), none, none)]
def rpfD : List (Nat × Nat) := [(2, 1), (4, 2), (4, 3), (5, 4), (7, 0), (8, 5), (9, 6)]
set_option maxHeartbeats 2000000 in
theorem rpf {ops : Array Oper} {id : Nat} {Q : Exit → Act → World → Prop} (X Y Z A D kl kc ii ga oa m1 m2 n1 n2 c1 c2 d1 d2 : Nat) (p1 p2 q1 q2 : Option Addr) (key : Bs) (htab : ops.toList.map (fun o => (o.op, o.dst, o.guard)) = rpfT) (hdep : deplB rpfD ops = true) (hac : acB ops = true)
    (a0 : Act) (w : World) (hsz : 81 ≤ a0.tmps.size) (o1 : a0.tmps[1]? = some (.int .i64 (ii : Int))) (o2 : a0.tmps[2]? = some (.pointer (some ⟨X, 0, none⟩))) (o4 : a0.tmps[4]? = some (.pointer (some ⟨A, 0, none⟩))) (o6 : a0.tmps[6]? = some (.pointer (some ⟨D, 0, none⟩))) (o9 : a0.tmps[9]? = some (.pointer (some ⟨Y, 0, none⟩))) (o10 : a0.tmps[10]? = some (.pointer (some ⟨Z, 0, none⟩)))
    (Wd : (Nat → Bool) → World → Prop) (h0 : Wd (fun _ => false) w.drew) (hpure : ∀ i, i ∉ ([7, 9] : List Nat) → ∀ L W, Wd L W → Wd (upd L i) W)
    (i4 : ii < kl)
    (l0 : ∀ L W, Wd L W → W.cell? ⟨Y, 0, none⟩ = some (.bool false) ∧ W.cell? ⟨Y, 1, none⟩ = some (.slice p1 m1 c1) ∧ W.cell? ⟨Y, 2, none⟩ = some (.slice none 0 0) ∧ W.cell? ⟨Y, 3, none⟩ = some (.slice p2 m2 c2))
    (l2 : ∀ L W, Wd L W → W.cell? ⟨X, 0 + 1, none⟩ = some (.slice (some ⟨ga, oa, none⟩) kl kc))
    (l5 : ∀ L W, Wd L W → W.cell? ⟨ga, oa + ii, none⟩ = some (S key))
    (l6 : ∀ L W, Wd L W → W.cell? ⟨Z, 0, none⟩ = some (.bool false) ∧ W.cell? ⟨Z, 1, none⟩ = some (.slice q1 n1 d1) ∧ W.cell? ⟨Z, 2, none⟩ = some (.slice none 0 0) ∧ W.cell? ⟨Z, 3, none⟩ = some (.slice q2 n2 d2))
    (n7 : ∀ L W, Wd L W → L 7 = false → L 0 = true → Wd (upd L 7) ((((W.setCell ⟨A, 0, none⟩ (.bool false)).setCell ⟨A, 1, none⟩ (.slice p1 m1 c1)).setCell ⟨A, 2, none⟩ (.slice none 0 0)).setCell ⟨A, 3, none⟩ (.slice p2 m2 c2)) ∧ W.heap[A]? = some (.cells #[.bool false, .slice none 0 0, .slice none 0 0, .slice none 0 0] 25 (0, 0)))
    (n9 : ∀ L W, Wd L W → L 9 = false → L 6 = true → Wd (upd L 9) ((((W.setCell ⟨D, 0, none⟩ (.bool false)).setCell ⟨D, 1, none⟩ (.slice q1 n1 d1)).setCell ⟨D, 2, none⟩ (.slice none 0 0)).setCell ⟨D, 3, none⟩ (.slice q2 n2 d2)) ∧ W.heap[D]? = some (.cells #[.bool false, .slice none 0 0, .slice none 0 0, .slice none 0 0] 25 (0, 0)))
    (hend : ∀ L W, (∀ i, i < 10 → L i = true) → Wd L W → Q .normal ((((((((a0.put (some 74) (.agg #[.bool false, .slice p1 m1 c1, .slice none 0 0, .slice p2 m2 c2])).put (some 75) (.pointer (some ⟨X, 0 + 1, none⟩))).put (some 76) (.slice (some ⟨ga, oa, none⟩) kl kc)).put (some 77) (.int .i64 (ii : Int))).put (some 78) (.pointer (some ⟨ga, oa + ii, none⟩))).put (some 79) (S key)).put (some 80) (.agg #[.bool false, .slice q1 n1 d1, .slice none 0 0, .slice q2 n2 d2])).put (some 5) (S key)) W) : (Code.region id ops true).wp Tryz.prog Q a0 w := by
  let val : Nat → Value := fun i => match i with
    | 0 => (.agg #[.bool false, .slice p1 m1 c1, .slice none 0 0, .slice p2 m2 c2])
    | 1 => (.pointer (some ⟨X, 0 + 1, none⟩))
    | 2 => (.slice (some ⟨ga, oa, none⟩) kl kc)
    | 3 => (.int .i64 (ii : Int))
    | 4 => (.pointer (some ⟨ga, oa + ii, none⟩))
    | 5 => (S key)
    | 6 => (.agg #[.bool false, .slice q1 n1 d1, .slice none 0 0, .slice q2 n2 d2])
    | 7 => undef
    | 8 => (S key)
    | 9 => undef
    | _ => undef
  have hosz : ops.size = 10 := by
    have := congrArg List.length htab
    simpa [rpfT] using this
  have hds : ∀ i s, (rpfT[i]?).bind (·.2.1) = some s → dstOf ops i = some s := fun i s hi => by rw [tab_dst htab, hi]
  have hdisB : disL rpfT = true := by rfl
  have hdis := disL_of htab hdisB
  have hold : ∀ s, rpfT.all (fun x => !(x.2.1 == some s)) = true → (List.range ops.size).all (fun j => !(dstOf ops j == some s)) = true := fun s h => holdL htab s h
  refine region_detL val Wd (hac_of hac) hdis h0 ?_ ?_
  rotate_left
  · intro L W hall hW
    have := hend L W (by rw [← hosz]; exact hall) hW
    have e : frm ops a0 val (fun _ => true) ops.size = ((((((((a0.put (some 74) (.agg #[.bool false, .slice p1 m1 c1, .slice none 0 0, .slice p2 m2 c2])).put (some 75) (.pointer (some ⟨X, 0 + 1, none⟩))).put (some 76) (.slice (some ⟨ga, oa, none⟩) kl kc)).put (some 77) (.int .i64 (ii : Int))).put (some 78) (.pointer (some ⟨ga, oa + ii, none⟩))).put (some 79) (S key)).put (some 80) (.agg #[.bool false, .slice q1 n1 d1, .slice none 0 0, .slice q2 n2 d2])).put (some 5) (S key)) := by
      rw [hosz]
      simp only [frm, if_true]
      rw [tab_dst htab 0, tab_dst htab 1, tab_dst htab 2, tab_dst htab 3, tab_dst htab 4, tab_dst htab 5, tab_dst htab 6, (show dstOf ops 7 = none from (tab_dst htab 7).trans rfl), put_none, tab_dst htab 8, (show dstOf ops 9 = none from (tab_dst htab 9).trans rfl), put_none]
      rfl
    rw [e]
    exact this
  intro i o ho L a w' hL hd ha hW
  have hi : i < 10 := by rw [← hosz]; exact (Array.getElem?_eq_some_iff.1 ho).1
  match i, ho, hL, hi with
  | 0, ho, hL, _ =>
    obtain ⟨hop, hdst, hgd⟩ := tab_at htab ho (show rpfT[0]? = _ from rfl)
    simp only at hop hgd
    have h0 := frm_old ha 9 _ (hold 9 rfl) o9
    exact doesL_run ho (wanted_none hgd) (hpure 0 (by decide) L w' hW) (run_ld25 _ _ _ hop _ _ _ _ _ (eval_of h0) _ (l0 L w' hW).1 (l0 L w' hW).2.1 (l0 L w' hW).2.2.1 (l0 L w' hW).2.2.2)
  | 1, ho, hL, _ =>
    obtain ⟨hop, hdst, hgd⟩ := tab_at htab ho (show rpfT[1]? = _ from rfl)
    simp only at hop hgd
    have h0 := frm_old ha 2 _ (hold 2 rfl) o2
    exact doesL_run ho (wanted_none hgd) (hpure 1 (by decide) L w' hW) (run_f25_1 _ _ _ hop _ _ (eval_of h0) _)
  | 2, ho, hL, _ =>
    obtain ⟨hop, hdst, hgd⟩ := tab_at htab ho (show rpfT[2]? = _ from rfl)
    simp only at hop hgd
    have h0 := frm_at hdis ha 1 75 (hds 1 75 rfl) (by omega) (depl_of hdep 2 1 (by decide) ho hd)
    exact doesL_run ho (wanted_none hgd) (hpure 2 (by decide) L w' hW) (run_ld22 _ _ _ hop _ _ (eval_of h0) _ (l2 L w' hW))
  | 3, ho, hL, _ =>
    obtain ⟨hop, hdst, hgd⟩ := tab_at htab ho (show rpfT[3]? = _ from rfl)
    simp only at hop hgd
    have h0 := frm_old ha 1 _ (hold 1 rfl) o1
    exact doesL_run ho (wanted_none hgd) (hpure 3 (by decide) L w' hW) (by rw [run_move _ _ _ hop]; exact congrArg (fun v => Result.ok (Next.value v) w') (eval_of h0))
  | 4, ho, hL, _ =>
    obtain ⟨hop, hdst, hgd⟩ := tab_at htab ho (show rpfT[4]? = _ from rfl)
    simp only at hop hgd
    have h0 := frm_at hdis ha 2 76 (hds 2 76 rfl) (by omega) (depl_of hdep 4 2 (by decide) ho hd)
    have h1 := frm_at hdis ha 3 77 (hds 3 77 rfl) (by omega) (depl_of hdep 4 3 (by decide) ho hd)
    exact doesL_run ho (wanted_none hgd) (hpure 4 (by decide) L w' hW) (run_ia22 _ _ _ _ hop _ _ _ _ _ i4 (eval_of h0) (eval_of h1) _)
  | 5, ho, hL, _ =>
    obtain ⟨hop, hdst, hgd⟩ := tab_at htab ho (show rpfT[5]? = _ from rfl)
    simp only at hop hgd
    have h0 := frm_at hdis ha 4 78 (hds 4 78 rfl) (by omega) (depl_of hdep 5 4 (by decide) ho hd)
    exact doesL_run ho (wanted_none hgd) (hpure 5 (by decide) L w' hW) (run_ld9 _ _ _ hop _ _ (eval_of h0) _ (l5 L w' hW))
  | 6, ho, hL, _ =>
    obtain ⟨hop, hdst, hgd⟩ := tab_at htab ho (show rpfT[6]? = _ from rfl)
    simp only at hop hgd
    have h0 := frm_old ha 10 _ (hold 10 rfl) o10
    exact doesL_run ho (wanted_none hgd) (hpure 6 (by decide) L w' hW) (run_ld25 _ _ _ hop _ _ _ _ _ (eval_of h0) _ (l6 L w' hW).1 (l6 L w' hW).2.1 (l6 L w' hW).2.2.1 (l6 L w' hW).2.2.2)
  | 7, ho, hL, _ =>
    obtain ⟨hop, hdst, hgd⟩ := tab_at htab ho (show rpfT[7]? = _ from rfl)
    simp only at hop hgd
    have h0 := frm_old ha 4 _ (hold 4 rfl) o4
    have h1 := frm_at hdis ha 0 74 (hds 0 74 rfl) (by omega) (depl_of hdep 7 0 (by decide) ho hd)
    obtain ⟨s1, s2⟩ := n7 L w' hW hL (depl_of hdep 7 0 (by decide) ho hd)
    exact doesL_skp ho (wanted_none hgd) rfl s1 (run_st25 _ _ _ _ hop _ _ _ _ _ (eval_of h0) (eval_of h1) _ _ _ _ _ s2 ⟨rfl, rfl, rfl, rfl⟩)
  | 8, ho, hL, _ =>
    obtain ⟨hop, hdst, hgd⟩ := tab_at htab ho (show rpfT[8]? = _ from rfl)
    simp only at hop hgd
    have h0 := frm_at hdis ha 5 79 (hds 5 79 rfl) (by omega) (depl_of hdep 8 5 (by decide) ho hd)
    exact doesL_run ho (wanted_none hgd) (hpure 8 (by decide) L w' hW) (by rw [run_assign _ _ _ hop]; exact congrArg (fun v => Result.ok (Next.value v) w') (eval_of h0))
  | 9, ho, hL, _ =>
    obtain ⟨hop, hdst, hgd⟩ := tab_at htab ho (show rpfT[9]? = _ from rfl)
    simp only at hop hgd
    have h0 := frm_old ha 6 _ (hold 6 rfl) o6
    have h1 := frm_at hdis ha 6 80 (hds 6 80 rfl) (by omega) (depl_of hdep 9 6 (by decide) ho hd)
    obtain ⟨s1, s2⟩ := n9 L w' hW hL (depl_of hdep 9 6 (by decide) ho hd)
    exact doesL_skp ho (wanted_none hgd) rfl s1 (run_st25 _ _ _ _ hop _ _ _ _ _ (eval_of h0) (eval_of h1) _ _ _ _ _ s2 ⟨rfl, rfl, rfl, rfl⟩)
  | (i + 10), ho, hL, hi => exact absurd hi (by omega)
end Go.Proofs.YtllialbdofklgaaGreatDoor
namespace Go.Proofs.YtllialbdofklgaaGreatDoor
open Go.RowKit
def rsfT : List (Op × Option Tmp × Option (Nat × Bool)) := [
  (.load 25 (.tmp 16), some 86, none),
  (.move (.tmp 17), some 87, none),
  (.load 25 (.tmp 18), some 88, none),
  (.store 25 (.tmp 2) (.tmp 86), none, none),
  (.assign (.tmp 87), some 3, none),
  (.store 25 (.tmp 4) (.tmp 88), none, none),
  (.assign (.const (.int .i64 0)), some 5, none)]
def rsfD : List (Nat × Nat) := [(3, 0), (4, 1), (5, 2)]
set_option maxHeartbeats 2000000 in
theorem rsf {ops : Array Oper} {id : Nat} {Q : Exit → Act → World → Prop} (Y Z A D m1 m2 m3 y1 y2 y3 c1 c2 c3 d1 d2 d3 : Nat) (p1 p2 p3 q1 q2 q3 : Option Addr) (lf : Bool) (key : Bs) (htab : ops.toList.map (fun o => (o.op, o.dst, o.guard)) = rsfT) (hdep : deplB rsfD ops = true) (hac : acB ops = true)
    (a0 : Act) (w : World) (hsz : 89 ≤ a0.tmps.size) (o2 : a0.tmps[2]? = some (.pointer (some ⟨A, 0, none⟩))) (o4 : a0.tmps[4]? = some (.pointer (some ⟨D, 0, none⟩))) (o16 : a0.tmps[16]? = some (.pointer (some ⟨Y, 0, none⟩))) (o17 : a0.tmps[17]? = some (S key)) (o18 : a0.tmps[18]? = some (.pointer (some ⟨Z, 0, none⟩)))
    (Wd : (Nat → Bool) → World → Prop) (h0 : Wd (fun _ => false) w.drew) (hpure : ∀ i, i ∉ ([3, 5] : List Nat) → ∀ L W, Wd L W → Wd (upd L i) W)
    (l0 : ∀ L W, Wd L W → W.cell? ⟨Y, 0, none⟩ = some (.bool lf) ∧ W.cell? ⟨Y, 1, none⟩ = some (.slice p1 m1 c1) ∧ W.cell? ⟨Y, 2, none⟩ = some (.slice p2 m2 c2) ∧ W.cell? ⟨Y, 3, none⟩ = some (.slice p3 m3 c3))
    (l2 : ∀ L W, Wd L W → W.cell? ⟨Z, 0, none⟩ = some (.bool lf) ∧ W.cell? ⟨Z, 1, none⟩ = some (.slice q1 y1 d1) ∧ W.cell? ⟨Z, 2, none⟩ = some (.slice q2 y2 d2) ∧ W.cell? ⟨Z, 3, none⟩ = some (.slice q3 y3 d3))
    (n3 : ∀ L W, Wd L W → L 3 = false → L 0 = true → Wd (upd L 3) ((((W.setCell ⟨A, 0, none⟩ (.bool lf)).setCell ⟨A, 1, none⟩ (.slice p1 m1 c1)).setCell ⟨A, 2, none⟩ (.slice p2 m2 c2)).setCell ⟨A, 3, none⟩ (.slice p3 m3 c3)) ∧ W.heap[A]? = some (.cells #[.bool false, .slice none 0 0, .slice none 0 0, .slice none 0 0] 25 (0, 0)))
    (n5 : ∀ L W, Wd L W → L 5 = false → L 2 = true → Wd (upd L 5) ((((W.setCell ⟨D, 0, none⟩ (.bool lf)).setCell ⟨D, 1, none⟩ (.slice q1 y1 d1)).setCell ⟨D, 2, none⟩ (.slice q2 y2 d2)).setCell ⟨D, 3, none⟩ (.slice q3 y3 d3)) ∧ W.heap[D]? = some (.cells #[.bool false, .slice none 0 0, .slice none 0 0, .slice none 0 0] 25 (0, 0)))
    (hend : ∀ L W, (∀ i, i < 7 → L i = true) → Wd L W → Q .normal (((((a0.put (some 86) (.agg #[.bool lf, .slice p1 m1 c1, .slice p2 m2 c2, .slice p3 m3 c3])).put (some 87) (S key)).put (some 88) (.agg #[.bool lf, .slice q1 y1 d1, .slice q2 y2 d2, .slice q3 y3 d3])).put (some 3) (S key)).put (some 5) (.int .i64 0)) W) : (Code.region id ops true).wp Tryz.prog Q a0 w := by
  let val : Nat → Value := fun i => match i with
    | 0 => (.agg #[.bool lf, .slice p1 m1 c1, .slice p2 m2 c2, .slice p3 m3 c3])
    | 1 => (S key)
    | 2 => (.agg #[.bool lf, .slice q1 y1 d1, .slice q2 y2 d2, .slice q3 y3 d3])
    | 3 => undef
    | 4 => (S key)
    | 5 => undef
    | 6 => (.int .i64 0)
    | _ => undef
  have hosz : ops.size = 7 := by
    have := congrArg List.length htab
    simpa [rsfT] using this
  have hds : ∀ i s, (rsfT[i]?).bind (·.2.1) = some s → dstOf ops i = some s := fun i s hi => by rw [tab_dst htab, hi]
  have hdisB : disL rsfT = true := by rfl
  have hdis := disL_of htab hdisB
  have hold : ∀ s, rsfT.all (fun x => !(x.2.1 == some s)) = true → (List.range ops.size).all (fun j => !(dstOf ops j == some s)) = true := fun s h => holdL htab s h
  refine region_detL val Wd (hac_of hac) hdis h0 ?_ ?_
  rotate_left
  · intro L W hall hW
    have := hend L W (by rw [← hosz]; exact hall) hW
    have e : frm ops a0 val (fun _ => true) ops.size = (((((a0.put (some 86) (.agg #[.bool lf, .slice p1 m1 c1, .slice p2 m2 c2, .slice p3 m3 c3])).put (some 87) (S key)).put (some 88) (.agg #[.bool lf, .slice q1 y1 d1, .slice q2 y2 d2, .slice q3 y3 d3])).put (some 3) (S key)).put (some 5) (.int .i64 0)) := by
      rw [hosz]
      simp only [frm, if_true]
      rw [tab_dst htab 0, tab_dst htab 1, tab_dst htab 2, (show dstOf ops 3 = none from (tab_dst htab 3).trans rfl), put_none, tab_dst htab 4, (show dstOf ops 5 = none from (tab_dst htab 5).trans rfl), put_none, tab_dst htab 6]
      rfl
    rw [e]
    exact this
  intro i o ho L a w' hL hd ha hW
  have hi : i < 7 := by rw [← hosz]; exact (Array.getElem?_eq_some_iff.1 ho).1
  match i, ho, hL, hi with
  | 0, ho, hL, _ =>
    obtain ⟨hop, hdst, hgd⟩ := tab_at htab ho (show rsfT[0]? = _ from rfl)
    simp only at hop hgd
    have h0 := frm_old ha 16 _ (hold 16 rfl) o16
    exact doesL_run ho (wanted_none hgd) (hpure 0 (by decide) L w' hW) (run_ld25 _ _ _ hop _ _ _ _ _ (eval_of h0) _ (l0 L w' hW).1 (l0 L w' hW).2.1 (l0 L w' hW).2.2.1 (l0 L w' hW).2.2.2)
  | 1, ho, hL, _ =>
    obtain ⟨hop, hdst, hgd⟩ := tab_at htab ho (show rsfT[1]? = _ from rfl)
    simp only at hop hgd
    have h0 := frm_old ha 17 _ (hold 17 rfl) o17
    exact doesL_run ho (wanted_none hgd) (hpure 1 (by decide) L w' hW) (by rw [run_move _ _ _ hop]; exact congrArg (fun v => Result.ok (Next.value v) w') (eval_of h0))
  | 2, ho, hL, _ =>
    obtain ⟨hop, hdst, hgd⟩ := tab_at htab ho (show rsfT[2]? = _ from rfl)
    simp only at hop hgd
    have h0 := frm_old ha 18 _ (hold 18 rfl) o18
    exact doesL_run ho (wanted_none hgd) (hpure 2 (by decide) L w' hW) (run_ld25 _ _ _ hop _ _ _ _ _ (eval_of h0) _ (l2 L w' hW).1 (l2 L w' hW).2.1 (l2 L w' hW).2.2.1 (l2 L w' hW).2.2.2)
  | 3, ho, hL, _ =>
    obtain ⟨hop, hdst, hgd⟩ := tab_at htab ho (show rsfT[3]? = _ from rfl)
    simp only at hop hgd
    have h0 := frm_old ha 2 _ (hold 2 rfl) o2
    have h1 := frm_at hdis ha 0 86 (hds 0 86 rfl) (by omega) (depl_of hdep 3 0 (by decide) ho hd)
    obtain ⟨s1, s2⟩ := n3 L w' hW hL (depl_of hdep 3 0 (by decide) ho hd)
    exact doesL_skp ho (wanted_none hgd) rfl s1 (run_st25 _ _ _ _ hop _ _ _ _ _ (eval_of h0) (eval_of h1) _ _ _ _ _ s2 ⟨rfl, rfl, rfl, rfl⟩)
  | 4, ho, hL, _ =>
    obtain ⟨hop, hdst, hgd⟩ := tab_at htab ho (show rsfT[4]? = _ from rfl)
    simp only at hop hgd
    have h0 := frm_at hdis ha 1 87 (hds 1 87 rfl) (by omega) (depl_of hdep 4 1 (by decide) ho hd)
    exact doesL_run ho (wanted_none hgd) (hpure 4 (by decide) L w' hW) (by rw [run_assign _ _ _ hop]; exact congrArg (fun v => Result.ok (Next.value v) w') (eval_of h0))
  | 5, ho, hL, _ =>
    obtain ⟨hop, hdst, hgd⟩ := tab_at htab ho (show rsfT[5]? = _ from rfl)
    simp only at hop hgd
    have h0 := frm_old ha 4 _ (hold 4 rfl) o4
    have h1 := frm_at hdis ha 2 88 (hds 2 88 rfl) (by omega) (depl_of hdep 5 2 (by decide) ho hd)
    obtain ⟨s1, s2⟩ := n5 L w' hW hL (depl_of hdep 5 2 (by decide) ho hd)
    exact doesL_skp ho (wanted_none hgd) rfl s1 (run_st25 _ _ _ _ hop _ _ _ _ _ (eval_of h0) (eval_of h1) _ _ _ _ _ s2 ⟨rfl, rfl, rfl, rfl⟩)
  | 6, ho, hL, _ =>
    obtain ⟨hop, hdst, hgd⟩ := tab_at htab ho (show rsfT[6]? = _ from rfl)
    simp only at hop hgd
    exact doesL_run ho (wanted_none hgd) (hpure 6 (by decide) L w' hW) (by rw [run_assign _ _ _ hop]; exact congrArg (fun v => Result.ok (Next.value v) w') rfl)
  | (i + 7), ho, hL, hi => exact absurd hi (by omega)
end Go.Proofs.YtllialbdofklgaaGreatDoor
