import Derived.Test.YtllialbdofklgaaGreatDoorZdetl
import Derived.Test.YtllialbdofklgaaGreatDoorZdsa
namespace Go.Proofs.YtllialbdofklgaaGreatDoor
open Go.RowKit
theorem doesX_runw {C : Type} {ops : Array Oper} {Q : Exit → Act → World → Prop} {Wd : C → (Nat → Bool) → World → Prop} {val : C → Nat → Value} {i : Nat} {L : Nat → Bool} {c : C} {o : Oper} {a : Act} {w w' : World} (ho : ops[i]? = some o) (hw : Region.wanted o (yielded ops a.tmps) = true) (c' : C) (hv : ∀ j, L j = true → val c' j = val c j) (hW : Wd c' (upd L i) w')
    (hr : (execOp a.eval o).run Tryz.prog w = .ok (.value (val c' i)) w') : DoesX ops Q Wd val i L c a w := by
  have h := doesL_runw (Q := Q) (val := val c') (Wd := Wd c') ho hw hW hr
  unfold DoesL at h
  unfold DoesX
  refine wpOp_mono ?_ h
  rintro a' w2 ⟨rfl, h2⟩
  exact ⟨c', hv, rfl, h2⟩
theorem run_f25_0 (ρ : Operand → Value) (o : Oper) (x : Operand) (ho : o.op = .fieldAddr 25 x 0) (g q : Nat) (hx : ρ x = .pointer (some ⟨g, q, none⟩)) (w : World) : (execOp ρ o).run Tryz.prog w = .ok (.value (.pointer (some ⟨g, q + 0, none⟩))) w := by
  unfold execOp
  simp only [ho, hx]
  kernel_rfl
theorem run_f25_1 (ρ : Operand → Value) (o : Oper) (x : Operand) (ho : o.op = .fieldAddr 25 x 1) (g q : Nat) (hx : ρ x = .pointer (some ⟨g, q, none⟩)) (w : World) : (execOp ρ o).run Tryz.prog w = .ok (.value (.pointer (some ⟨g, q + 1, none⟩))) w := by
  unfold execOp
  simp only [ho, hx]
  kernel_rfl
theorem run_f25_2 (ρ : Operand → Value) (o : Oper) (x : Operand) (ho : o.op = .fieldAddr 25 x 2) (g q : Nat) (hx : ρ x = .pointer (some ⟨g, q, none⟩)) (w : World) : (execOp ρ o).run Tryz.prog w = .ok (.value (.pointer (some ⟨g, q + 2, none⟩))) w := by
  unfold execOp
  simp only [ho, hx]
  kernel_rfl
theorem run_f25_3 (ρ : Operand → Value) (o : Oper) (x : Operand) (ho : o.op = .fieldAddr 25 x 3) (g q : Nat) (hx : ρ x = .pointer (some ⟨g, q, none⟩)) (w : World) : (execOp ρ o).run Tryz.prog w = .ok (.value (.pointer (some ⟨g, q + 3, none⟩))) w := by
  unfold execOp
  simp only [ho, hx]
  kernel_rfl
theorem run_ld4 (ρ : Operand → Value) (o : Oper) (x : Operand) (ho : o.op = .load 4 x) (p : Addr) (v : Value) (ha : ρ x = .pointer (some p)) (w : World) (hc : w.cell? p = some v) : (execOp ρ o).run Tryz.prog w = .ok (.value v) w := by
  unfold execOp
  simp only [ho, ha]
  simp [Instr.loadAt, go_sem, hc, Tryz.isAgg4]
theorem run_ld22 (ρ : Operand → Value) (o : Oper) (x : Operand) (ho : o.op = .load 22 x) (p : Addr) (v : Value) (ha : ρ x = .pointer (some p)) (w : World) (hc : w.cell? p = some v) : (execOp ρ o).run Tryz.prog w = .ok (.value v) w := by
  unfold execOp
  simp only [ho, ha]
  simp [Instr.loadAt, go_sem, hc, Tryz.isAgg22]
theorem run_ld23 (ρ : Operand → Value) (o : Oper) (x : Operand) (ho : o.op = .load 23 x) (p : Addr) (v : Value) (ha : ρ x = .pointer (some p)) (w : World) (hc : w.cell? p = some v) : (execOp ρ o).run Tryz.prog w = .ok (.value v) w := by
  unfold execOp
  simp only [ho, ha]
  simp [Instr.loadAt, go_sem, hc, Tryz.isAgg23]
theorem run_st25 (ρ : Operand → Value) (o : Oper) (x y : Operand) (ho : o.op = .store 25 x y) (g : Nat) (a b c d : Value) (ha : ρ x = .pointer (some ⟨g, 0, none⟩)) (hy : ρ y = .agg #[a, b, c, d]) (w : World) (a0 b0 c0 d0 : Value) (h : w.heap[g]? = some (.cells #[a0, b0, c0, d0] 25 (0, 0))) (h1 : a.oneCell' = true ∧ b.oneCell' = true ∧ c.oneCell' = true ∧ d.oneCell' = true) : (execOp ρ o).run Tryz.prog w = .ok .skip ((((w.setCell ⟨g, 0, none⟩ a).setCell ⟨g, 1, none⟩ b).setCell ⟨g, 2, none⟩ c).setCell ⟨g, 3, none⟩ d) := by
  have q0 := heap_setCell_same w g 0 _ 25 a h
  have q1 := heap_setCell_same _ g 1 _ 25 b q0
  have q2 := heap_setCell_same _ g 2 _ 25 c q1
  have s0 : (store ⟨g, 0, none⟩ a).run Tryz.prog w = .ok () (w.setCell ⟨g, 0, none⟩ a) := by
    rw [run_store _ _ _ _ _ h1.1, cell_of_row _ g 0 _ 25 (0, 0) h]
    simp [frozen_of_row _ g 0 _ 25 h]
  have s1 : (store ⟨g, 1, none⟩ b).run Tryz.prog (w.setCell ⟨g, 0, none⟩ a) = .ok () ((w.setCell ⟨g, 0, none⟩ a).setCell ⟨g, 1, none⟩ b) := by
    rw [run_store _ _ _ _ _ h1.2.1, cell_of_row _ g 1 _ 25 (0, 0) q0]
    simp [frozen_of_row _ g 1 _ 25 q0]
  have s2 : (store ⟨g, 2, none⟩ c).run Tryz.prog ((w.setCell ⟨g, 0, none⟩ a).setCell ⟨g, 1, none⟩ b) = .ok () (((w.setCell ⟨g, 0, none⟩ a).setCell ⟨g, 1, none⟩ b).setCell ⟨g, 2, none⟩ c) := by
    rw [run_store _ _ _ _ _ h1.2.2.1, cell_of_row _ g 2 _ 25 (0, 0) q1]
    simp [frozen_of_row _ g 2 _ 25 q1]
  have s3 : (store ⟨g, 3, none⟩ d).run Tryz.prog (((w.setCell ⟨g, 0, none⟩ a).setCell ⟨g, 1, none⟩ b).setCell ⟨g, 2, none⟩ c) = .ok () ((((w.setCell ⟨g, 0, none⟩ a).setCell ⟨g, 1, none⟩ b).setCell ⟨g, 2, none⟩ c).setCell ⟨g, 3, none⟩ d) := by
    rw [run_store _ _ _ _ _ h1.2.2.2, cell_of_row _ g 3 _ 25 (0, 0) q2]
    simp [frozen_of_row _ g 3 _ 25 q2]
  unfold execOp
  simp only [ho, ha, hy]
  simp [go_sem, s0, s1, s2, s3, Result.andThen]
theorem run_build25 (ρ : Operand → Value) (o : Oper) (a b c d : Operand) (ho : o.op = .build 25 #[(0, a), (1, b), (2, c), (3, d)]) (x : Bool) (p1 p2 p3 : Option Addr) (n1 c1 n2 c2 n3 c3 : Nat) (ha : ρ a = .bool x) (hb : ρ b = .slice p1 n1 c1) (hc : ρ c = .slice p2 n2 c2) (hd : ρ d = .slice p3 n3 c3) (w : World) : (execOp ρ o).run Tryz.prog w = .ok (.value (.agg #[.bool x, .slice p1 n1 c1, .slice p2 n2 c2, .slice p3 n3 c3])) w := by
  unfold execOp
  simp only [ho]
  simp [go_sem, ha, hb, hc, hd]
theorem run_build25' (ρ : Operand → Value) (o : Oper) (a b c : Operand) (ho : o.op = .build 25 #[(0, a), (1, b), (2, c)]) (x : Bool) (p1 p2 : Option Addr) (n1 c1 n2 c2 : Nat) (ha : ρ a = .bool x) (hb : ρ b = .slice p1 n1 c1) (hc : ρ c = .slice p2 n2 c2) (w : World) : (execOp ρ o).run Tryz.prog w = .ok (.value (.agg #[.bool x, .slice p1 n1 c1, .slice p2 n2 c2, .slice none 0 0])) w := by
  unfold execOp
  simp only [ho]
  simp [go_sem, ha, hb, hc, Tryz.zeroValue25]
theorem run_bs33 (ρ : Operand → Value) (o : Oper) (a b : Operand) (ho : o.op = .buildSlice 33 2 #[(0, a), (1, b)]) (p1 p2 : Option Addr) (n1 c1 n2 c2 : Nat) (ha : ρ a = .slice p1 n1 c1) (hb : ρ b = .slice p2 n2 c2) (w : World) : (execOp ρ o).run Tryz.prog w = .ok (.value (.slice (some ⟨w.heap.size, 0, none⟩) 2 2)) (w.alloc (.cells #[.slice p1 n1 c1, .slice p2 n2 c2] 22)) := by
  unfold execOp
  simp only [ho]
  simp [go_sem, ha, hb, Tryz.zeroValue22, Tryz.sizeOf22]
/-- What comes up as two rows are made: where they lie, and where the lists of lists lie. -/
structure Ch2 where
  p1 : Option Addr
  c1 : Nat
  p2 : Option Addr
  c2 : Nat
  g1 : Nat
  g2 : Nat
def vcp (X kl kc vl vc : Nat) (ka va : Option Addr) (lf : Bool) (c : Ch2) (i : Nat) : Value := match i with
  | 0 => (.pointer (some ⟨X, 0 + 0, none⟩))
  | 1 => (.bool lf)
  | 2 => (.pointer (some ⟨X, 0 + 1, none⟩))
  | 3 => (.slice ka kl kc)
  | 4 => (.slice c.p1 kl c.c1)
  | 5 => (.pointer (some ⟨X, 0 + 2, none⟩))
  | 6 => (.slice va vl vc)
  | 7 => (.slice c.p2 vl c.c2)
  | 8 => (.pointer (some ⟨X, 0 + 3, none⟩))
  | 9 => (.slice none 0 0)
  | 10 => (.slice none 0 0)
  | 11 => (.agg #[.bool lf, .slice c.p1 kl c.c1, .slice c.p2 vl c.c2, .slice none 0 0])
  | 12 => undef
  | _ => undef
def rcpT : List (Op × Option Tmp × Option (Nat × Bool)) := [
  (.fieldAddr 25 (.tmp 1) 0, some 3, none),
  (.load 4 (.tmp 3), some 4, none),
  (.fieldAddr 25 (.tmp 1) 1, some 5, none),
  (.load 22 (.tmp 5), some 6, none),
  (.call { callee := .value (.func 100), args := #[(.tmp 6)], argTypes := #[22] }, some 7, none),
  (.fieldAddr 25 (.tmp 1) 2, some 8, none),
  (.load 22 (.tmp 8), some 9, none),
  (.call { callee := .value (.func 100), args := #[(.tmp 9)], argTypes := #[22] }, some 10, none),
  (.fieldAddr 25 (.tmp 1) 3, some 11, none),
  (.load 23 (.tmp 11), some 12, none),
  (.call { callee := .value (.func 61), args := #[(.tmp 12)], argTypes := #[23] }, some 13, none),
  (.build 25 #[(0, (.tmp 4)), (1, (.tmp 7)), (2, (.tmp 10)), (3, (.tmp 13))], some 14, none),
  (.store 25 (.tmp 2) (.tmp 14), none, none)]
def rcpD : List (Nat × Nat) := [(1, 0), (3, 2), (4, 3), (6, 5), (7, 6), (9, 8), (10, 9), (11, 1), (11, 4), (11, 7), (11, 10), (12, 11)]
set_option maxHeartbeats 2000000 in
theorem rcp {ops : Array Oper} {id : Nat} {Q : Exit → Act → World → Prop} (X A kl kc vl vc : Nat) (ka va : Option Addr) (lf : Bool) (htab : ops.toList.map (fun o => (o.op, o.dst, o.guard)) = rcpT) (hdep : deplB rcpD ops = true) (hac : acB ops = true)
    (a0 : Act) (w : World) (hsz : 15 ≤ a0.tmps.size) (o1 : a0.tmps[1]? = some (.pointer (some ⟨X, 0, none⟩))) (o2 : a0.tmps[2]? = some (.pointer (some ⟨A, 0, none⟩)))
    (Wd : Ch2 → (Nat → Bool) → World → Prop) (h0 : ∃ c, Wd c (fun _ => false) w.drew) (hpure : ∀ i, i ∉ ([4, 7, 10, 12, 11] : List Nat) → ∀ c L W, Wd c L W → Wd c (upd L i) W)
    (l1 : ∀ c L W, Wd c L W → W.cell? ⟨X, 0 + 0, none⟩ = some (.bool lf))
    (l3 : ∀ c L W, Wd c L W → W.cell? ⟨X, 0 + 1, none⟩ = some (.slice ka kl kc))
    (l6 : ∀ c L W, Wd c L W → W.cell? ⟨X, 0 + 2, none⟩ = some (.slice va vl vc))
    (l9 : ∀ c L W, Wd c L W → W.cell? ⟨X, 0 + 3, none⟩ = some (.slice none 0 0))
    (hpure11 : ∀ c L W, Wd c L W → L 4 = true → L 7 = true → Wd c (upd L 11) W)
    (c4 : ∀ c L W, Wd c L W → L 4 = false → Calls Tryz.prog 100 #[.slice ka kl kc] W fun e w' => ∃ c' : Ch2, (∀ j, L j = true → vcp X kl kc vl vc ka va lf c' j = vcp X kl kc vl vc ka va lf c j) ∧ e = .returned (.slice c'.p1 kl c'.c1) ∧ Wd c' (upd L 4) w')
    (c7 : ∀ c L W, Wd c L W → L 7 = false → Calls Tryz.prog 100 #[.slice va vl vc] W fun e w' => ∃ c' : Ch2, (∀ j, L j = true → vcp X kl kc vl vc ka va lf c' j = vcp X kl kc vl vc ka va lf c j) ∧ e = .returned (.slice c'.p2 vl c'.c2) ∧ Wd c' (upd L 7) w')
    (c10 : ∀ c L W, Wd c L W → L 10 = false → Calls Tryz.prog 61 #[.slice none 0 0] W fun e w' => e = .returned (.slice none 0 0) ∧ Wd c (upd L 10) w')
    (n12 : ∀ c L W, Wd c L W → L 12 = false → L 11 = true → Wd c (upd L 12) ((((W.setCell ⟨A, 0, none⟩ (.bool lf)).setCell ⟨A, 1, none⟩ (.slice c.p1 kl c.c1)).setCell ⟨A, 2, none⟩ (.slice c.p2 vl c.c2)).setCell ⟨A, 3, none⟩ (.slice none 0 0)) ∧ W.heap[A]? = some (.cells #[.bool false, .slice none 0 0, .slice none 0 0, .slice none 0 0] 25 (0, 0)))
    (hend : ∀ c L W, (∀ i, i < 13 → L i = true) → Wd c L W → Q .normal ((((((((((((a0.put (some 3) (.pointer (some ⟨X, 0 + 0, none⟩))).put (some 4) (.bool lf)).put (some 5) (.pointer (some ⟨X, 0 + 1, none⟩))).put (some 6) (.slice ka kl kc)).put (some 7) (.slice c.p1 kl c.c1)).put (some 8) (.pointer (some ⟨X, 0 + 2, none⟩))).put (some 9) (.slice va vl vc)).put (some 10) (.slice c.p2 vl c.c2)).put (some 11) (.pointer (some ⟨X, 0 + 3, none⟩))).put (some 12) (.slice none 0 0)).put (some 13) (.slice none 0 0)).put (some 14) (.agg #[.bool lf, .slice c.p1 kl c.c1, .slice c.p2 vl c.c2, .slice none 0 0])) W) : (Code.region id ops true).wp Tryz.prog Q a0 w := by
  let val : Ch2 → Nat → Value := vcp X kl kc vl vc ka va lf
  have hosz : ops.size = 13 := by
    have := congrArg List.length htab
    simpa [rcpT] using this
  have hds : ∀ i s, (rcpT[i]?).bind (·.2.1) = some s → dstOf ops i = some s := fun i s hi => by rw [tab_dst htab, hi]
  have hdisB : disL rcpT = true := by rfl
  have hdis := disL_of htab hdisB
  have hold : ∀ s, rcpT.all (fun x => !(x.2.1 == some s)) = true → (List.range ops.size).all (fun j => !(dstOf ops j == some s)) = true := fun s h => holdL htab s h
  refine region_detX val Wd (hac_of hac) hdis h0 ?_ ?_
  rotate_left
  · intro c L W hall hW
    have := hend c L W (by rw [← hosz]; exact hall) hW
    have e : frm ops a0 (val c) (fun _ => true) ops.size = ((((((((((((a0.put (some 3) (.pointer (some ⟨X, 0 + 0, none⟩))).put (some 4) (.bool lf)).put (some 5) (.pointer (some ⟨X, 0 + 1, none⟩))).put (some 6) (.slice ka kl kc)).put (some 7) (.slice c.p1 kl c.c1)).put (some 8) (.pointer (some ⟨X, 0 + 2, none⟩))).put (some 9) (.slice va vl vc)).put (some 10) (.slice c.p2 vl c.c2)).put (some 11) (.pointer (some ⟨X, 0 + 3, none⟩))).put (some 12) (.slice none 0 0)).put (some 13) (.slice none 0 0)).put (some 14) (.agg #[.bool lf, .slice c.p1 kl c.c1, .slice c.p2 vl c.c2, .slice none 0 0])) := by
      rw [hosz]
      simp only [frm, if_true]
      rw [tab_dst htab 0, tab_dst htab 1, tab_dst htab 2, tab_dst htab 3, tab_dst htab 4, tab_dst htab 5, tab_dst htab 6, tab_dst htab 7, tab_dst htab 8, tab_dst htab 9, tab_dst htab 10, tab_dst htab 11, (show dstOf ops 12 = none from (tab_dst htab 12).trans rfl), put_none]
      rfl
    rw [e]
    exact this
  intro i o ho c L a w' hL hd ha hW
  have hi : i < 13 := by rw [← hosz]; exact (Array.getElem?_eq_some_iff.1 ho).1
  match i, ho, hL, hi with
  | 0, ho, hL, _ =>
    obtain ⟨hop, hdst, hgd⟩ := tab_at htab ho (show rcpT[0]? = _ from rfl)
    simp only at hop hgd
    have h0 := frm_old (val := val c) ha 1 _ (hold 1 rfl) o1
    exact doesX_of (doesL_run ho (wanted_none hgd) (hpure 0 (by decide) c L w' hW) (run_f25_0 _ _ _ hop _ _ (eval_of h0) _))
  | 1, ho, hL, _ =>
    obtain ⟨hop, hdst, hgd⟩ := tab_at htab ho (show rcpT[1]? = _ from rfl)
    simp only at hop hgd
    have h0 := frm_at (val := val c) hdis ha 0 3 (hds 0 3 rfl) (by omega) (depl_of hdep 1 0 (by decide) ho hd)
    exact doesX_of (doesL_run ho (wanted_none hgd) (hpure 1 (by decide) c L w' hW) (run_ld4 _ _ _ hop _ _ (eval_of h0) _ (l1 c L w' hW)))
  | 2, ho, hL, _ =>
    obtain ⟨hop, hdst, hgd⟩ := tab_at htab ho (show rcpT[2]? = _ from rfl)
    simp only at hop hgd
    have h0 := frm_old (val := val c) ha 1 _ (hold 1 rfl) o1
    exact doesX_of (doesL_run ho (wanted_none hgd) (hpure 2 (by decide) c L w' hW) (run_f25_1 _ _ _ hop _ _ (eval_of h0) _))
  | 3, ho, hL, _ =>
    obtain ⟨hop, hdst, hgd⟩ := tab_at htab ho (show rcpT[3]? = _ from rfl)
    simp only at hop hgd
    have h0 := frm_at (val := val c) hdis ha 2 5 (hds 2 5 rfl) (by omega) (depl_of hdep 3 2 (by decide) ho hd)
    exact doesX_of (doesL_run ho (wanted_none hgd) (hpure 3 (by decide) c L w' hW) (run_ld22 _ _ _ hop _ _ (eval_of h0) _ (l3 c L w' hW)))
  | 4, ho, hL, _ =>
    obtain ⟨hop, hdst, hgd⟩ := tab_at htab ho (show rcpT[4]? = _ from rfl)
    simp only at hop hgd
    have h0 := frm_at (val := val c) hdis ha 3 6 (hds 3 6 rfl) (by omega) (depl_of hdep 4 3 (by decide) ho hd)
    refine doesX_call ho (wanted_none hgd) 100 #[.slice ka kl kc] ?_ (c4 c L w' hW hL)
    rw [run_calls Tryz.func100 (by kernel_rfl) rfl _ _ _ _ hop rfl]
    simp only [List.map_toArray, List.map_cons, List.map_nil, eval_of h0]
    all_goals rfl
  | 5, ho, hL, _ =>
    obtain ⟨hop, hdst, hgd⟩ := tab_at htab ho (show rcpT[5]? = _ from rfl)
    simp only at hop hgd
    have h0 := frm_old (val := val c) ha 1 _ (hold 1 rfl) o1
    exact doesX_of (doesL_run ho (wanted_none hgd) (hpure 5 (by decide) c L w' hW) (run_f25_2 _ _ _ hop _ _ (eval_of h0) _))
  | 6, ho, hL, _ =>
    obtain ⟨hop, hdst, hgd⟩ := tab_at htab ho (show rcpT[6]? = _ from rfl)
    simp only at hop hgd
    have h0 := frm_at (val := val c) hdis ha 5 8 (hds 5 8 rfl) (by omega) (depl_of hdep 6 5 (by decide) ho hd)
    exact doesX_of (doesL_run ho (wanted_none hgd) (hpure 6 (by decide) c L w' hW) (run_ld22 _ _ _ hop _ _ (eval_of h0) _ (l6 c L w' hW)))
  | 7, ho, hL, _ =>
    obtain ⟨hop, hdst, hgd⟩ := tab_at htab ho (show rcpT[7]? = _ from rfl)
    simp only at hop hgd
    have h0 := frm_at (val := val c) hdis ha 6 9 (hds 6 9 rfl) (by omega) (depl_of hdep 7 6 (by decide) ho hd)
    refine doesX_call ho (wanted_none hgd) 100 #[.slice va vl vc] ?_ (c7 c L w' hW hL)
    rw [run_calls Tryz.func100 (by kernel_rfl) rfl _ _ _ _ hop rfl]
    simp only [List.map_toArray, List.map_cons, List.map_nil, eval_of h0]
    all_goals rfl
  | 8, ho, hL, _ =>
    obtain ⟨hop, hdst, hgd⟩ := tab_at htab ho (show rcpT[8]? = _ from rfl)
    simp only at hop hgd
    have h0 := frm_old (val := val c) ha 1 _ (hold 1 rfl) o1
    exact doesX_of (doesL_run ho (wanted_none hgd) (hpure 8 (by decide) c L w' hW) (run_f25_3 _ _ _ hop _ _ (eval_of h0) _))
  | 9, ho, hL, _ =>
    obtain ⟨hop, hdst, hgd⟩ := tab_at htab ho (show rcpT[9]? = _ from rfl)
    simp only at hop hgd
    have h0 := frm_at (val := val c) hdis ha 8 11 (hds 8 11 rfl) (by omega) (depl_of hdep 9 8 (by decide) ho hd)
    exact doesX_of (doesL_run ho (wanted_none hgd) (hpure 9 (by decide) c L w' hW) (run_ld23 _ _ _ hop _ _ (eval_of h0) _ (l9 c L w' hW)))
  | 10, ho, hL, _ =>
    obtain ⟨hop, hdst, hgd⟩ := tab_at htab ho (show rcpT[10]? = _ from rfl)
    simp only at hop hgd
    have h0 := frm_at (val := val c) hdis ha 9 12 (hds 9 12 rfl) (by omega) (depl_of hdep 10 9 (by decide) ho hd)
    refine doesX_of (doesL_call ho (wanted_none hgd) 61 #[.slice none 0 0] ?_ (c10 c L w' hW hL))
    rw [run_calls Tryz.func61 (by kernel_rfl) rfl _ _ _ _ hop rfl]
    simp only [List.map_toArray, List.map_cons, List.map_nil, eval_of h0]
    all_goals rfl
  | 11, ho, hL, _ =>
    obtain ⟨hop, hdst, hgd⟩ := tab_at htab ho (show rcpT[11]? = _ from rfl)
    simp only at hop hgd
    have h0 := frm_at (val := val c) hdis ha 1 4 (hds 1 4 rfl) (by omega) (depl_of hdep 11 1 (by decide) ho hd)
    have h1 := frm_at (val := val c) hdis ha 4 7 (hds 4 7 rfl) (by omega) (depl_of hdep 11 4 (by decide) ho hd)
    have h2 := frm_at (val := val c) hdis ha 7 10 (hds 7 10 rfl) (by omega) (depl_of hdep 11 7 (by decide) ho hd)
    have h3 := frm_at (val := val c) hdis ha 10 13 (hds 10 13 rfl) (by omega) (depl_of hdep 11 10 (by decide) ho hd)
    exact doesX_of (doesL_run ho (wanted_none hgd) (hpure11 c L w' hW (depl_of hdep 11 4 (by decide) ho hd) (depl_of hdep 11 7 (by decide) ho hd)) (run_build25 _ _ _ _ _ _ hop _ _ _ _ _ _ _ _ _ _ (eval_of h0) (eval_of h1) (eval_of h2) (eval_of h3) _))
  | 12, ho, hL, _ =>
    obtain ⟨hop, hdst, hgd⟩ := tab_at htab ho (show rcpT[12]? = _ from rfl)
    simp only at hop hgd
    have h0 := frm_old (val := val c) ha 2 _ (hold 2 rfl) o2
    have h1 := frm_at (val := val c) hdis ha 11 14 (hds 11 14 rfl) (by omega) (depl_of hdep 12 11 (by decide) ho hd)
    obtain ⟨s1, s2⟩ := n12 c L w' hW hL (depl_of hdep 12 11 (by decide) ho hd)
    exact doesX_of (doesL_skp ho (wanted_none hgd) rfl s1 (run_st25 _ _ _ _ hop _ _ _ _ _ (eval_of h0) (eval_of h1) _ _ _ _ _ s2 ⟨rfl, rfl, rfl, rfl⟩))
  | (i + 13), ho, hL, hi => exact absurd hi (by omega)
def vjn (X Y k1 k2 v1 v2 kc kd vc vd kl vl : Nat) (ka kb va vb : Option Addr) (c : Ch2) (i : Nat) : Value := match i with
  | 0 => (.pointer (some ⟨X, 0 + 1, none⟩))
  | 1 => (.slice ka k1 kc)
  | 2 => (.pointer (some ⟨Y, 0 + 1, none⟩))
  | 3 => (.slice kb k2 kd)
  | 4 => (.slice (some ⟨c.g1, 0, none⟩) 2 2)
  | 5 => (.slice c.p1 kl c.c1)
  | 6 => (.pointer (some ⟨X, 0 + 2, none⟩))
  | 7 => (.slice va v1 vc)
  | 8 => (.pointer (some ⟨Y, 0 + 2, none⟩))
  | 9 => (.slice vb v2 vd)
  | 10 => (.slice (some ⟨c.g2, 0, none⟩) 2 2)
  | 11 => (.slice c.p2 vl c.c2)
  | 12 => (.agg #[.bool true, .slice c.p1 kl c.c1, .slice c.p2 vl c.c2, .slice none 0 0])
  | 13 => undef
  | _ => undef
def rjnT : List (Op × Option Tmp × Option (Nat × Bool)) := [
  (.fieldAddr 25 (.tmp 3) 1, some 9, none),
  (.load 22 (.tmp 9), some 10, none),
  (.fieldAddr 25 (.tmp 5) 1, some 11, none),
  (.load 22 (.tmp 11), some 12, none),
  (.buildSlice 33 2 #[(0, (.tmp 10)), (1, (.tmp 12))], some 13, none),
  (.call { callee := .value (.func 105), args := #[(.tmp 13)], argTypes := #[33] }, some 14, none),
  (.fieldAddr 25 (.tmp 3) 2, some 15, none),
  (.load 22 (.tmp 15), some 16, none),
  (.fieldAddr 25 (.tmp 5) 2, some 17, none),
  (.load 22 (.tmp 17), some 18, none),
  (.buildSlice 33 2 #[(0, (.tmp 16)), (1, (.tmp 18))], some 19, none),
  (.call { callee := .value (.func 105), args := #[(.tmp 19)], argTypes := #[33] }, some 20, none),
  (.build 25 #[(0, (.const (.bool true))), (1, (.tmp 14)), (2, (.tmp 20))], some 21, none),
  (.store 25 (.tmp 6) (.tmp 21), none, none)]
def rjnD : List (Nat × Nat) := [(1, 0), (3, 2), (4, 1), (4, 3), (5, 4), (7, 6), (9, 8), (10, 7), (10, 9), (11, 10), (12, 5), (12, 11), (13, 12)]
set_option maxHeartbeats 2000000 in
theorem rjn {ops : Array Oper} {id : Nat} {Q : Exit → Act → World → Prop} (X Y A k1 k2 v1 v2 kc kd vc vd kl vl : Nat) (ka kb va vb : Option Addr) (htab : ops.toList.map (fun o => (o.op, o.dst, o.guard)) = rjnT) (hdep : deplB rjnD ops = true) (hac : acB ops = true)
    (a0 : Act) (w : World) (hsz : 22 ≤ a0.tmps.size) (o3 : a0.tmps[3]? = some (.pointer (some ⟨X, 0, none⟩))) (o5 : a0.tmps[5]? = some (.pointer (some ⟨Y, 0, none⟩))) (o6 : a0.tmps[6]? = some (.pointer (some ⟨A, 0, none⟩)))
    (Wd : Ch2 → (Nat → Bool) → World → Prop) (h0 : ∃ c, Wd c (fun _ => false) w.drew) (hpure : ∀ i, i ∉ ([4, 5, 10, 11, 13, 12] : List Nat) → ∀ c L W, Wd c L W → Wd c (upd L i) W)
    (l1 : ∀ c L W, Wd c L W → W.cell? ⟨X, 0 + 1, none⟩ = some (.slice ka k1 kc))
    (l3 : ∀ c L W, Wd c L W → W.cell? ⟨Y, 0 + 1, none⟩ = some (.slice kb k2 kd))
    (l7 : ∀ c L W, Wd c L W → W.cell? ⟨X, 0 + 2, none⟩ = some (.slice va v1 vc))
    (l9 : ∀ c L W, Wd c L W → W.cell? ⟨Y, 0 + 2, none⟩ = some (.slice vb v2 vd))
    (hpure12 : ∀ c L W, Wd c L W → L 5 = true → L 11 = true → Wd c (upd L 12) W)
    (n4 : ∀ c L W, Wd c L W → L 4 = false → ∃ c' : Ch2, (∀ j, L j = true → vjn X Y k1 k2 v1 v2 kc kd vc vd kl vl ka kb va vb c' j = vjn X Y k1 k2 v1 v2 kc kd vc vd kl vl ka kb va vb c j) ∧ c'.g1 = W.heap.size ∧ Wd c' (upd L 4) (W.alloc (.cells #[.slice ka k1 kc, .slice kb k2 kd] 22)))
    (n10 : ∀ c L W, Wd c L W → L 10 = false → ∃ c' : Ch2, (∀ j, L j = true → vjn X Y k1 k2 v1 v2 kc kd vc vd kl vl ka kb va vb c' j = vjn X Y k1 k2 v1 v2 kc kd vc vd kl vl ka kb va vb c j) ∧ c'.g2 = W.heap.size ∧ Wd c' (upd L 10) (W.alloc (.cells #[.slice va v1 vc, .slice vb v2 vd] 22)))
    (c5 : ∀ c L W, Wd c L W → L 5 = false → L 4 = true → Calls Tryz.prog 105 #[.slice (some ⟨c.g1, 0, none⟩) 2 2] W fun e w' => ∃ c' : Ch2, (∀ j, L j = true → vjn X Y k1 k2 v1 v2 kc kd vc vd kl vl ka kb va vb c' j = vjn X Y k1 k2 v1 v2 kc kd vc vd kl vl ka kb va vb c j) ∧ e = .returned (.slice c'.p1 kl c'.c1) ∧ Wd c' (upd L 5) w')
    (c11 : ∀ c L W, Wd c L W → L 11 = false → L 10 = true → Calls Tryz.prog 105 #[.slice (some ⟨c.g2, 0, none⟩) 2 2] W fun e w' => ∃ c' : Ch2, (∀ j, L j = true → vjn X Y k1 k2 v1 v2 kc kd vc vd kl vl ka kb va vb c' j = vjn X Y k1 k2 v1 v2 kc kd vc vd kl vl ka kb va vb c j) ∧ e = .returned (.slice c'.p2 vl c'.c2) ∧ Wd c' (upd L 11) w')
    (n13 : ∀ c L W, Wd c L W → L 13 = false → L 12 = true → Wd c (upd L 13) ((((W.setCell ⟨A, 0, none⟩ (.bool true)).setCell ⟨A, 1, none⟩ (.slice c.p1 kl c.c1)).setCell ⟨A, 2, none⟩ (.slice c.p2 vl c.c2)).setCell ⟨A, 3, none⟩ (.slice none 0 0)) ∧ W.heap[A]? = some (.cells #[.bool false, .slice none 0 0, .slice none 0 0, .slice none 0 0] 25 (0, 0)))
    (hend : ∀ c L W, (∀ i, i < 14 → L i = true) → Wd c L W → Q .normal (((((((((((((a0.put (some 9) (.pointer (some ⟨X, 0 + 1, none⟩))).put (some 10) (.slice ka k1 kc)).put (some 11) (.pointer (some ⟨Y, 0 + 1, none⟩))).put (some 12) (.slice kb k2 kd)).put (some 13) (.slice (some ⟨c.g1, 0, none⟩) 2 2)).put (some 14) (.slice c.p1 kl c.c1)).put (some 15) (.pointer (some ⟨X, 0 + 2, none⟩))).put (some 16) (.slice va v1 vc)).put (some 17) (.pointer (some ⟨Y, 0 + 2, none⟩))).put (some 18) (.slice vb v2 vd)).put (some 19) (.slice (some ⟨c.g2, 0, none⟩) 2 2)).put (some 20) (.slice c.p2 vl c.c2)).put (some 21) (.agg #[.bool true, .slice c.p1 kl c.c1, .slice c.p2 vl c.c2, .slice none 0 0])) W) : (Code.region id ops true).wp Tryz.prog Q a0 w := by
  let val : Ch2 → Nat → Value := vjn X Y k1 k2 v1 v2 kc kd vc vd kl vl ka kb va vb
  have hosz : ops.size = 14 := by
    have := congrArg List.length htab
    simpa [rjnT] using this
  have hds : ∀ i s, (rjnT[i]?).bind (·.2.1) = some s → dstOf ops i = some s := fun i s hi => by rw [tab_dst htab, hi]
  have hdisB : disL rjnT = true := by rfl
  have hdis := disL_of htab hdisB
  have hold : ∀ s, rjnT.all (fun x => !(x.2.1 == some s)) = true → (List.range ops.size).all (fun j => !(dstOf ops j == some s)) = true := fun s h => holdL htab s h
  refine region_detX val Wd (hac_of hac) hdis h0 ?_ ?_
  rotate_left
  · intro c L W hall hW
    have := hend c L W (by rw [← hosz]; exact hall) hW
    have e : frm ops a0 (val c) (fun _ => true) ops.size = (((((((((((((a0.put (some 9) (.pointer (some ⟨X, 0 + 1, none⟩))).put (some 10) (.slice ka k1 kc)).put (some 11) (.pointer (some ⟨Y, 0 + 1, none⟩))).put (some 12) (.slice kb k2 kd)).put (some 13) (.slice (some ⟨c.g1, 0, none⟩) 2 2)).put (some 14) (.slice c.p1 kl c.c1)).put (some 15) (.pointer (some ⟨X, 0 + 2, none⟩))).put (some 16) (.slice va v1 vc)).put (some 17) (.pointer (some ⟨Y, 0 + 2, none⟩))).put (some 18) (.slice vb v2 vd)).put (some 19) (.slice (some ⟨c.g2, 0, none⟩) 2 2)).put (some 20) (.slice c.p2 vl c.c2)).put (some 21) (.agg #[.bool true, .slice c.p1 kl c.c1, .slice c.p2 vl c.c2, .slice none 0 0])) := by
      rw [hosz]
      simp only [frm, if_true]
      rw [tab_dst htab 0, tab_dst htab 1, tab_dst htab 2, tab_dst htab 3, tab_dst htab 4, tab_dst htab 5, tab_dst htab 6, tab_dst htab 7, tab_dst htab 8, tab_dst htab 9, tab_dst htab 10, tab_dst htab 11, tab_dst htab 12, (show dstOf ops 13 = none from (tab_dst htab 13).trans rfl), put_none]
      rfl
    rw [e]
    exact this
  intro i o ho c L a w' hL hd ha hW
  have hi : i < 14 := by rw [← hosz]; exact (Array.getElem?_eq_some_iff.1 ho).1
  match i, ho, hL, hi with
  | 0, ho, hL, _ =>
    obtain ⟨hop, hdst, hgd⟩ := tab_at htab ho (show rjnT[0]? = _ from rfl)
    simp only at hop hgd
    have h0 := frm_old (val := val c) ha 3 _ (hold 3 rfl) o3
    exact doesX_of (doesL_run ho (wanted_none hgd) (hpure 0 (by decide) c L w' hW) (run_f25_1 _ _ _ hop _ _ (eval_of h0) _))
  | 1, ho, hL, _ =>
    obtain ⟨hop, hdst, hgd⟩ := tab_at htab ho (show rjnT[1]? = _ from rfl)
    simp only at hop hgd
    have h0 := frm_at (val := val c) hdis ha 0 9 (hds 0 9 rfl) (by omega) (depl_of hdep 1 0 (by decide) ho hd)
    exact doesX_of (doesL_run ho (wanted_none hgd) (hpure 1 (by decide) c L w' hW) (run_ld22 _ _ _ hop _ _ (eval_of h0) _ (l1 c L w' hW)))
  | 2, ho, hL, _ =>
    obtain ⟨hop, hdst, hgd⟩ := tab_at htab ho (show rjnT[2]? = _ from rfl)
    simp only at hop hgd
    have h0 := frm_old (val := val c) ha 5 _ (hold 5 rfl) o5
    exact doesX_of (doesL_run ho (wanted_none hgd) (hpure 2 (by decide) c L w' hW) (run_f25_1 _ _ _ hop _ _ (eval_of h0) _))
  | 3, ho, hL, _ =>
    obtain ⟨hop, hdst, hgd⟩ := tab_at htab ho (show rjnT[3]? = _ from rfl)
    simp only at hop hgd
    have h0 := frm_at (val := val c) hdis ha 2 11 (hds 2 11 rfl) (by omega) (depl_of hdep 3 2 (by decide) ho hd)
    exact doesX_of (doesL_run ho (wanted_none hgd) (hpure 3 (by decide) c L w' hW) (run_ld22 _ _ _ hop _ _ (eval_of h0) _ (l3 c L w' hW)))
  | 4, ho, hL, _ =>
    obtain ⟨hop, hdst, hgd⟩ := tab_at htab ho (show rjnT[4]? = _ from rfl)
    simp only at hop hgd
    have h0 := frm_at (val := val c) hdis ha 1 10 (hds 1 10 rfl) (by omega) (depl_of hdep 4 1 (by decide) ho hd)
    have h1 := frm_at (val := val c) hdis ha 3 12 (hds 3 12 rfl) (by omega) (depl_of hdep 4 3 (by decide) ho hd)
    obtain ⟨c', q0, q1, q2⟩ := n4 c L w' hW hL
    refine doesX_runw ho (wanted_none hgd) c' q0 q2 ((run_bs33 _ _ _ _ hop _ _ _ _ _ _ (eval_of h0) (eval_of h1) _).trans (by rw [← q1]; rfl))
  | 5, ho, hL, _ =>
    obtain ⟨hop, hdst, hgd⟩ := tab_at htab ho (show rjnT[5]? = _ from rfl)
    simp only at hop hgd
    have h0 := frm_at (val := val c) hdis ha 4 13 (hds 4 13 rfl) (by omega) (depl_of hdep 5 4 (by decide) ho hd)
    refine doesX_call ho (wanted_none hgd) 105 #[.slice (some ⟨c.g1, 0, none⟩) 2 2] ?_ (c5 c L w' hW hL (depl_of hdep 5 4 (by decide) ho hd))
    rw [run_calls Tryz.func105 (by kernel_rfl) rfl _ _ _ _ hop rfl]
    simp only [List.map_toArray, List.map_cons, List.map_nil, eval_of h0]
    all_goals rfl
  | 6, ho, hL, _ =>
    obtain ⟨hop, hdst, hgd⟩ := tab_at htab ho (show rjnT[6]? = _ from rfl)
    simp only at hop hgd
    have h0 := frm_old (val := val c) ha 3 _ (hold 3 rfl) o3
    exact doesX_of (doesL_run ho (wanted_none hgd) (hpure 6 (by decide) c L w' hW) (run_f25_2 _ _ _ hop _ _ (eval_of h0) _))
  | 7, ho, hL, _ =>
    obtain ⟨hop, hdst, hgd⟩ := tab_at htab ho (show rjnT[7]? = _ from rfl)
    simp only at hop hgd
    have h0 := frm_at (val := val c) hdis ha 6 15 (hds 6 15 rfl) (by omega) (depl_of hdep 7 6 (by decide) ho hd)
    exact doesX_of (doesL_run ho (wanted_none hgd) (hpure 7 (by decide) c L w' hW) (run_ld22 _ _ _ hop _ _ (eval_of h0) _ (l7 c L w' hW)))
  | 8, ho, hL, _ =>
    obtain ⟨hop, hdst, hgd⟩ := tab_at htab ho (show rjnT[8]? = _ from rfl)
    simp only at hop hgd
    have h0 := frm_old (val := val c) ha 5 _ (hold 5 rfl) o5
    exact doesX_of (doesL_run ho (wanted_none hgd) (hpure 8 (by decide) c L w' hW) (run_f25_2 _ _ _ hop _ _ (eval_of h0) _))
  | 9, ho, hL, _ =>
    obtain ⟨hop, hdst, hgd⟩ := tab_at htab ho (show rjnT[9]? = _ from rfl)
    simp only at hop hgd
    have h0 := frm_at (val := val c) hdis ha 8 17 (hds 8 17 rfl) (by omega) (depl_of hdep 9 8 (by decide) ho hd)
    exact doesX_of (doesL_run ho (wanted_none hgd) (hpure 9 (by decide) c L w' hW) (run_ld22 _ _ _ hop _ _ (eval_of h0) _ (l9 c L w' hW)))
  | 10, ho, hL, _ =>
    obtain ⟨hop, hdst, hgd⟩ := tab_at htab ho (show rjnT[10]? = _ from rfl)
    simp only at hop hgd
    have h0 := frm_at (val := val c) hdis ha 7 16 (hds 7 16 rfl) (by omega) (depl_of hdep 10 7 (by decide) ho hd)
    have h1 := frm_at (val := val c) hdis ha 9 18 (hds 9 18 rfl) (by omega) (depl_of hdep 10 9 (by decide) ho hd)
    obtain ⟨c', q0, q1, q2⟩ := n10 c L w' hW hL
    refine doesX_runw ho (wanted_none hgd) c' q0 q2 ((run_bs33 _ _ _ _ hop _ _ _ _ _ _ (eval_of h0) (eval_of h1) _).trans (by rw [← q1]; rfl))
  | 11, ho, hL, _ =>
    obtain ⟨hop, hdst, hgd⟩ := tab_at htab ho (show rjnT[11]? = _ from rfl)
    simp only at hop hgd
    have h0 := frm_at (val := val c) hdis ha 10 19 (hds 10 19 rfl) (by omega) (depl_of hdep 11 10 (by decide) ho hd)
    refine doesX_call ho (wanted_none hgd) 105 #[.slice (some ⟨c.g2, 0, none⟩) 2 2] ?_ (c11 c L w' hW hL (depl_of hdep 11 10 (by decide) ho hd))
    rw [run_calls Tryz.func105 (by kernel_rfl) rfl _ _ _ _ hop rfl]
    simp only [List.map_toArray, List.map_cons, List.map_nil, eval_of h0]
    all_goals rfl
  | 12, ho, hL, _ =>
    obtain ⟨hop, hdst, hgd⟩ := tab_at htab ho (show rjnT[12]? = _ from rfl)
    simp only at hop hgd
    have h1 := frm_at (val := val c) hdis ha 5 14 (hds 5 14 rfl) (by omega) (depl_of hdep 12 5 (by decide) ho hd)
    have h2 := frm_at (val := val c) hdis ha 11 20 (hds 11 20 rfl) (by omega) (depl_of hdep 12 11 (by decide) ho hd)
    exact doesX_of (doesL_run ho (wanted_none hgd) (hpure12 c L w' hW (depl_of hdep 12 5 (by decide) ho hd) (depl_of hdep 12 11 (by decide) ho hd)) (run_build25' _ _ _ _ _ hop _ _ _ _ _ _ _ rfl (eval_of h1) (eval_of h2) _))
  | 13, ho, hL, _ =>
    obtain ⟨hop, hdst, hgd⟩ := tab_at htab ho (show rjnT[13]? = _ from rfl)
    simp only at hop hgd
    have h0 := frm_old (val := val c) ha 6 _ (hold 6 rfl) o6
    have h1 := frm_at (val := val c) hdis ha 12 21 (hds 12 21 rfl) (by omega) (depl_of hdep 13 12 (by decide) ho hd)
    obtain ⟨s1, s2⟩ := n13 c L w' hW hL (depl_of hdep 13 12 (by decide) ho hd)
    exact doesX_of (doesL_skp ho (wanted_none hgd) rfl s1 (run_st25 _ _ _ _ hop _ _ _ _ _ (eval_of h0) (eval_of h1) _ _ _ _ _ s2 ⟨rfl, rfl, rfl, rfl⟩))
  | (i + 14), ho, hL, hi => exact absurd hi (by omega)
end Go.Proofs.YtllialbdofklgaaGreatDoor
namespace Go.Proofs.YtllialbdofklgaaGreatDoor
open Go.RowKit
theorem run_len22 (ρ : Operand → Value) (o : Oper) (x : Operand) (ho : o.op = .call { callee := .builtin .len, args := #[x], argTypes := #[22] }) (a : Option Addr) (n c : Nat) (hx : ρ x = .slice a n c) (w : World) : (execOp ρ o).run Tryz.prog w = .ok (.value (.int .i64 (n : Int))) w := by
  unfold execOp
  simp only [ho]
  simp [resolve, invoke, builtin, hx, Builtin.len_, Builtin.lenOf, go_sem]
theorem run_cut22 (ρ : Operand → Value) (o : Oper) (x y : Operand) (ho : o.op = .slice 22 x none (some y) none) (g k n c : Nat) (hk : k ≤ c) (hx : ρ x = .slice (some ⟨g, 0, none⟩) n c) (hy : ρ y = .int .i64 (k : Int)) (w : World) : (execOp ρ o).run Tryz.prog w = .ok (.value (.slice (some ⟨g, 0, none⟩) k c)) w := by
  unfold execOp
  simp only [ho, hx, Option.map_some, Option.map_none, hy]
  have h1 : (k : Int) ≤ (c : Int) := by omega
  have u := Tryz.underlying22
  have z := Tryz.sizeOf9
  simp [Instr.sliceAt, go_sem, u, z, h1]
theorem run_st22 (ρ : Operand → Value) (o : Oper) (x y : Operand) (ho : o.op = .store 22 x y) (p : Addr) (v : Value) (ha : ρ x = .pointer (some p)) (hy : ρ y = v) (w : World) (hv : ∃ a n k, v = .slice a n k) (hc : ∃ u, w.cell? p = some u) (hf : w.frozen? p = false) : (execOp ρ o).run Tryz.prog w = .ok .skip (w.setCell p v) := by
  obtain ⟨u, hc⟩ := hc
  obtain ⟨a, n, k, rfl⟩ := hv
  have h1 : (Value.slice a n k).oneCell' = true := rfl
  have s0 : (store p (.slice a n k)).run Tryz.prog w = .ok () (w.setCell p (.slice a n k)) := by
    rw [run_store _ _ _ _ _ h1, hc]
    simp [hf]
  unfold execOp
  simp only [ho, ha, hy]
  simp [go_sem, s0, Result.andThen]
theorem run_len23 (ρ : Operand → Value) (o : Oper) (x : Operand) (ho : o.op = .call { callee := .builtin .len, args := #[x], argTypes := #[23] }) (a : Option Addr) (n c : Nat) (hx : ρ x = .slice a n c) (w : World) : (execOp ρ o).run Tryz.prog w = .ok (.value (.int .i64 (n : Int))) w := by
  unfold execOp
  simp only [ho]
  simp [resolve, invoke, builtin, hx, Builtin.len_, Builtin.lenOf, go_sem]
theorem run_cut23 (ρ : Operand → Value) (o : Oper) (x y : Operand) (ho : o.op = .slice 23 x none (some y) none) (g k n c : Nat) (hk : k ≤ c) (hx : ρ x = .slice (some ⟨g, 0, none⟩) n c) (hy : ρ y = .int .i64 (k : Int)) (w : World) : (execOp ρ o).run Tryz.prog w = .ok (.value (.slice (some ⟨g, 0, none⟩) k c)) w := by
  unfold execOp
  simp only [ho, hx, Option.map_some, Option.map_none, hy]
  have h1 : (k : Int) ≤ (c : Int) := by omega
  have u := Tryz.underlying23
  have z := Tryz.sizeOf3
  simp [Instr.sliceAt, go_sem, u, z, h1]
theorem run_st23 (ρ : Operand → Value) (o : Oper) (x y : Operand) (ho : o.op = .store 23 x y) (p : Addr) (v : Value) (ha : ρ x = .pointer (some p)) (hy : ρ y = v) (w : World) (hv : ∃ a n k, v = .slice a n k) (hc : ∃ u, w.cell? p = some u) (hf : w.frozen? p = false) : (execOp ρ o).run Tryz.prog w = .ok .skip (w.setCell p v) := by
  obtain ⟨u, hc⟩ := hc
  obtain ⟨a, n, k, rfl⟩ := hv
  have h1 : (Value.slice a n k).oneCell' = true := rfl
  have s0 : (store p (.slice a n k)).run Tryz.prog w = .ok () (w.setCell p (.slice a n k)) := by
    rw [run_store _ _ _ _ _ h1, hc]
    simp [hf]
  unfold execOp
  simp only [ho, ha, hy]
  simp [go_sem, s0, Result.andThen]
def rlkT : List (Op × Option Tmp × Option (Nat × Bool)) := [
  (.fieldAddr 25 (.tmp 1) 1, some 3, none),
  (.load 22 (.tmp 3), some 4, none),
  (.call { callee := .value (.func 23), args := #[(.tmp 4)], argTypes := #[22] }, some 5, none),
  (.fieldAddr 25 (.tmp 1) 1, some 6, none),
  (.load 22 (.tmp 6), some 7, none),
  (.call { callee := .builtin .len, args := #[(.tmp 7)], argTypes := #[22] }, some 8, none),
  (.slice 22 (.tmp 5) none (some (.tmp 8)) none, some 9, none),
  (.fieldAddr 25 (.tmp 1) 1, some 10, none),
  (.store 22 (.tmp 10) (.tmp 9), none, none)]
def rlkD : List (Nat × Nat) := [(1, 0), (2, 1), (4, 3), (5, 4), (6, 2), (6, 5), (8, 1), (8, 2), (8, 4), (8, 6), (8, 7)]
set_option maxHeartbeats 2000000 in
theorem rlk {ops : Array Oper} {id : Nat} {Q : Exit → Act → World → Prop} (X G n kc : Nat) (ka : Option Addr) (htab : ops.toList.map (fun o => (o.op, o.dst, o.guard)) = rlkT) (hdep : deplB rlkD ops = true) (hac : acB ops = true)
    (a0 : Act) (w : World) (hsz : 11 ≤ a0.tmps.size) (o1 : a0.tmps[1]? = some (.pointer (some ⟨X, 0, none⟩)))
    (Wd : (Nat → Bool) → World → Prop) (h0 : Wd (fun _ => false) w.drew) (hpure : ∀ i, i ∉ ([2, 8] : List Nat) → ∀ L W, Wd L W → Wd (upd L i) W)
    (l1 : ∀ L W, Wd L W → L 1 = false → W.cell? ⟨X, 0 + 1, none⟩ = some (.slice ka n kc)) (l4 : ∀ L W, Wd L W → L 4 = false → W.cell? ⟨X, 0 + 1, none⟩ = some (.slice ka n kc)) (s6 : n ≤ n + 4)
    (c2 : ∀ L W, Wd L W → L 2 = false → Calls Tryz.prog 23 #[.slice ka n kc] W fun e w' => e = .returned (.slice (some ⟨G, 0, none⟩) (n + 4) (n + 4)) ∧ Wd (upd L 2) w')
    (n8 : ∀ L W, Wd L W → L 8 = false → L 6 = true → L 7 = true → L 1 = true → L 4 = true → L 2 = true → Wd (upd L 8) (W.setCell ⟨X, 0 + 1, none⟩ (.slice (some ⟨G, 0, none⟩) n (n + 4))) ∧ (∃ a m k, Value.slice (some ⟨G, 0, none⟩) n (n + 4) = .slice a m k) ∧ (∃ u, W.cell? ⟨X, 0 + 1, none⟩ = some u) ∧ W.frozen? ⟨X, 0 + 1, none⟩ = false)
    (hend : ∀ L W, (∀ i, i < 9 → L i = true) → Wd L W → Q .normal ((((((((a0.put (some 3) (.pointer (some ⟨X, 0 + 1, none⟩))).put (some 4) (.slice ka n kc)).put (some 5) (.slice (some ⟨G, 0, none⟩) (n + 4) (n + 4))).put (some 6) (.pointer (some ⟨X, 0 + 1, none⟩))).put (some 7) (.slice ka n kc)).put (some 8) (.int .i64 (n : Int))).put (some 9) (.slice (some ⟨G, 0, none⟩) n (n + 4))).put (some 10) (.pointer (some ⟨X, 0 + 1, none⟩))) W) : (Code.region id ops true).wp Tryz.prog Q a0 w := by
  let val : Nat → Value := fun i => match i with
    | 0 => (.pointer (some ⟨X, 0 + 1, none⟩))
    | 1 => (.slice ka n kc)
    | 2 => (.slice (some ⟨G, 0, none⟩) (n + 4) (n + 4))
    | 3 => (.pointer (some ⟨X, 0 + 1, none⟩))
    | 4 => (.slice ka n kc)
    | 5 => (.int .i64 (n : Int))
    | 6 => (.slice (some ⟨G, 0, none⟩) n (n + 4))
    | 7 => (.pointer (some ⟨X, 0 + 1, none⟩))
    | 8 => undef
    | _ => undef
  have hosz : ops.size = 9 := by
    have := congrArg List.length htab
    simpa [rlkT] using this
  have hds : ∀ i s, (rlkT[i]?).bind (·.2.1) = some s → dstOf ops i = some s := fun i s hi => by rw [tab_dst htab, hi]
  have hdisB : disL rlkT = true := by rfl
  have hdis := disL_of htab hdisB
  have hold : ∀ s, rlkT.all (fun x => !(x.2.1 == some s)) = true → (List.range ops.size).all (fun j => !(dstOf ops j == some s)) = true := fun s h => holdL htab s h
  refine region_detL val Wd (hac_of hac) hdis h0 ?_ ?_
  rotate_left
  · intro L W hall hW
    have := hend L W (by rw [← hosz]; exact hall) hW
    have e : frm ops a0 val (fun _ => true) ops.size = ((((((((a0.put (some 3) (.pointer (some ⟨X, 0 + 1, none⟩))).put (some 4) (.slice ka n kc)).put (some 5) (.slice (some ⟨G, 0, none⟩) (n + 4) (n + 4))).put (some 6) (.pointer (some ⟨X, 0 + 1, none⟩))).put (some 7) (.slice ka n kc)).put (some 8) (.int .i64 (n : Int))).put (some 9) (.slice (some ⟨G, 0, none⟩) n (n + 4))).put (some 10) (.pointer (some ⟨X, 0 + 1, none⟩))) := by
      rw [hosz]
      simp only [frm, if_true]
      rw [tab_dst htab 0, tab_dst htab 1, tab_dst htab 2, tab_dst htab 3, tab_dst htab 4, tab_dst htab 5, tab_dst htab 6, tab_dst htab 7, (show dstOf ops 8 = none from (tab_dst htab 8).trans rfl), put_none]
      rfl
    rw [e]
    exact this
  intro i o ho L a w' hL hd ha hW
  have hi : i < 9 := by rw [← hosz]; exact (Array.getElem?_eq_some_iff.1 ho).1
  match i, ho, hL, hi with
  | 0, ho, hL, _ =>
    obtain ⟨hop, hdst, hgd⟩ := tab_at htab ho (show rlkT[0]? = _ from rfl)
    simp only at hop hgd
    have h0 := frm_old ha 1 _ (hold 1 rfl) o1
    exact doesL_run ho (wanted_none hgd) (hpure 0 (by decide) L w' hW) (run_f25_1 _ _ _ hop _ _ (eval_of h0) _)
  | 1, ho, hL, _ =>
    obtain ⟨hop, hdst, hgd⟩ := tab_at htab ho (show rlkT[1]? = _ from rfl)
    simp only at hop hgd
    have h0 := frm_at hdis ha 0 3 (hds 0 3 rfl) (by omega) (depl_of hdep 1 0 (by decide) ho hd)
    exact doesL_run ho (wanted_none hgd) (hpure 1 (by decide) L w' hW) (run_ld22 _ _ _ hop _ _ (eval_of h0) _ (l1 L w' hW hL))
  | 2, ho, hL, _ =>
    obtain ⟨hop, hdst, hgd⟩ := tab_at htab ho (show rlkT[2]? = _ from rfl)
    simp only at hop hgd
    have h0 := frm_at hdis ha 1 4 (hds 1 4 rfl) (by omega) (depl_of hdep 2 1 (by decide) ho hd)
    refine doesL_call ho (wanted_none hgd) 23 #[.slice ka n kc] ?_ (c2 L w' hW hL)
    rw [run_calls Tryz.func23 (by kernel_rfl) rfl _ _ _ _ hop rfl]
    simp only [List.map_toArray, List.map_cons, List.map_nil, eval_of h0]
    all_goals rfl
  | 3, ho, hL, _ =>
    obtain ⟨hop, hdst, hgd⟩ := tab_at htab ho (show rlkT[3]? = _ from rfl)
    simp only at hop hgd
    have h0 := frm_old ha 1 _ (hold 1 rfl) o1
    exact doesL_run ho (wanted_none hgd) (hpure 3 (by decide) L w' hW) (run_f25_1 _ _ _ hop _ _ (eval_of h0) _)
  | 4, ho, hL, _ =>
    obtain ⟨hop, hdst, hgd⟩ := tab_at htab ho (show rlkT[4]? = _ from rfl)
    simp only at hop hgd
    have h0 := frm_at hdis ha 3 6 (hds 3 6 rfl) (by omega) (depl_of hdep 4 3 (by decide) ho hd)
    exact doesL_run ho (wanted_none hgd) (hpure 4 (by decide) L w' hW) (run_ld22 _ _ _ hop _ _ (eval_of h0) _ (l4 L w' hW hL))
  | 5, ho, hL, _ =>
    obtain ⟨hop, hdst, hgd⟩ := tab_at htab ho (show rlkT[5]? = _ from rfl)
    simp only at hop hgd
    have h0 := frm_at hdis ha 4 7 (hds 4 7 rfl) (by omega) (depl_of hdep 5 4 (by decide) ho hd)
    exact doesL_run ho (wanted_none hgd) (hpure 5 (by decide) L w' hW) (run_len22 _ _ _ hop _ _ _ (eval_of h0) _)
  | 6, ho, hL, _ =>
    obtain ⟨hop, hdst, hgd⟩ := tab_at htab ho (show rlkT[6]? = _ from rfl)
    simp only at hop hgd
    have h0 := frm_at hdis ha 2 5 (hds 2 5 rfl) (by omega) (depl_of hdep 6 2 (by decide) ho hd)
    have h1 := frm_at hdis ha 5 8 (hds 5 8 rfl) (by omega) (depl_of hdep 6 5 (by decide) ho hd)
    exact doesL_run ho (wanted_none hgd) (hpure 6 (by decide) L w' hW) (run_cut22 _ _ _ _ hop _ _ _ _ s6 (eval_of h0) (eval_of h1) _)
  | 7, ho, hL, _ =>
    obtain ⟨hop, hdst, hgd⟩ := tab_at htab ho (show rlkT[7]? = _ from rfl)
    simp only at hop hgd
    have h0 := frm_old ha 1 _ (hold 1 rfl) o1
    exact doesL_run ho (wanted_none hgd) (hpure 7 (by decide) L w' hW) (run_f25_1 _ _ _ hop _ _ (eval_of h0) _)
  | 8, ho, hL, _ =>
    obtain ⟨hop, hdst, hgd⟩ := tab_at htab ho (show rlkT[8]? = _ from rfl)
    simp only at hop hgd
    have h0 := frm_at hdis ha 7 10 (hds 7 10 rfl) (by omega) (depl_of hdep 8 7 (by decide) ho hd)
    have h1 := frm_at hdis ha 6 9 (hds 6 9 rfl) (by omega) (depl_of hdep 8 6 (by decide) ho hd)
    obtain ⟨s1, s2, s3, s4⟩ := n8 L w' hW hL (depl_of hdep 8 6 (by decide) ho hd) (depl_of hdep 8 7 (by decide) ho hd) (depl_of hdep 8 1 (by decide) ho hd) (depl_of hdep 8 4 (by decide) ho hd) (depl_of hdep 8 2 (by decide) ho hd)
    exact doesL_skp ho (wanted_none hgd) rfl s1 (run_st22 _ _ _ _ hop _ _ (eval_of h0) (eval_of h1) _ s2 s3 s4)
  | (i + 9), ho, hL, hi => exact absurd hi (by omega)
def rlvT : List (Op × Option Tmp × Option (Nat × Bool)) := [
  (.fieldAddr 25 (.tmp 1) 2, some 11, none),
  (.load 22 (.tmp 11), some 12, none),
  (.call { callee := .value (.func 23), args := #[(.tmp 12)], argTypes := #[22] }, some 13, none),
  (.fieldAddr 25 (.tmp 1) 2, some 14, none),
  (.load 22 (.tmp 14), some 15, none),
  (.call { callee := .builtin .len, args := #[(.tmp 15)], argTypes := #[22] }, some 16, none),
  (.slice 22 (.tmp 13) none (some (.tmp 16)) none, some 17, none),
  (.fieldAddr 25 (.tmp 1) 2, some 18, none),
  (.store 22 (.tmp 18) (.tmp 17), none, none)]
def rlvD : List (Nat × Nat) := [(1, 0), (2, 1), (4, 3), (5, 4), (6, 2), (6, 5), (8, 1), (8, 2), (8, 4), (8, 6), (8, 7)]
set_option maxHeartbeats 2000000 in
theorem rlv {ops : Array Oper} {id : Nat} {Q : Exit → Act → World → Prop} (X G n kc : Nat) (ka : Option Addr) (htab : ops.toList.map (fun o => (o.op, o.dst, o.guard)) = rlvT) (hdep : deplB rlvD ops = true) (hac : acB ops = true)
    (a0 : Act) (w : World) (hsz : 19 ≤ a0.tmps.size) (o1 : a0.tmps[1]? = some (.pointer (some ⟨X, 0, none⟩)))
    (Wd : (Nat → Bool) → World → Prop) (h0 : Wd (fun _ => false) w.drew) (hpure : ∀ i, i ∉ ([2, 8] : List Nat) → ∀ L W, Wd L W → Wd (upd L i) W)
    (l1 : ∀ L W, Wd L W → L 1 = false → W.cell? ⟨X, 0 + 2, none⟩ = some (.slice ka n kc)) (l4 : ∀ L W, Wd L W → L 4 = false → W.cell? ⟨X, 0 + 2, none⟩ = some (.slice ka n kc)) (s6 : n ≤ n + 4)
    (c2 : ∀ L W, Wd L W → L 2 = false → Calls Tryz.prog 23 #[.slice ka n kc] W fun e w' => e = .returned (.slice (some ⟨G, 0, none⟩) (n + 4) (n + 4)) ∧ Wd (upd L 2) w')
    (n8 : ∀ L W, Wd L W → L 8 = false → L 6 = true → L 7 = true → L 1 = true → L 4 = true → L 2 = true → Wd (upd L 8) (W.setCell ⟨X, 0 + 2, none⟩ (.slice (some ⟨G, 0, none⟩) n (n + 4))) ∧ (∃ a m k, Value.slice (some ⟨G, 0, none⟩) n (n + 4) = .slice a m k) ∧ (∃ u, W.cell? ⟨X, 0 + 2, none⟩ = some u) ∧ W.frozen? ⟨X, 0 + 2, none⟩ = false)
    (hend : ∀ L W, (∀ i, i < 9 → L i = true) → Wd L W → Q .normal ((((((((a0.put (some 11) (.pointer (some ⟨X, 0 + 2, none⟩))).put (some 12) (.slice ka n kc)).put (some 13) (.slice (some ⟨G, 0, none⟩) (n + 4) (n + 4))).put (some 14) (.pointer (some ⟨X, 0 + 2, none⟩))).put (some 15) (.slice ka n kc)).put (some 16) (.int .i64 (n : Int))).put (some 17) (.slice (some ⟨G, 0, none⟩) n (n + 4))).put (some 18) (.pointer (some ⟨X, 0 + 2, none⟩))) W) : (Code.region id ops true).wp Tryz.prog Q a0 w := by
  let val : Nat → Value := fun i => match i with
    | 0 => (.pointer (some ⟨X, 0 + 2, none⟩))
    | 1 => (.slice ka n kc)
    | 2 => (.slice (some ⟨G, 0, none⟩) (n + 4) (n + 4))
    | 3 => (.pointer (some ⟨X, 0 + 2, none⟩))
    | 4 => (.slice ka n kc)
    | 5 => (.int .i64 (n : Int))
    | 6 => (.slice (some ⟨G, 0, none⟩) n (n + 4))
    | 7 => (.pointer (some ⟨X, 0 + 2, none⟩))
    | 8 => undef
    | _ => undef
  have hosz : ops.size = 9 := by
    have := congrArg List.length htab
    simpa [rlvT] using this
  have hds : ∀ i s, (rlvT[i]?).bind (·.2.1) = some s → dstOf ops i = some s := fun i s hi => by rw [tab_dst htab, hi]
  have hdisB : disL rlvT = true := by rfl
  have hdis := disL_of htab hdisB
  have hold : ∀ s, rlvT.all (fun x => !(x.2.1 == some s)) = true → (List.range ops.size).all (fun j => !(dstOf ops j == some s)) = true := fun s h => holdL htab s h
  refine region_detL val Wd (hac_of hac) hdis h0 ?_ ?_
  rotate_left
  · intro L W hall hW
    have := hend L W (by rw [← hosz]; exact hall) hW
    have e : frm ops a0 val (fun _ => true) ops.size = ((((((((a0.put (some 11) (.pointer (some ⟨X, 0 + 2, none⟩))).put (some 12) (.slice ka n kc)).put (some 13) (.slice (some ⟨G, 0, none⟩) (n + 4) (n + 4))).put (some 14) (.pointer (some ⟨X, 0 + 2, none⟩))).put (some 15) (.slice ka n kc)).put (some 16) (.int .i64 (n : Int))).put (some 17) (.slice (some ⟨G, 0, none⟩) n (n + 4))).put (some 18) (.pointer (some ⟨X, 0 + 2, none⟩))) := by
      rw [hosz]
      simp only [frm, if_true]
      rw [tab_dst htab 0, tab_dst htab 1, tab_dst htab 2, tab_dst htab 3, tab_dst htab 4, tab_dst htab 5, tab_dst htab 6, tab_dst htab 7, (show dstOf ops 8 = none from (tab_dst htab 8).trans rfl), put_none]
      rfl
    rw [e]
    exact this
  intro i o ho L a w' hL hd ha hW
  have hi : i < 9 := by rw [← hosz]; exact (Array.getElem?_eq_some_iff.1 ho).1
  match i, ho, hL, hi with
  | 0, ho, hL, _ =>
    obtain ⟨hop, hdst, hgd⟩ := tab_at htab ho (show rlvT[0]? = _ from rfl)
    simp only at hop hgd
    have h0 := frm_old ha 1 _ (hold 1 rfl) o1
    exact doesL_run ho (wanted_none hgd) (hpure 0 (by decide) L w' hW) (run_f25_2 _ _ _ hop _ _ (eval_of h0) _)
  | 1, ho, hL, _ =>
    obtain ⟨hop, hdst, hgd⟩ := tab_at htab ho (show rlvT[1]? = _ from rfl)
    simp only at hop hgd
    have h0 := frm_at hdis ha 0 11 (hds 0 11 rfl) (by omega) (depl_of hdep 1 0 (by decide) ho hd)
    exact doesL_run ho (wanted_none hgd) (hpure 1 (by decide) L w' hW) (run_ld22 _ _ _ hop _ _ (eval_of h0) _ (l1 L w' hW hL))
  | 2, ho, hL, _ =>
    obtain ⟨hop, hdst, hgd⟩ := tab_at htab ho (show rlvT[2]? = _ from rfl)
    simp only at hop hgd
    have h0 := frm_at hdis ha 1 12 (hds 1 12 rfl) (by omega) (depl_of hdep 2 1 (by decide) ho hd)
    refine doesL_call ho (wanted_none hgd) 23 #[.slice ka n kc] ?_ (c2 L w' hW hL)
    rw [run_calls Tryz.func23 (by kernel_rfl) rfl _ _ _ _ hop rfl]
    simp only [List.map_toArray, List.map_cons, List.map_nil, eval_of h0]
    all_goals rfl
  | 3, ho, hL, _ =>
    obtain ⟨hop, hdst, hgd⟩ := tab_at htab ho (show rlvT[3]? = _ from rfl)
    simp only at hop hgd
    have h0 := frm_old ha 1 _ (hold 1 rfl) o1
    exact doesL_run ho (wanted_none hgd) (hpure 3 (by decide) L w' hW) (run_f25_2 _ _ _ hop _ _ (eval_of h0) _)
  | 4, ho, hL, _ =>
    obtain ⟨hop, hdst, hgd⟩ := tab_at htab ho (show rlvT[4]? = _ from rfl)
    simp only at hop hgd
    have h0 := frm_at hdis ha 3 14 (hds 3 14 rfl) (by omega) (depl_of hdep 4 3 (by decide) ho hd)
    exact doesL_run ho (wanted_none hgd) (hpure 4 (by decide) L w' hW) (run_ld22 _ _ _ hop _ _ (eval_of h0) _ (l4 L w' hW hL))
  | 5, ho, hL, _ =>
    obtain ⟨hop, hdst, hgd⟩ := tab_at htab ho (show rlvT[5]? = _ from rfl)
    simp only at hop hgd
    have h0 := frm_at hdis ha 4 15 (hds 4 15 rfl) (by omega) (depl_of hdep 5 4 (by decide) ho hd)
    exact doesL_run ho (wanted_none hgd) (hpure 5 (by decide) L w' hW) (run_len22 _ _ _ hop _ _ _ (eval_of h0) _)
  | 6, ho, hL, _ =>
    obtain ⟨hop, hdst, hgd⟩ := tab_at htab ho (show rlvT[6]? = _ from rfl)
    simp only at hop hgd
    have h0 := frm_at hdis ha 2 13 (hds 2 13 rfl) (by omega) (depl_of hdep 6 2 (by decide) ho hd)
    have h1 := frm_at hdis ha 5 16 (hds 5 16 rfl) (by omega) (depl_of hdep 6 5 (by decide) ho hd)
    exact doesL_run ho (wanted_none hgd) (hpure 6 (by decide) L w' hW) (run_cut22 _ _ _ _ hop _ _ _ _ s6 (eval_of h0) (eval_of h1) _)
  | 7, ho, hL, _ =>
    obtain ⟨hop, hdst, hgd⟩ := tab_at htab ho (show rlvT[7]? = _ from rfl)
    simp only at hop hgd
    have h0 := frm_old ha 1 _ (hold 1 rfl) o1
    exact doesL_run ho (wanted_none hgd) (hpure 7 (by decide) L w' hW) (run_f25_2 _ _ _ hop _ _ (eval_of h0) _)
  | 8, ho, hL, _ =>
    obtain ⟨hop, hdst, hgd⟩ := tab_at htab ho (show rlvT[8]? = _ from rfl)
    simp only at hop hgd
    have h0 := frm_at hdis ha 7 18 (hds 7 18 rfl) (by omega) (depl_of hdep 8 7 (by decide) ho hd)
    have h1 := frm_at hdis ha 6 17 (hds 6 17 rfl) (by omega) (depl_of hdep 8 6 (by decide) ho hd)
    obtain ⟨s1, s2, s3, s4⟩ := n8 L w' hW hL (depl_of hdep 8 6 (by decide) ho hd) (depl_of hdep 8 7 (by decide) ho hd) (depl_of hdep 8 1 (by decide) ho hd) (depl_of hdep 8 4 (by decide) ho hd) (depl_of hdep 8 2 (by decide) ho hd)
    exact doesL_skp ho (wanted_none hgd) rfl s1 (run_st22 _ _ _ _ hop _ _ (eval_of h0) (eval_of h1) _ s2 s3 s4)
  | (i + 9), ho, hL, hi => exact absurd hi (by omega)
def rliT : List (Op × Option Tmp × Option (Nat × Bool)) := [
  (.fieldAddr 25 (.tmp 1) 3, some 19, none),
  (.load 23 (.tmp 19), some 20, none),
  (.call { callee := .value (.func 19), args := #[(.tmp 20)], argTypes := #[23] }, some 21, none),
  (.fieldAddr 25 (.tmp 1) 3, some 22, none),
  (.load 23 (.tmp 22), some 23, none),
  (.call { callee := .builtin .len, args := #[(.tmp 23)], argTypes := #[23] }, some 24, none),
  (.slice 23 (.tmp 21) none (some (.tmp 24)) none, some 25, none),
  (.fieldAddr 25 (.tmp 1) 3, some 26, none),
  (.store 23 (.tmp 26) (.tmp 25), none, none)]
def rliD : List (Nat × Nat) := [(1, 0), (2, 1), (4, 3), (5, 4), (6, 2), (6, 5), (8, 1), (8, 2), (8, 4), (8, 6), (8, 7)]
set_option maxHeartbeats 2000000 in
theorem rli {ops : Array Oper} {id : Nat} {Q : Exit → Act → World → Prop} (X G n kc : Nat) (ka : Option Addr) (htab : ops.toList.map (fun o => (o.op, o.dst, o.guard)) = rliT) (hdep : deplB rliD ops = true) (hac : acB ops = true)
    (a0 : Act) (w : World) (hsz : 27 ≤ a0.tmps.size) (o1 : a0.tmps[1]? = some (.pointer (some ⟨X, 0, none⟩)))
    (Wd : (Nat → Bool) → World → Prop) (h0 : Wd (fun _ => false) w.drew) (hpure : ∀ i, i ∉ ([2, 8] : List Nat) → ∀ L W, Wd L W → Wd (upd L i) W)
    (l1 : ∀ L W, Wd L W → L 1 = false → W.cell? ⟨X, 0 + 3, none⟩ = some (.slice ka n kc)) (l4 : ∀ L W, Wd L W → L 4 = false → W.cell? ⟨X, 0 + 3, none⟩ = some (.slice ka n kc)) (s6 : n ≤ n + 4)
    (c2 : ∀ L W, Wd L W → L 2 = false → Calls Tryz.prog 19 #[.slice ka n kc] W fun e w' => e = .returned (.slice (some ⟨G, 0, none⟩) (n + 4) (n + 4)) ∧ Wd (upd L 2) w')
    (n8 : ∀ L W, Wd L W → L 8 = false → L 6 = true → L 7 = true → L 1 = true → L 4 = true → L 2 = true → Wd (upd L 8) (W.setCell ⟨X, 0 + 3, none⟩ (.slice (some ⟨G, 0, none⟩) n (n + 4))) ∧ (∃ a m k, Value.slice (some ⟨G, 0, none⟩) n (n + 4) = .slice a m k) ∧ (∃ u, W.cell? ⟨X, 0 + 3, none⟩ = some u) ∧ W.frozen? ⟨X, 0 + 3, none⟩ = false)
    (hend : ∀ L W, (∀ i, i < 9 → L i = true) → Wd L W → Q .normal ((((((((a0.put (some 19) (.pointer (some ⟨X, 0 + 3, none⟩))).put (some 20) (.slice ka n kc)).put (some 21) (.slice (some ⟨G, 0, none⟩) (n + 4) (n + 4))).put (some 22) (.pointer (some ⟨X, 0 + 3, none⟩))).put (some 23) (.slice ka n kc)).put (some 24) (.int .i64 (n : Int))).put (some 25) (.slice (some ⟨G, 0, none⟩) n (n + 4))).put (some 26) (.pointer (some ⟨X, 0 + 3, none⟩))) W) : (Code.region id ops true).wp Tryz.prog Q a0 w := by
  let val : Nat → Value := fun i => match i with
    | 0 => (.pointer (some ⟨X, 0 + 3, none⟩))
    | 1 => (.slice ka n kc)
    | 2 => (.slice (some ⟨G, 0, none⟩) (n + 4) (n + 4))
    | 3 => (.pointer (some ⟨X, 0 + 3, none⟩))
    | 4 => (.slice ka n kc)
    | 5 => (.int .i64 (n : Int))
    | 6 => (.slice (some ⟨G, 0, none⟩) n (n + 4))
    | 7 => (.pointer (some ⟨X, 0 + 3, none⟩))
    | 8 => undef
    | _ => undef
  have hosz : ops.size = 9 := by
    have := congrArg List.length htab
    simpa [rliT] using this
  have hds : ∀ i s, (rliT[i]?).bind (·.2.1) = some s → dstOf ops i = some s := fun i s hi => by rw [tab_dst htab, hi]
  have hdisB : disL rliT = true := by rfl
  have hdis := disL_of htab hdisB
  have hold : ∀ s, rliT.all (fun x => !(x.2.1 == some s)) = true → (List.range ops.size).all (fun j => !(dstOf ops j == some s)) = true := fun s h => holdL htab s h
  refine region_detL val Wd (hac_of hac) hdis h0 ?_ ?_
  rotate_left
  · intro L W hall hW
    have := hend L W (by rw [← hosz]; exact hall) hW
    have e : frm ops a0 val (fun _ => true) ops.size = ((((((((a0.put (some 19) (.pointer (some ⟨X, 0 + 3, none⟩))).put (some 20) (.slice ka n kc)).put (some 21) (.slice (some ⟨G, 0, none⟩) (n + 4) (n + 4))).put (some 22) (.pointer (some ⟨X, 0 + 3, none⟩))).put (some 23) (.slice ka n kc)).put (some 24) (.int .i64 (n : Int))).put (some 25) (.slice (some ⟨G, 0, none⟩) n (n + 4))).put (some 26) (.pointer (some ⟨X, 0 + 3, none⟩))) := by
      rw [hosz]
      simp only [frm, if_true]
      rw [tab_dst htab 0, tab_dst htab 1, tab_dst htab 2, tab_dst htab 3, tab_dst htab 4, tab_dst htab 5, tab_dst htab 6, tab_dst htab 7, (show dstOf ops 8 = none from (tab_dst htab 8).trans rfl), put_none]
      rfl
    rw [e]
    exact this
  intro i o ho L a w' hL hd ha hW
  have hi : i < 9 := by rw [← hosz]; exact (Array.getElem?_eq_some_iff.1 ho).1
  match i, ho, hL, hi with
  | 0, ho, hL, _ =>
    obtain ⟨hop, hdst, hgd⟩ := tab_at htab ho (show rliT[0]? = _ from rfl)
    simp only at hop hgd
    have h0 := frm_old ha 1 _ (hold 1 rfl) o1
    exact doesL_run ho (wanted_none hgd) (hpure 0 (by decide) L w' hW) (run_f25_3 _ _ _ hop _ _ (eval_of h0) _)
  | 1, ho, hL, _ =>
    obtain ⟨hop, hdst, hgd⟩ := tab_at htab ho (show rliT[1]? = _ from rfl)
    simp only at hop hgd
    have h0 := frm_at hdis ha 0 19 (hds 0 19 rfl) (by omega) (depl_of hdep 1 0 (by decide) ho hd)
    exact doesL_run ho (wanted_none hgd) (hpure 1 (by decide) L w' hW) (run_ld23 _ _ _ hop _ _ (eval_of h0) _ (l1 L w' hW hL))
  | 2, ho, hL, _ =>
    obtain ⟨hop, hdst, hgd⟩ := tab_at htab ho (show rliT[2]? = _ from rfl)
    simp only at hop hgd
    have h0 := frm_at hdis ha 1 20 (hds 1 20 rfl) (by omega) (depl_of hdep 2 1 (by decide) ho hd)
    refine doesL_call ho (wanted_none hgd) 19 #[.slice ka n kc] ?_ (c2 L w' hW hL)
    rw [run_calls Tryz.func19 (by kernel_rfl) rfl _ _ _ _ hop rfl]
    simp only [List.map_toArray, List.map_cons, List.map_nil, eval_of h0]
    all_goals rfl
  | 3, ho, hL, _ =>
    obtain ⟨hop, hdst, hgd⟩ := tab_at htab ho (show rliT[3]? = _ from rfl)
    simp only at hop hgd
    have h0 := frm_old ha 1 _ (hold 1 rfl) o1
    exact doesL_run ho (wanted_none hgd) (hpure 3 (by decide) L w' hW) (run_f25_3 _ _ _ hop _ _ (eval_of h0) _)
  | 4, ho, hL, _ =>
    obtain ⟨hop, hdst, hgd⟩ := tab_at htab ho (show rliT[4]? = _ from rfl)
    simp only at hop hgd
    have h0 := frm_at hdis ha 3 22 (hds 3 22 rfl) (by omega) (depl_of hdep 4 3 (by decide) ho hd)
    exact doesL_run ho (wanted_none hgd) (hpure 4 (by decide) L w' hW) (run_ld23 _ _ _ hop _ _ (eval_of h0) _ (l4 L w' hW hL))
  | 5, ho, hL, _ =>
    obtain ⟨hop, hdst, hgd⟩ := tab_at htab ho (show rliT[5]? = _ from rfl)
    simp only at hop hgd
    have h0 := frm_at hdis ha 4 23 (hds 4 23 rfl) (by omega) (depl_of hdep 5 4 (by decide) ho hd)
    exact doesL_run ho (wanted_none hgd) (hpure 5 (by decide) L w' hW) (run_len23 _ _ _ hop _ _ _ (eval_of h0) _)
  | 6, ho, hL, _ =>
    obtain ⟨hop, hdst, hgd⟩ := tab_at htab ho (show rliT[6]? = _ from rfl)
    simp only at hop hgd
    have h0 := frm_at hdis ha 2 21 (hds 2 21 rfl) (by omega) (depl_of hdep 6 2 (by decide) ho hd)
    have h1 := frm_at hdis ha 5 24 (hds 5 24 rfl) (by omega) (depl_of hdep 6 5 (by decide) ho hd)
    exact doesL_run ho (wanted_none hgd) (hpure 6 (by decide) L w' hW) (run_cut23 _ _ _ _ hop _ _ _ _ s6 (eval_of h0) (eval_of h1) _)
  | 7, ho, hL, _ =>
    obtain ⟨hop, hdst, hgd⟩ := tab_at htab ho (show rliT[7]? = _ from rfl)
    simp only at hop hgd
    have h0 := frm_old ha 1 _ (hold 1 rfl) o1
    exact doesL_run ho (wanted_none hgd) (hpure 7 (by decide) L w' hW) (run_f25_3 _ _ _ hop _ _ (eval_of h0) _)
  | 8, ho, hL, _ =>
    obtain ⟨hop, hdst, hgd⟩ := tab_at htab ho (show rliT[8]? = _ from rfl)
    simp only at hop hgd
    have h0 := frm_at hdis ha 7 26 (hds 7 26 rfl) (by omega) (depl_of hdep 8 7 (by decide) ho hd)
    have h1 := frm_at hdis ha 6 25 (hds 6 25 rfl) (by omega) (depl_of hdep 8 6 (by decide) ho hd)
    obtain ⟨s1, s2, s3, s4⟩ := n8 L w' hW hL (depl_of hdep 8 6 (by decide) ho hd) (depl_of hdep 8 7 (by decide) ho hd) (depl_of hdep 8 1 (by decide) ho hd) (depl_of hdep 8 4 (by decide) ho hd) (depl_of hdep 8 2 (by decide) ho hd)
    exact doesL_skp ho (wanted_none hgd) rfl s1 (run_st23 _ _ _ _ hop _ _ (eval_of h0) (eval_of h1) _ s2 s3 s4)
  | (i + 9), ho, hL, hi => exact absurd hi (by omega)
end Go.Proofs.YtllialbdofklgaaGreatDoor
