import Derived.Test.YtllialbdofklgaaGreatDoorRgsd
namespace Go.Proofs.YtllialbdofklgaaGreatDoor
open Go.RowKit
theorem run_build114 (ρ : Operand → Value) (o : Oper) (a b : Operand) (ho : o.op = .build 114 #[(0, a), (1, b)]) (x y : Int) (ha : ρ a = I x) (hb : ρ b = I y) (w : World) : (execOp ρ o).run Tryz.prog w = .ok (.value (.agg #[I x, I y])) w := by
  unfold execOp
  simp only [ho]
  simp [go_sem, ha, hb]
theorem run_ia111 (ρ : Operand → Value) (o : Oper) (x y : Operand) (ho : o.op = .indexAddr 111 x y) (g q n cap k : Nat) (hk : k < n) (hx : ρ x = .slice (some ⟨g, q, none⟩) n cap) (hy : ρ y = .int .i64 (k : Int)) (w : World) : (execOp ρ o).run Tryz.prog w = .ok (.value (.pointer (some ⟨g, q + k * 2, none⟩))) w := by
  unfold execOp
  simp only [ho, hx, hy]
  have h1 : (k : Int) < (n : Int) := by omega
  have u := Tryz.underlying111
  have z := Tryz.sizeOf114
  simp [go_sem, u, z, h1]
theorem run_st114 (ρ : Operand → Value) (o : Oper) (x y : Operand) (ho : o.op = .store 114 x y) (g q : Nat) (a b : Value) (ha : ρ x = .pointer (some ⟨g, q, none⟩)) (hy : ρ y = .agg #[a, b]) (w : World) (h : ∃ cs : Array Value, w.heap[g]? = some (.cells cs 114 (0, 0)) ∧ q + 1 < cs.size) (h1 : a.oneCell' = true ∧ b.oneCell' = true) : (execOp ρ o).run Tryz.prog w = .ok .skip ((w.setCell ⟨g, q, none⟩ a).setCell ⟨g, q + 1, none⟩ b) := by
  obtain ⟨cs, h, hq⟩ := h
  have q0 := heap_setCell_same w g q _ 114 a h
  have s0 : (store ⟨g, q, none⟩ a).run Tryz.prog w = .ok () (w.setCell ⟨g, q, none⟩ a) := by
    rw [run_store _ _ _ _ _ h1.1, cell_of_row _ g q _ 114 (0, 0) h, Array.getElem?_eq_getElem (show q < cs.size by omega)]
    simp [frozen_of_row _ g q _ 114 h]
  have s1 : (store ⟨g, q + 1, none⟩ b).run Tryz.prog (w.setCell ⟨g, q, none⟩ a) = .ok () ((w.setCell ⟨g, q, none⟩ a).setCell ⟨g, q + 1, none⟩ b) := by
    rw [run_store _ _ _ _ _ h1.2, cell_of_row _ g (q + 1) _ 114 (0, 0) q0, Array.getElem?_eq_getElem (show q + 1 < (cs.setIfInBounds q a).size by simpa using hq)]
    simp [frozen_of_row _ g (q + 1) _ 114 q0]
  unfold execOp
  simp only [ho, ha, hy]
  simp [go_sem, s0, s1, Result.andThen]
def raeT : List (Op × Option Tmp × Option (Nat × Bool)) := [
  (.move (.tmp 4), some 31, none),
  (.move (.tmp 5), some 32, none),
  (.load 25 (.tmp 6), some 33, none),
  (.call { callee := .value (.func 43), args := #[(.tmp 33)], argTypes := #[25] }, some 34, none),
  (.load 25 (.tmp 7), some 35, none),
  (.call { callee := .value (.func 43), args := #[(.tmp 35)], argTypes := #[25] }, some 36, none),
  (.build 114 #[(0, (.tmp 34)), (1, (.tmp 36))], some 37, none),
  (.indexAddr 111 (.tmp 31) (.tmp 32), some 38, none),
  (.store 114 (.tmp 38) (.tmp 37), none, none)]
def raeD : List (Nat × Nat) := [(3, 2), (5, 4), (6, 3), (6, 5), (7, 0), (7, 1), (8, 6), (8, 7)]
set_option maxHeartbeats 2000000 in
theorem rae {ops : Array Oper} {id : Nat} {Q : Exit → Act → World → Prop} (G Y Z n k a1 a2 a3 b1 b2 b3 d1 d2 d3 e1 e2 e3 x y : Nat) (p1 p2 p3 q1 q2 q3 : Option Addr) (lf : Bool) (hk : k < n) (htab : ops.toList.map (fun o => (o.op, o.dst, o.guard)) = raeT) (hdep : deplB raeD ops = true) (hac : acB ops = true)
    (a0 : Act) (w : World) (hsz : 39 ≤ a0.tmps.size) (o4 : a0.tmps[4]? = some (.slice (some ⟨G, 0, none⟩) n n)) (o5 : a0.tmps[5]? = some (.int .i64 (k : Int))) (o6 : a0.tmps[6]? = some (.pointer (some ⟨Y, 0, none⟩))) (o7 : a0.tmps[7]? = some (.pointer (some ⟨Z, 0, none⟩)))
    (Wd : (Nat → Bool) → World → Prop) (h0 : Wd (fun _ => false) w.drew) (hpure : ∀ i, i ∉ ([3, 5, 8] : List Nat) → ∀ L W, Wd L W → Wd (upd L i) W)
    (l2 : ∀ L W, Wd L W → W.cell? ⟨Y, 0, none⟩ = some (.bool lf) ∧ W.cell? ⟨Y, 1, none⟩ = some (.slice p1 a1 d1) ∧ W.cell? ⟨Y, 2, none⟩ = some (.slice p2 a2 d2) ∧ W.cell? ⟨Y, 3, none⟩ = some (.slice p3 a3 d3))
    (l4 : ∀ L W, Wd L W → W.cell? ⟨Z, 0, none⟩ = some (.bool lf) ∧ W.cell? ⟨Z, 1, none⟩ = some (.slice q1 b1 e1) ∧ W.cell? ⟨Z, 2, none⟩ = some (.slice q2 b2 e2) ∧ W.cell? ⟨Z, 3, none⟩ = some (.slice q3 b3 e3))
    (c3 : ∀ L W, Wd L W → L 3 = false → Calls Tryz.prog 43 #[(.agg #[.bool lf, .slice p1 a1 d1, .slice p2 a2 d2, .slice p3 a3 d3])] W fun e w' => e = .returned (I x) ∧ Wd (upd L 3) w')
    (c5 : ∀ L W, Wd L W → L 5 = false → Calls Tryz.prog 43 #[(.agg #[.bool lf, .slice q1 b1 e1, .slice q2 b2 e2, .slice q3 b3 e3])] W fun e w' => e = .returned (I y) ∧ Wd (upd L 5) w')
    (n8 : ∀ L W, Wd L W → L 8 = false → L 6 = true → L 7 = true → Wd (upd L 8) ((W.setCell ⟨G, 0 + k * 2, none⟩ (I x)).setCell ⟨G, 0 + k * 2 + 1, none⟩ (I y)) ∧ ∃ cs : Array Value, W.heap[G]? = some (.cells cs 114 (0, 0)) ∧ 0 + k * 2 + 1 < cs.size)
    (hend : ∀ L W, (∀ i, i < 9 → L i = true) → Wd L W → Q .normal ((((((((a0.put (some 31) (.slice (some ⟨G, 0, none⟩) n n)).put (some 32) (.int .i64 (k : Int))).put (some 33) (.agg #[.bool lf, .slice p1 a1 d1, .slice p2 a2 d2, .slice p3 a3 d3])).put (some 34) (I x)).put (some 35) (.agg #[.bool lf, .slice q1 b1 e1, .slice q2 b2 e2, .slice q3 b3 e3])).put (some 36) (I y)).put (some 37) (.agg #[I x, I y])).put (some 38) (.pointer (some ⟨G, 0 + k * 2, none⟩))) W) : (Code.region id ops true).wp Tryz.prog Q a0 w := by
  let val : Nat → Value := fun i => match i with
    | 0 => (.slice (some ⟨G, 0, none⟩) n n)
    | 1 => (.int .i64 (k : Int))
    | 2 => (.agg #[.bool lf, .slice p1 a1 d1, .slice p2 a2 d2, .slice p3 a3 d3])
    | 3 => (I x)
    | 4 => (.agg #[.bool lf, .slice q1 b1 e1, .slice q2 b2 e2, .slice q3 b3 e3])
    | 5 => (I y)
    | 6 => (.agg #[I x, I y])
    | 7 => (.pointer (some ⟨G, 0 + k * 2, none⟩))
    | 8 => undef
    | _ => undef
  have hosz : ops.size = 9 := by
    have := congrArg List.length htab
    simpa [raeT] using this
  have hds : ∀ i s, (raeT[i]?).bind (·.2.1) = some s → dstOf ops i = some s := fun i s hi => by rw [tab_dst htab, hi]
  have hdisB : disL raeT = true := by rfl
  have hdis := disL_of htab hdisB
  have hold : ∀ s, raeT.all (fun x => !(x.2.1 == some s)) = true → (List.range ops.size).all (fun j => !(dstOf ops j == some s)) = true := fun s h => holdL htab s h
  refine region_detL val Wd (hac_of hac) hdis h0 ?_ ?_
  rotate_left
  · intro L W hall hW
    have := hend L W (by rw [← hosz]; exact hall) hW
    have e : frm ops a0 val (fun _ => true) ops.size = ((((((((a0.put (some 31) (.slice (some ⟨G, 0, none⟩) n n)).put (some 32) (.int .i64 (k : Int))).put (some 33) (.agg #[.bool lf, .slice p1 a1 d1, .slice p2 a2 d2, .slice p3 a3 d3])).put (some 34) (I x)).put (some 35) (.agg #[.bool lf, .slice q1 b1 e1, .slice q2 b2 e2, .slice q3 b3 e3])).put (some 36) (I y)).put (some 37) (.agg #[I x, I y])).put (some 38) (.pointer (some ⟨G, 0 + k * 2, none⟩))) := by
      rw [hosz]
      simp only [frm, if_true]
      rw [tab_dst htab 0, tab_dst htab 1, tab_dst htab 2, tab_dst htab 3, tab_dst htab 4, tab_dst htab 5, tab_dst htab 6, tab_dst htab 7, (show dstOf ops 8 = none from (tab_dst htab 8).trans rfl), put_none]
      rfl
    rw [e]
    exact this
  intro i o ho L a w' hL hd ha hW
  have hi : i < 9 := by rw [← hosz]; exact (Array.getElem?_eq_some_iff.1 ho).1
  match i, ho, hL, hi with
  | 0, ho, hL, _ =>
    obtain ⟨hop, hdst, hgd⟩ := tab_at htab ho (show raeT[0]? = _ from rfl)
    simp only at hop hgd
    have h0 := frm_old ha 4 _ (hold 4 rfl) o4
    exact doesL_run ho (wanted_none hgd) (hpure 0 (by decide) L w' hW) (by rw [run_move _ _ _ hop]; exact congrArg (fun v => Result.ok (Next.value v) w') (eval_of h0))
  | 1, ho, hL, _ =>
    obtain ⟨hop, hdst, hgd⟩ := tab_at htab ho (show raeT[1]? = _ from rfl)
    simp only at hop hgd
    have h0 := frm_old ha 5 _ (hold 5 rfl) o5
    exact doesL_run ho (wanted_none hgd) (hpure 1 (by decide) L w' hW) (by rw [run_move _ _ _ hop]; exact congrArg (fun v => Result.ok (Next.value v) w') (eval_of h0))
  | 2, ho, hL, _ =>
    obtain ⟨hop, hdst, hgd⟩ := tab_at htab ho (show raeT[2]? = _ from rfl)
    simp only at hop hgd
    have h0 := frm_old ha 6 _ (hold 6 rfl) o6
    exact doesL_run ho (wanted_none hgd) (hpure 2 (by decide) L w' hW) (run_ld25 _ _ _ hop _ _ _ _ _ (eval_of h0) _ (l2 L w' hW).1 (l2 L w' hW).2.1 (l2 L w' hW).2.2.1 (l2 L w' hW).2.2.2)
  | 3, ho, hL, _ =>
    obtain ⟨hop, hdst, hgd⟩ := tab_at htab ho (show raeT[3]? = _ from rfl)
    simp only at hop hgd
    have h0 := frm_at hdis ha 2 33 (hds 2 33 rfl) (by omega) (depl_of hdep 3 2 (by decide) ho hd)
    refine doesL_call ho (wanted_none hgd) 43 #[.agg #[.bool lf, .slice p1 a1 d1, .slice p2 a2 d2, .slice p3 a3 d3]] ?_ (c3 L w' hW hL)
    rw [run_calls Tryz.func43 (by kernel_rfl) rfl _ _ _ _ hop rfl]
    simp only [List.map_toArray, List.map_cons, List.map_nil, eval_of h0]
    all_goals rfl
  | 4, ho, hL, _ =>
    obtain ⟨hop, hdst, hgd⟩ := tab_at htab ho (show raeT[4]? = _ from rfl)
    simp only at hop hgd
    have h0 := frm_old ha 7 _ (hold 7 rfl) o7
    exact doesL_run ho (wanted_none hgd) (hpure 4 (by decide) L w' hW) (run_ld25 _ _ _ hop _ _ _ _ _ (eval_of h0) _ (l4 L w' hW).1 (l4 L w' hW).2.1 (l4 L w' hW).2.2.1 (l4 L w' hW).2.2.2)
  | 5, ho, hL, _ =>
    obtain ⟨hop, hdst, hgd⟩ := tab_at htab ho (show raeT[5]? = _ from rfl)
    simp only at hop hgd
    have h0 := frm_at hdis ha 4 35 (hds 4 35 rfl) (by omega) (depl_of hdep 5 4 (by decide) ho hd)
    refine doesL_call ho (wanted_none hgd) 43 #[.agg #[.bool lf, .slice q1 b1 e1, .slice q2 b2 e2, .slice q3 b3 e3]] ?_ (c5 L w' hW hL)
    rw [run_calls Tryz.func43 (by kernel_rfl) rfl _ _ _ _ hop rfl]
    simp only [List.map_toArray, List.map_cons, List.map_nil, eval_of h0]
    all_goals rfl
  | 6, ho, hL, _ =>
    obtain ⟨hop, hdst, hgd⟩ := tab_at htab ho (show raeT[6]? = _ from rfl)
    simp only at hop hgd
    have h0 := frm_at hdis ha 3 34 (hds 3 34 rfl) (by omega) (depl_of hdep 6 3 (by decide) ho hd)
    have h1 := frm_at hdis ha 5 36 (hds 5 36 rfl) (by omega) (depl_of hdep 6 5 (by decide) ho hd)
    exact doesL_run ho (wanted_none hgd) (hpure 6 (by decide) L w' hW) (run_build114 _ _ _ _ hop _ _ (eval_of h0) (eval_of h1) _)
  | 7, ho, hL, _ =>
    obtain ⟨hop, hdst, hgd⟩ := tab_at htab ho (show raeT[7]? = _ from rfl)
    simp only at hop hgd
    have h0 := frm_at hdis ha 0 31 (hds 0 31 rfl) (by omega) (depl_of hdep 7 0 (by decide) ho hd)
    have h1 := frm_at hdis ha 1 32 (hds 1 32 rfl) (by omega) (depl_of hdep 7 1 (by decide) ho hd)
    exact doesL_run ho (wanted_none hgd) (hpure 7 (by decide) L w' hW) (run_ia111 _ _ _ _ hop _ _ _ _ _ hk (eval_of h0) (eval_of h1) _)
  | 8, ho, hL, _ =>
    obtain ⟨hop, hdst, hgd⟩ := tab_at htab ho (show raeT[8]? = _ from rfl)
    simp only at hop hgd
    have h0 := frm_at hdis ha 7 38 (hds 7 38 rfl) (by omega) (depl_of hdep 8 7 (by decide) ho hd)
    have h1 := frm_at hdis ha 6 37 (hds 6 37 rfl) (by omega) (depl_of hdep 8 6 (by decide) ho hd)
    obtain ⟨s1, s2⟩ := n8 L w' hW hL (depl_of hdep 8 6 (by decide) ho hd) (depl_of hdep 8 7 (by decide) ho hd)
    exact doesL_skp ho (wanted_none hgd) rfl s1 (run_st114 _ _ _ _ hop _ _ _ _ (eval_of h0) (eval_of h1) _ s2 ⟨rfl, rfl⟩)
  | (i + 9), ho, hL, hi => exact absurd hi (by omega)
end Go.Proofs.YtllialbdofklgaaGreatDoor
