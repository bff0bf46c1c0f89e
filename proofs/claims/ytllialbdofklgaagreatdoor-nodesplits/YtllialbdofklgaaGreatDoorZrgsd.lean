import Derived.Test.YtllialbdofklgaaGreatDoorZrgnd
import Derived.Test.YtllialbdofklgaaGreatDoorZndg
namespace Go.Proofs.YtllialbdofklgaaGreatDoor
open Go.RowKit
theorem run_ld25 (ρ : Operand → Value) (o : Oper) (x : Operand) (ho : o.op = .load 25 x) (g : Nat) (v0 v1 v2 v3 : Value) (ha : ρ x = .pointer (some ⟨g, 0, none⟩)) (w : World) (h0 : w.cell? ⟨g, 0, none⟩ = some v0) (h1 : w.cell? ⟨g, 1, none⟩ = some v1) (h2 : w.cell? ⟨g, 2, none⟩ = some v2) (h3 : w.cell? ⟨g, 3, none⟩ = some v3) : (execOp ρ o).run Tryz.prog w = .ok (.value (.agg #[v0, v1, v2, v3])) w := by
  unfold execOp
  simp only [ho, ha]
  simp [Instr.loadAt, go_sem, h0, h1, h2, h3, Tryz.isAgg25]
theorem run_len22b (ρ : Operand → Value) (o : Oper) (x : Operand) (ho : o.op = .call { callee := .builtin .len, args := #[x], argTypes := #[22] }) (p : Option Addr) (n c : Nat) (hx : ρ x = .slice p n c) (w : World) : (execOp ρ o).run Tryz.prog w = .ok (.value (I n)) w := by
  unfold execOp
  simp only [ho]
  simp [go_sem, hx]
def rsdT : List (Op × Option Tmp × Option (Nat × Bool)) := [
  (.load 25 (.tmp 2), some 13, none),
  (.move (.tmp 1), some 14, none),
  (.call { callee := .value (.func 99), args := #[(.tmp 13), (.const (.int .i64 0)), (.tmp 14)], argTypes := #[25, 3, 3] }, some 15, none),
  (.load 25 (.tmp 2), some 16, none),
  (.move (.tmp 6), some 17, none),
  (.fieldAddr 25 (.tmp 2) 1, some 18, none),
  (.load 22 (.tmp 18), some 19, none),
  (.call { callee := .builtin .len, args := #[(.tmp 19)], argTypes := #[22] }, some 20, none),
  (.call { callee := .value (.func 99), args := #[(.tmp 16), (.tmp 17), (.tmp 20)], argTypes := #[25, 3, 3] }, some 21, none),
  (.store 25 (.tmp 4) (.tmp 15), none, none),
  (.store 25 (.tmp 5) (.tmp 21), none, none)]
def rsdD : List (Nat × Nat) := [(2, 0), (2, 1), (6, 5), (7, 6), (8, 3), (8, 4), (8, 7), (9, 2), (10, 8)]
set_option maxHeartbeats 2000000 in
theorem rsd {ops : Array Oper} {id : Nat} {Q : Exit → Act → World → Prop} (X A D m kc vl vc il ic ii be a1 a2 a3 b1 b2 b3 d1 d2 d3 e1 e2 e3 : Nat) (ka va ia p1 p2 p3 q1 q2 q3 : Option Addr) (lf : Bool) (htab : ops.toList.map (fun o => (o.op, o.dst, o.guard)) = rsdT) (hdep : deplB rsdD ops = true) (hac : acB ops = true)
    (a0 : Act) (w : World) (hsz : 22 ≤ a0.tmps.size) (o1 : a0.tmps[1]? = some (I ii)) (o2 : a0.tmps[2]? = some (.pointer (some ⟨X, 0, none⟩))) (o4 : a0.tmps[4]? = some (.pointer (some ⟨A, 0, none⟩))) (o5 : a0.tmps[5]? = some (.pointer (some ⟨D, 0, none⟩))) (o6 : a0.tmps[6]? = some (I be))
    (Wd : (Nat → Bool) → World → Prop) (h0 : Wd (fun _ => false) w.drew) (hpure : ∀ i, i ∉ ([2, 8, 9, 10] : List Nat) → ∀ L W, Wd L W → Wd (upd L i) W)
    (l0 : ∀ L W, Wd L W → W.cell? ⟨X, 0, none⟩ = some (.bool lf) ∧ W.cell? ⟨X, 1, none⟩ = some (.slice ka m kc) ∧ W.cell? ⟨X, 2, none⟩ = some (.slice va vl vc) ∧ W.cell? ⟨X, 3, none⟩ = some (.slice ia il ic))
    (l3 : ∀ L W, Wd L W → W.cell? ⟨X, 0, none⟩ = some (.bool lf) ∧ W.cell? ⟨X, 1, none⟩ = some (.slice ka m kc) ∧ W.cell? ⟨X, 2, none⟩ = some (.slice va vl vc) ∧ W.cell? ⟨X, 3, none⟩ = some (.slice ia il ic))
    (l6 : ∀ L W, Wd L W → W.cell? ⟨X, 0 + 1, none⟩ = some (.slice ka m kc))
    (c2 : ∀ L W, Wd L W → L 2 = false → Calls Tryz.prog 99 #[(.agg #[.bool lf, .slice ka m kc, .slice va vl vc, .slice ia il ic]), I 0, I ii] W fun e w' => e = .returned (.agg #[.bool lf, .slice p1 a1 d1, .slice p2 a2 d2, .slice p3 a3 d3]) ∧ Wd (upd L 2) w')
    (c8 : ∀ L W, Wd L W → L 8 = false → Calls Tryz.prog 99 #[(.agg #[.bool lf, .slice ka m kc, .slice va vl vc, .slice ia il ic]), I be, I m] W fun e w' => e = .returned (.agg #[.bool lf, .slice q1 b1 e1, .slice q2 b2 e2, .slice q3 b3 e3]) ∧ Wd (upd L 8) w')
    (n9 : ∀ L W, Wd L W → L 9 = false → L 2 = true → Wd (upd L 9) ((((W.setCell ⟨A, 0, none⟩ (.bool lf)).setCell ⟨A, 1, none⟩ (.slice p1 a1 d1)).setCell ⟨A, 2, none⟩ (.slice p2 a2 d2)).setCell ⟨A, 3, none⟩ (.slice p3 a3 d3)) ∧ W.heap[A]? = some (.cells #[.bool false, .slice none 0 0, .slice none 0 0, .slice none 0 0] 25 (0, 0)))
    (n10 : ∀ L W, Wd L W → L 10 = false → L 8 = true → Wd (upd L 10) ((((W.setCell ⟨D, 0, none⟩ (.bool lf)).setCell ⟨D, 1, none⟩ (.slice q1 b1 e1)).setCell ⟨D, 2, none⟩ (.slice q2 b2 e2)).setCell ⟨D, 3, none⟩ (.slice q3 b3 e3)) ∧ W.heap[D]? = some (.cells #[.bool false, .slice none 0 0, .slice none 0 0, .slice none 0 0] 25 (0, 0)))
    (hend : ∀ L W, (∀ i, i < 11 → L i = true) → Wd L W → Q .normal (((((((((a0.put (some 13) (.agg #[.bool lf, .slice ka m kc, .slice va vl vc, .slice ia il ic])).put (some 14) (I ii)).put (some 15) (.agg #[.bool lf, .slice p1 a1 d1, .slice p2 a2 d2, .slice p3 a3 d3])).put (some 16) (.agg #[.bool lf, .slice ka m kc, .slice va vl vc, .slice ia il ic])).put (some 17) (I be)).put (some 18) (.pointer (some ⟨X, 0 + 1, none⟩))).put (some 19) (.slice ka m kc)).put (some 20) (I m)).put (some 21) (.agg #[.bool lf, .slice q1 b1 e1, .slice q2 b2 e2, .slice q3 b3 e3])) W) : (Code.region id ops true).wp Tryz.prog Q a0 w := by
  let val : Nat → Value := fun i => match i with
    | 0 => (.agg #[.bool lf, .slice ka m kc, .slice va vl vc, .slice ia il ic])
    | 1 => (I ii)
    | 2 => (.agg #[.bool lf, .slice p1 a1 d1, .slice p2 a2 d2, .slice p3 a3 d3])
    | 3 => (.agg #[.bool lf, .slice ka m kc, .slice va vl vc, .slice ia il ic])
    | 4 => (I be)
    | 5 => (.pointer (some ⟨X, 0 + 1, none⟩))
    | 6 => (.slice ka m kc)
    | 7 => (I m)
    | 8 => (.agg #[.bool lf, .slice q1 b1 e1, .slice q2 b2 e2, .slice q3 b3 e3])
    | 9 => undef
    | 10 => undef
    | _ => undef
  have hosz : ops.size = 11 := by
    have := congrArg List.length htab
    simpa [rsdT] using this
  have hds : ∀ i s, (rsdT[i]?).bind (·.2.1) = some s → dstOf ops i = some s := fun i s hi => by rw [tab_dst htab, hi]
  have hdisB : disL rsdT = true := by rfl
  have hdis := disL_of htab hdisB
  have hold : ∀ s, rsdT.all (fun x => !(x.2.1 == some s)) = true → (List.range ops.size).all (fun j => !(dstOf ops j == some s)) = true := fun s h => holdL htab s h
  refine region_detL val Wd (hac_of hac) hdis h0 ?_ ?_
  rotate_left
  · intro L W hall hW
    have := hend L W (by rw [← hosz]; exact hall) hW
    have e : frm ops a0 val (fun _ => true) ops.size = (((((((((a0.put (some 13) (.agg #[.bool lf, .slice ka m kc, .slice va vl vc, .slice ia il ic])).put (some 14) (I ii)).put (some 15) (.agg #[.bool lf, .slice p1 a1 d1, .slice p2 a2 d2, .slice p3 a3 d3])).put (some 16) (.agg #[.bool lf, .slice ka m kc, .slice va vl vc, .slice ia il ic])).put (some 17) (I be)).put (some 18) (.pointer (some ⟨X, 0 + 1, none⟩))).put (some 19) (.slice ka m kc)).put (some 20) (I m)).put (some 21) (.agg #[.bool lf, .slice q1 b1 e1, .slice q2 b2 e2, .slice q3 b3 e3])) := by
      rw [hosz]
      simp only [frm, if_true]
      rw [tab_dst htab 0, tab_dst htab 1, tab_dst htab 2, tab_dst htab 3, tab_dst htab 4, tab_dst htab 5, tab_dst htab 6, tab_dst htab 7, tab_dst htab 8, (show dstOf ops 9 = none from (tab_dst htab 9).trans rfl), put_none, (show dstOf ops 10 = none from (tab_dst htab 10).trans rfl), put_none]
      rfl
    rw [e]
    exact this
  intro i o ho L a w' hL hd ha hW
  have hi : i < 11 := by rw [← hosz]; exact (Array.getElem?_eq_some_iff.1 ho).1
  match i, ho, hL, hi with
  | 0, ho, hL, _ =>
    obtain ⟨hop, hdst, hgd⟩ := tab_at htab ho (show rsdT[0]? = _ from rfl)
    simp only at hop hgd
    have h0 := frm_old ha 2 _ (hold 2 rfl) o2
    exact doesL_run ho (wanted_none hgd) (hpure 0 (by decide) L w' hW) (run_ld25 _ _ _ hop _ _ _ _ _ (eval_of h0) _ (l0 L w' hW).1 (l0 L w' hW).2.1 (l0 L w' hW).2.2.1 (l0 L w' hW).2.2.2)
  | 1, ho, hL, _ =>
    obtain ⟨hop, hdst, hgd⟩ := tab_at htab ho (show rsdT[1]? = _ from rfl)
    simp only at hop hgd
    have h0 := frm_old ha 1 _ (hold 1 rfl) o1
    exact doesL_run ho (wanted_none hgd) (hpure 1 (by decide) L w' hW) (by rw [run_move _ _ _ hop]; exact congrArg (fun v => Result.ok (Next.value v) w') (eval_of h0))
  | 2, ho, hL, _ =>
    obtain ⟨hop, hdst, hgd⟩ := tab_at htab ho (show rsdT[2]? = _ from rfl)
    simp only at hop hgd
    have h0 := frm_at hdis ha 0 13 (hds 0 13 rfl) (by omega) (depl_of hdep 2 0 (by decide) ho hd)
    have h2 := frm_at hdis ha 1 14 (hds 1 14 rfl) (by omega) (depl_of hdep 2 1 (by decide) ho hd)
    refine doesL_call ho (wanted_none hgd) 99 #[.agg #[.bool lf, .slice ka m kc, .slice va vl vc, .slice ia il ic], I 0, I ii] ?_ (c2 L w' hW hL)
    rw [run_calls Tryz.func99 (by kernel_rfl) rfl _ _ _ _ hop rfl]
    simp only [List.map_toArray, List.map_cons, List.map_nil, eval_of h0, eval_of h2]
    all_goals rfl
  | 3, ho, hL, _ =>
    obtain ⟨hop, hdst, hgd⟩ := tab_at htab ho (show rsdT[3]? = _ from rfl)
    simp only at hop hgd
    have h0 := frm_old ha 2 _ (hold 2 rfl) o2
    exact doesL_run ho (wanted_none hgd) (hpure 3 (by decide) L w' hW) (run_ld25 _ _ _ hop _ _ _ _ _ (eval_of h0) _ (l3 L w' hW).1 (l3 L w' hW).2.1 (l3 L w' hW).2.2.1 (l3 L w' hW).2.2.2)
  | 4, ho, hL, _ =>
    obtain ⟨hop, hdst, hgd⟩ := tab_at htab ho (show rsdT[4]? = _ from rfl)
    simp only at hop hgd
    have h0 := frm_old ha 6 _ (hold 6 rfl) o6
    exact doesL_run ho (wanted_none hgd) (hpure 4 (by decide) L w' hW) (by rw [run_move _ _ _ hop]; exact congrArg (fun v => Result.ok (Next.value v) w') (eval_of h0))
  | 5, ho, hL, _ =>
    obtain ⟨hop, hdst, hgd⟩ := tab_at htab ho (show rsdT[5]? = _ from rfl)
    simp only at hop hgd
    have h0 := frm_old ha 2 _ (hold 2 rfl) o2
    exact doesL_run ho (wanted_none hgd) (hpure 5 (by decide) L w' hW) (run_f25_1 _ _ _ hop _ _ (eval_of h0) _)
  | 6, ho, hL, _ =>
    obtain ⟨hop, hdst, hgd⟩ := tab_at htab ho (show rsdT[6]? = _ from rfl)
    simp only at hop hgd
    have h0 := frm_at hdis ha 5 18 (hds 5 18 rfl) (by omega) (depl_of hdep 6 5 (by decide) ho hd)
    exact doesL_run ho (wanted_none hgd) (hpure 6 (by decide) L w' hW) (run_ld22 _ _ _ hop _ _ (eval_of h0) _ (l6 L w' hW))
  | 7, ho, hL, _ =>
    obtain ⟨hop, hdst, hgd⟩ := tab_at htab ho (show rsdT[7]? = _ from rfl)
    simp only at hop hgd
    have h0 := frm_at hdis ha 6 19 (hds 6 19 rfl) (by omega) (depl_of hdep 7 6 (by decide) ho hd)
    exact doesL_run ho (wanted_none hgd) (hpure 7 (by decide) L w' hW) (run_len22b _ _ _ hop _ _ _ (eval_of h0) _)
  | 8, ho, hL, _ =>
    obtain ⟨hop, hdst, hgd⟩ := tab_at htab ho (show rsdT[8]? = _ from rfl)
    simp only at hop hgd
    have h0 := frm_at hdis ha 3 16 (hds 3 16 rfl) (by omega) (depl_of hdep 8 3 (by decide) ho hd)
    have h1 := frm_at hdis ha 4 17 (hds 4 17 rfl) (by omega) (depl_of hdep 8 4 (by decide) ho hd)
    have h2 := frm_at hdis ha 7 20 (hds 7 20 rfl) (by omega) (depl_of hdep 8 7 (by decide) ho hd)
    refine doesL_call ho (wanted_none hgd) 99 #[.agg #[.bool lf, .slice ka m kc, .slice va vl vc, .slice ia il ic], I be, I m] ?_ (c8 L w' hW hL)
    rw [run_calls Tryz.func99 (by kernel_rfl) rfl _ _ _ _ hop rfl]
    simp only [List.map_toArray, List.map_cons, List.map_nil, eval_of h0, eval_of h1, eval_of h2]
    all_goals rfl
  | 9, ho, hL, _ =>
    obtain ⟨hop, hdst, hgd⟩ := tab_at htab ho (show rsdT[9]? = _ from rfl)
    simp only at hop hgd
    have h0 := frm_old ha 4 _ (hold 4 rfl) o4
    have h1 := frm_at hdis ha 2 15 (hds 2 15 rfl) (by omega) (depl_of hdep 9 2 (by decide) ho hd)
    obtain ⟨s1, s2⟩ := n9 L w' hW hL (depl_of hdep 9 2 (by decide) ho hd)
    exact doesL_skp ho (wanted_none hgd) rfl s1 (run_st25 _ _ _ _ hop _ _ _ _ _ (eval_of h0) (eval_of h1) _ _ _ _ _ s2 ⟨rfl, rfl, rfl, rfl⟩)
  | 10, ho, hL, _ =>
    obtain ⟨hop, hdst, hgd⟩ := tab_at htab ho (show rsdT[10]? = _ from rfl)
    simp only at hop hgd
    have h0 := frm_old ha 5 _ (hold 5 rfl) o5
    have h1 := frm_at hdis ha 8 21 (hds 8 21 rfl) (by omega) (depl_of hdep 10 8 (by decide) ho hd)
    obtain ⟨s1, s2⟩ := n10 L w' hW hL (depl_of hdep 10 8 (by decide) ho hd)
    exact doesL_skp ho (wanted_none hgd) rfl s1 (run_st25 _ _ _ _ hop _ _ _ _ _ (eval_of h0) (eval_of h1) _ _ _ _ _ s2 ⟨rfl, rfl, rfl, rfl⟩)
  | (i + 11), ho, hL, hi => exact absurd hi (by omega)
end Go.Proofs.YtllialbdofklgaaGreatDoor
namespace Go.Proofs.YtllialbdofklgaaGreatDoor
open Go.RowKit
theorem run_build114 (ρ : Operand → Value) (o : Oper) (a b : Operand) (ho : o.op = .build 114 #[(0, a), (1, b)]) (x y : Int) (ha : ρ a = I x) (hb : ρ b = I y) (w : World) : (execOp ρ o).run Tryz.prog w = .ok (.value (.agg #[I x, I y])) w := by
  unfold execOp
  simp only [ho]
  simp [go_sem, ha, hb]
theorem run_ia111 (ρ : Operand → Value) (o : Oper) (x y : Operand) (ho : o.op = .indexAddr 111 x y) (g q n cap k : Nat) (hk : k < n) (hx : ρ x = .slice (some ⟨g, q, none⟩) n cap) (hy : ρ y = .int .i64 (k : Int)) (w : World) : (execOp ρ o).run Tryz.prog w = .ok (.value (.pointer (some ⟨g, q + k * 2, none⟩))) w := by
  unfold execOp
  simp only [ho, hx, hy]
  have h1 : (k : Int) < (n : Int) := by omega
  have u := Tryz.underlying111
  have z := Tryz.sizeOf114
  simp [go_sem, u, z, h1]
theorem run_st114 (ρ : Operand → Value) (o : Oper) (x y : Operand) (ho : o.op = .store 114 x y) (g q : Nat) (a b : Value) (ha : ρ x = .pointer (some ⟨g, q, none⟩)) (hy : ρ y = .agg #[a, b]) (w : World) (h : ∃ cs : Array Value, w.heap[g]? = some (.cells cs 114 (0, 0)) ∧ q + 1 < cs.size) (h1 : a.oneCell' = true ∧ b.oneCell' = true) : (execOp ρ o).run Tryz.prog w = .ok .skip ((w.setCell ⟨g, q, none⟩ a).setCell ⟨g, q + 1, none⟩ b) := by
  obtain ⟨cs, h, hq⟩ := h
  have q0 := heap_setCell_same w g q _ 114 a h
  have s0 : (store ⟨g, q, none⟩ a).run Tryz.prog w = .ok () (w.setCell ⟨g, q, none⟩ a) := by
    rw [run_store _ _ _ _ _ h1.1, cell_of_row _ g q _ 114 (0, 0) h, Array.getElem?_eq_getElem (show q < cs.size by omega)]
    simp [frozen_of_row _ g q _ 114 h]
  have s1 : (store ⟨g, q + 1, none⟩ b).run Tryz.prog (w.setCell ⟨g, q, none⟩ a) = .ok () ((w.setCell ⟨g, q, none⟩ a).setCell ⟨g, q + 1, none⟩ b) := by
    rw [run_store _ _ _ _ _ h1.2, cell_of_row _ g (q + 1) _ 114 (0, 0) q0, Array.getElem?_eq_getElem (show q + 1 < (cs.setIfInBounds q a).size by simpa using hq)]
    simp [frozen_of_row _ g (q + 1) _ 114 q0]
  unfold execOp
  simp only [ho, ha, hy]
  simp [go_sem, s0, s1, Result.andThen]
def raeT : List (Op × Option Tmp × Option (Nat × Bool)) := [
  (.move (.tmp 4), some 31, none),
  (.move (.tmp 5), some 32, none),
  (.load 25 (.tmp 6), some 33, none),
  (.call { callee := .value (.func 43), args := #[(.tmp 33)], argTypes := #[25] }, some 34, none),
  (.load 25 (.tmp 7), some 35, none),
  (.call { callee := .value (.func 43), args := #[(.tmp 35)], argTypes := #[25] }, some 36, none),
  (.build 114 #[(0, (.tmp 34)), (1, (.tmp 36))], some 37, none),
  (.indexAddr 111 (.tmp 31) (.tmp 32), some 38, none),
  (.store 114 (.tmp 38) (.tmp 37), none, none)]
def raeD : List (Nat × Nat) := [(3, 2), (5, 4), (6, 3), (6, 5), (7, 0), (7, 1), (8, 6), (8, 7)]
set_option maxHeartbeats 2000000 in
theorem rae {ops : Array Oper} {id : Nat} {Q : Exit → Act → World → Prop} (G Y Z n k a1 a2 a3 b1 b2 b3 d1 d2 d3 e1 e2 e3 x y : Nat) (p1 p2 p3 q1 q2 q3 : Option Addr) (lf : Bool) (hk : k < n) (htab : ops.toList.map (fun o => (o.op, o.dst, o.guard)) = raeT) (hdep : deplB raeD ops = true) (hac : acB ops = true)
    (a0 : Act) (w : World) (hsz : 39 ≤ a0.tmps.size) (o4 : a0.tmps[4]? = some (.slice (some ⟨G, 0, none⟩) n n)) (o5 : a0.tmps[5]? = some (.int .i64 (k : Int))) (o6 : a0.tmps[6]? = some (.pointer (some ⟨Y, 0, none⟩))) (o7 : a0.tmps[7]? = some (.pointer (some ⟨Z, 0, none⟩)))
    (Wd : (Nat → Bool) → World → Prop) (h0 : Wd (fun _ => false) w.drew) (hpure : ∀ i, i ∉ ([3, 5, 8] : List Nat) → ∀ L W, Wd L W → Wd (upd L i) W)
    (l2 : ∀ L W, Wd L W → W.cell? ⟨Y, 0, none⟩ = some (.bool lf) ∧ W.cell? ⟨Y, 1, none⟩ = some (.slice p1 a1 d1) ∧ W.cell? ⟨Y, 2, none⟩ = some (.slice p2 a2 d2) ∧ W.cell? ⟨Y, 3, none⟩ = some (.slice p3 a3 d3))
    (l4 : ∀ L W, Wd L W → W.cell? ⟨Z, 0, none⟩ = some (.bool lf) ∧ W.cell? ⟨Z, 1, none⟩ = some (.slice q1 b1 e1) ∧ W.cell? ⟨Z, 2, none⟩ = some (.slice q2 b2 e2) ∧ W.cell? ⟨Z, 3, none⟩ = some (.slice q3 b3 e3))
    (c3 : ∀ L W, Wd L W → L 3 = false → Calls Tryz.prog 43 #[(.agg #[.bool lf, .slice p1 a1 d1, .slice p2 a2 d2, .slice p3 a3 d3])] W fun e w' => e = .returned (I x) ∧ Wd (upd L 3) w')
    (c5 : ∀ L W, Wd L W → L 5 = false → Calls Tryz.prog 43 #[(.agg #[.bool lf, .slice q1 b1 e1, .slice q2 b2 e2, .slice q3 b3 e3])] W fun e w' => e = .returned (I y) ∧ Wd (upd L 5) w')
    (n8 : ∀ L W, Wd L W → L 8 = false → L 6 = true → L 7 = true → Wd (upd L 8) ((W.setCell ⟨G, 0 + k * 2, none⟩ (I x)).setCell ⟨G, 0 + k * 2 + 1, none⟩ (I y)) ∧ ∃ cs : Array Value, W.heap[G]? = some (.cells cs 114 (0, 0)) ∧ 0 + k * 2 + 1 < cs.size)
    (hend : ∀ L W, (∀ i, i < 9 → L i = true) → Wd L W → Q .normal ((((((((a0.put (some 31) (.slice (some ⟨G, 0, none⟩) n n)).put (some 32) (.int .i64 (k : Int))).put (some 33) (.agg #[.bool lf, .slice p1 a1 d1, .slice p2 a2 d2, .slice p3 a3 d3])).put (some 34) (I x)).put (some 35) (.agg #[.bool lf, .slice q1 b1 e1, .slice q2 b2 e2, .slice q3 b3 e3])).put (some 36) (I y)).put (some 37) (.agg #[I x, I y])).put (some 38) (.pointer (some ⟨G, 0 + k * 2, none⟩))) W) : (Code.region id ops true).wp Tryz.prog Q a0 w := by
  let val : Nat → Value := fun i => match i with
    | 0 => (.slice (some ⟨G, 0, none⟩) n n)
    | 1 => (.int .i64 (k : Int))
    | 2 => (.agg #[.bool lf, .slice p1 a1 d1, .slice p2 a2 d2, .slice p3 a3 d3])
    | 3 => (I x)
    | 4 => (.agg #[.bool lf, .slice q1 b1 e1, .slice q2 b2 e2, .slice q3 b3 e3])
    | 5 => (I y)
    | 6 => (.agg #[I x, I y])
    | 7 => (.pointer (some ⟨G, 0 + k * 2, none⟩))
    | 8 => undef
    | _ => undef
  have hosz : ops.size = 9 := by
    have := congrArg List.length htab
    simpa [raeT] using this
  have hds : ∀ i s, (raeT[i]?).bind (·.2.1) = some s → dstOf ops i = some s := fun i s hi => by rw [tab_dst htab, hi]
  have hdisB : disL raeT = true := by rfl
  have hdis := disL_of htab hdisB
  have hold : ∀ s, raeT.all (fun x => !(x.2.1 == some s)) = true → (List.range ops.size).all (fun j => !(dstOf ops j == some s)) = true := fun s h => holdL htab s h
  refine region_detL val Wd (hac_of hac) hdis h0 ?_ ?_
  rotate_left
  · intro L W hall hW
    have := hend L W (by rw [← hosz]; exact hall) hW
    have e : frm ops a0 val (fun _ => true) ops.size = ((((((((a0.put (some 31) (.slice (some ⟨G, 0, none⟩) n n)).put (some 32) (.int .i64 (k : Int))).put (some 33) (.agg #[.bool lf, .slice p1 a1 d1, .slice p2 a2 d2, .slice p3 a3 d3])).put (some 34) (I x)).put (some 35) (.agg #[.bool lf, .slice q1 b1 e1, .slice q2 b2 e2, .slice q3 b3 e3])).put (some 36) (I y)).put (some 37) (.agg #[I x, I y])).put (some 38) (.pointer (some ⟨G, 0 + k * 2, none⟩))) := by
      rw [hosz]
      simp only [frm, if_true]
      rw [tab_dst htab 0, tab_dst htab 1, tab_dst htab 2, tab_dst htab 3, tab_dst htab 4, tab_dst htab 5, tab_dst htab 6, tab_dst htab 7, (show dstOf ops 8 = none from (tab_dst htab 8).trans rfl), put_none]
      rfl
    rw [e]
    exact this
  intro i o ho L a w' hL hd ha hW
  have hi : i < 9 := by rw [← hosz]; exact (Array.getElem?_eq_some_iff.1 ho).1
  match i, ho, hL, hi with
  | 0, ho, hL, _ =>
    obtain ⟨hop, hdst, hgd⟩ := tab_at htab ho (show raeT[0]? = _ from rfl)
    simp only at hop hgd
    have h0 := frm_old ha 4 _ (hold 4 rfl) o4
    exact doesL_run ho (wanted_none hgd) (hpure 0 (by decide) L w' hW) (by rw [run_move _ _ _ hop]; exact congrArg (fun v => Result.ok (Next.value v) w') (eval_of h0))
  | 1, ho, hL, _ =>
    obtain ⟨hop, hdst, hgd⟩ := tab_at htab ho (show raeT[1]? = _ from rfl)
    simp only at hop hgd
    have h0 := frm_old ha 5 _ (hold 5 rfl) o5
    exact doesL_run ho (wanted_none hgd) (hpure 1 (by decide) L w' hW) (by rw [run_move _ _ _ hop]; exact congrArg (fun v => Result.ok (Next.value v) w') (eval_of h0))
  | 2, ho, hL, _ =>
    obtain ⟨hop, hdst, hgd⟩ := tab_at htab ho (show raeT[2]? = _ from rfl)
    simp only at hop hgd
    have h0 := frm_old ha 6 _ (hold 6 rfl) o6
    exact doesL_run ho (wanted_none hgd) (hpure 2 (by decide) L w' hW) (run_ld25 _ _ _ hop _ _ _ _ _ (eval_of h0) _ (l2 L w' hW).1 (l2 L w' hW).2.1 (l2 L w' hW).2.2.1 (l2 L w' hW).2.2.2)
  | 3, ho, hL, _ =>
    obtain ⟨hop, hdst, hgd⟩ := tab_at htab ho (show raeT[3]? = _ from rfl)
    simp only at hop hgd
    have h0 := frm_at hdis ha 2 33 (hds 2 33 rfl) (by omega) (depl_of hdep 3 2 (by decide) ho hd)
    refine doesL_call ho (wanted_none hgd) 43 #[.agg #[.bool lf, .slice p1 a1 d1, .slice p2 a2 d2, .slice p3 a3 d3]] ?_ (c3 L w' hW hL)
    rw [run_calls Tryz.func43 (by kernel_rfl) rfl _ _ _ _ hop rfl]
    simp only [List.map_toArray, List.map_cons, List.map_nil, eval_of h0]
    all_goals rfl
  | 4, ho, hL, _ =>
    obtain ⟨hop, hdst, hgd⟩ := tab_at htab ho (show raeT[4]? = _ from rfl)
    simp only at hop hgd
    have h0 := frm_old ha 7 _ (hold 7 rfl) o7
    exact doesL_run ho (wanted_none hgd) (hpure 4 (by decide) L w' hW) (run_ld25 _ _ _ hop _ _ _ _ _ (eval_of h0) _ (l4 L w' hW).1 (l4 L w' hW).2.1 (l4 L w' hW).2.2.1 (l4 L w' hW).2.2.2)
  | 5, ho, hL, _ =>
    obtain ⟨hop, hdst, hgd⟩ := tab_at htab ho (show raeT[5]? = _ from rfl)
    simp only at hop hgd
    have h0 := frm_at hdis ha 4 35 (hds 4 35 rfl) (by omega) (depl_of hdep 5 4 (by decide) ho hd)
    refine doesL_call ho (wanted_none hgd) 43 #[.agg #[.bool lf, .slice q1 b1 e1, .slice q2 b2 e2, .slice q3 b3 e3]] ?_ (c5 L w' hW hL)
    rw [run_calls Tryz.func43 (by kernel_rfl) rfl _ _ _ _ hop rfl]
    simp only [List.map_toArray, List.map_cons, List.map_nil, eval_of h0]
    all_goals rfl
  | 6, ho, hL, _ =>
    obtain ⟨hop, hdst, hgd⟩ := tab_at htab ho (show raeT[6]? = _ from rfl)
    simp only at hop hgd
    have h0 := frm_at hdis ha 3 34 (hds 3 34 rfl) (by omega) (depl_of hdep 6 3 (by decide) ho hd)
    have h1 := frm_at hdis ha 5 36 (hds 5 36 rfl) (by omega) (depl_of hdep 6 5 (by decide) ho hd)
    exact doesL_run ho (wanted_none hgd) (hpure 6 (by decide) L w' hW) (run_build114 _ _ _ _ hop _ _ (eval_of h0) (eval_of h1) _)
  | 7, ho, hL, _ =>
    obtain ⟨hop, hdst, hgd⟩ := tab_at htab ho (show raeT[7]? = _ from rfl)
    simp only at hop hgd
    have h0 := frm_at hdis ha 0 31 (hds 0 31 rfl) (by omega) (depl_of hdep 7 0 (by decide) ho hd)
    have h1 := frm_at hdis ha 1 32 (hds 1 32 rfl) (by omega) (depl_of hdep 7 1 (by decide) ho hd)
    exact doesL_run ho (wanted_none hgd) (hpure 7 (by decide) L w' hW) (run_ia111 _ _ _ _ hop _ _ _ _ _ hk (eval_of h0) (eval_of h1) _)
  | 8, ho, hL, _ =>
    obtain ⟨hop, hdst, hgd⟩ := tab_at htab ho (show raeT[8]? = _ from rfl)
    simp only at hop hgd
    have h0 := frm_at hdis ha 7 38 (hds 7 38 rfl) (by omega) (depl_of hdep 8 7 (by decide) ho hd)
    have h1 := frm_at hdis ha 6 37 (hds 6 37 rfl) (by omega) (depl_of hdep 8 6 (by decide) ho hd)
    obtain ⟨s1, s2⟩ := n8 L w' hW hL (depl_of hdep 8 6 (by decide) ho hd) (depl_of hdep 8 7 (by decide) ho hd)
    exact doesL_skp ho (wanted_none hgd) rfl s1 (run_st114 _ _ _ _ hop _ _ _ _ (eval_of h0) (eval_of h1) _ s2 ⟨rfl, rfl⟩)
  | (i + 9), ho, hL, hi => exact absurd hi (by omega)
end Go.Proofs.YtllialbdofklgaaGreatDoor
namespace Go.Proofs.YtllialbdofklgaaGreatDoor
open Go.RowKit
/-- Where two nodes' lists come to lie. -/
structure Ch6 where
  p1 : Option Addr
  c1 : Nat
  p2 : Option Addr
  c2 : Nat
  p3 : Option Addr
  c3 : Nat
  q1 : Option Addr
  d1 : Nat
  q2 : Option Addr
  d2 : Nat
  q3 : Option Addr
  d3 : Nat
def vsp (kl kc vl vc il ic xl xc yl yc zl zc xm xd ym yd zm zd ii : Nat) (ka va ia xa ya za xb yb zb : Option Addr) (lf : Bool) (key : Bs) (c : Ch6) (i : Nat) : Value := match i with
  | 0 => (.agg #[.bool lf, .slice xa xl xc, .slice ya yl yc, .slice za zl zc])
  | 1 => (.agg #[.bool lf, .slice c.p1 xl c.c1, .slice c.p2 yl c.c2, .slice c.p3 zl c.c3])
  | 2 => (.agg #[.bool lf, .slice ka kl kc, .slice va vl vc, .slice ia il ic])
  | 3 => (I ii)
  | 4 => (S key)
  | 5 => (.agg #[.bool lf, .slice xb xm xd, .slice yb ym yd, .slice zb zm zd])
  | 6 => (.agg #[.bool lf, .slice c.q1 xm c.d1, .slice c.q2 ym c.d2, .slice c.q3 zm c.d3])
  | 7 => undef
  | 8 => (S key)
  | 9 => undef
  | 10 => (.int .i64 0)
  | _ => undef
def rspT : List (Op × Option Tmp × Option (Nat × Bool)) := [
  (.load 25 (.tmp 8), some 25, none),
  (.call { callee := .value (.func 67), args := #[(.tmp 25)], argTypes := #[25] }, some 26, none),
  (.load 25 (.tmp 1), some 27, none),
  (.move (.tmp 7), some 28, none),
  (.call { callee := .value (.func 68), args := #[(.tmp 27), (.tmp 28)], argTypes := #[25, 3] }, some 29, none),
  (.load 25 (.tmp 9), some 30, none),
  (.call { callee := .value (.func 67), args := #[(.tmp 30)], argTypes := #[25] }, some 31, none),
  (.store 25 (.tmp 2) (.tmp 26), none, none),
  (.assign (.tmp 29), some 3, none),
  (.store 25 (.tmp 4) (.tmp 31), none, none),
  (.assign (.const (.int .i64 0)), some 5, none)]
def rspD : List (Nat × Nat) := [(1, 0), (4, 2), (4, 3), (6, 5), (7, 1), (8, 4), (9, 6)]
set_option maxHeartbeats 2000000 in
theorem rsp {ops : Array Oper} {id : Nat} {Q : Exit → Act → World → Prop} (X Y Z A D kl kc vl vc il ic xl xc yl yc zl zc xm xd ym yd zm zd ii : Nat) (ka va ia xa ya za xb yb zb : Option Addr) (lf : Bool) (key : Bs) (htab : ops.toList.map (fun o => (o.op, o.dst, o.guard)) = rspT) (hdep : deplB rspD ops = true) (hac : acB ops = true)
    (a0 : Act) (w : World) (hsz : 32 ≤ a0.tmps.size) (o1 : a0.tmps[1]? = some (.pointer (some ⟨X, 0, none⟩))) (o2 : a0.tmps[2]? = some (.pointer (some ⟨A, 0, none⟩))) (o4 : a0.tmps[4]? = some (.pointer (some ⟨D, 0, none⟩))) (o7 : a0.tmps[7]? = some (I ii)) (o8 : a0.tmps[8]? = some (.pointer (some ⟨Y, 0, none⟩))) (o9 : a0.tmps[9]? = some (.pointer (some ⟨Z, 0, none⟩)))
    (Wd : Ch6 → (Nat → Bool) → World → Prop) (h0 : ∃ c, Wd c (fun _ => false) w.drew) (hpure : ∀ i, i ∉ ([1, 4, 6, 7, 9] : List Nat) → ∀ c L W, Wd c L W → Wd c (upd L i) W)
    (l0 : ∀ c L W, Wd c L W → W.cell? ⟨Y, 0, none⟩ = some (.bool lf) ∧ W.cell? ⟨Y, 1, none⟩ = some (.slice xa xl xc) ∧ W.cell? ⟨Y, 2, none⟩ = some (.slice ya yl yc) ∧ W.cell? ⟨Y, 3, none⟩ = some (.slice za zl zc))
    (l2 : ∀ c L W, Wd c L W → W.cell? ⟨X, 0, none⟩ = some (.bool lf) ∧ W.cell? ⟨X, 1, none⟩ = some (.slice ka kl kc) ∧ W.cell? ⟨X, 2, none⟩ = some (.slice va vl vc) ∧ W.cell? ⟨X, 3, none⟩ = some (.slice ia il ic))
    (l5 : ∀ c L W, Wd c L W → W.cell? ⟨Z, 0, none⟩ = some (.bool lf) ∧ W.cell? ⟨Z, 1, none⟩ = some (.slice xb xm xd) ∧ W.cell? ⟨Z, 2, none⟩ = some (.slice yb ym yd) ∧ W.cell? ⟨Z, 3, none⟩ = some (.slice zb zm zd))
    (c1 : ∀ c L W, Wd c L W → L 1 = false → Calls Tryz.prog 67 #[(.agg #[.bool lf, .slice xa xl xc, .slice ya yl yc, .slice za zl zc])] W fun e w' => ∃ c' : Ch6, (∀ j, L j = true → vsp kl kc vl vc il ic xl xc yl yc zl zc xm xd ym yd zm zd ii ka va ia xa ya za xb yb zb lf key c' j = vsp kl kc vl vc il ic xl xc yl yc zl zc xm xd ym yd zm zd ii ka va ia xa ya za xb yb zb lf key c j) ∧ e = .returned (.agg #[.bool lf, .slice c'.p1 xl c'.c1, .slice c'.p2 yl c'.c2, .slice c'.p3 zl c'.c3]) ∧ Wd c' (upd L 1) w')
    (c4 : ∀ c L W, Wd c L W → L 4 = false → Calls Tryz.prog 68 #[(.agg #[.bool lf, .slice ka kl kc, .slice va vl vc, .slice ia il ic]), I ii] W fun e w' => e = .returned (S key) ∧ Wd c (upd L 4) w')
    (c6 : ∀ c L W, Wd c L W → L 6 = false → Calls Tryz.prog 67 #[(.agg #[.bool lf, .slice xb xm xd, .slice yb ym yd, .slice zb zm zd])] W fun e w' => ∃ c' : Ch6, (∀ j, L j = true → vsp kl kc vl vc il ic xl xc yl yc zl zc xm xd ym yd zm zd ii ka va ia xa ya za xb yb zb lf key c' j = vsp kl kc vl vc il ic xl xc yl yc zl zc xm xd ym yd zm zd ii ka va ia xa ya za xb yb zb lf key c j) ∧ e = .returned (.agg #[.bool lf, .slice c'.q1 xm c'.d1, .slice c'.q2 ym c'.d2, .slice c'.q3 zm c'.d3]) ∧ Wd c' (upd L 6) w')
    (n7 : ∀ c L W, Wd c L W → L 7 = false → L 1 = true → Wd c (upd L 7) ((((W.setCell ⟨A, 0, none⟩ (.bool lf)).setCell ⟨A, 1, none⟩ (.slice c.p1 xl c.c1)).setCell ⟨A, 2, none⟩ (.slice c.p2 yl c.c2)).setCell ⟨A, 3, none⟩ (.slice c.p3 zl c.c3)) ∧ W.heap[A]? = some (.cells #[.bool false, .slice none 0 0, .slice none 0 0, .slice none 0 0] 25 (0, 0)))
    (n9 : ∀ c L W, Wd c L W → L 9 = false → L 6 = true → Wd c (upd L 9) ((((W.setCell ⟨D, 0, none⟩ (.bool lf)).setCell ⟨D, 1, none⟩ (.slice c.q1 xm c.d1)).setCell ⟨D, 2, none⟩ (.slice c.q2 ym c.d2)).setCell ⟨D, 3, none⟩ (.slice c.q3 zm c.d3)) ∧ W.heap[D]? = some (.cells #[.bool false, .slice none 0 0, .slice none 0 0, .slice none 0 0] 25 (0, 0)))
    (hend : ∀ c L W, (∀ i, i < 11 → L i = true) → Wd c L W → Q .normal (((((((((a0.put (some 25) (.agg #[.bool lf, .slice xa xl xc, .slice ya yl yc, .slice za zl zc])).put (some 26) (.agg #[.bool lf, .slice c.p1 xl c.c1, .slice c.p2 yl c.c2, .slice c.p3 zl c.c3])).put (some 27) (.agg #[.bool lf, .slice ka kl kc, .slice va vl vc, .slice ia il ic])).put (some 28) (I ii)).put (some 29) (S key)).put (some 30) (.agg #[.bool lf, .slice xb xm xd, .slice yb ym yd, .slice zb zm zd])).put (some 31) (.agg #[.bool lf, .slice c.q1 xm c.d1, .slice c.q2 ym c.d2, .slice c.q3 zm c.d3])).put (some 3) (S key)).put (some 5) (.int .i64 0)) W) : (Code.region id ops true).wp Tryz.prog Q a0 w := by
  let val : Ch6 → Nat → Value := vsp kl kc vl vc il ic xl xc yl yc zl zc xm xd ym yd zm zd ii ka va ia xa ya za xb yb zb lf key
  have hosz : ops.size = 11 := by
    have := congrArg List.length htab
    simpa [rspT] using this
  have hds : ∀ i s, (rspT[i]?).bind (·.2.1) = some s → dstOf ops i = some s := fun i s hi => by rw [tab_dst htab, hi]
  have hdisB : disL rspT = true := by rfl
  have hdis := disL_of htab hdisB
  have hold : ∀ s, rspT.all (fun x => !(x.2.1 == some s)) = true → (List.range ops.size).all (fun j => !(dstOf ops j == some s)) = true := fun s h => holdL htab s h
  refine region_detX val Wd (hac_of hac) hdis h0 ?_ ?_
  rotate_left
  · intro c L W hall hW
    have := hend c L W (by rw [← hosz]; exact hall) hW
    have e : frm ops a0 (val c) (fun _ => true) ops.size = (((((((((a0.put (some 25) (.agg #[.bool lf, .slice xa xl xc, .slice ya yl yc, .slice za zl zc])).put (some 26) (.agg #[.bool lf, .slice c.p1 xl c.c1, .slice c.p2 yl c.c2, .slice c.p3 zl c.c3])).put (some 27) (.agg #[.bool lf, .slice ka kl kc, .slice va vl vc, .slice ia il ic])).put (some 28) (I ii)).put (some 29) (S key)).put (some 30) (.agg #[.bool lf, .slice xb xm xd, .slice yb ym yd, .slice zb zm zd])).put (some 31) (.agg #[.bool lf, .slice c.q1 xm c.d1, .slice c.q2 ym c.d2, .slice c.q3 zm c.d3])).put (some 3) (S key)).put (some 5) (.int .i64 0)) := by
      rw [hosz]
      simp only [frm, if_true]
      rw [tab_dst htab 0, tab_dst htab 1, tab_dst htab 2, tab_dst htab 3, tab_dst htab 4, tab_dst htab 5, tab_dst htab 6, (show dstOf ops 7 = none from (tab_dst htab 7).trans rfl), put_none, tab_dst htab 8, (show dstOf ops 9 = none from (tab_dst htab 9).trans rfl), put_none, tab_dst htab 10]
      rfl
    rw [e]
    exact this
  intro i o ho c L a w' hL hd ha hW
  have hi : i < 11 := by rw [← hosz]; exact (Array.getElem?_eq_some_iff.1 ho).1
  match i, ho, hL, hi with
  | 0, ho, hL, _ =>
    obtain ⟨hop, hdst, hgd⟩ := tab_at htab ho (show rspT[0]? = _ from rfl)
    simp only at hop hgd
    have h0 := frm_old (val := val c) ha 8 _ (hold 8 rfl) o8
    exact doesX_of (doesL_run ho (wanted_none hgd) (hpure 0 (by decide) c L w' hW) (run_ld25 _ _ _ hop _ _ _ _ _ (eval_of h0) _ (l0 c L w' hW).1 (l0 c L w' hW).2.1 (l0 c L w' hW).2.2.1 (l0 c L w' hW).2.2.2))
  | 1, ho, hL, _ =>
    obtain ⟨hop, hdst, hgd⟩ := tab_at htab ho (show rspT[1]? = _ from rfl)
    simp only at hop hgd
    have h0 := frm_at (val := val c) hdis ha 0 25 (hds 0 25 rfl) (by omega) (depl_of hdep 1 0 (by decide) ho hd)
    refine doesX_call ho (wanted_none hgd) 67 #[.agg #[.bool lf, .slice xa xl xc, .slice ya yl yc, .slice za zl zc]] ?_ (c1 c L w' hW hL)
    rw [run_calls Tryz.func67 (by kernel_rfl) rfl _ _ _ _ hop rfl]
    simp only [List.map_toArray, List.map_cons, List.map_nil, eval_of h0]
    all_goals rfl
  | 2, ho, hL, _ =>
    obtain ⟨hop, hdst, hgd⟩ := tab_at htab ho (show rspT[2]? = _ from rfl)
    simp only at hop hgd
    have h0 := frm_old (val := val c) ha 1 _ (hold 1 rfl) o1
    exact doesX_of (doesL_run ho (wanted_none hgd) (hpure 2 (by decide) c L w' hW) (run_ld25 _ _ _ hop _ _ _ _ _ (eval_of h0) _ (l2 c L w' hW).1 (l2 c L w' hW).2.1 (l2 c L w' hW).2.2.1 (l2 c L w' hW).2.2.2))
  | 3, ho, hL, _ =>
    obtain ⟨hop, hdst, hgd⟩ := tab_at htab ho (show rspT[3]? = _ from rfl)
    simp only at hop hgd
    have h0 := frm_old (val := val c) ha 7 _ (hold 7 rfl) o7
    exact doesX_of (doesL_run ho (wanted_none hgd) (hpure 3 (by decide) c L w' hW) (by rw [run_move _ _ _ hop]; exact congrArg (fun v => Result.ok (Next.value v) w') (eval_of h0)))
  | 4, ho, hL, _ =>
    obtain ⟨hop, hdst, hgd⟩ := tab_at htab ho (show rspT[4]? = _ from rfl)
    simp only at hop hgd
    have h0 := frm_at (val := val c) hdis ha 2 27 (hds 2 27 rfl) (by omega) (depl_of hdep 4 2 (by decide) ho hd)
    have h1 := frm_at (val := val c) hdis ha 3 28 (hds 3 28 rfl) (by omega) (depl_of hdep 4 3 (by decide) ho hd)
    refine doesX_of (doesL_call ho (wanted_none hgd) 68 #[.agg #[.bool lf, .slice ka kl kc, .slice va vl vc, .slice ia il ic], I ii] ?_ (c4 c L w' hW hL))
    rw [run_calls Tryz.func68 (by kernel_rfl) rfl _ _ _ _ hop rfl]
    simp only [List.map_toArray, List.map_cons, List.map_nil, eval_of h0, eval_of h1]
    all_goals rfl
  | 5, ho, hL, _ =>
    obtain ⟨hop, hdst, hgd⟩ := tab_at htab ho (show rspT[5]? = _ from rfl)
    simp only at hop hgd
    have h0 := frm_old (val := val c) ha 9 _ (hold 9 rfl) o9
    exact doesX_of (doesL_run ho (wanted_none hgd) (hpure 5 (by decide) c L w' hW) (run_ld25 _ _ _ hop _ _ _ _ _ (eval_of h0) _ (l5 c L w' hW).1 (l5 c L w' hW).2.1 (l5 c L w' hW).2.2.1 (l5 c L w' hW).2.2.2))
  | 6, ho, hL, _ =>
    obtain ⟨hop, hdst, hgd⟩ := tab_at htab ho (show rspT[6]? = _ from rfl)
    simp only at hop hgd
    have h0 := frm_at (val := val c) hdis ha 5 30 (hds 5 30 rfl) (by omega) (depl_of hdep 6 5 (by decide) ho hd)
    refine doesX_call ho (wanted_none hgd) 67 #[.agg #[.bool lf, .slice xb xm xd, .slice yb ym yd, .slice zb zm zd]] ?_ (c6 c L w' hW hL)
    rw [run_calls Tryz.func67 (by kernel_rfl) rfl _ _ _ _ hop rfl]
    simp only [List.map_toArray, List.map_cons, List.map_nil, eval_of h0]
    all_goals rfl
  | 7, ho, hL, _ =>
    obtain ⟨hop, hdst, hgd⟩ := tab_at htab ho (show rspT[7]? = _ from rfl)
    simp only at hop hgd
    have h0 := frm_old (val := val c) ha 2 _ (hold 2 rfl) o2
    have h1 := frm_at (val := val c) hdis ha 1 26 (hds 1 26 rfl) (by omega) (depl_of hdep 7 1 (by decide) ho hd)
    obtain ⟨s1, s2⟩ := n7 c L w' hW hL (depl_of hdep 7 1 (by decide) ho hd)
    exact doesX_of (doesL_skp ho (wanted_none hgd) rfl s1 (run_st25 _ _ _ _ hop _ _ _ _ _ (eval_of h0) (eval_of h1) _ _ _ _ _ s2 ⟨rfl, rfl, rfl, rfl⟩))
  | 8, ho, hL, _ =>
    obtain ⟨hop, hdst, hgd⟩ := tab_at htab ho (show rspT[8]? = _ from rfl)
    simp only at hop hgd
    have h0 := frm_at (val := val c) hdis ha 4 29 (hds 4 29 rfl) (by omega) (depl_of hdep 8 4 (by decide) ho hd)
    exact doesX_of (doesL_run ho (wanted_none hgd) (hpure 8 (by decide) c L w' hW) (by rw [run_assign _ _ _ hop]; exact congrArg (fun v => Result.ok (Next.value v) w') (eval_of h0)))
  | 9, ho, hL, _ =>
    obtain ⟨hop, hdst, hgd⟩ := tab_at htab ho (show rspT[9]? = _ from rfl)
    simp only at hop hgd
    have h0 := frm_old (val := val c) ha 4 _ (hold 4 rfl) o4
    have h1 := frm_at (val := val c) hdis ha 6 31 (hds 6 31 rfl) (by omega) (depl_of hdep 9 6 (by decide) ho hd)
    obtain ⟨s1, s2⟩ := n9 c L w' hW hL (depl_of hdep 9 6 (by decide) ho hd)
    exact doesX_of (doesL_skp ho (wanted_none hgd) rfl s1 (run_st25 _ _ _ _ hop _ _ _ _ _ (eval_of h0) (eval_of h1) _ _ _ _ _ s2 ⟨rfl, rfl, rfl, rfl⟩))
  | 10, ho, hL, _ =>
    obtain ⟨hop, hdst, hgd⟩ := tab_at htab ho (show rspT[10]? = _ from rfl)
    simp only at hop hgd
    exact doesX_of (doesL_run ho (wanted_none hgd) (hpure 10 (by decide) c L w' hW) (by rw [run_assign _ _ _ hop]; exact congrArg (fun v => Result.ok (Next.value v) w') rfl))
  | (i + 11), ho, hL, hi => exact absurd hi (by omega)
end Go.Proofs.YtllialbdofklgaaGreatDoor
namespace Go.Proofs.YtllialbdofklgaaGreatDoor
open Go.RowKit
theorem run_gtrI (ρ : Operand → Value) (o : Oper) (x : Operand) (ho : o.op = .binOp .gtr 3 x (.const (.int .i64 2147483647)) 3) (a : Nat) (hx : ρ x = .int .i64 (a : Int)) (hy : ρ (.const (.int .i64 2147483647)) = .int .i64 2147483647) (w : World) : (execOp ρ o).run Tryz.prog w = .ok (.value (.bool (decide ((2147483647 : Int) < (a : Int))))) w := by
  unfold execOp
  simp only [ho, hx, hy]
  simp [go_sem]
def rnsT : List (Op × Option Tmp × Option (Nat × Bool)) := [
  (.load 25 (.tmp 2), some 14, none),
  (.call { callee := .value (.func 11), args := #[(.tmp 14)], argTypes := #[25] }, some 15, none),
  (.load 25 (.tmp 3), some 16, none),
  (.call { callee := .value (.func 11), args := #[(.tmp 16)], argTypes := #[25] }, some 17, none),
  (.call { callee := .value (.func 10), args := #[(.tmp 15), (.tmp 17)], argTypes := #[3, 3] }, some 18, none),
  (.binOp .gtr 3 (.tmp 18) (.const (.int .i64 2147483647)) 3, some 19, none)]
def rnsD : List (Nat × Nat) := [(1, 0), (3, 2), (4, 1), (4, 3), (5, 4)]
set_option maxHeartbeats 2000000 in
theorem rns {ops : Array Oper} {id : Nat} {Q : Exit → Act → World → Prop} (X Y kl kc vl vc il ic jl kd ul vd hl jd T0 T1 T2 : Nat) (ka va ia kb vb ib : Option Addr) (lf lg : Bool) (htab : ops.toList.map (fun o => (o.op, o.dst, o.guard)) = rnsT) (hdep : deplB rnsD ops = true) (hac : acB ops = true)
    (a0 : Act) (w : World) (hsz : 20 ≤ a0.tmps.size) (o2 : a0.tmps[2]? = some (.pointer (some ⟨X, 0, none⟩))) (o3 : a0.tmps[3]? = some (.pointer (some ⟨Y, 0, none⟩)))
    (Wd : (Nat → Bool) → World → Prop) (h0 : Wd (fun _ => false) w.drew) (hpure : ∀ i, i ∉ ([1, 3, 4] : List Nat) → ∀ L W, Wd L W → Wd (upd L i) W)
    (l0 : ∀ L W, Wd L W → W.cell? ⟨X, 0, none⟩ = some (.bool lf) ∧ W.cell? ⟨X, 1, none⟩ = some (.slice ka kl kc) ∧ W.cell? ⟨X, 2, none⟩ = some (.slice va vl vc) ∧ W.cell? ⟨X, 3, none⟩ = some (.slice ia il ic))
    (l2 : ∀ L W, Wd L W → W.cell? ⟨Y, 0, none⟩ = some (.bool lg) ∧ W.cell? ⟨Y, 1, none⟩ = some (.slice kb jl kd) ∧ W.cell? ⟨Y, 2, none⟩ = some (.slice vb ul vd) ∧ W.cell? ⟨Y, 3, none⟩ = some (.slice ib hl jd))
    (c1 : ∀ L W, Wd L W → L 1 = false → Calls Tryz.prog 11 #[.agg #[.bool lf, .slice ka kl kc, .slice va vl vc, .slice ia il ic]] W fun e w' => e = .returned (.int .i64 ((T0 : Nat) : Int)) ∧ Wd (upd L 1) w')
    (c3 : ∀ L W, Wd L W → L 3 = false → Calls Tryz.prog 11 #[.agg #[.bool lg, .slice kb jl kd, .slice vb ul vd, .slice ib hl jd]] W fun e w' => e = .returned (.int .i64 ((T1 : Nat) : Int)) ∧ Wd (upd L 3) w')
    (c4 : ∀ L W, Wd L W → L 4 = false → Calls Tryz.prog 10 #[(.int .i64 ((T0 : Nat) : Int)), (.int .i64 ((T1 : Nat) : Int))] W fun e w' => e = .returned (.int .i64 ((T2 : Nat) : Int)) ∧ Wd (upd L 4) w')
    (hend : ∀ L W, (∀ i, i < 6 → L i = true) → Wd L W → Q .normal ((((((a0.put (some 14) (.agg #[.bool lf, .slice ka kl kc, .slice va vl vc, .slice ia il ic])).put (some 15) (.int .i64 ((T0 : Nat) : Int))).put (some 16) (.agg #[.bool lg, .slice kb jl kd, .slice vb ul vd, .slice ib hl jd])).put (some 17) (.int .i64 ((T1 : Nat) : Int))).put (some 18) (.int .i64 ((T2 : Nat) : Int))).put (some 19) (.bool (decide ((2147483647 : Int) < (T2 : Int))))) W) : (Code.region id ops true).wp Tryz.prog Q a0 w := by
  let val : Nat → Value := fun i => match i with
    | 0 => (.agg #[.bool lf, .slice ka kl kc, .slice va vl vc, .slice ia il ic])
    | 1 => (.int .i64 ((T0 : Nat) : Int))
    | 2 => (.agg #[.bool lg, .slice kb jl kd, .slice vb ul vd, .slice ib hl jd])
    | 3 => (.int .i64 ((T1 : Nat) : Int))
    | 4 => (.int .i64 ((T2 : Nat) : Int))
    | 5 => (.bool (decide ((2147483647 : Int) < (T2 : Int))))
    | _ => undef
  have hosz : ops.size = 6 := by
    have := congrArg List.length htab
    simpa [rnsT] using this
  have hds : ∀ i s, (rnsT[i]?).bind (·.2.1) = some s → dstOf ops i = some s := fun i s hi => by rw [tab_dst htab, hi]
  have hdisB : disL rnsT = true := by rfl
  have hdis := disL_of htab hdisB
  have hold : ∀ s, rnsT.all (fun x => !(x.2.1 == some s)) = true → (List.range ops.size).all (fun j => !(dstOf ops j == some s)) = true := fun s h => holdL htab s h
  refine region_detL val Wd (hac_of hac) hdis h0 ?_ ?_
  rotate_left
  · intro L W hall hW
    have := hend L W (by rw [← hosz]; exact hall) hW
    have e : frm ops a0 val (fun _ => true) ops.size = ((((((a0.put (some 14) (.agg #[.bool lf, .slice ka kl kc, .slice va vl vc, .slice ia il ic])).put (some 15) (.int .i64 ((T0 : Nat) : Int))).put (some 16) (.agg #[.bool lg, .slice kb jl kd, .slice vb ul vd, .slice ib hl jd])).put (some 17) (.int .i64 ((T1 : Nat) : Int))).put (some 18) (.int .i64 ((T2 : Nat) : Int))).put (some 19) (.bool (decide ((2147483647 : Int) < (T2 : Int))))) := by
      rw [hosz]
      simp only [frm, if_true]
      rw [tab_dst htab 0, tab_dst htab 1, tab_dst htab 2, tab_dst htab 3, tab_dst htab 4, tab_dst htab 5]
      rfl
    rw [e]
    exact this
  intro i o ho L a w' hL hd ha hW
  have hi : i < 6 := by rw [← hosz]; exact (Array.getElem?_eq_some_iff.1 ho).1
  match i, ho, hL, hi with
  | 0, ho, hL, _ =>
    obtain ⟨hop, hdst, hgd⟩ := tab_at htab ho (show rnsT[0]? = _ from rfl)
    simp only at hop hgd
    have h0 := frm_old ha 2 _ (hold 2 rfl) o2
    exact doesL_run ho (wanted_none hgd) (hpure 0 (by decide) L w' hW) (run_ld25 _ _ _ hop _ _ _ _ _ (eval_of h0) _ (l0 L w' hW).1 (l0 L w' hW).2.1 (l0 L w' hW).2.2.1 (l0 L w' hW).2.2.2)
  | 1, ho, hL, _ =>
    obtain ⟨hop, hdst, hgd⟩ := tab_at htab ho (show rnsT[1]? = _ from rfl)
    simp only at hop hgd
    have h0 := frm_at hdis ha 0 14 (hds 0 14 rfl) (by omega) (depl_of hdep 1 0 (by decide) ho hd)
    refine doesL_call ho (wanted_none hgd) 11 #[.agg #[.bool lf, .slice ka kl kc, .slice va vl vc, .slice ia il ic]] ?_ (c1 L w' hW hL)
    rw [run_calls Tryz.func11 (by kernel_rfl) rfl _ _ _ _ hop rfl]
    simp only [List.map_toArray, List.map_cons, List.map_nil, eval_of h0]
    all_goals rfl
  | 2, ho, hL, _ =>
    obtain ⟨hop, hdst, hgd⟩ := tab_at htab ho (show rnsT[2]? = _ from rfl)
    simp only at hop hgd
    have h0 := frm_old ha 3 _ (hold 3 rfl) o3
    exact doesL_run ho (wanted_none hgd) (hpure 2 (by decide) L w' hW) (run_ld25 _ _ _ hop _ _ _ _ _ (eval_of h0) _ (l2 L w' hW).1 (l2 L w' hW).2.1 (l2 L w' hW).2.2.1 (l2 L w' hW).2.2.2)
  | 3, ho, hL, _ =>
    obtain ⟨hop, hdst, hgd⟩ := tab_at htab ho (show rnsT[3]? = _ from rfl)
    simp only at hop hgd
    have h0 := frm_at hdis ha 2 16 (hds 2 16 rfl) (by omega) (depl_of hdep 3 2 (by decide) ho hd)
    refine doesL_call ho (wanted_none hgd) 11 #[.agg #[.bool lg, .slice kb jl kd, .slice vb ul vd, .slice ib hl jd]] ?_ (c3 L w' hW hL)
    rw [run_calls Tryz.func11 (by kernel_rfl) rfl _ _ _ _ hop rfl]
    simp only [List.map_toArray, List.map_cons, List.map_nil, eval_of h0]
    all_goals rfl
  | 4, ho, hL, _ =>
    obtain ⟨hop, hdst, hgd⟩ := tab_at htab ho (show rnsT[4]? = _ from rfl)
    simp only at hop hgd
    have h0 := frm_at hdis ha 1 15 (hds 1 15 rfl) (by omega) (depl_of hdep 4 1 (by decide) ho hd)
    have h1 := frm_at hdis ha 3 17 (hds 3 17 rfl) (by omega) (depl_of hdep 4 3 (by decide) ho hd)
    refine doesL_call ho (wanted_none hgd) 10 #[.int .i64 ((T0 : Nat) : Int), .int .i64 ((T1 : Nat) : Int)] ?_ (c4 L w' hW hL)
    rw [run_calls Tryz.func10 (by kernel_rfl) rfl _ _ _ _ hop rfl]
    simp only [List.map_toArray, List.map_cons, List.map_nil, eval_of h0, eval_of h1]
    all_goals rfl
  | 5, ho, hL, _ =>
    obtain ⟨hop, hdst, hgd⟩ := tab_at htab ho (show rnsT[5]? = _ from rfl)
    simp only at hop hgd
    have h0 := frm_at hdis ha 4 18 (hds 4 18 rfl) (by omega) (depl_of hdep 5 4 (by decide) ho hd)
    exact doesL_run ho (wanted_none hgd) (hpure 5 (by decide) L w' hW) (run_gtrI _ _ _ hop _ (eval_of h0) rfl _)
  | (i + 6), ho, hL, hi => exact absurd hi (by omega)
end Go.Proofs.YtllialbdofklgaaGreatDoor
