import Derived.Test.YtllialbdofklgaaGreatDoorRgnd
import Derived.Test.YtllialbdofklgaaGreatDoorZndg
namespace Go.Proofs.YtllialbdofklgaaGreatDoor
open Go.RowKit
theorem run_ld25 (ρ : Operand → Value) (o : Oper) (x : Operand) (ho : o.op = .load 25 x) (g : Nat) (v0 v1 v2 v3 : Value) (ha : ρ x = .pointer (some ⟨g, 0, none⟩)) (w : World) (h0 : w.cell? ⟨g, 0, none⟩ = some v0) (h1 : w.cell? ⟨g, 1, none⟩ = some v1) (h2 : w.cell? ⟨g, 2, none⟩ = some v2) (h3 : w.cell? ⟨g, 3, none⟩ = some v3) : (execOp ρ o).run Tryz.prog w = .ok (.value (.agg #[v0, v1, v2, v3])) w := by
  unfold execOp
  simp only [ho, ha]
  simp [Instr.loadAt, go_sem, h0, h1, h2, h3, Tryz.isAgg25]
theorem run_len22 (ρ : Operand → Value) (o : Oper) (x : Operand) (ho : o.op = .call { callee := .builtin .len, args := #[x], argTypes := #[22] }) (p : Option Addr) (n c : Nat) (hx : ρ x = .slice p n c) (w : World) : (execOp ρ o).run Tryz.prog w = .ok (.value (I n)) w := by
  unfold execOp
  simp only [ho]
  simp [go_sem, hx]
def rsdT : List (Op × Option Tmp × Option (Nat × Bool)) := [
  (.load 25 (.tmp 2), some 13, none),
  (.move (.tmp 1), some 14, none),
  (.call { callee := .value (.func 99), args := #[(.tmp 13), (.const (.int .i64 0)), (.tmp 14)], argTypes := #[25, 3, 3] }, some 15, none),
  (.load 25 (.tmp 2), some 16, none),
  (.move (.tmp 6), some 17, none),
  (.fieldAddr 25 (.tmp 2) 1, some 18, none),
  (.load 22 (.tmp 18), some 19, none),
  (.call { callee := .builtin .len, args := #[(.tmp 19)], argTypes := #[22] }, some 20, none),
  (.call { callee := .value (.func 99), args := #[(.tmp 16), (.tmp 17), (.tmp 20)], argTypes := #[25, 3, 3] }, some 21, none),
  (.store 25 (.tmp 4) (.tmp 15), none, none),
  (.store 25 (.tmp 5) (.tmp 21), none, none)]
def rsdD : List (Nat × Nat) := [(2, 0), (2, 1), (6, 5), (7, 6), (8, 3), (8, 4), (8, 7), (9, 2), (10, 8)]
set_option maxHeartbeats 2000000 in
theorem rsd {ops : Array Oper} {id : Nat} {Q : Exit → Act → World → Prop} (X A D m kc vl vc il ic ii be a1 a2 a3 b1 b2 b3 d1 d2 d3 e1 e2 e3 : Nat) (ka va ia p1 p2 p3 q1 q2 q3 : Option Addr) (lf : Bool) (htab : ops.toList.map (fun o => (o.op, o.dst, o.guard)) = rsdT) (hdep : deplB rsdD ops = true) (hac : acB ops = true)
    (a0 : Act) (w : World) (hsz : 22 ≤ a0.tmps.size) (o1 : a0.tmps[1]? = some (I ii)) (o2 : a0.tmps[2]? = some (.pointer (some ⟨X, 0, none⟩))) (o4 : a0.tmps[4]? = some (.pointer (some ⟨A, 0, none⟩))) (o5 : a0.tmps[5]? = some (.pointer (some ⟨D, 0, none⟩))) (o6 : a0.tmps[6]? = some (I be))
    (Wd : (Nat → Bool) → World → Prop) (h0 : Wd (fun _ => false) w.drew) (hpure : ∀ i, i ∉ ([2, 8, 9, 10] : List Nat) → ∀ L W, Wd L W → Wd (upd L i) W)
    (l0 : ∀ L W, Wd L W → W.cell? ⟨X, 0, none⟩ = some (.bool lf) ∧ W.cell? ⟨X, 1, none⟩ = some (.slice ka m kc) ∧ W.cell? ⟨X, 2, none⟩ = some (.slice va vl vc) ∧ W.cell? ⟨X, 3, none⟩ = some (.slice ia il ic))
    (l3 : ∀ L W, Wd L W → W.cell? ⟨X, 0, none⟩ = some (.bool lf) ∧ W.cell? ⟨X, 1, none⟩ = some (.slice ka m kc) ∧ W.cell? ⟨X, 2, none⟩ = some (.slice va vl vc) ∧ W.cell? ⟨X, 3, none⟩ = some (.slice ia il ic))
    (l6 : ∀ L W, Wd L W → W.cell? ⟨X, 0 + 1, none⟩ = some (.slice ka m kc))
    (c2 : ∀ L W, Wd L W → L 2 = false → Calls Tryz.prog 99 #[(.agg #[.bool lf, .slice ka m kc, .slice va vl vc, .slice ia il ic]), I 0, I ii] W fun e w' => e = .returned (.agg #[.bool lf, .slice p1 a1 d1, .slice p2 a2 d2, .slice p3 a3 d3]) ∧ Wd (upd L 2) w')
    (c8 : ∀ L W, Wd L W → L 8 = false → Calls Tryz.prog 99 #[(.agg #[.bool lf, .slice ka m kc, .slice va vl vc, .slice ia il ic]), I be, I m] W fun e w' => e = .returned (.agg #[.bool lf, .slice q1 b1 e1, .slice q2 b2 e2, .slice q3 b3 e3]) ∧ Wd (upd L 8) w')
    (n9 : ∀ L W, Wd L W → L 9 = false → L 2 = true → Wd (upd L 9) ((((W.setCell ⟨A, 0, none⟩ (.bool lf)).setCell ⟨A, 1, none⟩ (.slice p1 a1 d1)).setCell ⟨A, 2, none⟩ (.slice p2 a2 d2)).setCell ⟨A, 3, none⟩ (.slice p3 a3 d3)) ∧ W.heap[A]? = some (.cells #[.bool false, .slice none 0 0, .slice none 0 0, .slice none 0 0] 25 (0, 0)))
    (n10 : ∀ L W, Wd L W → L 10 = false → L 8 = true → Wd (upd L 10) ((((W.setCell ⟨D, 0, none⟩ (.bool lf)).setCell ⟨D, 1, none⟩ (.slice q1 b1 e1)).setCell ⟨D, 2, none⟩ (.slice q2 b2 e2)).setCell ⟨D, 3, none⟩ (.slice q3 b3 e3)) ∧ W.heap[D]? = some (.cells #[.bool false, .slice none 0 0, .slice none 0 0, .slice none 0 0] 25 (0, 0)))
    (hend : ∀ L W, (∀ i, i < 11 → L i = true) → Wd L W → Q .normal (((((((((a0.put (some 13) (.agg #[.bool lf, .slice ka m kc, .slice va vl vc, .slice ia il ic])).put (some 14) (I ii)).put (some 15) (.agg #[.bool lf, .slice p1 a1 d1, .slice p2 a2 d2, .slice p3 a3 d3])).put (some 16) (.agg #[.bool lf, .slice ka m kc, .slice va vl vc, .slice ia il ic])).put (some 17) (I be)).put (some 18) (.pointer (some ⟨X, 0 + 1, none⟩))).put (some 19) (.slice ka m kc)).put (some 20) (I m)).put (some 21) (.agg #[.bool lf, .slice q1 b1 e1, .slice q2 b2 e2, .slice q3 b3 e3])) W) : (Code.region id ops true).wp Tryz.prog Q a0 w := by
  let val : Nat → Value := fun i => match i with
    | 0 => (.agg #[.bool lf, .slice ka m kc, .slice va vl vc, .slice ia il ic])
    | 1 => (I ii)
    | 2 => (.agg #[.bool lf, .slice p1 a1 d1, .slice p2 a2 d2, .slice p3 a3 d3])
    | 3 => (.agg #[.bool lf, .slice ka m kc, .slice va vl vc, .slice ia il ic])
    | 4 => (I be)
    | 5 => (.pointer (some ⟨X, 0 + 1, none⟩))
    | 6 => (.slice ka m kc)
    | 7 => (I m)
    | 8 => (.agg #[.bool lf, .slice q1 b1 e1, .slice q2 b2 e2, .slice q3 b3 e3])
    | 9 => undef
    | 10 => undef
    | _ => undef
  have hosz : ops.size = 11 := by
    have := congrArg List.length htab
    simpa [rsdT] using this
  have hds : ∀ i s, (rsdT[i]?).bind (·.2.1) = some s → dstOf ops i = some s := fun i s hi => by rw [tab_dst htab, hi]
  have hdisB : disL rsdT = true := by rfl
  have hdis := disL_of htab hdisB
  have hold : ∀ s, rsdT.all (fun x => !(x.2.1 == some s)) = true → (List.range ops.size).all (fun j => !(dstOf ops j == some s)) = true := fun s h => holdL htab s h
  refine region_detL val Wd (hac_of hac) hdis h0 ?_ ?_
  rotate_left
  · intro L W hall hW
    have := hend L W (by rw [← hosz]; exact hall) hW
    have e : frm ops a0 val (fun _ => true) ops.size = (((((((((a0.put (some 13) (.agg #[.bool lf, .slice ka m kc, .slice va vl vc, .slice ia il ic])).put (some 14) (I ii)).put (some 15) (.agg #[.bool lf, .slice p1 a1 d1, .slice p2 a2 d2, .slice p3 a3 d3])).put (some 16) (.agg #[.bool lf, .slice ka m kc, .slice va vl vc, .slice ia il ic])).put (some 17) (I be)).put (some 18) (.pointer (some ⟨X, 0 + 1, none⟩))).put (some 19) (.slice ka m kc)).put (some 20) (I m)).put (some 21) (.agg #[.bool lf, .slice q1 b1 e1, .slice q2 b2 e2, .slice q3 b3 e3])) := by
      rw [hosz]
      simp only [frm, if_true]
      rw [tab_dst htab 0, tab_dst htab 1, tab_dst htab 2, tab_dst htab 3, tab_dst htab 4, tab_dst htab 5, tab_dst htab 6, tab_dst htab 7, tab_dst htab 8, (show dstOf ops 9 = none from (tab_dst htab 9).trans rfl), put_none, (show dstOf ops 10 = none from (tab_dst htab 10).trans rfl), put_none]
      rfl
    rw [e]
    exact this
  intro i o ho L a w' hL hd ha hW
  have hi : i < 11 := by rw [← hosz]; exact (Array.getElem?_eq_some_iff.1 ho).1
  match i, ho, hL, hi with
  | 0, ho, hL, _ =>
    obtain ⟨hop, hdst, hgd⟩ := tab_at htab ho (show rsdT[0]? = _ from rfl)
    simp only at hop hgd
    have h0 := frm_old ha 2 _ (hold 2 rfl) o2
    exact doesL_run ho (wanted_none hgd) (hpure 0 (by decide) L w' hW) (run_ld25 _ _ _ hop _ _ _ _ _ (eval_of h0) _ (l0 L w' hW).1 (l0 L w' hW).2.1 (l0 L w' hW).2.2.1 (l0 L w' hW).2.2.2)
  | 1, ho, hL, _ =>
    obtain ⟨hop, hdst, hgd⟩ := tab_at htab ho (show rsdT[1]? = _ from rfl)
    simp only at hop hgd
    have h0 := frm_old ha 1 _ (hold 1 rfl) o1
    exact doesL_run ho (wanted_none hgd) (hpure 1 (by decide) L w' hW) (by rw [run_move _ _ _ hop]; exact congrArg (fun v => Result.ok (Next.value v) w') (eval_of h0))
  | 2, ho, hL, _ =>
    obtain ⟨hop, hdst, hgd⟩ := tab_at htab ho (show rsdT[2]? = _ from rfl)
    simp only at hop hgd
    have h0 := frm_at hdis ha 0 13 (hds 0 13 rfl) (by omega) (depl_of hdep 2 0 (by decide) ho hd)
    have h2 := frm_at hdis ha 1 14 (hds 1 14 rfl) (by omega) (depl_of hdep 2 1 (by decide) ho hd)
    refine doesL_call ho (wanted_none hgd) 99 #[.agg #[.bool lf, .slice ka m kc, .slice va vl vc, .slice ia il ic], I 0, I ii] ?_ (c2 L w' hW hL)
    rw [run_calls Tryz.func99 (by kernel_rfl) rfl _ _ _ _ hop rfl]
    simp only [List.map_toArray, List.map_cons, List.map_nil, eval_of h0, eval_of h2]
    all_goals rfl
  | 3, ho, hL, _ =>
    obtain ⟨hop, hdst, hgd⟩ := tab_at htab ho (show rsdT[3]? = _ from rfl)
    simp only at hop hgd
    have h0 := frm_old ha 2 _ (hold 2 rfl) o2
    exact doesL_run ho (wanted_none hgd) (hpure 3 (by decide) L w' hW) (run_ld25 _ _ _ hop _ _ _ _ _ (eval_of h0) _ (l3 L w' hW).1 (l3 L w' hW).2.1 (l3 L w' hW).2.2.1 (l3 L w' hW).2.2.2)
  | 4, ho, hL, _ =>
    obtain ⟨hop, hdst, hgd⟩ := tab_at htab ho (show rsdT[4]? = _ from rfl)
    simp only at hop hgd
    have h0 := frm_old ha 6 _ (hold 6 rfl) o6
    exact doesL_run ho (wanted_none hgd) (hpure 4 (by decide) L w' hW) (by rw [run_move _ _ _ hop]; exact congrArg (fun v => Result.ok (Next.value v) w') (eval_of h0))
  | 5, ho, hL, _ =>
    obtain ⟨hop, hdst, hgd⟩ := tab_at htab ho (show rsdT[5]? = _ from rfl)
    simp only at hop hgd
    have h0 := frm_old ha 2 _ (hold 2 rfl) o2
    exact doesL_run ho (wanted_none hgd) (hpure 5 (by decide) L w' hW) (run_f25_1 _ _ _ hop _ _ (eval_of h0) _)
  | 6, ho, hL, _ =>
    obtain ⟨hop, hdst, hgd⟩ := tab_at htab ho (show rsdT[6]? = _ from rfl)
    simp only at hop hgd
    have h0 := frm_at hdis ha 5 18 (hds 5 18 rfl) (by omega) (depl_of hdep 6 5 (by decide) ho hd)
    exact doesL_run ho (wanted_none hgd) (hpure 6 (by decide) L w' hW) (run_ld22 _ _ _ hop _ _ (eval_of h0) _ (l6 L w' hW))
  | 7, ho, hL, _ =>
    obtain ⟨hop, hdst, hgd⟩ := tab_at htab ho (show rsdT[7]? = _ from rfl)
    simp only at hop hgd
    have h0 := frm_at hdis ha 6 19 (hds 6 19 rfl) (by omega) (depl_of hdep 7 6 (by decide) ho hd)
    exact doesL_run ho (wanted_none hgd) (hpure 7 (by decide) L w' hW) (run_len22 _ _ _ hop _ _ _ (eval_of h0) _)
  | 8, ho, hL, _ =>
    obtain ⟨hop, hdst, hgd⟩ := tab_at htab ho (show rsdT[8]? = _ from rfl)
    simp only at hop hgd
    have h0 := frm_at hdis ha 3 16 (hds 3 16 rfl) (by omega) (depl_of hdep 8 3 (by decide) ho hd)
    have h1 := frm_at hdis ha 4 17 (hds 4 17 rfl) (by omega) (depl_of hdep 8 4 (by decide) ho hd)
    have h2 := frm_at hdis ha 7 20 (hds 7 20 rfl) (by omega) (depl_of hdep 8 7 (by decide) ho hd)
    refine doesL_call ho (wanted_none hgd) 99 #[.agg #[.bool lf, .slice ka m kc, .slice va vl vc, .slice ia il ic], I be, I m] ?_ (c8 L w' hW hL)
    rw [run_calls Tryz.func99 (by kernel_rfl) rfl _ _ _ _ hop rfl]
    simp only [List.map_toArray, List.map_cons, List.map_nil, eval_of h0, eval_of h1, eval_of h2]
    all_goals rfl
  | 9, ho, hL, _ =>
    obtain ⟨hop, hdst, hgd⟩ := tab_at htab ho (show rsdT[9]? = _ from rfl)
    simp only at hop hgd
    have h0 := frm_old ha 4 _ (hold 4 rfl) o4
    have h1 := frm_at hdis ha 2 15 (hds 2 15 rfl) (by omega) (depl_of hdep 9 2 (by decide) ho hd)
    obtain ⟨s1, s2⟩ := n9 L w' hW hL (depl_of hdep 9 2 (by decide) ho hd)
    exact doesL_skp ho (wanted_none hgd) rfl s1 (run_st25 _ _ _ _ hop _ _ _ _ _ (eval_of h0) (eval_of h1) _ _ _ _ _ s2 ⟨rfl, rfl, rfl, rfl⟩)
  | 10, ho, hL, _ =>
    obtain ⟨hop, hdst, hgd⟩ := tab_at htab ho (show rsdT[10]? = _ from rfl)
    simp only at hop hgd
    have h0 := frm_old ha 5 _ (hold 5 rfl) o5
    have h1 := frm_at hdis ha 8 21 (hds 8 21 rfl) (by omega) (depl_of hdep 10 8 (by decide) ho hd)
    obtain ⟨s1, s2⟩ := n10 L w' hW hL (depl_of hdep 10 8 (by decide) ho hd)
    exact doesL_skp ho (wanted_none hgd) rfl s1 (run_st25 _ _ _ _ hop _ _ _ _ _ (eval_of h0) (eval_of h1) _ _ _ _ _ s2 ⟨rfl, rfl, rfl, rfl⟩)
  | (i + 11), ho, hL, hi => exact absurd hi (by omega)
end Go.Proofs.YtllialbdofklgaaGreatDoor
