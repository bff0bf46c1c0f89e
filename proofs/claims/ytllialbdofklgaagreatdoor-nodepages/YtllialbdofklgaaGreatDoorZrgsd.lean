import Derived.Test.YtllialbdofklgaaGreatDoorZrgnd
import Derived.Test.YtllialbdofklgaaGreatDoorZndg
namespace Go.Proofs.YtllialbdofklgaaGreatDoor
open Go.RowKit
theorem run_ld25 (ρ : Operand → Value) (o : Oper) (x : Operand) (ho : o.op = .load 25 x) (g : Nat) (v0 v1 v2 v3 : Value) (ha : ρ x = .pointer (some ⟨g, 0, none⟩)) (w : World) (h0 : w.cell? ⟨g, 0, none⟩ = some v0) (h1 : w.cell? ⟨g, 1, none⟩ = some v1) (h2 : w.cell? ⟨g, 2, none⟩ = some v2) (h3 : w.cell? ⟨g, 3, none⟩ = some v3) : (execOp ρ o).run Tryz.prog w = .ok (.value (.agg #[v0, v1, v2, v3])) w := by
  unfold execOp
  simp only [ho, ha]
  simp [Instr.loadAt, go_sem, h0, h1, h2, h3, Tryz.isAgg25]
end Go.Proofs.YtllialbdofklgaaGreatDoor
namespace Go.Proofs.YtllialbdofklgaaGreatDoor
open Go.RowKit
/-- What comes up as three rows are made: where they lie; and where lists of lists lie. -/
structure Ch3 where
  p1 : Option Addr
  c1 : Nat
  p2 : Option Addr
  c2 : Nat
  p3 : Option Addr
  c3 : Nat
  g1 : Nat
  g2 : Nat
  g3 : Nat
end Go.Proofs.YtllialbdofklgaaGreatDoor
namespace Go.Proofs.YtllialbdofklgaaGreatDoor
open Go.RowKit
/-- Where two nodes' lists come to lie. -/
structure Ch6 where
  p1 : Option Addr
  c1 : Nat
  p2 : Option Addr
  c2 : Nat
  p3 : Option Addr
  c3 : Nat
  q1 : Option Addr
  d1 : Nat
  q2 : Option Addr
  d2 : Nat
  q3 : Option Addr
  d3 : Nat
end Go.Proofs.YtllialbdofklgaaGreatDoor
namespace Go.Proofs.YtllialbdofklgaaGreatDoor
open Go.RowKit
theorem run_ia22 (ρ : Operand → Value) (o : Oper) (x y : Operand) (ho : o.op = .indexAddr 22 x y) (g q n cap k : Nat) (hk : k < n) (hx : ρ x = .slice (some ⟨g, q, none⟩) n cap) (hy : ρ y = .int .i64 (k : Int)) (w : World) : (execOp ρ o).run Tryz.prog w = .ok (.value (.pointer (some ⟨g, q + k, none⟩))) w := by
  unfold execOp
  simp only [ho, hx, hy]
  have h1 : (k : Int) < (n : Int) := by omega
  have u := Tryz.underlying22
  have z := Tryz.sizeOf9
  simp [go_sem, u, z, h1]
end Go.Proofs.YtllialbdofklgaaGreatDoor
namespace Go.Proofs.YtllialbdofklgaaGreatDoor
open Go.RowKit
theorem run_same (ρ : Operand → Value) (o : Oper) (t u : TypeId) (x y : Operand) (ho : o.op = .binOp .eql t x y u) (a : Int) (hx : ρ x = .int .i64 a) (hy : ρ y = .int .i64 a) (w : World) : (execOp ρ o).run Tryz.prog w = .ok (.value (.bool true)) w := by
  unfold execOp
  simp only [ho, hx, hy]
  simp [go_sem]
def rldT : List (Op × Option Tmp × Option (Nat × Bool)) := [
  (.move (.tmp 11), some 28, none),
  (.move (.tmp 28), some 29, none),
  (.move (.tmp 8), some 30, some (1, true)),
  (.move (.tmp 10), some 31, some (1, true)),
  (.binOp .eql 54 (.tmp 30) (.tmp 31) 54, some 32, some (1, true)),
  (.pick (.tmp 29) (.tmp 32) (.const (.bool false)), some 33, none),
  (.move (.tmp 33), some 34, none),
  (.load 25 (.tmp 4), some 35, some (6, true)),
  (.call { callee := .value (.func 43), args := #[(.tmp 35)], argTypes := #[25] }, some 36, some (6, true)),
  (.load 25 (.tmp 5), some 37, some (6, true)),
  (.call { callee := .value (.func 46), args := #[(.tmp 37)], argTypes := #[25] }, some 38, some (6, true)),
  (.binOp .eql 3 (.tmp 36) (.tmp 38) 3, some 39, some (6, true)),
  (.pick (.tmp 34) (.tmp 39) (.const (.bool false)), some 40, none),
  (.assign (.tmp 40), some 6, none)]
def rldD : List (Nat × Nat) := [(1, 0), (2, 1), (3, 1), (4, 1), (4, 2), (4, 3), (5, 1), (5, 4), (6, 5), (7, 6), (8, 6), (8, 7), (9, 6), (10, 6), (10, 9), (11, 6), (11, 8), (11, 10), (12, 6), (12, 11), (13, 12)]
set_option maxHeartbeats 2000000 in
theorem rld {ops : Array Oper} {id : Nat} {Q : Exit → Act → World → Prop} (X Y kl kc vl vc il ic kd vd jd er sz : Nat) (ka va ia kb vb ib : Option Addr) (lf : Bool) (htab : ops.toList.map (fun o => (o.op, o.dst, o.guard)) = rldT) (hdep : deplB rldD ops = true) (hac : acB ops = true)
    (a0 : Act) (w : World) (hsz : 41 ≤ a0.tmps.size) (o4 : a0.tmps[4]? = some (.pointer (some ⟨X, 0, none⟩))) (o5 : a0.tmps[5]? = some (.pointer (some ⟨Y, 0, none⟩))) (o8 : a0.tmps[8]? = some (.int .i64 (er : Int))) (o10 : a0.tmps[10]? = some (.int .i64 (er : Int))) (o11 : a0.tmps[11]? = some (.bool true))
    (Wd : (Nat → Bool) → World → Prop) (h0 : Wd (fun _ => false) w.drew) (hpure : ∀ i, i ∉ ([8, 10] : List Nat) → ∀ L W, Wd L W → Wd (upd L i) W)
    (l7 : ∀ L W, Wd L W → W.cell? ⟨X, 0, none⟩ = some (.bool lf) ∧ W.cell? ⟨X, 1, none⟩ = some (.slice ka kl kc) ∧ W.cell? ⟨X, 2, none⟩ = some (.slice va vl vc) ∧ W.cell? ⟨X, 3, none⟩ = some (.slice ia il ic))
    (l9 : ∀ L W, Wd L W → W.cell? ⟨Y, 0, none⟩ = some (.bool lf) ∧ W.cell? ⟨Y, 1, none⟩ = some (.slice kb kl kd) ∧ W.cell? ⟨Y, 2, none⟩ = some (.slice vb vl vd) ∧ W.cell? ⟨Y, 3, none⟩ = some (.slice ib il jd))
    (c8 : ∀ L W, Wd L W → L 8 = false → Calls Tryz.prog 43 #[.agg #[.bool lf, .slice ka kl kc, .slice va vl vc, .slice ia il ic]] W fun e w' => e = .returned (.int .i64 (sz : Int)) ∧ Wd (upd L 8) w')
    (c10 : ∀ L W, Wd L W → L 10 = false → Calls Tryz.prog 46 #[.agg #[.bool lf, .slice kb kl kd, .slice vb vl vd, .slice ib il jd]] W fun e w' => e = .returned (.int .i64 (sz : Int)) ∧ Wd (upd L 10) w')
    (hend : ∀ L W, (∀ i, i < 14 → L i = true) → Wd L W → Q .normal ((((((((((((((a0.put (some 28) (.bool true)).put (some 29) (.bool true)).put (some 30) (.int .i64 (er : Int))).put (some 31) (.int .i64 (er : Int))).put (some 32) (.bool true)).put (some 33) (.bool true)).put (some 34) (.bool true)).put (some 35) (.agg #[.bool lf, .slice ka kl kc, .slice va vl vc, .slice ia il ic])).put (some 36) (.int .i64 (sz : Int))).put (some 37) (.agg #[.bool lf, .slice kb kl kd, .slice vb vl vd, .slice ib il jd])).put (some 38) (.int .i64 (sz : Int))).put (some 39) (.bool true)).put (some 40) (.bool true)).put (some 6) (.bool true)) W) : (Code.region id ops true).wp Tryz.prog Q a0 w := by
  let val : Nat → Value := fun i => match i with
    | 0 => (.bool true)
    | 1 => (.bool true)
    | 2 => (.int .i64 (er : Int))
    | 3 => (.int .i64 (er : Int))
    | 4 => (.bool true)
    | 5 => (.bool true)
    | 6 => (.bool true)
    | 7 => (.agg #[.bool lf, .slice ka kl kc, .slice va vl vc, .slice ia il ic])
    | 8 => (.int .i64 (sz : Int))
    | 9 => (.agg #[.bool lf, .slice kb kl kd, .slice vb vl vd, .slice ib il jd])
    | 10 => (.int .i64 (sz : Int))
    | 11 => (.bool true)
    | 12 => (.bool true)
    | 13 => (.bool true)
    | _ => undef
  have hosz : ops.size = 14 := by
    have := congrArg List.length htab
    simpa [rldT] using this
  have hds : ∀ i s, (rldT[i]?).bind (·.2.1) = some s → dstOf ops i = some s := fun i s hi => by rw [tab_dst htab, hi]
  have hdisB : disL rldT = true := by rfl
  have hdis := disL_of htab hdisB
  have hold : ∀ s, rldT.all (fun x => !(x.2.1 == some s)) = true → (List.range ops.size).all (fun j => !(dstOf ops j == some s)) = true := fun s h => holdL htab s h
  refine region_detL val Wd (hac_of hac) hdis h0 ?_ ?_
  rotate_left
  · intro L W hall hW
    have := hend L W (by rw [← hosz]; exact hall) hW
    have e : frm ops a0 val (fun _ => true) ops.size = ((((((((((((((a0.put (some 28) (.bool true)).put (some 29) (.bool true)).put (some 30) (.int .i64 (er : Int))).put (some 31) (.int .i64 (er : Int))).put (some 32) (.bool true)).put (some 33) (.bool true)).put (some 34) (.bool true)).put (some 35) (.agg #[.bool lf, .slice ka kl kc, .slice va vl vc, .slice ia il ic])).put (some 36) (.int .i64 (sz : Int))).put (some 37) (.agg #[.bool lf, .slice kb kl kd, .slice vb vl vd, .slice ib il jd])).put (some 38) (.int .i64 (sz : Int))).put (some 39) (.bool true)).put (some 40) (.bool true)).put (some 6) (.bool true)) := by
      rw [hosz]
      simp only [frm, if_true]
      rw [tab_dst htab 0, tab_dst htab 1, tab_dst htab 2, tab_dst htab 3, tab_dst htab 4, tab_dst htab 5, tab_dst htab 6, tab_dst htab 7, tab_dst htab 8, tab_dst htab 9, tab_dst htab 10, tab_dst htab 11, tab_dst htab 12, tab_dst htab 13]
      rfl
    rw [e]
    exact this
  intro i o ho L a w' hL hd ha hW
  have hi : i < 14 := by rw [← hosz]; exact (Array.getElem?_eq_some_iff.1 ho).1
  match i, ho, hL, hi with
  | 0, ho, hL, _ =>
    obtain ⟨hop, hdst, hgd⟩ := tab_at htab ho (show rldT[0]? = _ from rfl)
    simp only at hop hgd
    have h0 := frm_old ha 11 _ (hold 11 rfl) o11
    exact doesL_run ho (wanted_none hgd) (hpure 0 (by decide) L w' hW) (by rw [run_move _ _ _ hop]; exact congrArg (fun v => Result.ok (Next.value v) w') (eval_of h0))
  | 1, ho, hL, _ =>
    obtain ⟨hop, hdst, hgd⟩ := tab_at htab ho (show rldT[1]? = _ from rfl)
    simp only at hop hgd
    have h0 := frm_at hdis ha 0 28 (hds 0 28 rfl) (by omega) (depl_of hdep 1 0 (by decide) ho hd)
    exact doesL_run ho (wanted_none hgd) (hpure 1 (by decide) L w' hW) (by rw [run_move _ _ _ hop]; exact congrArg (fun v => Result.ok (Next.value v) w') (eval_of h0))
  | 2, ho, hL, _ =>
    obtain ⟨hop, hdst, hgd⟩ := tab_at htab ho (show rldT[2]? = _ from rfl)
    simp only at hop hgd
    have hg := frm_at hdis ha 1 29 (hds 1 29 rfl) (by omega) (depl_of hdep 2 1 (by decide) ho hd)
    have h0 := frm_old ha 8 _ (hold 8 rfl) o8
    exact doesL_run ho (wanted_at (b := true) hgd (hds 1 29 rfl) hg) (hpure 2 (by decide) L w' hW) (by rw [run_move _ _ _ hop]; exact congrArg (fun v => Result.ok (Next.value v) w') (eval_of h0))
  | 3, ho, hL, _ =>
    obtain ⟨hop, hdst, hgd⟩ := tab_at htab ho (show rldT[3]? = _ from rfl)
    simp only at hop hgd
    have hg := frm_at hdis ha 1 29 (hds 1 29 rfl) (by omega) (depl_of hdep 3 1 (by decide) ho hd)
    have h0 := frm_old ha 10 _ (hold 10 rfl) o10
    exact doesL_run ho (wanted_at (b := true) hgd (hds 1 29 rfl) hg) (hpure 3 (by decide) L w' hW) (by rw [run_move _ _ _ hop]; exact congrArg (fun v => Result.ok (Next.value v) w') (eval_of h0))
  | 4, ho, hL, _ =>
    obtain ⟨hop, hdst, hgd⟩ := tab_at htab ho (show rldT[4]? = _ from rfl)
    simp only at hop hgd
    have hg := frm_at hdis ha 1 29 (hds 1 29 rfl) (by omega) (depl_of hdep 4 1 (by decide) ho hd)
    have h0 := frm_at hdis ha 2 30 (hds 2 30 rfl) (by omega) (depl_of hdep 4 2 (by decide) ho hd)
    have h1 := frm_at hdis ha 3 31 (hds 3 31 rfl) (by omega) (depl_of hdep 4 3 (by decide) ho hd)
    exact doesL_run ho (wanted_at (b := true) hgd (hds 1 29 rfl) hg) (hpure 4 (by decide) L w' hW) (run_same _ _ _ _ _ _ hop _ (eval_of h0) (eval_of h1) _)
  | 5, ho, hL, _ =>
    obtain ⟨hop, hdst, hgd⟩ := tab_at htab ho (show rldT[5]? = _ from rfl)
    simp only at hop hgd
    have h0 := frm_at hdis ha 1 29 (hds 1 29 rfl) (by omega) (depl_of hdep 5 1 (by decide) ho hd)
    have h1 := frm_at hdis ha 4 32 (hds 4 32 rfl) (by omega) (depl_of hdep 5 4 (by decide) ho hd)
    exact doesL_run ho (wanted_none hgd) (hpure 5 (by decide) L w' hW) (by rw [run_pick _ _ _ _ _ hop true (eval_of h0)]; exact congrArg (fun v => Result.ok (Next.value v) w') (eval_of h1))
  | 6, ho, hL, _ =>
    obtain ⟨hop, hdst, hgd⟩ := tab_at htab ho (show rldT[6]? = _ from rfl)
    simp only at hop hgd
    have h0 := frm_at hdis ha 5 33 (hds 5 33 rfl) (by omega) (depl_of hdep 6 5 (by decide) ho hd)
    exact doesL_run ho (wanted_none hgd) (hpure 6 (by decide) L w' hW) (by rw [run_move _ _ _ hop]; exact congrArg (fun v => Result.ok (Next.value v) w') (eval_of h0))
  | 7, ho, hL, _ =>
    obtain ⟨hop, hdst, hgd⟩ := tab_at htab ho (show rldT[7]? = _ from rfl)
    simp only at hop hgd
    have hg := frm_at hdis ha 6 34 (hds 6 34 rfl) (by omega) (depl_of hdep 7 6 (by decide) ho hd)
    have h0 := frm_old ha 4 _ (hold 4 rfl) o4
    exact doesL_run ho (wanted_at (b := true) hgd (hds 6 34 rfl) hg) (hpure 7 (by decide) L w' hW) (run_ld25 _ _ _ hop _ _ _ _ _ (eval_of h0) _ (l7 L w' hW).1 (l7 L w' hW).2.1 (l7 L w' hW).2.2.1 (l7 L w' hW).2.2.2)
  | 8, ho, hL, _ =>
    obtain ⟨hop, hdst, hgd⟩ := tab_at htab ho (show rldT[8]? = _ from rfl)
    simp only at hop hgd
    have hg := frm_at hdis ha 6 34 (hds 6 34 rfl) (by omega) (depl_of hdep 8 6 (by decide) ho hd)
    have h0 := frm_at hdis ha 7 35 (hds 7 35 rfl) (by omega) (depl_of hdep 8 7 (by decide) ho hd)
    refine doesL_call ho (wanted_at (b := true) hgd (hds 6 34 rfl) hg) 43 #[.agg #[.bool lf, .slice ka kl kc, .slice va vl vc, .slice ia il ic]] ?_ (c8 L w' hW hL)
    rw [run_calls Tryz.func43 (by kernel_rfl) rfl _ _ _ _ hop rfl]
    simp only [List.map_toArray, List.map_cons, List.map_nil, eval_of h0]
    all_goals rfl
  | 9, ho, hL, _ =>
    obtain ⟨hop, hdst, hgd⟩ := tab_at htab ho (show rldT[9]? = _ from rfl)
    simp only at hop hgd
    have hg := frm_at hdis ha 6 34 (hds 6 34 rfl) (by omega) (depl_of hdep 9 6 (by decide) ho hd)
    have h0 := frm_old ha 5 _ (hold 5 rfl) o5
    exact doesL_run ho (wanted_at (b := true) hgd (hds 6 34 rfl) hg) (hpure 9 (by decide) L w' hW) (run_ld25 _ _ _ hop _ _ _ _ _ (eval_of h0) _ (l9 L w' hW).1 (l9 L w' hW).2.1 (l9 L w' hW).2.2.1 (l9 L w' hW).2.2.2)
  | 10, ho, hL, _ =>
    obtain ⟨hop, hdst, hgd⟩ := tab_at htab ho (show rldT[10]? = _ from rfl)
    simp only at hop hgd
    have hg := frm_at hdis ha 6 34 (hds 6 34 rfl) (by omega) (depl_of hdep 10 6 (by decide) ho hd)
    have h0 := frm_at hdis ha 9 37 (hds 9 37 rfl) (by omega) (depl_of hdep 10 9 (by decide) ho hd)
    refine doesL_call ho (wanted_at (b := true) hgd (hds 6 34 rfl) hg) 46 #[.agg #[.bool lf, .slice kb kl kd, .slice vb vl vd, .slice ib il jd]] ?_ (c10 L w' hW hL)
    rw [run_calls Tryz.func46 (by kernel_rfl) rfl _ _ _ _ hop rfl]
    simp only [List.map_toArray, List.map_cons, List.map_nil, eval_of h0]
    all_goals rfl
  | 11, ho, hL, _ =>
    obtain ⟨hop, hdst, hgd⟩ := tab_at htab ho (show rldT[11]? = _ from rfl)
    simp only at hop hgd
    have hg := frm_at hdis ha 6 34 (hds 6 34 rfl) (by omega) (depl_of hdep 11 6 (by decide) ho hd)
    have h0 := frm_at hdis ha 8 36 (hds 8 36 rfl) (by omega) (depl_of hdep 11 8 (by decide) ho hd)
    have h1 := frm_at hdis ha 10 38 (hds 10 38 rfl) (by omega) (depl_of hdep 11 10 (by decide) ho hd)
    exact doesL_run ho (wanted_at (b := true) hgd (hds 6 34 rfl) hg) (hpure 11 (by decide) L w' hW) (run_same _ _ _ _ _ _ hop _ (eval_of h0) (eval_of h1) _)
  | 12, ho, hL, _ =>
    obtain ⟨hop, hdst, hgd⟩ := tab_at htab ho (show rldT[12]? = _ from rfl)
    simp only at hop hgd
    have h0 := frm_at hdis ha 6 34 (hds 6 34 rfl) (by omega) (depl_of hdep 12 6 (by decide) ho hd)
    have h1 := frm_at hdis ha 11 39 (hds 11 39 rfl) (by omega) (depl_of hdep 12 11 (by decide) ho hd)
    exact doesL_run ho (wanted_none hgd) (hpure 12 (by decide) L w' hW) (by rw [run_pick _ _ _ _ _ hop true (eval_of h0)]; exact congrArg (fun v => Result.ok (Next.value v) w') (eval_of h1))
  | 13, ho, hL, _ =>
    obtain ⟨hop, hdst, hgd⟩ := tab_at htab ho (show rldT[13]? = _ from rfl)
    simp only at hop hgd
    have h0 := frm_at hdis ha 12 40 (hds 12 40 rfl) (by omega) (depl_of hdep 13 12 (by decide) ho hd)
    exact doesL_run ho (wanted_none hgd) (hpure 13 (by decide) L w' hW) (by rw [run_assign _ _ _ hop]; exact congrArg (fun v => Result.ok (Next.value v) w') (eval_of h0))
  | (i + 14), ho, hL, hi => exact absurd hi (by omega)
end Go.Proofs.YtllialbdofklgaaGreatDoor
namespace Go.Proofs.YtllialbdofklgaaGreatDoor
open Go.RowKit
theorem run_f36_0 (ρ : Operand → Value) (o : Oper) (x : Operand) (ho : o.op = .fieldAddr 36 x 0) (g q : Nat) (hx : ρ x = .pointer (some ⟨g, q, none⟩)) (w : World) : (execOp ρ o).run Tryz.prog w = .ok (.value (.pointer (some ⟨g, q + 0, none⟩))) w := by
  unfold execOp
  simp only [ho, hx]
  kernel_rfl
theorem run_f36_1 (ρ : Operand → Value) (o : Oper) (x : Operand) (ho : o.op = .fieldAddr 36 x 1) (g q : Nat) (hx : ρ x = .pointer (some ⟨g, q, none⟩)) (w : World) : (execOp ρ o).run Tryz.prog w = .ok (.value (.pointer (some ⟨g, q + 1, none⟩))) w := by
  unfold execOp
  simp only [ho, hx]
  kernel_rfl
theorem run_f36_2 (ρ : Operand → Value) (o : Oper) (x : Operand) (ho : o.op = .fieldAddr 36 x 2) (g q : Nat) (hx : ρ x = .pointer (some ⟨g, q, none⟩)) (w : World) : (execOp ρ o).run Tryz.prog w = .ok (.value (.pointer (some ⟨g, q + 2, none⟩))) w := by
  unfold execOp
  simp only [ho, hx]
  kernel_rfl
theorem run_f36_3 (ρ : Operand → Value) (o : Oper) (x : Operand) (ho : o.op = .fieldAddr 36 x 3) (g q : Nat) (hx : ρ x = .pointer (some ⟨g, q, none⟩)) (w : World) : (execOp ρ o).run Tryz.prog w = .ok (.value (.pointer (some ⟨g, q + 3, none⟩))) w := by
  unfold execOp
  simp only [ho, hx]
  kernel_rfl
theorem run_ld33 (ρ : Operand → Value) (o : Oper) (x : Operand) (ho : o.op = .load 33 x) (p : Addr) (v : Value) (ha : ρ x = .pointer (some p)) (w : World) (hc : w.cell? p = some v) : (execOp ρ o).run Tryz.prog w = .ok (.value v) w := by
  unfold execOp
  simp only [ho, ha]
  simp [Instr.loadAt, go_sem, hc, Tryz.isAgg33]
theorem run_ld34 (ρ : Operand → Value) (o : Oper) (x : Operand) (ho : o.op = .load 34 x) (p : Addr) (v : Value) (ha : ρ x = .pointer (some p)) (w : World) (hc : w.cell? p = some v) : (execOp ρ o).run Tryz.prog w = .ok (.value v) w := by
  unfold execOp
  simp only [ho, ha]
  simp [Instr.loadAt, go_sem, hc, Tryz.isAgg34]
theorem run_ia33 (ρ : Operand → Value) (o : Oper) (x y : Operand) (ho : o.op = .indexAddr 33 x y) (g q n cap k : Nat) (hk : k < n) (hx : ρ x = .slice (some ⟨g, q, none⟩) n cap) (hy : ρ y = .int .i64 (k : Int)) (w : World) : (execOp ρ o).run Tryz.prog w = .ok (.value (.pointer (some ⟨g, q + k, none⟩))) w := by
  unfold execOp
  simp only [ho, hx, hy]
  have h1 : (k : Int) < (n : Int) := by omega
  have u := Tryz.underlying33
  have z := Tryz.sizeOf22
  simp [go_sem, u, z, h1]
theorem run_ia34 (ρ : Operand → Value) (o : Oper) (x y : Operand) (ho : o.op = .indexAddr 34 x y) (g q n cap k : Nat) (hk : k < n) (hx : ρ x = .slice (some ⟨g, q, none⟩) n cap) (hy : ρ y = .int .i64 (k : Int)) (w : World) : (execOp ρ o).run Tryz.prog w = .ok (.value (.pointer (some ⟨g, q + k, none⟩))) w := by
  unfold execOp
  simp only [ho, hx, hy]
  have h1 : (k : Int) < (n : Int) := by omega
  have u := Tryz.underlying34
  have z := Tryz.sizeOf23
  simp [go_sem, u, z, h1]
theorem run_st9 (ρ : Operand → Value) (o : Oper) (x y : Operand) (ho : o.op = .store 9 x y) (p : Addr) (v : ByteArray) (ha : ρ x = .pointer (some p)) (hy : ρ y = .string v) (w : World) (hc : ∃ u, w.cell? p = some u) (hf : w.frozen? p = false) : (execOp ρ o).run Tryz.prog w = .ok .skip (w.setCell p (.string v)) := by
  obtain ⟨u, hc⟩ := hc
  have h1 : (Value.string v).oneCell' = true := rfl
  have s0 : (store p (.string v)).run Tryz.prog w = .ok () (w.setCell p (.string v)) := by
    rw [run_store _ _ _ _ _ h1, hc]
    simp [hf]
  unfold execOp
  simp only [ho, ha, hy]
  simp [go_sem, s0, Result.andThen]
theorem run_neqS (ρ : Operand → Value) (o : Oper) (t u : TypeId) (x y : Operand) (ho : o.op = .binOp .neq t x y u) (a : List UInt8) (ha : ρ x = .string ⟨a.toArray⟩) (hb : ρ y = .string ⟨a.toArray⟩) (w : World) : (execOp ρ o).run Tryz.prog w = .ok (.value (.bool false)) w := by
  unfold execOp
  simp only [ho, ha, hb]
  simp [go_sem]
theorem run_quo20 (ρ : Operand → Value) (o : Oper) (x : Operand) (ho : o.op = .binOp .quo 3 x (.const (.int .i64 20)) 3) (a : Nat) (ha : a ≤ 1000000000000) (hx : ρ x = .int .i64 (a : Int)) (hy : ρ (.const (.int .i64 20)) = .int .i64 20) (w : World) : (execOp ρ o).run Tryz.prog w = .ok (.value (.int .i64 ((a / 20 : Nat) : Int))) w := by
  unfold execOp
  simp only [ho, hx, hy]
  simp [go_sem]
  rw [IntKind.wrap_i64]
  omega
def rsaT : List (Op × Option Tmp × Option (Nat × Bool)) := [
  (.move (.tmp 0), some 32, none),
  (.nilCheck (.tmp 32), some 33, none),
  (.fieldAddr 36 (.tmp 33) 0, some 34, none),
  (.load 33 (.tmp 34), some 35, none),
  (.move (.tmp 3), some 36, none),
  (.indexAddr 33 (.tmp 35) (.tmp 36), some 37, none),
  (.load 22 (.tmp 37), some 38, none),
  (.move (.tmp 0), some 39, none),
  (.nilCheck (.tmp 39), some 40, none),
  (.fieldAddr 36 (.tmp 40) 1, some 41, none),
  (.load 33 (.tmp 41), some 42, none),
  (.move (.tmp 3), some 43, none),
  (.indexAddr 33 (.tmp 42) (.tmp 43), some 44, none),
  (.load 22 (.tmp 44), some 45, none),
  (.call { callee := .value (.func 50), args := #[(.tmp 38), (.tmp 45)], argTypes := #[22, 22] }, some 46, none),
  (.assign (.tmp 46), some 4, none)]
def rsaD : List (Nat × Nat) := [(1, 0), (2, 1), (3, 2), (5, 3), (5, 4), (6, 5), (8, 7), (9, 8), (10, 9), (12, 10), (12, 11), (13, 12), (14, 6), (14, 13), (15, 14)]
set_option maxHeartbeats 2000000 in
theorem rsa {ops : Array Oper} {id : Nat} {Q : Exit → Act → World → Prop} (Z G n cap H n2 cap2 r : Nat) (V1 V2 : Value) (htab : ops.toList.map (fun o => (o.op, o.dst, o.guard)) = rsaT) (hdep : deplB rsaD ops = true) (hac : acB ops = true)
    (a0 : Act) (w : World) (hsz : 47 ≤ a0.tmps.size) (o0 : a0.tmps[0]? = some (.pointer (some ⟨Z, 0, none⟩))) (o3 : a0.tmps[3]? = some (.int .i64 (r : Int)))
    (Wd : (Nat → Bool) → World → Prop) (h0 : Wd (fun _ => false) w.drew) (hpure : ∀ i, i ∉ ([14] : List Nat) → ∀ L W, Wd L W → Wd (upd L i) W)
    (i5 : r < n) (i12 : r < n2) (l3 : ∀ L W, Wd L W → W.cell? ⟨Z, 0 + 0, none⟩ = some (.slice (some ⟨G, 0, none⟩) n cap))
    (l6 : ∀ L W, Wd L W → W.cell? ⟨G, 0 + r, none⟩ = some V1) (l10 : ∀ L W, Wd L W → W.cell? ⟨Z, 0 + 1, none⟩ = some (.slice (some ⟨H, 0, none⟩) n2 cap2))
    (l13 : ∀ L W, Wd L W → W.cell? ⟨H, 0 + r, none⟩ = some V2)
    (c14 : ∀ L W, Wd L W → L 14 = false → Calls Tryz.prog 50 #[V1, V2] W fun e w' => e = .returned (.bool true) ∧ Wd (upd L 14) w')
    (hend : ∀ L W, (∀ i, i < 16 → L i = true) → Wd L W → Q .normal ((((((((((((((((a0.put (some 32) (.pointer (some ⟨Z, 0, none⟩))).put (some 33) (.pointer (some ⟨Z, 0, none⟩))).put (some 34) (.pointer (some ⟨Z, 0 + 0, none⟩))).put (some 35) (.slice (some ⟨G, 0, none⟩) n cap)).put (some 36) (.int .i64 (r : Int))).put (some 37) (.pointer (some ⟨G, 0 + r, none⟩))).put (some 38) V1).put (some 39) (.pointer (some ⟨Z, 0, none⟩))).put (some 40) (.pointer (some ⟨Z, 0, none⟩))).put (some 41) (.pointer (some ⟨Z, 0 + 1, none⟩))).put (some 42) (.slice (some ⟨H, 0, none⟩) n2 cap2)).put (some 43) (.int .i64 (r : Int))).put (some 44) (.pointer (some ⟨H, 0 + r, none⟩))).put (some 45) V2).put (some 46) (.bool true)).put (some 4) (.bool true)) W) : (Code.region id ops true).wp Tryz.prog Q a0 w := by
  let val : Nat → Value := fun i => match i with
    | 0 => (.pointer (some ⟨Z, 0, none⟩))
    | 1 => (.pointer (some ⟨Z, 0, none⟩))
    | 2 => (.pointer (some ⟨Z, 0 + 0, none⟩))
    | 3 => (.slice (some ⟨G, 0, none⟩) n cap)
    | 4 => (.int .i64 (r : Int))
    | 5 => (.pointer (some ⟨G, 0 + r, none⟩))
    | 6 => V1
    | 7 => (.pointer (some ⟨Z, 0, none⟩))
    | 8 => (.pointer (some ⟨Z, 0, none⟩))
    | 9 => (.pointer (some ⟨Z, 0 + 1, none⟩))
    | 10 => (.slice (some ⟨H, 0, none⟩) n2 cap2)
    | 11 => (.int .i64 (r : Int))
    | 12 => (.pointer (some ⟨H, 0 + r, none⟩))
    | 13 => V2
    | 14 => (.bool true)
    | 15 => (.bool true)
    | _ => undef
  have hosz : ops.size = 16 := by
    have := congrArg List.length htab
    simpa [rsaT] using this
  have hds : ∀ i s, (rsaT[i]?).bind (·.2.1) = some s → dstOf ops i = some s := fun i s hi => by rw [tab_dst htab, hi]
  have hdisB : disL rsaT = true := by rfl
  have hdis := disL_of htab hdisB
  have hold : ∀ s, rsaT.all (fun x => !(x.2.1 == some s)) = true → (List.range ops.size).all (fun j => !(dstOf ops j == some s)) = true := fun s h => holdL htab s h
  refine region_detL val Wd (hac_of hac) hdis h0 ?_ ?_
  rotate_left
  · intro L W hall hW
    have := hend L W (by rw [← hosz]; exact hall) hW
    have e : frm ops a0 val (fun _ => true) ops.size = ((((((((((((((((a0.put (some 32) (.pointer (some ⟨Z, 0, none⟩))).put (some 33) (.pointer (some ⟨Z, 0, none⟩))).put (some 34) (.pointer (some ⟨Z, 0 + 0, none⟩))).put (some 35) (.slice (some ⟨G, 0, none⟩) n cap)).put (some 36) (.int .i64 (r : Int))).put (some 37) (.pointer (some ⟨G, 0 + r, none⟩))).put (some 38) V1).put (some 39) (.pointer (some ⟨Z, 0, none⟩))).put (some 40) (.pointer (some ⟨Z, 0, none⟩))).put (some 41) (.pointer (some ⟨Z, 0 + 1, none⟩))).put (some 42) (.slice (some ⟨H, 0, none⟩) n2 cap2)).put (some 43) (.int .i64 (r : Int))).put (some 44) (.pointer (some ⟨H, 0 + r, none⟩))).put (some 45) V2).put (some 46) (.bool true)).put (some 4) (.bool true)) := by
      rw [hosz]
      simp only [frm, if_true]
      rw [tab_dst htab 0, tab_dst htab 1, tab_dst htab 2, tab_dst htab 3, tab_dst htab 4, tab_dst htab 5, tab_dst htab 6, tab_dst htab 7, tab_dst htab 8, tab_dst htab 9, tab_dst htab 10, tab_dst htab 11, tab_dst htab 12, tab_dst htab 13, tab_dst htab 14, tab_dst htab 15]
      rfl
    rw [e]
    exact this
  intro i o ho L a w' hL hd ha hW
  have hi : i < 16 := by rw [← hosz]; exact (Array.getElem?_eq_some_iff.1 ho).1
  match i, ho, hL, hi with
  | 0, ho, hL, _ =>
    obtain ⟨hop, hdst, hgd⟩ := tab_at htab ho (show rsaT[0]? = _ from rfl)
    simp only at hop hgd
    have h0 := frm_old ha 0 _ (hold 0 rfl) o0
    exact doesL_run ho (wanted_none hgd) (hpure 0 (by decide) L w' hW) (by rw [run_move _ _ _ hop]; exact congrArg (fun v => Result.ok (Next.value v) w') (eval_of h0))
  | 1, ho, hL, _ =>
    obtain ⟨hop, hdst, hgd⟩ := tab_at htab ho (show rsaT[1]? = _ from rfl)
    simp only at hop hgd
    have h0 := frm_at hdis ha 0 32 (hds 0 32 rfl) (by omega) (depl_of hdep 1 0 (by decide) ho hd)
    exact doesL_run ho (wanted_none hgd) (hpure 1 (by decide) L w' hW) (run_nil _ _ _ hop _ (eval_of h0) _)
  | 2, ho, hL, _ =>
    obtain ⟨hop, hdst, hgd⟩ := tab_at htab ho (show rsaT[2]? = _ from rfl)
    simp only at hop hgd
    have h0 := frm_at hdis ha 1 33 (hds 1 33 rfl) (by omega) (depl_of hdep 2 1 (by decide) ho hd)
    exact doesL_run ho (wanted_none hgd) (hpure 2 (by decide) L w' hW) (run_f36_0 _ _ _ hop _ _ (eval_of h0) _)
  | 3, ho, hL, _ =>
    obtain ⟨hop, hdst, hgd⟩ := tab_at htab ho (show rsaT[3]? = _ from rfl)
    simp only at hop hgd
    have h0 := frm_at hdis ha 2 34 (hds 2 34 rfl) (by omega) (depl_of hdep 3 2 (by decide) ho hd)
    exact doesL_run ho (wanted_none hgd) (hpure 3 (by decide) L w' hW) (run_ld33 _ _ _ hop _ _ (eval_of h0) _ (l3 L w' hW))
  | 4, ho, hL, _ =>
    obtain ⟨hop, hdst, hgd⟩ := tab_at htab ho (show rsaT[4]? = _ from rfl)
    simp only at hop hgd
    have h0 := frm_old ha 3 _ (hold 3 rfl) o3
    exact doesL_run ho (wanted_none hgd) (hpure 4 (by decide) L w' hW) (by rw [run_move _ _ _ hop]; exact congrArg (fun v => Result.ok (Next.value v) w') (eval_of h0))
  | 5, ho, hL, _ =>
    obtain ⟨hop, hdst, hgd⟩ := tab_at htab ho (show rsaT[5]? = _ from rfl)
    simp only at hop hgd
    have h0 := frm_at hdis ha 3 35 (hds 3 35 rfl) (by omega) (depl_of hdep 5 3 (by decide) ho hd)
    have h1 := frm_at hdis ha 4 36 (hds 4 36 rfl) (by omega) (depl_of hdep 5 4 (by decide) ho hd)
    exact doesL_run ho (wanted_none hgd) (hpure 5 (by decide) L w' hW) (run_ia33 _ _ _ _ hop _ _ _ _ _ i5 (eval_of h0) (eval_of h1) _)
  | 6, ho, hL, _ =>
    obtain ⟨hop, hdst, hgd⟩ := tab_at htab ho (show rsaT[6]? = _ from rfl)
    simp only at hop hgd
    have h0 := frm_at hdis ha 5 37 (hds 5 37 rfl) (by omega) (depl_of hdep 6 5 (by decide) ho hd)
    exact doesL_run ho (wanted_none hgd) (hpure 6 (by decide) L w' hW) (run_ld22 _ _ _ hop _ _ (eval_of h0) _ (l6 L w' hW))
  | 7, ho, hL, _ =>
    obtain ⟨hop, hdst, hgd⟩ := tab_at htab ho (show rsaT[7]? = _ from rfl)
    simp only at hop hgd
    have h0 := frm_old ha 0 _ (hold 0 rfl) o0
    exact doesL_run ho (wanted_none hgd) (hpure 7 (by decide) L w' hW) (by rw [run_move _ _ _ hop]; exact congrArg (fun v => Result.ok (Next.value v) w') (eval_of h0))
  | 8, ho, hL, _ =>
    obtain ⟨hop, hdst, hgd⟩ := tab_at htab ho (show rsaT[8]? = _ from rfl)
    simp only at hop hgd
    have h0 := frm_at hdis ha 7 39 (hds 7 39 rfl) (by omega) (depl_of hdep 8 7 (by decide) ho hd)
    exact doesL_run ho (wanted_none hgd) (hpure 8 (by decide) L w' hW) (run_nil _ _ _ hop _ (eval_of h0) _)
  | 9, ho, hL, _ =>
    obtain ⟨hop, hdst, hgd⟩ := tab_at htab ho (show rsaT[9]? = _ from rfl)
    simp only at hop hgd
    have h0 := frm_at hdis ha 8 40 (hds 8 40 rfl) (by omega) (depl_of hdep 9 8 (by decide) ho hd)
    exact doesL_run ho (wanted_none hgd) (hpure 9 (by decide) L w' hW) (run_f36_1 _ _ _ hop _ _ (eval_of h0) _)
  | 10, ho, hL, _ =>
    obtain ⟨hop, hdst, hgd⟩ := tab_at htab ho (show rsaT[10]? = _ from rfl)
    simp only at hop hgd
    have h0 := frm_at hdis ha 9 41 (hds 9 41 rfl) (by omega) (depl_of hdep 10 9 (by decide) ho hd)
    exact doesL_run ho (wanted_none hgd) (hpure 10 (by decide) L w' hW) (run_ld33 _ _ _ hop _ _ (eval_of h0) _ (l10 L w' hW))
  | 11, ho, hL, _ =>
    obtain ⟨hop, hdst, hgd⟩ := tab_at htab ho (show rsaT[11]? = _ from rfl)
    simp only at hop hgd
    have h0 := frm_old ha 3 _ (hold 3 rfl) o3
    exact doesL_run ho (wanted_none hgd) (hpure 11 (by decide) L w' hW) (by rw [run_move _ _ _ hop]; exact congrArg (fun v => Result.ok (Next.value v) w') (eval_of h0))
  | 12, ho, hL, _ =>
    obtain ⟨hop, hdst, hgd⟩ := tab_at htab ho (show rsaT[12]? = _ from rfl)
    simp only at hop hgd
    have h0 := frm_at hdis ha 10 42 (hds 10 42 rfl) (by omega) (depl_of hdep 12 10 (by decide) ho hd)
    have h1 := frm_at hdis ha 11 43 (hds 11 43 rfl) (by omega) (depl_of hdep 12 11 (by decide) ho hd)
    exact doesL_run ho (wanted_none hgd) (hpure 12 (by decide) L w' hW) (run_ia33 _ _ _ _ hop _ _ _ _ _ i12 (eval_of h0) (eval_of h1) _)
  | 13, ho, hL, _ =>
    obtain ⟨hop, hdst, hgd⟩ := tab_at htab ho (show rsaT[13]? = _ from rfl)
    simp only at hop hgd
    have h0 := frm_at hdis ha 12 44 (hds 12 44 rfl) (by omega) (depl_of hdep 13 12 (by decide) ho hd)
    exact doesL_run ho (wanted_none hgd) (hpure 13 (by decide) L w' hW) (run_ld22 _ _ _ hop _ _ (eval_of h0) _ (l13 L w' hW))
  | 14, ho, hL, _ =>
    obtain ⟨hop, hdst, hgd⟩ := tab_at htab ho (show rsaT[14]? = _ from rfl)
    simp only at hop hgd
    have h0 := frm_at hdis ha 6 38 (hds 6 38 rfl) (by omega) (depl_of hdep 14 6 (by decide) ho hd)
    have h1 := frm_at hdis ha 13 45 (hds 13 45 rfl) (by omega) (depl_of hdep 14 13 (by decide) ho hd)
    refine doesL_call ho (wanted_none hgd) 50 #[V1, V2] ?_ (c14 L w' hW hL)
    rw [run_calls Tryz.func50 (by kernel_rfl) rfl _ _ _ _ hop rfl]
    simp only [List.map_toArray, List.map_cons, List.map_nil, eval_of h0, eval_of h1]
    all_goals rfl
  | 15, ho, hL, _ =>
    obtain ⟨hop, hdst, hgd⟩ := tab_at htab ho (show rsaT[15]? = _ from rfl)
    simp only at hop hgd
    have h0 := frm_at hdis ha 14 46 (hds 14 46 rfl) (by omega) (depl_of hdep 15 14 (by decide) ho hd)
    exact doesL_run ho (wanted_none hgd) (hpure 15 (by decide) L w' hW) (by rw [run_assign _ _ _ hop]; exact congrArg (fun v => Result.ok (Next.value v) w') (eval_of h0))
  | (i + 16), ho, hL, hi => exact absurd hi (by omega)
def rswT : List (Op × Option Tmp × Option (Nat × Bool)) := [
  (.move (.tmp 0), some 58, none),
  (.nilCheck (.tmp 58), some 59, none),
  (.fieldAddr 36 (.tmp 59) 2, some 60, none),
  (.load 34 (.tmp 60), some 61, none),
  (.move (.tmp 5), some 62, none),
  (.indexAddr 34 (.tmp 61) (.tmp 62), some 63, none),
  (.load 23 (.tmp 63), some 64, none),
  (.move (.tmp 0), some 65, none),
  (.nilCheck (.tmp 65), some 66, none),
  (.fieldAddr 36 (.tmp 66) 3, some 67, none),
  (.load 34 (.tmp 67), some 68, none),
  (.move (.tmp 5), some 69, none),
  (.indexAddr 34 (.tmp 68) (.tmp 69), some 70, none),
  (.load 23 (.tmp 70), some 71, none),
  (.call { callee := .value (.func 49), args := #[(.tmp 64), (.tmp 71)], argTypes := #[23, 23] }, some 72, none),
  (.assign (.tmp 72), some 6, none)]
def rswD : List (Nat × Nat) := [(1, 0), (2, 1), (3, 2), (5, 3), (5, 4), (6, 5), (8, 7), (9, 8), (10, 9), (12, 10), (12, 11), (13, 12), (14, 6), (14, 13), (15, 14)]
set_option maxHeartbeats 2000000 in
theorem rsw {ops : Array Oper} {id : Nat} {Q : Exit → Act → World → Prop} (Z G n cap H n2 cap2 r : Nat) (V1 V2 : Value) (htab : ops.toList.map (fun o => (o.op, o.dst, o.guard)) = rswT) (hdep : deplB rswD ops = true) (hac : acB ops = true)
    (a0 : Act) (w : World) (hsz : 73 ≤ a0.tmps.size) (o0 : a0.tmps[0]? = some (.pointer (some ⟨Z, 0, none⟩))) (o5 : a0.tmps[5]? = some (.int .i64 (r : Int)))
    (Wd : (Nat → Bool) → World → Prop) (h0 : Wd (fun _ => false) w.drew) (hpure : ∀ i, i ∉ ([14] : List Nat) → ∀ L W, Wd L W → Wd (upd L i) W)
    (i5 : r < n) (i12 : r < n2) (l3 : ∀ L W, Wd L W → W.cell? ⟨Z, 0 + 2, none⟩ = some (.slice (some ⟨G, 0, none⟩) n cap))
    (l6 : ∀ L W, Wd L W → W.cell? ⟨G, 0 + r, none⟩ = some V1) (l10 : ∀ L W, Wd L W → W.cell? ⟨Z, 0 + 3, none⟩ = some (.slice (some ⟨H, 0, none⟩) n2 cap2))
    (l13 : ∀ L W, Wd L W → W.cell? ⟨H, 0 + r, none⟩ = some V2)
    (c14 : ∀ L W, Wd L W → L 14 = false → Calls Tryz.prog 49 #[V1, V2] W fun e w' => e = .returned (.bool true) ∧ Wd (upd L 14) w')
    (hend : ∀ L W, (∀ i, i < 16 → L i = true) → Wd L W → Q .normal ((((((((((((((((a0.put (some 58) (.pointer (some ⟨Z, 0, none⟩))).put (some 59) (.pointer (some ⟨Z, 0, none⟩))).put (some 60) (.pointer (some ⟨Z, 0 + 2, none⟩))).put (some 61) (.slice (some ⟨G, 0, none⟩) n cap)).put (some 62) (.int .i64 (r : Int))).put (some 63) (.pointer (some ⟨G, 0 + r, none⟩))).put (some 64) V1).put (some 65) (.pointer (some ⟨Z, 0, none⟩))).put (some 66) (.pointer (some ⟨Z, 0, none⟩))).put (some 67) (.pointer (some ⟨Z, 0 + 3, none⟩))).put (some 68) (.slice (some ⟨H, 0, none⟩) n2 cap2)).put (some 69) (.int .i64 (r : Int))).put (some 70) (.pointer (some ⟨H, 0 + r, none⟩))).put (some 71) V2).put (some 72) (.bool true)).put (some 6) (.bool true)) W) : (Code.region id ops true).wp Tryz.prog Q a0 w := by
  let val : Nat → Value := fun i => match i with
    | 0 => (.pointer (some ⟨Z, 0, none⟩))
    | 1 => (.pointer (some ⟨Z, 0, none⟩))
    | 2 => (.pointer (some ⟨Z, 0 + 2, none⟩))
    | 3 => (.slice (some ⟨G, 0, none⟩) n cap)
    | 4 => (.int .i64 (r : Int))
    | 5 => (.pointer (some ⟨G, 0 + r, none⟩))
    | 6 => V1
    | 7 => (.pointer (some ⟨Z, 0, none⟩))
    | 8 => (.pointer (some ⟨Z, 0, none⟩))
    | 9 => (.pointer (some ⟨Z, 0 + 3, none⟩))
    | 10 => (.slice (some ⟨H, 0, none⟩) n2 cap2)
    | 11 => (.int .i64 (r : Int))
    | 12 => (.pointer (some ⟨H, 0 + r, none⟩))
    | 13 => V2
    | 14 => (.bool true)
    | 15 => (.bool true)
    | _ => undef
  have hosz : ops.size = 16 := by
    have := congrArg List.length htab
    simpa [rswT] using this
  have hds : ∀ i s, (rswT[i]?).bind (·.2.1) = some s → dstOf ops i = some s := fun i s hi => by rw [tab_dst htab, hi]
  have hdisB : disL rswT = true := by rfl
  have hdis := disL_of htab hdisB
  have hold : ∀ s, rswT.all (fun x => !(x.2.1 == some s)) = true → (List.range ops.size).all (fun j => !(dstOf ops j == some s)) = true := fun s h => holdL htab s h
  refine region_detL val Wd (hac_of hac) hdis h0 ?_ ?_
  rotate_left
  · intro L W hall hW
    have := hend L W (by rw [← hosz]; exact hall) hW
    have e : frm ops a0 val (fun _ => true) ops.size = ((((((((((((((((a0.put (some 58) (.pointer (some ⟨Z, 0, none⟩))).put (some 59) (.pointer (some ⟨Z, 0, none⟩))).put (some 60) (.pointer (some ⟨Z, 0 + 2, none⟩))).put (some 61) (.slice (some ⟨G, 0, none⟩) n cap)).put (some 62) (.int .i64 (r : Int))).put (some 63) (.pointer (some ⟨G, 0 + r, none⟩))).put (some 64) V1).put (some 65) (.pointer (some ⟨Z, 0, none⟩))).put (some 66) (.pointer (some ⟨Z, 0, none⟩))).put (some 67) (.pointer (some ⟨Z, 0 + 3, none⟩))).put (some 68) (.slice (some ⟨H, 0, none⟩) n2 cap2)).put (some 69) (.int .i64 (r : Int))).put (some 70) (.pointer (some ⟨H, 0 + r, none⟩))).put (some 71) V2).put (some 72) (.bool true)).put (some 6) (.bool true)) := by
      rw [hosz]
      simp only [frm, if_true]
      rw [tab_dst htab 0, tab_dst htab 1, tab_dst htab 2, tab_dst htab 3, tab_dst htab 4, tab_dst htab 5, tab_dst htab 6, tab_dst htab 7, tab_dst htab 8, tab_dst htab 9, tab_dst htab 10, tab_dst htab 11, tab_dst htab 12, tab_dst htab 13, tab_dst htab 14, tab_dst htab 15]
      rfl
    rw [e]
    exact this
  intro i o ho L a w' hL hd ha hW
  have hi : i < 16 := by rw [← hosz]; exact (Array.getElem?_eq_some_iff.1 ho).1
  match i, ho, hL, hi with
  | 0, ho, hL, _ =>
    obtain ⟨hop, hdst, hgd⟩ := tab_at htab ho (show rswT[0]? = _ from rfl)
    simp only at hop hgd
    have h0 := frm_old ha 0 _ (hold 0 rfl) o0
    exact doesL_run ho (wanted_none hgd) (hpure 0 (by decide) L w' hW) (by rw [run_move _ _ _ hop]; exact congrArg (fun v => Result.ok (Next.value v) w') (eval_of h0))
  | 1, ho, hL, _ =>
    obtain ⟨hop, hdst, hgd⟩ := tab_at htab ho (show rswT[1]? = _ from rfl)
    simp only at hop hgd
    have h0 := frm_at hdis ha 0 58 (hds 0 58 rfl) (by omega) (depl_of hdep 1 0 (by decide) ho hd)
    exact doesL_run ho (wanted_none hgd) (hpure 1 (by decide) L w' hW) (run_nil _ _ _ hop _ (eval_of h0) _)
  | 2, ho, hL, _ =>
    obtain ⟨hop, hdst, hgd⟩ := tab_at htab ho (show rswT[2]? = _ from rfl)
    simp only at hop hgd
    have h0 := frm_at hdis ha 1 59 (hds 1 59 rfl) (by omega) (depl_of hdep 2 1 (by decide) ho hd)
    exact doesL_run ho (wanted_none hgd) (hpure 2 (by decide) L w' hW) (run_f36_2 _ _ _ hop _ _ (eval_of h0) _)
  | 3, ho, hL, _ =>
    obtain ⟨hop, hdst, hgd⟩ := tab_at htab ho (show rswT[3]? = _ from rfl)
    simp only at hop hgd
    have h0 := frm_at hdis ha 2 60 (hds 2 60 rfl) (by omega) (depl_of hdep 3 2 (by decide) ho hd)
    exact doesL_run ho (wanted_none hgd) (hpure 3 (by decide) L w' hW) (run_ld34 _ _ _ hop _ _ (eval_of h0) _ (l3 L w' hW))
  | 4, ho, hL, _ =>
    obtain ⟨hop, hdst, hgd⟩ := tab_at htab ho (show rswT[4]? = _ from rfl)
    simp only at hop hgd
    have h0 := frm_old ha 5 _ (hold 5 rfl) o5
    exact doesL_run ho (wanted_none hgd) (hpure 4 (by decide) L w' hW) (by rw [run_move _ _ _ hop]; exact congrArg (fun v => Result.ok (Next.value v) w') (eval_of h0))
  | 5, ho, hL, _ =>
    obtain ⟨hop, hdst, hgd⟩ := tab_at htab ho (show rswT[5]? = _ from rfl)
    simp only at hop hgd
    have h0 := frm_at hdis ha 3 61 (hds 3 61 rfl) (by omega) (depl_of hdep 5 3 (by decide) ho hd)
    have h1 := frm_at hdis ha 4 62 (hds 4 62 rfl) (by omega) (depl_of hdep 5 4 (by decide) ho hd)
    exact doesL_run ho (wanted_none hgd) (hpure 5 (by decide) L w' hW) (run_ia34 _ _ _ _ hop _ _ _ _ _ i5 (eval_of h0) (eval_of h1) _)
  | 6, ho, hL, _ =>
    obtain ⟨hop, hdst, hgd⟩ := tab_at htab ho (show rswT[6]? = _ from rfl)
    simp only at hop hgd
    have h0 := frm_at hdis ha 5 63 (hds 5 63 rfl) (by omega) (depl_of hdep 6 5 (by decide) ho hd)
    exact doesL_run ho (wanted_none hgd) (hpure 6 (by decide) L w' hW) (run_ld23 _ _ _ hop _ _ (eval_of h0) _ (l6 L w' hW))
  | 7, ho, hL, _ =>
    obtain ⟨hop, hdst, hgd⟩ := tab_at htab ho (show rswT[7]? = _ from rfl)
    simp only at hop hgd
    have h0 := frm_old ha 0 _ (hold 0 rfl) o0
    exact doesL_run ho (wanted_none hgd) (hpure 7 (by decide) L w' hW) (by rw [run_move _ _ _ hop]; exact congrArg (fun v => Result.ok (Next.value v) w') (eval_of h0))
  | 8, ho, hL, _ =>
    obtain ⟨hop, hdst, hgd⟩ := tab_at htab ho (show rswT[8]? = _ from rfl)
    simp only at hop hgd
    have h0 := frm_at hdis ha 7 65 (hds 7 65 rfl) (by omega) (depl_of hdep 8 7 (by decide) ho hd)
    exact doesL_run ho (wanted_none hgd) (hpure 8 (by decide) L w' hW) (run_nil _ _ _ hop _ (eval_of h0) _)
  | 9, ho, hL, _ =>
    obtain ⟨hop, hdst, hgd⟩ := tab_at htab ho (show rswT[9]? = _ from rfl)
    simp only at hop hgd
    have h0 := frm_at hdis ha 8 66 (hds 8 66 rfl) (by omega) (depl_of hdep 9 8 (by decide) ho hd)
    exact doesL_run ho (wanted_none hgd) (hpure 9 (by decide) L w' hW) (run_f36_3 _ _ _ hop _ _ (eval_of h0) _)
  | 10, ho, hL, _ =>
    obtain ⟨hop, hdst, hgd⟩ := tab_at htab ho (show rswT[10]? = _ from rfl)
    simp only at hop hgd
    have h0 := frm_at hdis ha 9 67 (hds 9 67 rfl) (by omega) (depl_of hdep 10 9 (by decide) ho hd)
    exact doesL_run ho (wanted_none hgd) (hpure 10 (by decide) L w' hW) (run_ld34 _ _ _ hop _ _ (eval_of h0) _ (l10 L w' hW))
  | 11, ho, hL, _ =>
    obtain ⟨hop, hdst, hgd⟩ := tab_at htab ho (show rswT[11]? = _ from rfl)
    simp only at hop hgd
    have h0 := frm_old ha 5 _ (hold 5 rfl) o5
    exact doesL_run ho (wanted_none hgd) (hpure 11 (by decide) L w' hW) (by rw [run_move _ _ _ hop]; exact congrArg (fun v => Result.ok (Next.value v) w') (eval_of h0))
  | 12, ho, hL, _ =>
    obtain ⟨hop, hdst, hgd⟩ := tab_at htab ho (show rswT[12]? = _ from rfl)
    simp only at hop hgd
    have h0 := frm_at hdis ha 10 68 (hds 10 68 rfl) (by omega) (depl_of hdep 12 10 (by decide) ho hd)
    have h1 := frm_at hdis ha 11 69 (hds 11 69 rfl) (by omega) (depl_of hdep 12 11 (by decide) ho hd)
    exact doesL_run ho (wanted_none hgd) (hpure 12 (by decide) L w' hW) (run_ia34 _ _ _ _ hop _ _ _ _ _ i12 (eval_of h0) (eval_of h1) _)
  | 13, ho, hL, _ =>
    obtain ⟨hop, hdst, hgd⟩ := tab_at htab ho (show rswT[13]? = _ from rfl)
    simp only at hop hgd
    have h0 := frm_at hdis ha 12 70 (hds 12 70 rfl) (by omega) (depl_of hdep 13 12 (by decide) ho hd)
    exact doesL_run ho (wanted_none hgd) (hpure 13 (by decide) L w' hW) (run_ld23 _ _ _ hop _ _ (eval_of h0) _ (l13 L w' hW))
  | 14, ho, hL, _ =>
    obtain ⟨hop, hdst, hgd⟩ := tab_at htab ho (show rswT[14]? = _ from rfl)
    simp only at hop hgd
    have h0 := frm_at hdis ha 6 64 (hds 6 64 rfl) (by omega) (depl_of hdep 14 6 (by decide) ho hd)
    have h1 := frm_at hdis ha 13 71 (hds 13 71 rfl) (by omega) (depl_of hdep 14 13 (by decide) ho hd)
    refine doesL_call ho (wanted_none hgd) 49 #[V1, V2] ?_ (c14 L w' hW hL)
    rw [run_calls Tryz.func49 (by kernel_rfl) rfl _ _ _ _ hop rfl]
    simp only [List.map_toArray, List.map_cons, List.map_nil, eval_of h0, eval_of h1]
    all_goals rfl
  | 15, ho, hL, _ =>
    obtain ⟨hop, hdst, hgd⟩ := tab_at htab ho (show rswT[15]? = _ from rfl)
    simp only at hop hgd
    have h0 := frm_at hdis ha 14 72 (hds 14 72 rfl) (by omega) (depl_of hdep 15 14 (by decide) ho hd)
    exact doesL_run ho (wanted_none hgd) (hpure 15 (by decide) L w' hW) (by rw [run_assign _ _ _ hop]; exact congrArg (fun v => Result.ok (Next.value v) w') (eval_of h0))
  | (i + 16), ho, hL, hi => exact absurd hi (by omega)
def rsmT : List (Op × Option Tmp × Option (Nat × Bool)) := [
  (.move (.tmp 0), some 96, none),
  (.nilCheck (.tmp 96), some 97, none),
  (.fieldAddr 36 (.tmp 97) 0, some 98, none),
  (.load 33 (.tmp 98), some 99, none),
  (.move (.tmp 7), some 100, none),
  (.indexAddr 33 (.tmp 99) (.tmp 100), some 101, none),
  (.load 22 (.tmp 101), some 102, none),
  (.move (.tmp 8), some 103, none),
  (.move (.tmp 7), some 104, none),
  (.call { callee := .value (.func 51), args := #[(.tmp 104)], argTypes := #[3] }, some 105, none),
  (.indexAddr 22 (.tmp 102) (.tmp 103), some 106, none),
  (.store 9 (.tmp 106) (.tmp 105), none, none)]
def rsmD : List (Nat × Nat) := [(1, 0), (2, 1), (3, 2), (5, 3), (5, 4), (6, 5), (9, 8), (10, 6), (10, 7), (11, 9), (11, 10)]
set_option maxHeartbeats 2000000 in
theorem rsm {ops : Array Oper} {id : Nat} {Q : Exit → Act → World → Prop} (Z G n cap g m c r k : Nat) (mv : Bs) (htab : ops.toList.map (fun o => (o.op, o.dst, o.guard)) = rsmT) (hdep : deplB rsmD ops = true) (hac : acB ops = true)
    (a0 : Act) (w : World) (hsz : 107 ≤ a0.tmps.size) (o0 : a0.tmps[0]? = some (.pointer (some ⟨Z, 0, none⟩))) (o7 : a0.tmps[7]? = some (.int .i64 (r : Int))) (o8 : a0.tmps[8]? = some (.int .i64 (k : Int)))
    (Wd : (Nat → Bool) → World → Prop) (h0 : Wd (fun _ => false) w.drew) (hpure : ∀ i, i ∉ ([9, 11] : List Nat) → ∀ L W, Wd L W → Wd (upd L i) W)
    (i5 : r < n) (i10 : k < m) (l3 : ∀ L W, Wd L W → W.cell? ⟨Z, 0 + 0, none⟩ = some (.slice (some ⟨G, 0, none⟩) n cap))
    (l6 : ∀ L W, Wd L W → W.cell? ⟨G, 0 + r, none⟩ = some (.slice (some ⟨g, 0, none⟩) m c))
    (c9 : ∀ L W, Wd L W → L 9 = false → Calls Tryz.prog 51 #[.int .i64 (r : Int)] W fun e w' => e = .returned (S mv) ∧ Wd (upd L 9) w')
    (n11 : ∀ L W, Wd L W → L 11 = false → L 9 = true → L 10 = true → Wd (upd L 11) (W.setCell ⟨g, 0 + k, none⟩ (S mv)) ∧ (∃ u, W.cell? ⟨g, 0 + k, none⟩ = some u) ∧ W.frozen? ⟨g, 0 + k, none⟩ = false)
    (hend : ∀ L W, (∀ i, i < 12 → L i = true) → Wd L W → Q .normal (((((((((((a0.put (some 96) (.pointer (some ⟨Z, 0, none⟩))).put (some 97) (.pointer (some ⟨Z, 0, none⟩))).put (some 98) (.pointer (some ⟨Z, 0 + 0, none⟩))).put (some 99) (.slice (some ⟨G, 0, none⟩) n cap)).put (some 100) (.int .i64 (r : Int))).put (some 101) (.pointer (some ⟨G, 0 + r, none⟩))).put (some 102) (.slice (some ⟨g, 0, none⟩) m c)).put (some 103) (.int .i64 (k : Int))).put (some 104) (.int .i64 (r : Int))).put (some 105) (S mv)).put (some 106) (.pointer (some ⟨g, 0 + k, none⟩))) W) : (Code.region id ops true).wp Tryz.prog Q a0 w := by
  let val : Nat → Value := fun i => match i with
    | 0 => (.pointer (some ⟨Z, 0, none⟩))
    | 1 => (.pointer (some ⟨Z, 0, none⟩))
    | 2 => (.pointer (some ⟨Z, 0 + 0, none⟩))
    | 3 => (.slice (some ⟨G, 0, none⟩) n cap)
    | 4 => (.int .i64 (r : Int))
    | 5 => (.pointer (some ⟨G, 0 + r, none⟩))
    | 6 => (.slice (some ⟨g, 0, none⟩) m c)
    | 7 => (.int .i64 (k : Int))
    | 8 => (.int .i64 (r : Int))
    | 9 => (S mv)
    | 10 => (.pointer (some ⟨g, 0 + k, none⟩))
    | 11 => undef
    | _ => undef
  have hosz : ops.size = 12 := by
    have := congrArg List.length htab
    simpa [rsmT] using this
  have hds : ∀ i s, (rsmT[i]?).bind (·.2.1) = some s → dstOf ops i = some s := fun i s hi => by rw [tab_dst htab, hi]
  have hdisB : disL rsmT = true := by rfl
  have hdis := disL_of htab hdisB
  have hold : ∀ s, rsmT.all (fun x => !(x.2.1 == some s)) = true → (List.range ops.size).all (fun j => !(dstOf ops j == some s)) = true := fun s h => holdL htab s h
  refine region_detL val Wd (hac_of hac) hdis h0 ?_ ?_
  rotate_left
  · intro L W hall hW
    have := hend L W (by rw [← hosz]; exact hall) hW
    have e : frm ops a0 val (fun _ => true) ops.size = (((((((((((a0.put (some 96) (.pointer (some ⟨Z, 0, none⟩))).put (some 97) (.pointer (some ⟨Z, 0, none⟩))).put (some 98) (.pointer (some ⟨Z, 0 + 0, none⟩))).put (some 99) (.slice (some ⟨G, 0, none⟩) n cap)).put (some 100) (.int .i64 (r : Int))).put (some 101) (.pointer (some ⟨G, 0 + r, none⟩))).put (some 102) (.slice (some ⟨g, 0, none⟩) m c)).put (some 103) (.int .i64 (k : Int))).put (some 104) (.int .i64 (r : Int))).put (some 105) (S mv)).put (some 106) (.pointer (some ⟨g, 0 + k, none⟩))) := by
      rw [hosz]
      simp only [frm, if_true]
      rw [tab_dst htab 0, tab_dst htab 1, tab_dst htab 2, tab_dst htab 3, tab_dst htab 4, tab_dst htab 5, tab_dst htab 6, tab_dst htab 7, tab_dst htab 8, tab_dst htab 9, tab_dst htab 10, (show dstOf ops 11 = none from (tab_dst htab 11).trans rfl), put_none]
      rfl
    rw [e]
    exact this
  intro i o ho L a w' hL hd ha hW
  have hi : i < 12 := by rw [← hosz]; exact (Array.getElem?_eq_some_iff.1 ho).1
  match i, ho, hL, hi with
  | 0, ho, hL, _ =>
    obtain ⟨hop, hdst, hgd⟩ := tab_at htab ho (show rsmT[0]? = _ from rfl)
    simp only at hop hgd
    have h0 := frm_old ha 0 _ (hold 0 rfl) o0
    exact doesL_run ho (wanted_none hgd) (hpure 0 (by decide) L w' hW) (by rw [run_move _ _ _ hop]; exact congrArg (fun v => Result.ok (Next.value v) w') (eval_of h0))
  | 1, ho, hL, _ =>
    obtain ⟨hop, hdst, hgd⟩ := tab_at htab ho (show rsmT[1]? = _ from rfl)
    simp only at hop hgd
    have h0 := frm_at hdis ha 0 96 (hds 0 96 rfl) (by omega) (depl_of hdep 1 0 (by decide) ho hd)
    exact doesL_run ho (wanted_none hgd) (hpure 1 (by decide) L w' hW) (run_nil _ _ _ hop _ (eval_of h0) _)
  | 2, ho, hL, _ =>
    obtain ⟨hop, hdst, hgd⟩ := tab_at htab ho (show rsmT[2]? = _ from rfl)
    simp only at hop hgd
    have h0 := frm_at hdis ha 1 97 (hds 1 97 rfl) (by omega) (depl_of hdep 2 1 (by decide) ho hd)
    exact doesL_run ho (wanted_none hgd) (hpure 2 (by decide) L w' hW) (run_f36_0 _ _ _ hop _ _ (eval_of h0) _)
  | 3, ho, hL, _ =>
    obtain ⟨hop, hdst, hgd⟩ := tab_at htab ho (show rsmT[3]? = _ from rfl)
    simp only at hop hgd
    have h0 := frm_at hdis ha 2 98 (hds 2 98 rfl) (by omega) (depl_of hdep 3 2 (by decide) ho hd)
    exact doesL_run ho (wanted_none hgd) (hpure 3 (by decide) L w' hW) (run_ld33 _ _ _ hop _ _ (eval_of h0) _ (l3 L w' hW))
  | 4, ho, hL, _ =>
    obtain ⟨hop, hdst, hgd⟩ := tab_at htab ho (show rsmT[4]? = _ from rfl)
    simp only at hop hgd
    have h0 := frm_old ha 7 _ (hold 7 rfl) o7
    exact doesL_run ho (wanted_none hgd) (hpure 4 (by decide) L w' hW) (by rw [run_move _ _ _ hop]; exact congrArg (fun v => Result.ok (Next.value v) w') (eval_of h0))
  | 5, ho, hL, _ =>
    obtain ⟨hop, hdst, hgd⟩ := tab_at htab ho (show rsmT[5]? = _ from rfl)
    simp only at hop hgd
    have h0 := frm_at hdis ha 3 99 (hds 3 99 rfl) (by omega) (depl_of hdep 5 3 (by decide) ho hd)
    have h1 := frm_at hdis ha 4 100 (hds 4 100 rfl) (by omega) (depl_of hdep 5 4 (by decide) ho hd)
    exact doesL_run ho (wanted_none hgd) (hpure 5 (by decide) L w' hW) (run_ia33 _ _ _ _ hop _ _ _ _ _ i5 (eval_of h0) (eval_of h1) _)
  | 6, ho, hL, _ =>
    obtain ⟨hop, hdst, hgd⟩ := tab_at htab ho (show rsmT[6]? = _ from rfl)
    simp only at hop hgd
    have h0 := frm_at hdis ha 5 101 (hds 5 101 rfl) (by omega) (depl_of hdep 6 5 (by decide) ho hd)
    exact doesL_run ho (wanted_none hgd) (hpure 6 (by decide) L w' hW) (run_ld22 _ _ _ hop _ _ (eval_of h0) _ (l6 L w' hW))
  | 7, ho, hL, _ =>
    obtain ⟨hop, hdst, hgd⟩ := tab_at htab ho (show rsmT[7]? = _ from rfl)
    simp only at hop hgd
    have h0 := frm_old ha 8 _ (hold 8 rfl) o8
    exact doesL_run ho (wanted_none hgd) (hpure 7 (by decide) L w' hW) (by rw [run_move _ _ _ hop]; exact congrArg (fun v => Result.ok (Next.value v) w') (eval_of h0))
  | 8, ho, hL, _ =>
    obtain ⟨hop, hdst, hgd⟩ := tab_at htab ho (show rsmT[8]? = _ from rfl)
    simp only at hop hgd
    have h0 := frm_old ha 7 _ (hold 7 rfl) o7
    exact doesL_run ho (wanted_none hgd) (hpure 8 (by decide) L w' hW) (by rw [run_move _ _ _ hop]; exact congrArg (fun v => Result.ok (Next.value v) w') (eval_of h0))
  | 9, ho, hL, _ =>
    obtain ⟨hop, hdst, hgd⟩ := tab_at htab ho (show rsmT[9]? = _ from rfl)
    simp only at hop hgd
    have h0 := frm_at hdis ha 8 104 (hds 8 104 rfl) (by omega) (depl_of hdep 9 8 (by decide) ho hd)
    refine doesL_call ho (wanted_none hgd) 51 #[.int .i64 (r : Int)] ?_ (c9 L w' hW hL)
    rw [run_calls Tryz.func51 (by kernel_rfl) rfl _ _ _ _ hop rfl]
    simp only [List.map_toArray, List.map_cons, List.map_nil, eval_of h0]
    all_goals rfl
  | 10, ho, hL, _ =>
    obtain ⟨hop, hdst, hgd⟩ := tab_at htab ho (show rsmT[10]? = _ from rfl)
    simp only at hop hgd
    have h0 := frm_at hdis ha 6 102 (hds 6 102 rfl) (by omega) (depl_of hdep 10 6 (by decide) ho hd)
    have h1 := frm_at hdis ha 7 103 (hds 7 103 rfl) (by omega) (depl_of hdep 10 7 (by decide) ho hd)
    exact doesL_run ho (wanted_none hgd) (hpure 10 (by decide) L w' hW) (run_ia22 _ _ _ _ hop _ _ _ _ _ i10 (eval_of h0) (eval_of h1) _)
  | 11, ho, hL, _ =>
    obtain ⟨hop, hdst, hgd⟩ := tab_at htab ho (show rsmT[11]? = _ from rfl)
    simp only at hop hgd
    have h0 := frm_at hdis ha 10 106 (hds 10 106 rfl) (by omega) (depl_of hdep 11 10 (by decide) ho hd)
    have h1 := frm_at hdis ha 9 105 (hds 9 105 rfl) (by omega) (depl_of hdep 11 9 (by decide) ho hd)
    obtain ⟨s1, s2, s3⟩ := n11 L w' hW hL (depl_of hdep 11 9 (by decide) ho hd) (depl_of hdep 11 10 (by decide) ho hd)
    exact doesL_skp ho (wanted_none hgd) rfl s1 (run_st9 _ _ _ _ hop _ _ (eval_of h0) (eval_of h1) _ s2 s3)
  | (i + 12), ho, hL, hi => exact absurd hi (by omega)
def rskT : List (Op × Option Tmp × Option (Nat × Bool)) := [
  (.move (.tmp 11), some 212, none),
  (.move (.tmp 19), some 213, none),
  (.indexAddr 33 (.tmp 212) (.tmp 213), some 214, none),
  (.load 22 (.tmp 214), some 215, none),
  (.move (.tmp 20), some 216, none),
  (.indexAddr 22 (.tmp 215) (.tmp 216), some 217, none),
  (.load 9 (.tmp 217), some 218, none),
  (.move (.tmp 19), some 219, none),
  (.binOp .quo 3 (.tmp 219) (.const (.int .i64 20)) 3, some 220, none),
  (.call { callee := .value (.func 51), args := #[(.tmp 220)], argTypes := #[3] }, some 221, none),
  (.binOp .neq 9 (.tmp 218) (.tmp 221) 9, some 222, none)]
def rskD : List (Nat × Nat) := [(2, 0), (2, 1), (3, 2), (5, 3), (5, 4), (6, 5), (8, 7), (9, 8), (10, 6), (10, 9)]
set_option maxHeartbeats 2000000 in
theorem rsk {ops : Array Oper} {id : Nat} {Q : Exit → Act → World → Prop} (G n cap g m c r k : Nat) (mv : Bs) (htab : ops.toList.map (fun o => (o.op, o.dst, o.guard)) = rskT) (hdep : deplB rskD ops = true) (hac : acB ops = true)
    (a0 : Act) (w : World) (hsz : 223 ≤ a0.tmps.size) (o11 : a0.tmps[11]? = some (.slice (some ⟨G, 0, none⟩) n cap)) (o19 : a0.tmps[19]? = some (.int .i64 (r : Int))) (o20 : a0.tmps[20]? = some (.int .i64 (k : Int)))
    (Wd : (Nat → Bool) → World → Prop) (h0 : Wd (fun _ => false) w.drew) (hpure : ∀ i, i ∉ ([9] : List Nat) → ∀ L W, Wd L W → Wd (upd L i) W)
    (i2 : r < n) (i5 : k < m) (q8 : r ≤ 1000000000000)
    (l3 : ∀ L W, Wd L W → W.cell? ⟨G, 0 + r, none⟩ = some (.slice (some ⟨g, 0, none⟩) m c)) (l6 : ∀ L W, Wd L W → W.cell? ⟨g, 0 + k, none⟩ = some (S mv))
    (c9 : ∀ L W, Wd L W → L 9 = false → Calls Tryz.prog 51 #[.int .i64 ((r / 20 : Nat) : Int)] W fun e w' => e = .returned (S mv) ∧ Wd (upd L 9) w')
    (hend : ∀ L W, (∀ i, i < 11 → L i = true) → Wd L W → Q .normal (((((((((((a0.put (some 212) (.slice (some ⟨G, 0, none⟩) n cap)).put (some 213) (.int .i64 (r : Int))).put (some 214) (.pointer (some ⟨G, 0 + r, none⟩))).put (some 215) (.slice (some ⟨g, 0, none⟩) m c)).put (some 216) (.int .i64 (k : Int))).put (some 217) (.pointer (some ⟨g, 0 + k, none⟩))).put (some 218) (S mv)).put (some 219) (.int .i64 (r : Int))).put (some 220) (.int .i64 ((r / 20 : Nat) : Int))).put (some 221) (S mv)).put (some 222) (.bool false)) W) : (Code.region id ops true).wp Tryz.prog Q a0 w := by
  let val : Nat → Value := fun i => match i with
    | 0 => (.slice (some ⟨G, 0, none⟩) n cap)
    | 1 => (.int .i64 (r : Int))
    | 2 => (.pointer (some ⟨G, 0 + r, none⟩))
    | 3 => (.slice (some ⟨g, 0, none⟩) m c)
    | 4 => (.int .i64 (k : Int))
    | 5 => (.pointer (some ⟨g, 0 + k, none⟩))
    | 6 => (S mv)
    | 7 => (.int .i64 (r : Int))
    | 8 => (.int .i64 ((r / 20 : Nat) : Int))
    | 9 => (S mv)
    | 10 => (.bool false)
    | _ => undef
  have hosz : ops.size = 11 := by
    have := congrArg List.length htab
    simpa [rskT] using this
  have hds : ∀ i s, (rskT[i]?).bind (·.2.1) = some s → dstOf ops i = some s := fun i s hi => by rw [tab_dst htab, hi]
  have hdisB : disL rskT = true := by rfl
  have hdis := disL_of htab hdisB
  have hold : ∀ s, rskT.all (fun x => !(x.2.1 == some s)) = true → (List.range ops.size).all (fun j => !(dstOf ops j == some s)) = true := fun s h => holdL htab s h
  refine region_detL val Wd (hac_of hac) hdis h0 ?_ ?_
  rotate_left
  · intro L W hall hW
    have := hend L W (by rw [← hosz]; exact hall) hW
    have e : frm ops a0 val (fun _ => true) ops.size = (((((((((((a0.put (some 212) (.slice (some ⟨G, 0, none⟩) n cap)).put (some 213) (.int .i64 (r : Int))).put (some 214) (.pointer (some ⟨G, 0 + r, none⟩))).put (some 215) (.slice (some ⟨g, 0, none⟩) m c)).put (some 216) (.int .i64 (k : Int))).put (some 217) (.pointer (some ⟨g, 0 + k, none⟩))).put (some 218) (S mv)).put (some 219) (.int .i64 (r : Int))).put (some 220) (.int .i64 ((r / 20 : Nat) : Int))).put (some 221) (S mv)).put (some 222) (.bool false)) := by
      rw [hosz]
      simp only [frm, if_true]
      rw [tab_dst htab 0, tab_dst htab 1, tab_dst htab 2, tab_dst htab 3, tab_dst htab 4, tab_dst htab 5, tab_dst htab 6, tab_dst htab 7, tab_dst htab 8, tab_dst htab 9, tab_dst htab 10]
      rfl
    rw [e]
    exact this
  intro i o ho L a w' hL hd ha hW
  have hi : i < 11 := by rw [← hosz]; exact (Array.getElem?_eq_some_iff.1 ho).1
  match i, ho, hL, hi with
  | 0, ho, hL, _ =>
    obtain ⟨hop, hdst, hgd⟩ := tab_at htab ho (show rskT[0]? = _ from rfl)
    simp only at hop hgd
    have h0 := frm_old ha 11 _ (hold 11 rfl) o11
    exact doesL_run ho (wanted_none hgd) (hpure 0 (by decide) L w' hW) (by rw [run_move _ _ _ hop]; exact congrArg (fun v => Result.ok (Next.value v) w') (eval_of h0))
  | 1, ho, hL, _ =>
    obtain ⟨hop, hdst, hgd⟩ := tab_at htab ho (show rskT[1]? = _ from rfl)
    simp only at hop hgd
    have h0 := frm_old ha 19 _ (hold 19 rfl) o19
    exact doesL_run ho (wanted_none hgd) (hpure 1 (by decide) L w' hW) (by rw [run_move _ _ _ hop]; exact congrArg (fun v => Result.ok (Next.value v) w') (eval_of h0))
  | 2, ho, hL, _ =>
    obtain ⟨hop, hdst, hgd⟩ := tab_at htab ho (show rskT[2]? = _ from rfl)
    simp only at hop hgd
    have h0 := frm_at hdis ha 0 212 (hds 0 212 rfl) (by omega) (depl_of hdep 2 0 (by decide) ho hd)
    have h1 := frm_at hdis ha 1 213 (hds 1 213 rfl) (by omega) (depl_of hdep 2 1 (by decide) ho hd)
    exact doesL_run ho (wanted_none hgd) (hpure 2 (by decide) L w' hW) (run_ia33 _ _ _ _ hop _ _ _ _ _ i2 (eval_of h0) (eval_of h1) _)
  | 3, ho, hL, _ =>
    obtain ⟨hop, hdst, hgd⟩ := tab_at htab ho (show rskT[3]? = _ from rfl)
    simp only at hop hgd
    have h0 := frm_at hdis ha 2 214 (hds 2 214 rfl) (by omega) (depl_of hdep 3 2 (by decide) ho hd)
    exact doesL_run ho (wanted_none hgd) (hpure 3 (by decide) L w' hW) (run_ld22 _ _ _ hop _ _ (eval_of h0) _ (l3 L w' hW))
  | 4, ho, hL, _ =>
    obtain ⟨hop, hdst, hgd⟩ := tab_at htab ho (show rskT[4]? = _ from rfl)
    simp only at hop hgd
    have h0 := frm_old ha 20 _ (hold 20 rfl) o20
    exact doesL_run ho (wanted_none hgd) (hpure 4 (by decide) L w' hW) (by rw [run_move _ _ _ hop]; exact congrArg (fun v => Result.ok (Next.value v) w') (eval_of h0))
  | 5, ho, hL, _ =>
    obtain ⟨hop, hdst, hgd⟩ := tab_at htab ho (show rskT[5]? = _ from rfl)
    simp only at hop hgd
    have h0 := frm_at hdis ha 3 215 (hds 3 215 rfl) (by omega) (depl_of hdep 5 3 (by decide) ho hd)
    have h1 := frm_at hdis ha 4 216 (hds 4 216 rfl) (by omega) (depl_of hdep 5 4 (by decide) ho hd)
    exact doesL_run ho (wanted_none hgd) (hpure 5 (by decide) L w' hW) (run_ia22 _ _ _ _ hop _ _ _ _ _ i5 (eval_of h0) (eval_of h1) _)
  | 6, ho, hL, _ =>
    obtain ⟨hop, hdst, hgd⟩ := tab_at htab ho (show rskT[6]? = _ from rfl)
    simp only at hop hgd
    have h0 := frm_at hdis ha 5 217 (hds 5 217 rfl) (by omega) (depl_of hdep 6 5 (by decide) ho hd)
    exact doesL_run ho (wanted_none hgd) (hpure 6 (by decide) L w' hW) (run_ld _ _ _ hop _ _ (eval_of h0) _ (l6 L w' hW))
  | 7, ho, hL, _ =>
    obtain ⟨hop, hdst, hgd⟩ := tab_at htab ho (show rskT[7]? = _ from rfl)
    simp only at hop hgd
    have h0 := frm_old ha 19 _ (hold 19 rfl) o19
    exact doesL_run ho (wanted_none hgd) (hpure 7 (by decide) L w' hW) (by rw [run_move _ _ _ hop]; exact congrArg (fun v => Result.ok (Next.value v) w') (eval_of h0))
  | 8, ho, hL, _ =>
    obtain ⟨hop, hdst, hgd⟩ := tab_at htab ho (show rskT[8]? = _ from rfl)
    simp only at hop hgd
    have h0 := frm_at hdis ha 7 219 (hds 7 219 rfl) (by omega) (depl_of hdep 8 7 (by decide) ho hd)
    exact doesL_run ho (wanted_none hgd) (hpure 8 (by decide) L w' hW) (run_quo20 _ _ _ hop _ q8 (eval_of h0) rfl _)
  | 9, ho, hL, _ =>
    obtain ⟨hop, hdst, hgd⟩ := tab_at htab ho (show rskT[9]? = _ from rfl)
    simp only at hop hgd
    have h0 := frm_at hdis ha 8 220 (hds 8 220 rfl) (by omega) (depl_of hdep 9 8 (by decide) ho hd)
    refine doesL_call ho (wanted_none hgd) 51 #[.int .i64 ((r / 20 : Nat) : Int)] ?_ (c9 L w' hW hL)
    rw [run_calls Tryz.func51 (by kernel_rfl) rfl _ _ _ _ hop rfl]
    simp only [List.map_toArray, List.map_cons, List.map_nil, eval_of h0]
    all_goals rfl
  | 10, ho, hL, _ =>
    obtain ⟨hop, hdst, hgd⟩ := tab_at htab ho (show rskT[10]? = _ from rfl)
    simp only at hop hgd
    have h0 := frm_at hdis ha 6 218 (hds 6 218 rfl) (by omega) (depl_of hdep 10 6 (by decide) ho hd)
    have h1 := frm_at hdis ha 9 221 (hds 9 221 rfl) (by omega) (depl_of hdep 10 9 (by decide) ho hd)
    exact doesL_run ho (wanted_none hgd) (hpure 10 (by decide) L w' hW) (run_neqS _ _ _ _ _ _ hop _ (eval_of h0) (eval_of h1) _)
  | (i + 11), ho, hL, hi => exact absurd hi (by omega)
end Go.Proofs.YtllialbdofklgaaGreatDoor
namespace Go.Proofs.YtllialbdofklgaaGreatDoor
open Go.RowKit
theorem run_gtrI (ρ : Operand → Value) (o : Oper) (x : Operand) (ho : o.op = .binOp .gtr 3 x (.const (.int .i64 2147483647)) 3) (a : Nat) (hx : ρ x = .int .i64 (a : Int)) (hy : ρ (.const (.int .i64 2147483647)) = .int .i64 2147483647) (w : World) : (execOp ρ o).run Tryz.prog w = .ok (.value (.bool (decide ((2147483647 : Int) < (a : Int))))) w := by
  unfold execOp
  simp only [ho, hx, hy]
  simp [go_sem]
end Go.Proofs.YtllialbdofklgaaGreatDoor
