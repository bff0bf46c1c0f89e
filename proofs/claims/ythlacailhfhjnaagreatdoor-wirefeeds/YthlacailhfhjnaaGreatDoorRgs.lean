import Derived.Test.YthlacailhfhjnaaGreatDoorZdetl
import Derived.Test.YthlacailhfhjnaaGreatDoorZwbd
namespace Go.Proofs.YthlacailhfhjnaaGreatDoor
open Go.RowKit Go.Lib
theorem run_ld24 (ρ : Operand → Value) (o : Oper) (x : Operand) (ho : o.op = .load 24 x) (g q : Nat) (a b c d : Value) (ha : ρ x = .pointer (some ⟨g, q, none⟩)) (w : World) (h0 : w.cell? ⟨g, q, none⟩ = some a) (h1 : w.cell? ⟨g, q + 1, none⟩ = some b) (h2 : w.cell? ⟨g, q + 2, none⟩ = some c) (h3 : w.cell? ⟨g, q + 3, none⟩ = some d) : (execOp ρ o).run Tryz.prog w = .ok (.value (.agg #[a, b, c, d])) w := by
  unfold execOp
  simp only [ho, ha]
  simp [Instr.loadAt, go_sem, h0, h1, h2, h3, Tryz.isAgg24]
theorem run_ia54 (ρ : Operand → Value) (o : Oper) (x y : Operand) (ho : o.op = .indexAddr 54 x y) (g q n cap k : Nat) (hk : k < n) (hx : ρ x = .slice (some ⟨g, q, none⟩) n cap) (hy : ρ y = .int .i64 (k : Int)) (w : World) : (execOp ρ o).run Tryz.prog w = .ok (.value (.pointer (some ⟨g, q + k * 4, none⟩))) w := by
  unfold execOp
  simp only [ho, hx, hy]
  have h1 : (k : Int) < (n : Int) := by omega
  have u := Tryz.underlying54
  have z := Tryz.sizeOf24
  simp [go_sem, u, z, h1]
def rmsT : List (Op × Option Tmp × Option (Nat × Bool)) := [
  (.move (.tmp 0), some 18, none),
  (.move (.tmp 5), some 19, none),
  (.indexAddr 54 (.tmp 18) (.tmp 19), some 20, none),
  (.load 24 (.tmp 20), some 21, none),
  (.move (.tmp 1), some 22, none),
  (.move (.tmp 5), some 23, none),
  (.indexAddr 54 (.tmp 22) (.tmp 23), some 24, none),
  (.load 24 (.tmp 24), some 25, none),
  (.call { callee := .value (.func 51), args := #[(.tmp 21), (.tmp 25)], argTypes := #[24, 24] }, some 26, none),
  (.assign (.tmp 26), some 6, none)]
def rmsD : List (Nat × Nat) := [(2, 0), (2, 1), (3, 2), (6, 4), (6, 5), (7, 6), (8, 3), (8, 7), (9, 8)]
set_option maxHeartbeats 2000000 in
theorem rms {ops : Array Oper} {id : Nat} {Q : Exit → Act → World → Prop} (p1 q1 p2 q2 n c1 c2 k h d1 d2 : Nat) (a1 a2 : Option Addr) (m p b : Bs) (htab : ops.toList.map (fun o => (o.op, o.dst, o.guard)) = rmsT) (hdep : deplB rmsD ops = true) (hac : acB ops = true)
    (a0 : Act) (w : World) (hsz : 27 ≤ a0.tmps.size) (o0 : a0.tmps[0]? = some (.slice (some ⟨p1, q1, none⟩) n c1)) (o1 : a0.tmps[1]? = some (.slice (some ⟨p2, q2, none⟩) n c2)) (o5 : a0.tmps[5]? = some (.int .i64 (k : Int)))
    (Wd : (Nat → Bool) → World → Prop) (h0 : Wd (fun _ => false) w.drew) (hpure : ∀ i, i ∉ ([8] : List Nat) → ∀ L W, Wd L W → Wd (upd L i) W)
    (i2 : k < n) (i6 : k < n) (l3 : ∀ L W, Wd L W → W.cell? ⟨p1, q1 + k * 4, none⟩ = some (S m) ∧ W.cell? ⟨p1, q1 + k * 4 + 1, none⟩ = some (S p) ∧ W.cell? ⟨p1, q1 + k * 4 + 2, none⟩ = some (.slice a1 h d1) ∧ W.cell? ⟨p1, q1 + k * 4 + 3, none⟩ = some (S b)) (l7 : ∀ L W, Wd L W → W.cell? ⟨p2, q2 + k * 4, none⟩ = some (S m) ∧ W.cell? ⟨p2, q2 + k * 4 + 1, none⟩ = some (S p) ∧ W.cell? ⟨p2, q2 + k * 4 + 2, none⟩ = some (.slice a2 h d2) ∧ W.cell? ⟨p2, q2 + k * 4 + 3, none⟩ = some (S b))
    (c8 : ∀ L W, Wd L W → L 8 = false → Calls Tryz.prog 51 #[.agg #[S m, S p, .slice a1 h d1, S b], .agg #[S m, S p, .slice a2 h d2, S b]] W fun e w' => e = .returned (.bool true) ∧ Wd (upd L 8) w')
    (hend : ∀ L W, (∀ i, i < 10 → L i = true) → Wd L W → Q .normal ((((((((((a0.put (some 18) (.slice (some ⟨p1, q1, none⟩) n c1)).put (some 19) (.int .i64 (k : Int))).put (some 20) (.pointer (some ⟨p1, q1 + k * 4, none⟩))).put (some 21) (.agg #[S m, S p, .slice a1 h d1, S b])).put (some 22) (.slice (some ⟨p2, q2, none⟩) n c2)).put (some 23) (.int .i64 (k : Int))).put (some 24) (.pointer (some ⟨p2, q2 + k * 4, none⟩))).put (some 25) (.agg #[S m, S p, .slice a2 h d2, S b])).put (some 26) (.bool true)).put (some 6) (.bool true)) W) : (Code.region id ops true).wp Tryz.prog Q a0 w := by
  let val : Nat → Value := fun i => match i with
    | 0 => (.slice (some ⟨p1, q1, none⟩) n c1)
    | 1 => (.int .i64 (k : Int))
    | 2 => (.pointer (some ⟨p1, q1 + k * 4, none⟩))
    | 3 => (.agg #[S m, S p, .slice a1 h d1, S b])
    | 4 => (.slice (some ⟨p2, q2, none⟩) n c2)
    | 5 => (.int .i64 (k : Int))
    | 6 => (.pointer (some ⟨p2, q2 + k * 4, none⟩))
    | 7 => (.agg #[S m, S p, .slice a2 h d2, S b])
    | 8 => (.bool true)
    | 9 => (.bool true)
    | _ => undef
  have hosz : ops.size = 10 := by
    have := congrArg List.length htab
    simpa [rmsT] using this
  have hds : ∀ i s, (rmsT[i]?).bind (·.2.1) = some s → dstOf ops i = some s := fun i s hi => by rw [tab_dst htab, hi]
  have hdisB : disL rmsT = true := by rfl
  have hdis := disL_of htab hdisB
  have hold : ∀ s, rmsT.all (fun x => !(x.2.1 == some s)) = true → (List.range ops.size).all (fun j => !(dstOf ops j == some s)) = true := fun s h => holdL htab s h
  refine region_detL val Wd (hac_of hac) hdis h0 ?_ ?_
  rotate_left
  · intro L W hall hW
    have := hend L W (by rw [← hosz]; exact hall) hW
    have e : frm ops a0 val (fun _ => true) ops.size = ((((((((((a0.put (some 18) (.slice (some ⟨p1, q1, none⟩) n c1)).put (some 19) (.int .i64 (k : Int))).put (some 20) (.pointer (some ⟨p1, q1 + k * 4, none⟩))).put (some 21) (.agg #[S m, S p, .slice a1 h d1, S b])).put (some 22) (.slice (some ⟨p2, q2, none⟩) n c2)).put (some 23) (.int .i64 (k : Int))).put (some 24) (.pointer (some ⟨p2, q2 + k * 4, none⟩))).put (some 25) (.agg #[S m, S p, .slice a2 h d2, S b])).put (some 26) (.bool true)).put (some 6) (.bool true)) := by
      rw [hosz]
      simp only [frm, if_true]
      rw [tab_dst htab 0, tab_dst htab 1, tab_dst htab 2, tab_dst htab 3, tab_dst htab 4, tab_dst htab 5, tab_dst htab 6, tab_dst htab 7, tab_dst htab 8, tab_dst htab 9]
      rfl
    rw [e]
    exact this
  intro i o ho L a w' hL hd ha hW
  have hi : i < 10 := by rw [← hosz]; exact (Array.getElem?_eq_some_iff.1 ho).1
  match i, ho, hL, hi with
  | 0, ho, hL, _ =>
    obtain ⟨hop, hdst, hgd⟩ := tab_at htab ho (show rmsT[0]? = _ from rfl)
    simp only at hop hgd
    have h0 := frm_old ha 0 _ (hold 0 rfl) o0
    exact doesL_run ho (wanted_none hgd) (hpure 0 (by decide) L w' hW) (by rw [run_move _ _ _ hop]; exact congrArg (fun v => Result.ok (Next.value v) w') (eval_of h0))
  | 1, ho, hL, _ =>
    obtain ⟨hop, hdst, hgd⟩ := tab_at htab ho (show rmsT[1]? = _ from rfl)
    simp only at hop hgd
    have h0 := frm_old ha 5 _ (hold 5 rfl) o5
    exact doesL_run ho (wanted_none hgd) (hpure 1 (by decide) L w' hW) (by rw [run_move _ _ _ hop]; exact congrArg (fun v => Result.ok (Next.value v) w') (eval_of h0))
  | 2, ho, hL, _ =>
    obtain ⟨hop, hdst, hgd⟩ := tab_at htab ho (show rmsT[2]? = _ from rfl)
    simp only at hop hgd
    have h0 := frm_at hdis ha 0 18 (hds 0 18 rfl) (by omega) (depl_of hdep 2 0 (by decide) ho hd)
    have h1 := frm_at hdis ha 1 19 (hds 1 19 rfl) (by omega) (depl_of hdep 2 1 (by decide) ho hd)
    exact doesL_run ho (wanted_none hgd) (hpure 2 (by decide) L w' hW) (run_ia54 _ _ _ _ hop _ _ _ _ _ i2 (eval_of h0) (eval_of h1) _)
  | 3, ho, hL, _ =>
    obtain ⟨hop, hdst, hgd⟩ := tab_at htab ho (show rmsT[3]? = _ from rfl)
    simp only at hop hgd
    have h0 := frm_at hdis ha 2 20 (hds 2 20 rfl) (by omega) (depl_of hdep 3 2 (by decide) ho hd)
    exact doesL_run ho (wanted_none hgd) (hpure 3 (by decide) L w' hW) (run_ld24 _ _ _ hop _ _ _ _ _ _ (eval_of h0) _ (l3 L w' hW).1 (l3 L w' hW).2.1 (l3 L w' hW).2.2.1 (l3 L w' hW).2.2.2)
  | 4, ho, hL, _ =>
    obtain ⟨hop, hdst, hgd⟩ := tab_at htab ho (show rmsT[4]? = _ from rfl)
    simp only at hop hgd
    have h0 := frm_old ha 1 _ (hold 1 rfl) o1
    exact doesL_run ho (wanted_none hgd) (hpure 4 (by decide) L w' hW) (by rw [run_move _ _ _ hop]; exact congrArg (fun v => Result.ok (Next.value v) w') (eval_of h0))
  | 5, ho, hL, _ =>
    obtain ⟨hop, hdst, hgd⟩ := tab_at htab ho (show rmsT[5]? = _ from rfl)
    simp only at hop hgd
    have h0 := frm_old ha 5 _ (hold 5 rfl) o5
    exact doesL_run ho (wanted_none hgd) (hpure 5 (by decide) L w' hW) (by rw [run_move _ _ _ hop]; exact congrArg (fun v => Result.ok (Next.value v) w') (eval_of h0))
  | 6, ho, hL, _ =>
    obtain ⟨hop, hdst, hgd⟩ := tab_at htab ho (show rmsT[6]? = _ from rfl)
    simp only at hop hgd
    have h0 := frm_at hdis ha 4 22 (hds 4 22 rfl) (by omega) (depl_of hdep 6 4 (by decide) ho hd)
    have h1 := frm_at hdis ha 5 23 (hds 5 23 rfl) (by omega) (depl_of hdep 6 5 (by decide) ho hd)
    exact doesL_run ho (wanted_none hgd) (hpure 6 (by decide) L w' hW) (run_ia54 _ _ _ _ hop _ _ _ _ _ i6 (eval_of h0) (eval_of h1) _)
  | 7, ho, hL, _ =>
    obtain ⟨hop, hdst, hgd⟩ := tab_at htab ho (show rmsT[7]? = _ from rfl)
    simp only at hop hgd
    have h0 := frm_at hdis ha 6 24 (hds 6 24 rfl) (by omega) (depl_of hdep 7 6 (by decide) ho hd)
    exact doesL_run ho (wanted_none hgd) (hpure 7 (by decide) L w' hW) (run_ld24 _ _ _ hop _ _ _ _ _ _ (eval_of h0) _ (l7 L w' hW).1 (l7 L w' hW).2.1 (l7 L w' hW).2.2.1 (l7 L w' hW).2.2.2)
  | 8, ho, hL, _ =>
    obtain ⟨hop, hdst, hgd⟩ := tab_at htab ho (show rmsT[8]? = _ from rfl)
    simp only at hop hgd
    have h0 := frm_at hdis ha 3 21 (hds 3 21 rfl) (by omega) (depl_of hdep 8 3 (by decide) ho hd)
    have h1 := frm_at hdis ha 7 25 (hds 7 25 rfl) (by omega) (depl_of hdep 8 7 (by decide) ho hd)
    refine doesL_call ho (wanted_none hgd) 51 #[.agg #[S m, S p, .slice a1 h d1, S b], .agg #[S m, S p, .slice a2 h d2, S b]] ?_ (c8 L w' hW hL)
    rw [run_calls Tryz.func51 (by kernel_rfl) rfl _ _ _ _ hop rfl]
    simp only [List.map_toArray, List.map_cons, List.map_nil, eval_of h0, eval_of h1]
    all_goals rfl
  | 9, ho, hL, _ =>
    obtain ⟨hop, hdst, hgd⟩ := tab_at htab ho (show rmsT[9]? = _ from rfl)
    simp only at hop hgd
    have h0 := frm_at hdis ha 8 26 (hds 8 26 rfl) (by omega) (depl_of hdep 9 8 (by decide) ho hd)
    exact doesL_run ho (wanted_none hgd) (hpure 9 (by decide) L w' hW) (by rw [run_assign _ _ _ hop]; exact congrArg (fun v => Result.ok (Next.value v) w') (eval_of h0))
  | (i + 10), ho, hL, hi => exact absurd hi (by omega)
end Go.Proofs.YthlacailhfhjnaaGreatDoor
