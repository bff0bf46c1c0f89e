import Derived.Test.YtllialbdofklgaaGreatDoorZrgsd
import Derived.Test.YtllialbdofklgaaGreatDoorZrgnd
namespace Go.Proofs.YtllialbdofklgaaGreatDoor
open Go.RowKit
theorem run_ld27 (ρ : Operand → Value) (o : Oper) (x : Operand) (ho : o.op = .load 27 x) (g : Nat) (v0 v1 v2 v3 v4 : Value) (ha : ρ x = .pointer (some ⟨g, 0, none⟩)) (w : World) (h0 : w.cell? ⟨g, 0, none⟩ = some v0) (h1 : w.cell? ⟨g, 1, none⟩ = some v1) (h2 : w.cell? ⟨g, 2, none⟩ = some v2) (h3 : w.cell? ⟨g, 3, none⟩ = some v3) (h4 : w.cell? ⟨g, 4, none⟩ = some v4) : (execOp ρ o).run Tryz.prog w = .ok (.value (.agg #[v0, v1, v2, v3, v4])) w := by
  unfold execOp
  simp only [ho, ha]
  simp [Instr.loadAt, go_sem, h0, h1, h2, h3, h4, Tryz.isAgg27]
theorem run_f27_3 (ρ : Operand → Value) (o : Oper) (x : Operand) (ho : o.op = .fieldAddr 27 x 3) (g q : Nat) (hx : ρ x = .pointer (some ⟨g, q, none⟩)) (w : World) : (execOp ρ o).run Tryz.prog w = .ok (.value (.pointer (some ⟨g, q + 3, none⟩))) w := by
  unfold execOp
  simp only [ho, hx]
  kernel_rfl
def rnpT : List (Op × Option Tmp × Option (Nat × Bool)) := [
  (.load 25 (.tmp 3), some 26, none),
  (.call { callee := .value (.func 11), args := #[(.tmp 26)], argTypes := #[25] }, some 27, none),
  (.load 27 (.tmp 4), some 28, none),
  (.call { callee := .value (.func 12), args := #[(.tmp 28)], argTypes := #[27] }, some 29, none),
  (.call { callee := .value (.func 10), args := #[(.tmp 27), (.tmp 29)], argTypes := #[3, 3] }, some 30, none),
  (.load 25 (.tmp 5), some 31, none),
  (.call { callee := .value (.func 11), args := #[(.tmp 31)], argTypes := #[25] }, some 32, none),
  (.call { callee := .value (.func 10), args := #[(.tmp 30), (.tmp 32)], argTypes := #[3, 3] }, some 33, none),
  (.binOp .gtr 3 (.tmp 33) (.const (.int .i64 2147483647)) 3, some 34, none)]
def rnpD : List (Nat × Nat) := [(1, 0), (3, 2), (4, 1), (4, 3), (6, 5), (7, 4), (7, 6), (8, 7)]
set_option maxHeartbeats 2000000 in
theorem rnp {ops : Array Oper} {id : Nat} {Q : Exit → Act → World → Prop} (X Y Z kl kc vl vc il ic ln lc ml kf nl vf ol jf T0 T1 T2 T3 T4 : Nat) (pk pn pb : Int) (x : Bs) (ka va ia lb ke ve ie : Option Addr) (lf lh : Bool) (htab : ops.toList.map (fun o => (o.op, o.dst, o.guard)) = rnpT) (hdep : deplB rnpD ops = true) (hac : acB ops = true)
    (a0 : Act) (w : World) (hsz : 35 ≤ a0.tmps.size) (o3 : a0.tmps[3]? = some (.pointer (some ⟨X, 0, none⟩))) (o4 : a0.tmps[4]? = some (.pointer (some ⟨Y, 0, none⟩))) (o5 : a0.tmps[5]? = some (.pointer (some ⟨Z, 0, none⟩)))
    (Wd : (Nat → Bool) → World → Prop) (h0 : Wd (fun _ => false) w.drew) (hpure : ∀ i, i ∉ ([1, 3, 4, 6, 7] : List Nat) → ∀ L W, Wd L W → Wd (upd L i) W)
    (l0 : ∀ L W, Wd L W → W.cell? ⟨X, 0, none⟩ = some (.bool lf) ∧ W.cell? ⟨X, 1, none⟩ = some (.slice ka kl kc) ∧ W.cell? ⟨X, 2, none⟩ = some (.slice va vl vc) ∧ W.cell? ⟨X, 3, none⟩ = some (.slice ia il ic))
    (l2 : ∀ L W, Wd L W → W.cell? ⟨Y, 0, none⟩ = some (I pk) ∧ W.cell? ⟨Y, 1, none⟩ = some (I pn) ∧ W.cell? ⟨Y, 2, none⟩ = some (I pb) ∧ W.cell? ⟨Y, 3, none⟩ = some (.slice lb ln lc) ∧ W.cell? ⟨Y, 4, none⟩ = some (S x))
    (l5 : ∀ L W, Wd L W → W.cell? ⟨Z, 0, none⟩ = some (.bool lh) ∧ W.cell? ⟨Z, 1, none⟩ = some (.slice ke ml kf) ∧ W.cell? ⟨Z, 2, none⟩ = some (.slice ve nl vf) ∧ W.cell? ⟨Z, 3, none⟩ = some (.slice ie ol jf))
    (c1 : ∀ L W, Wd L W → L 1 = false → Calls Tryz.prog 11 #[.agg #[.bool lf, .slice ka kl kc, .slice va vl vc, .slice ia il ic]] W fun e w' => e = .returned (.int .i64 ((T0 : Nat) : Int)) ∧ Wd (upd L 1) w')
    (c3 : ∀ L W, Wd L W → L 3 = false → Calls Tryz.prog 12 #[.agg #[I pk, I pn, I pb, .slice lb ln lc, S x]] W fun e w' => e = .returned (.int .i64 ((T1 : Nat) : Int)) ∧ Wd (upd L 3) w')
    (c4 : ∀ L W, Wd L W → L 4 = false → Calls Tryz.prog 10 #[(.int .i64 ((T0 : Nat) : Int)), (.int .i64 ((T1 : Nat) : Int))] W fun e w' => e = .returned (.int .i64 ((T2 : Nat) : Int)) ∧ Wd (upd L 4) w')
    (c6 : ∀ L W, Wd L W → L 6 = false → Calls Tryz.prog 11 #[.agg #[.bool lh, .slice ke ml kf, .slice ve nl vf, .slice ie ol jf]] W fun e w' => e = .returned (.int .i64 ((T3 : Nat) : Int)) ∧ Wd (upd L 6) w')
    (c7 : ∀ L W, Wd L W → L 7 = false → Calls Tryz.prog 10 #[(.int .i64 ((T2 : Nat) : Int)), (.int .i64 ((T3 : Nat) : Int))] W fun e w' => e = .returned (.int .i64 ((T4 : Nat) : Int)) ∧ Wd (upd L 7) w')
    (hend : ∀ L W, (∀ i, i < 9 → L i = true) → Wd L W → Q .normal (((((((((a0.put (some 26) (.agg #[.bool lf, .slice ka kl kc, .slice va vl vc, .slice ia il ic])).put (some 27) (.int .i64 ((T0 : Nat) : Int))).put (some 28) (.agg #[I pk, I pn, I pb, .slice lb ln lc, S x])).put (some 29) (.int .i64 ((T1 : Nat) : Int))).put (some 30) (.int .i64 ((T2 : Nat) : Int))).put (some 31) (.agg #[.bool lh, .slice ke ml kf, .slice ve nl vf, .slice ie ol jf])).put (some 32) (.int .i64 ((T3 : Nat) : Int))).put (some 33) (.int .i64 ((T4 : Nat) : Int))).put (some 34) (.bool (decide ((2147483647 : Int) < (T4 : Int))))) W) : (Code.region id ops true).wp Tryz.prog Q a0 w := by
  let val : Nat → Value := fun i => match i with
    | 0 => (.agg #[.bool lf, .slice ka kl kc, .slice va vl vc, .slice ia il ic])
    | 1 => (.int .i64 ((T0 : Nat) : Int))
    | 2 => (.agg #[I pk, I pn, I pb, .slice lb ln lc, S x])
    | 3 => (.int .i64 ((T1 : Nat) : Int))
    | 4 => (.int .i64 ((T2 : Nat) : Int))
    | 5 => (.agg #[.bool lh, .slice ke ml kf, .slice ve nl vf, .slice ie ol jf])
    | 6 => (.int .i64 ((T3 : Nat) : Int))
    | 7 => (.int .i64 ((T4 : Nat) : Int))
    | 8 => (.bool (decide ((2147483647 : Int) < (T4 : Int))))
    | _ => undef
  have hosz : ops.size = 9 := by
    have := congrArg List.length htab
    simpa [rnpT] using this
  have hds : ∀ i s, (rnpT[i]?).bind (·.2.1) = some s → dstOf ops i = some s := fun i s hi => by rw [tab_dst htab, hi]
  have hdisB : disL rnpT = true := by rfl
  have hdis := disL_of htab hdisB
  have hold : ∀ s, rnpT.all (fun x => !(x.2.1 == some s)) = true → (List.range ops.size).all (fun j => !(dstOf ops j == some s)) = true := fun s h => holdL htab s h
  refine region_detL val Wd (hac_of hac) hdis h0 ?_ ?_
  rotate_left
  · intro L W hall hW
    have := hend L W (by rw [← hosz]; exact hall) hW
    have e : frm ops a0 val (fun _ => true) ops.size = (((((((((a0.put (some 26) (.agg #[.bool lf, .slice ka kl kc, .slice va vl vc, .slice ia il ic])).put (some 27) (.int .i64 ((T0 : Nat) : Int))).put (some 28) (.agg #[I pk, I pn, I pb, .slice lb ln lc, S x])).put (some 29) (.int .i64 ((T1 : Nat) : Int))).put (some 30) (.int .i64 ((T2 : Nat) : Int))).put (some 31) (.agg #[.bool lh, .slice ke ml kf, .slice ve nl vf, .slice ie ol jf])).put (some 32) (.int .i64 ((T3 : Nat) : Int))).put (some 33) (.int .i64 ((T4 : Nat) : Int))).put (some 34) (.bool (decide ((2147483647 : Int) < (T4 : Int))))) := by
      rw [hosz]
      simp only [frm, if_true]
      rw [tab_dst htab 0, tab_dst htab 1, tab_dst htab 2, tab_dst htab 3, tab_dst htab 4, tab_dst htab 5, tab_dst htab 6, tab_dst htab 7, tab_dst htab 8]
      rfl
    rw [e]
    exact this
  intro i o ho L a w' hL hd ha hW
  have hi : i < 9 := by rw [← hosz]; exact (Array.getElem?_eq_some_iff.1 ho).1
  match i, ho, hL, hi with
  | 0, ho, hL, _ =>
    obtain ⟨hop, hdst, hgd⟩ := tab_at htab ho (show rnpT[0]? = _ from rfl)
    simp only at hop hgd
    have h0 := frm_old ha 3 _ (hold 3 rfl) o3
    exact doesL_run ho (wanted_none hgd) (hpure 0 (by decide) L w' hW) (run_ld25 _ _ _ hop _ _ _ _ _ (eval_of h0) _ (l0 L w' hW).1 (l0 L w' hW).2.1 (l0 L w' hW).2.2.1 (l0 L w' hW).2.2.2)
  | 1, ho, hL, _ =>
    obtain ⟨hop, hdst, hgd⟩ := tab_at htab ho (show rnpT[1]? = _ from rfl)
    simp only at hop hgd
    have h0 := frm_at hdis ha 0 26 (hds 0 26 rfl) (by omega) (depl_of hdep 1 0 (by decide) ho hd)
    refine doesL_call ho (wanted_none hgd) 11 #[.agg #[.bool lf, .slice ka kl kc, .slice va vl vc, .slice ia il ic]] ?_ (c1 L w' hW hL)
    rw [run_calls Tryz.func11 (by kernel_rfl) rfl _ _ _ _ hop rfl]
    simp only [List.map_toArray, List.map_cons, List.map_nil, eval_of h0]
    all_goals rfl
  | 2, ho, hL, _ =>
    obtain ⟨hop, hdst, hgd⟩ := tab_at htab ho (show rnpT[2]? = _ from rfl)
    simp only at hop hgd
    have h0 := frm_old ha 4 _ (hold 4 rfl) o4
    exact doesL_run ho (wanted_none hgd) (hpure 2 (by decide) L w' hW) (run_ld27 _ _ _ hop _ _ _ _ _ _ (eval_of h0) _ (l2 L w' hW).1 (l2 L w' hW).2.1 (l2 L w' hW).2.2.1 (l2 L w' hW).2.2.2.1 (l2 L w' hW).2.2.2.2)
  | 3, ho, hL, _ =>
    obtain ⟨hop, hdst, hgd⟩ := tab_at htab ho (show rnpT[3]? = _ from rfl)
    simp only at hop hgd
    have h0 := frm_at hdis ha 2 28 (hds 2 28 rfl) (by omega) (depl_of hdep 3 2 (by decide) ho hd)
    refine doesL_call ho (wanted_none hgd) 12 #[.agg #[I pk, I pn, I pb, .slice lb ln lc, S x]] ?_ (c3 L w' hW hL)
    rw [run_calls Tryz.func12 (by kernel_rfl) rfl _ _ _ _ hop rfl]
    simp only [List.map_toArray, List.map_cons, List.map_nil, eval_of h0]
    all_goals rfl
  | 4, ho, hL, _ =>
    obtain ⟨hop, hdst, hgd⟩ := tab_at htab ho (show rnpT[4]? = _ from rfl)
    simp only at hop hgd
    have h0 := frm_at hdis ha 1 27 (hds 1 27 rfl) (by omega) (depl_of hdep 4 1 (by decide) ho hd)
    have h1 := frm_at hdis ha 3 29 (hds 3 29 rfl) (by omega) (depl_of hdep 4 3 (by decide) ho hd)
    refine doesL_call ho (wanted_none hgd) 10 #[.int .i64 ((T0 : Nat) : Int), .int .i64 ((T1 : Nat) : Int)] ?_ (c4 L w' hW hL)
    rw [run_calls Tryz.func10 (by kernel_rfl) rfl _ _ _ _ hop rfl]
    simp only [List.map_toArray, List.map_cons, List.map_nil, eval_of h0, eval_of h1]
    all_goals rfl
  | 5, ho, hL, _ =>
    obtain ⟨hop, hdst, hgd⟩ := tab_at htab ho (show rnpT[5]? = _ from rfl)
    simp only at hop hgd
    have h0 := frm_old ha 5 _ (hold 5 rfl) o5
    exact doesL_run ho (wanted_none hgd) (hpure 5 (by decide) L w' hW) (run_ld25 _ _ _ hop _ _ _ _ _ (eval_of h0) _ (l5 L w' hW).1 (l5 L w' hW).2.1 (l5 L w' hW).2.2.1 (l5 L w' hW).2.2.2)
  | 6, ho, hL, _ =>
    obtain ⟨hop, hdst, hgd⟩ := tab_at htab ho (show rnpT[6]? = _ from rfl)
    simp only at hop hgd
    have h0 := frm_at hdis ha 5 31 (hds 5 31 rfl) (by omega) (depl_of hdep 6 5 (by decide) ho hd)
    refine doesL_call ho (wanted_none hgd) 11 #[.agg #[.bool lh, .slice ke ml kf, .slice ve nl vf, .slice ie ol jf]] ?_ (c6 L w' hW hL)
    rw [run_calls Tryz.func11 (by kernel_rfl) rfl _ _ _ _ hop rfl]
    simp only [List.map_toArray, List.map_cons, List.map_nil, eval_of h0]
    all_goals rfl
  | 7, ho, hL, _ =>
    obtain ⟨hop, hdst, hgd⟩ := tab_at htab ho (show rnpT[7]? = _ from rfl)
    simp only at hop hgd
    have h0 := frm_at hdis ha 4 30 (hds 4 30 rfl) (by omega) (depl_of hdep 7 4 (by decide) ho hd)
    have h1 := frm_at hdis ha 6 32 (hds 6 32 rfl) (by omega) (depl_of hdep 7 6 (by decide) ho hd)
    refine doesL_call ho (wanted_none hgd) 10 #[.int .i64 ((T2 : Nat) : Int), .int .i64 ((T3 : Nat) : Int)] ?_ (c7 L w' hW hL)
    rw [run_calls Tryz.func10 (by kernel_rfl) rfl _ _ _ _ hop rfl]
    simp only [List.map_toArray, List.map_cons, List.map_nil, eval_of h0, eval_of h1]
    all_goals rfl
  | 8, ho, hL, _ =>
    obtain ⟨hop, hdst, hgd⟩ := tab_at htab ho (show rnpT[8]? = _ from rfl)
    simp only at hop hgd
    have h0 := frm_at hdis ha 7 33 (hds 7 33 rfl) (by omega) (depl_of hdep 8 7 (by decide) ho hd)
    exact doesL_run ho (wanted_none hgd) (hpure 8 (by decide) L w' hW) (run_gtrI _ _ _ hop _ (eval_of h0) rfl _)
  | (i + 9), ho, hL, hi => exact absurd hi (by omega)
def vnp (X G ln : Nat) (c : Ch3) (i : Nat) : Value := match i with
  | 0 => (.slice (some ⟨c.g1, 0, none⟩) 4 4)
  | 1 => (.slice (some ⟨c.g1, 0, none⟩) 0 4)
  | 2 => (.slice (some ⟨c.g2, 0, none⟩) 4 4)
  | 3 => (.slice (some ⟨c.g2, 0, none⟩) 0 4)
  | 4 => (.pointer (some ⟨X, 0 + 3, none⟩))
  | 5 => (.slice (some ⟨G, 0, none⟩) ln (ln + 4))
  | 6 => (.bool true)
  | 7 => (.bool true)
  | _ => undef
def rnqT : List (Op × Option Tmp × Option (Nat × Bool)) := [
  (.call { callee := .value (.func 23), args := #[(.const (.slice none 0 0))], argTypes := #[22] }, some 81, none),
  (.slice 22 (.tmp 81) none (some (.const (.int .i64 0))) none, some 82, none),
  (.call { callee := .value (.func 23), args := #[(.const (.slice none 0 0))], argTypes := #[22] }, some 83, none),
  (.slice 22 (.tmp 83) none (some (.const (.int .i64 0))) none, some 84, none),
  (.fieldAddr 27 (.tmp 16) 3, some 85, none),
  (.load 23 (.tmp 85), some 86, none),
  (.call { callee := .value (.func 22), args := #[(.tmp 82), (.tmp 84), (.tmp 86)], argTypes := #[22, 22, 23] }, some 87, none),
  (.assign (.tmp 87), some 20, none)]
def rnqD : List (Nat × Nat) := [(1, 0), (3, 2), (5, 4), (6, 1), (6, 3), (6, 5), (7, 6)]
set_option maxHeartbeats 2000000 in
theorem rnq {ops : Array Oper} {id : Nat} {Q : Exit → Act → World → Prop} (X G ln : Nat) (htab : ops.toList.map (fun o => (o.op, o.dst, o.guard)) = rnqT) (hdep : deplB rnqD ops = true) (hac : acB ops = true)
    (a0 : Act) (w : World) (hsz : 88 ≤ a0.tmps.size) (o16 : a0.tmps[16]? = some (.pointer (some ⟨X, 0, none⟩)))
    (Wd : Ch3 → (Nat → Bool) → World → Prop) (h0 : ∃ c, Wd c (fun _ => false) w.drew) (hpure : ∀ i, i ∉ ([0, 2, 6, 1, 3] : List Nat) → ∀ c L W, Wd c L W → Wd c (upd L i) W)
    (s1 : 0 ≤ 4) (s3 : 0 ≤ 4)
    (l5 : ∀ c L W, Wd c L W → W.cell? ⟨X, 0 + 3, none⟩ = some (.slice (some ⟨G, 0, none⟩) ln (ln + 4)))
    (c0 : ∀ c L W, Wd c L W → L 0 = false → Calls Tryz.prog 23 #[.slice none 0 0] W fun e w' => ∃ c' : Ch3, (∀ j, L j = true → vnp X G ln c' j = vnp X G ln c j) ∧ e = .returned (.slice (some ⟨c'.g1, 0, none⟩) 4 4) ∧ Wd c' (upd L 0) w')
    (c2 : ∀ c L W, Wd c L W → L 2 = false → Calls Tryz.prog 23 #[.slice none 0 0] W fun e w' => ∃ c' : Ch3, (∀ j, L j = true → vnp X G ln c' j = vnp X G ln c j) ∧ e = .returned (.slice (some ⟨c'.g2, 0, none⟩) 4 4) ∧ Wd c' (upd L 2) w')
    (c6 : ∀ c L W, Wd c L W → L 6 = false → L 1 = true → L 3 = true → L 5 = true → Calls Tryz.prog 22 #[.slice (some ⟨c.g1, 0, none⟩) 0 4, .slice (some ⟨c.g2, 0, none⟩) 0 4, .slice (some ⟨G, 0, none⟩) ln (ln + 4)] W fun e w' => e = .returned (.bool true) ∧ Wd c (upd L 6) w')
    (hpure1 : ∀ c L W, Wd c L W → L 0 = true → Wd c (upd L 1) W)
    (hpure3 : ∀ c L W, Wd c L W → L 2 = true → Wd c (upd L 3) W)
    (hend : ∀ c L W, (∀ i, i < 8 → L i = true) → Wd c L W → Q .normal ((((((((a0.put (some 81) (.slice (some ⟨c.g1, 0, none⟩) 4 4)).put (some 82) (.slice (some ⟨c.g1, 0, none⟩) 0 4)).put (some 83) (.slice (some ⟨c.g2, 0, none⟩) 4 4)).put (some 84) (.slice (some ⟨c.g2, 0, none⟩) 0 4)).put (some 85) (.pointer (some ⟨X, 0 + 3, none⟩))).put (some 86) (.slice (some ⟨G, 0, none⟩) ln (ln + 4))).put (some 87) (.bool true)).put (some 20) (.bool true)) W) : (Code.region id ops true).wp Tryz.prog Q a0 w := by
  let val : Ch3 → Nat → Value := vnp X G ln
  have hosz : ops.size = 8 := by
    have := congrArg List.length htab
    simpa [rnqT] using this
  have hds : ∀ i s, (rnqT[i]?).bind (·.2.1) = some s → dstOf ops i = some s := fun i s hi => by rw [tab_dst htab, hi]
  have hdisB : disL rnqT = true := by rfl
  have hdis := disL_of htab hdisB
  have hold : ∀ s, rnqT.all (fun x => !(x.2.1 == some s)) = true → (List.range ops.size).all (fun j => !(dstOf ops j == some s)) = true := fun s h => holdL htab s h
  refine region_detX val Wd (hac_of hac) hdis h0 ?_ ?_
  rotate_left
  · intro c L W hall hW
    have := hend c L W (by rw [← hosz]; exact hall) hW
    have e : frm ops a0 (val c) (fun _ => true) ops.size = ((((((((a0.put (some 81) (.slice (some ⟨c.g1, 0, none⟩) 4 4)).put (some 82) (.slice (some ⟨c.g1, 0, none⟩) 0 4)).put (some 83) (.slice (some ⟨c.g2, 0, none⟩) 4 4)).put (some 84) (.slice (some ⟨c.g2, 0, none⟩) 0 4)).put (some 85) (.pointer (some ⟨X, 0 + 3, none⟩))).put (some 86) (.slice (some ⟨G, 0, none⟩) ln (ln + 4))).put (some 87) (.bool true)).put (some 20) (.bool true)) := by
      rw [hosz]
      simp only [frm, if_true]
      rw [tab_dst htab 0, tab_dst htab 1, tab_dst htab 2, tab_dst htab 3, tab_dst htab 4, tab_dst htab 5, tab_dst htab 6, tab_dst htab 7]
      rfl
    rw [e]
    exact this
  intro i o ho c L a w' hL hd ha hW
  have hi : i < 8 := by rw [← hosz]; exact (Array.getElem?_eq_some_iff.1 ho).1
  match i, ho, hL, hi with
  | 0, ho, hL, _ =>
    obtain ⟨hop, hdst, hgd⟩ := tab_at htab ho (show rnqT[0]? = _ from rfl)
    simp only at hop hgd
    refine doesX_call ho (wanted_none hgd) 23 #[.slice none 0 0] ?_ (c0 c L w' hW hL)
    rw [run_calls Tryz.func23 (by kernel_rfl) rfl _ _ _ _ hop rfl]
    simp only [List.map_toArray, List.map_cons, List.map_nil, ]
    all_goals rfl
  | 1, ho, hL, _ =>
    obtain ⟨hop, hdst, hgd⟩ := tab_at htab ho (show rnqT[1]? = _ from rfl)
    simp only at hop hgd
    have h0 := frm_at (val := val c) hdis ha 0 81 (hds 0 81 rfl) (by omega) (depl_of hdep 1 0 (by decide) ho hd)
    exact doesX_of (doesL_run ho (wanted_none hgd) (hpure1 c L w' hW (depl_of hdep 1 0 (by decide) ho hd)) (run_cut22 _ _ _ _ hop _ _ _ _ s1 (eval_of h0) rfl _))
  | 2, ho, hL, _ =>
    obtain ⟨hop, hdst, hgd⟩ := tab_at htab ho (show rnqT[2]? = _ from rfl)
    simp only at hop hgd
    refine doesX_call ho (wanted_none hgd) 23 #[.slice none 0 0] ?_ (c2 c L w' hW hL)
    rw [run_calls Tryz.func23 (by kernel_rfl) rfl _ _ _ _ hop rfl]
    simp only [List.map_toArray, List.map_cons, List.map_nil, ]
    all_goals rfl
  | 3, ho, hL, _ =>
    obtain ⟨hop, hdst, hgd⟩ := tab_at htab ho (show rnqT[3]? = _ from rfl)
    simp only at hop hgd
    have h0 := frm_at (val := val c) hdis ha 2 83 (hds 2 83 rfl) (by omega) (depl_of hdep 3 2 (by decide) ho hd)
    exact doesX_of (doesL_run ho (wanted_none hgd) (hpure3 c L w' hW (depl_of hdep 3 2 (by decide) ho hd)) (run_cut22 _ _ _ _ hop _ _ _ _ s3 (eval_of h0) rfl _))
  | 4, ho, hL, _ =>
    obtain ⟨hop, hdst, hgd⟩ := tab_at htab ho (show rnqT[4]? = _ from rfl)
    simp only at hop hgd
    have h0 := frm_old (val := val c) ha 16 _ (hold 16 rfl) o16
    exact doesX_of (doesL_run ho (wanted_none hgd) (hpure 4 (by decide) c L w' hW) (run_f27_3 _ _ _ hop _ _ (eval_of h0) _))
  | 5, ho, hL, _ =>
    obtain ⟨hop, hdst, hgd⟩ := tab_at htab ho (show rnqT[5]? = _ from rfl)
    simp only at hop hgd
    have h0 := frm_at (val := val c) hdis ha 4 85 (hds 4 85 rfl) (by omega) (depl_of hdep 5 4 (by decide) ho hd)
    exact doesX_of (doesL_run ho (wanted_none hgd) (hpure 5 (by decide) c L w' hW) (run_ld23 _ _ _ hop _ _ (eval_of h0) _ (l5 c L w' hW)))
  | 6, ho, hL, _ =>
    obtain ⟨hop, hdst, hgd⟩ := tab_at htab ho (show rnqT[6]? = _ from rfl)
    simp only at hop hgd
    have h0 := frm_at (val := val c) hdis ha 1 82 (hds 1 82 rfl) (by omega) (depl_of hdep 6 1 (by decide) ho hd)
    have h1 := frm_at (val := val c) hdis ha 3 84 (hds 3 84 rfl) (by omega) (depl_of hdep 6 3 (by decide) ho hd)
    have h2 := frm_at (val := val c) hdis ha 5 86 (hds 5 86 rfl) (by omega) (depl_of hdep 6 5 (by decide) ho hd)
    refine doesX_of (doesL_call ho (wanted_none hgd) 22 #[.slice (some ⟨c.g1, 0, none⟩) 0 4, .slice (some ⟨c.g2, 0, none⟩) 0 4, .slice (some ⟨G, 0, none⟩) ln (ln + 4)] ?_ (c6 c L w' hW hL (depl_of hdep 6 1 (by decide) ho hd) (depl_of hdep 6 3 (by decide) ho hd) (depl_of hdep 6 5 (by decide) ho hd)))
    rw [run_calls Tryz.func22 (by kernel_rfl) rfl _ _ _ _ hop rfl]
    simp only [List.map_toArray, List.map_cons, List.map_nil, eval_of h0, eval_of h1, eval_of h2]
    all_goals rfl
  | 7, ho, hL, _ =>
    obtain ⟨hop, hdst, hgd⟩ := tab_at htab ho (show rnqT[7]? = _ from rfl)
    simp only at hop hgd
    have h0 := frm_at (val := val c) hdis ha 6 87 (hds 6 87 rfl) (by omega) (depl_of hdep 7 6 (by decide) ho hd)
    exact doesX_of (doesL_run ho (wanted_none hgd) (hpure 7 (by decide) c L w' hW) (by rw [run_assign _ _ _ hop]; exact congrArg (fun v => Result.ok (Next.value v) w') (eval_of h0)))
  | (i + 8), ho, hL, hi => exact absurd hi (by omega)
end Go.Proofs.YtllialbdofklgaaGreatDoor
