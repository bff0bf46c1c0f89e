import Derived.Test.YtpelmacblglhoaaRgka
namespace Go.Proofs.Ytpelmacblglhoaa
open Go.RowKit
theorem run_ia62 (ρ : Operand → Value) (o : Oper) (x y : Operand) (ho : o.op = .indexAddr 62 x y) (g q k : Nat) (hk : k < 9) (hx : ρ x = .pointer (some ⟨g, q, none⟩)) (hy : ρ y = .int .i64 (k : Int)) (w : World) : (execOp ρ o).run Try.prog w = .ok (.value (.pointer (some ⟨g, q + k, none⟩))) w := by
  unfold execOp
  simp only [ho, hx, hy]
  have h1 : (k : Int) < 9 := by omega
  have u := Try.underlying62
  have z := Try.sizeOf9
  simp [go_sem, u, z, h1]
theorem run_geqF (ρ : Operand → Value) (o : Oper) (x y : Operand) (ho : o.op = .binOp .geq 3 x y 3) (a b : Int) (h : a < b) (hx : ρ x = .int .i64 a) (hy : ρ y = .int .i64 b) (w : World) : (execOp ρ o).run Try.prog w = .ok (.value (.bool false)) w := by
  unfold execOp
  simp only [ho, hx, hy]
  simp [go_sem]
  omega
def rlaT : List (Op × Option Tmp × Option (Nat × Bool)) := [
  (.move (.tmp 20), some 164, none),
  (.move (.tmp 19), some 165, none),
  (.call { callee := .builtin .len, args := #[(.tmp 165)], argTypes := #[43] }, some 166, none),
  (.binOp .geq 3 (.tmp 164) (.tmp 166) 3, some 167, none),
  (.move (.tmp 167), some 168, none),
  (.move (.tmp 19), some 169, some (4, false)),
  (.move (.tmp 20), some 170, some (4, false)),
  (.indexAddr 43 (.tmp 169) (.tmp 170), some 171, some (4, false)),
  (.load 69 (.tmp 171), some 172, some (4, false)),
  (.move (.tmp 23), some 173, some (4, false)),
  (.move (.tmp 23), some 174, some (4, false)),
  (.indexAddr 62 (.tmp 12) (.tmp 174), some 175, some (4, false)),
  (.load 9 (.tmp 175), some 176, some (4, false)),
  (.build 69 #[(0, (.tmp 173)), (1, (.tmp 176))], some 177, some (4, false)),
  (.binOp .neq 69 (.tmp 172) (.tmp 177) 69, some 178, some (4, false)),
  (.pick (.tmp 168) (.const (.bool true)) (.tmp 178), some 179, none)]
def rlaD : List (Nat × Nat) := [(2, 1), (3, 0), (3, 2), (4, 3), (5, 4), (6, 4), (7, 4), (7, 5), (7, 6), (8, 4), (8, 7), (9, 4), (10, 4), (11, 4), (11, 10), (12, 4), (12, 11), (13, 4), (13, 9), (13, 12), (14, 4), (14, 8), (14, 13), (15, 4), (15, 14)]
set_option maxHeartbeats 2000000 in
theorem rla {ops : Array Oper} {id : Nat} {Q : Exit → Act → World → Prop} (gP ln cP aa m N : Nat) (tx : Bs) (htab : ops.toList.map (fun o => (o.op, o.dst, o.guard)) = rlaT) (hdep : deplB rlaD ops = true) (hac : acB ops = true)
    (a0 : Act) (w : World) (hsz : 180 ≤ a0.tmps.size) (o12 : a0.tmps[12]? = some (.pointer (some ⟨N, 0, none⟩))) (o19 : a0.tmps[19]? = some (.slice (some ⟨gP, 0, none⟩) ln cP)) (o20 : a0.tmps[20]? = some (.int .i64 (aa : Int))) (o23 : a0.tmps[23]? = some (.int .i64 (m : Int)))
    (Wd : (Nat → Bool) → World → Prop) (h0 : Wd (fun _ => false) w.drew) (hpure : ∀ i, i ∉ ([] : List Nat) → ∀ L W, Wd L W → Wd (upd L i) W)
    (g3 : (aa : Int) < (ln : Int)) (i7 : aa < ln) (i11 : m < 9)
    (l8 : ∀ L W, Wd L W → W.cell? ⟨gP, 0 + aa * 2, none⟩ = some (.int .i64 (m : Int)) ∧ W.cell? ⟨gP, 0 + aa * 2 + 1, none⟩ = some (S tx))
    (l12 : ∀ L W, Wd L W → W.cell? ⟨N, 0 + m, none⟩ = some (S tx))
    (hend : ∀ L W, (∀ i, i < 16 → L i = true) → Wd L W → Q .normal ((((((((((((((((a0.put (some 164) (.int .i64 (aa : Int))).put (some 165) (.slice (some ⟨gP, 0, none⟩) ln cP)).put (some 166) (.int .i64 (ln : Int))).put (some 167) (.bool false)).put (some 168) (.bool false)).put (some 169) (.slice (some ⟨gP, 0, none⟩) ln cP)).put (some 170) (.int .i64 (aa : Int))).put (some 171) (.pointer (some ⟨gP, 0 + aa * 2, none⟩))).put (some 172) (.agg #[.int .i64 (m : Int), S tx])).put (some 173) (.int .i64 (m : Int))).put (some 174) (.int .i64 (m : Int))).put (some 175) (.pointer (some ⟨N, 0 + m, none⟩))).put (some 176) (S tx)).put (some 177) (.agg #[.int .i64 (m : Int), S tx])).put (some 178) (.bool false)).put (some 179) (.bool false)) W) : (Code.region id ops true).wp Try.prog Q a0 w := by
  let val : Nat → Value := fun i => match i with
    | 0 => (.int .i64 (aa : Int))
    | 1 => (.slice (some ⟨gP, 0, none⟩) ln cP)
    | 2 => (.int .i64 (ln : Int))
    | 3 => (.bool false)
    | 4 => (.bool false)
    | 5 => (.slice (some ⟨gP, 0, none⟩) ln cP)
    | 6 => (.int .i64 (aa : Int))
    | 7 => (.pointer (some ⟨gP, 0 + aa * 2, none⟩))
    | 8 => (.agg #[.int .i64 (m : Int), S tx])
    | 9 => (.int .i64 (m : Int))
    | 10 => (.int .i64 (m : Int))
    | 11 => (.pointer (some ⟨N, 0 + m, none⟩))
    | 12 => (S tx)
    | 13 => (.agg #[.int .i64 (m : Int), S tx])
    | 14 => (.bool false)
    | 15 => (.bool false)
    | _ => undef
  have hosz : ops.size = 16 := by
    have := congrArg List.length htab
    simpa [rlaT] using this
  have hds : ∀ i s, (rlaT[i]?).bind (·.2.1) = some s → dstOf ops i = some s := fun i s hi => by rw [tab_dst htab, hi]
  have hdisB : disL rlaT = true := by rfl
  have hdis := disL_of htab hdisB
  have hold : ∀ s, rlaT.all (fun x => !(x.2.1 == some s)) = true → (List.range ops.size).all (fun j => !(dstOf ops j == some s)) = true := fun s h => holdL htab s h
  refine region_detL val Wd (hac_of hac) hdis h0 ?_ ?_
  rotate_left
  · intro L W hall hW
    have := hend L W (by rw [← hosz]; exact hall) hW
    have e : frm ops a0 val (fun _ => true) ops.size = ((((((((((((((((a0.put (some 164) (.int .i64 (aa : Int))).put (some 165) (.slice (some ⟨gP, 0, none⟩) ln cP)).put (some 166) (.int .i64 (ln : Int))).put (some 167) (.bool false)).put (some 168) (.bool false)).put (some 169) (.slice (some ⟨gP, 0, none⟩) ln cP)).put (some 170) (.int .i64 (aa : Int))).put (some 171) (.pointer (some ⟨gP, 0 + aa * 2, none⟩))).put (some 172) (.agg #[.int .i64 (m : Int), S tx])).put (some 173) (.int .i64 (m : Int))).put (some 174) (.int .i64 (m : Int))).put (some 175) (.pointer (some ⟨N, 0 + m, none⟩))).put (some 176) (S tx)).put (some 177) (.agg #[.int .i64 (m : Int), S tx])).put (some 178) (.bool false)).put (some 179) (.bool false)) := by
      rw [hosz]
      simp only [frm, if_true]
      rw [tab_dst htab 0, tab_dst htab 1, tab_dst htab 2, tab_dst htab 3, tab_dst htab 4, tab_dst htab 5, tab_dst htab 6, tab_dst htab 7, tab_dst htab 8, tab_dst htab 9, tab_dst htab 10, tab_dst htab 11, tab_dst htab 12, tab_dst htab 13, tab_dst htab 14, tab_dst htab 15]
      rfl
    rw [e]
    exact this
  intro i o ho L a w' hL hd ha hW
  have hi : i < 16 := by rw [← hosz]; exact (Array.getElem?_eq_some_iff.1 ho).1
  match i, ho, hL, hi with
  | 0, ho, hL, _ =>
    obtain ⟨hop, hdst, hgd⟩ := tab_at htab ho (show rlaT[0]? = _ from rfl)
    simp only at hop hgd
    have h0 := frm_old ha 20 _ (hold 20 rfl) o20
    exact doesL_run ho (wanted_none hgd) (hpure 0 (by decide) L w' hW) (by rw [run_move _ _ _ hop]; exact congrArg (fun v => Result.ok (Next.value v) w') (eval_of h0))
  | 1, ho, hL, _ =>
    obtain ⟨hop, hdst, hgd⟩ := tab_at htab ho (show rlaT[1]? = _ from rfl)
    simp only at hop hgd
    have h0 := frm_old ha 19 _ (hold 19 rfl) o19
    exact doesL_run ho (wanted_none hgd) (hpure 1 (by decide) L w' hW) (by rw [run_move _ _ _ hop]; exact congrArg (fun v => Result.ok (Next.value v) w') (eval_of h0))
  | 2, ho, hL, _ =>
    obtain ⟨hop, hdst, hgd⟩ := tab_at htab ho (show rlaT[2]? = _ from rfl)
    simp only at hop hgd
    have h0 := frm_at hdis ha 1 165 (hds 1 165 rfl) (by omega) (depl_of hdep 2 1 (by decide) ho hd)
    exact doesL_run ho (wanted_none hgd) (hpure 2 (by decide) L w' hW) (run_len43 _ _ _ hop _ _ _ (eval_of h0) _)
  | 3, ho, hL, _ =>
    obtain ⟨hop, hdst, hgd⟩ := tab_at htab ho (show rlaT[3]? = _ from rfl)
    simp only at hop hgd
    have h0 := frm_at hdis ha 0 164 (hds 0 164 rfl) (by omega) (depl_of hdep 3 0 (by decide) ho hd)
    have h1 := frm_at hdis ha 2 166 (hds 2 166 rfl) (by omega) (depl_of hdep 3 2 (by decide) ho hd)
    exact doesL_run ho (wanted_none hgd) (hpure 3 (by decide) L w' hW) (run_geqF _ _ _ _ hop _ _ g3 (eval_of h0) (eval_of h1) _)
  | 4, ho, hL, _ =>
    obtain ⟨hop, hdst, hgd⟩ := tab_at htab ho (show rlaT[4]? = _ from rfl)
    simp only at hop hgd
    have h0 := frm_at hdis ha 3 167 (hds 3 167 rfl) (by omega) (depl_of hdep 4 3 (by decide) ho hd)
    exact doesL_run ho (wanted_none hgd) (hpure 4 (by decide) L w' hW) (by rw [run_move _ _ _ hop]; exact congrArg (fun v => Result.ok (Next.value v) w') (eval_of h0))
  | 5, ho, hL, _ =>
    obtain ⟨hop, hdst, hgd⟩ := tab_at htab ho (show rlaT[5]? = _ from rfl)
    simp only at hop hgd
    have hg := frm_at hdis ha 4 168 (hds 4 168 rfl) (by omega) (depl_of hdep 5 4 (by decide) ho hd)
    have h0 := frm_old ha 19 _ (hold 19 rfl) o19
    exact doesL_run ho (wanted_at (b := false) hgd (hds 4 168 rfl) hg) (hpure 5 (by decide) L w' hW) (by rw [run_move _ _ _ hop]; exact congrArg (fun v => Result.ok (Next.value v) w') (eval_of h0))
  | 6, ho, hL, _ =>
    obtain ⟨hop, hdst, hgd⟩ := tab_at htab ho (show rlaT[6]? = _ from rfl)
    simp only at hop hgd
    have hg := frm_at hdis ha 4 168 (hds 4 168 rfl) (by omega) (depl_of hdep 6 4 (by decide) ho hd)
    have h0 := frm_old ha 20 _ (hold 20 rfl) o20
    exact doesL_run ho (wanted_at (b := false) hgd (hds 4 168 rfl) hg) (hpure 6 (by decide) L w' hW) (by rw [run_move _ _ _ hop]; exact congrArg (fun v => Result.ok (Next.value v) w') (eval_of h0))
  | 7, ho, hL, _ =>
    obtain ⟨hop, hdst, hgd⟩ := tab_at htab ho (show rlaT[7]? = _ from rfl)
    simp only at hop hgd
    have hg := frm_at hdis ha 4 168 (hds 4 168 rfl) (by omega) (depl_of hdep 7 4 (by decide) ho hd)
    have h0 := frm_at hdis ha 5 169 (hds 5 169 rfl) (by omega) (depl_of hdep 7 5 (by decide) ho hd)
    have h1 := frm_at hdis ha 6 170 (hds 6 170 rfl) (by omega) (depl_of hdep 7 6 (by decide) ho hd)
    exact doesL_run ho (wanted_at (b := false) hgd (hds 4 168 rfl) hg) (hpure 7 (by decide) L w' hW) (run_ia43 _ _ _ _ hop _ _ _ _ _ i7 (eval_of h0) (eval_of h1) _)
  | 8, ho, hL, _ =>
    obtain ⟨hop, hdst, hgd⟩ := tab_at htab ho (show rlaT[8]? = _ from rfl)
    simp only at hop hgd
    have hg := frm_at hdis ha 4 168 (hds 4 168 rfl) (by omega) (depl_of hdep 8 4 (by decide) ho hd)
    have h0 := frm_at hdis ha 7 171 (hds 7 171 rfl) (by omega) (depl_of hdep 8 7 (by decide) ho hd)
    exact doesL_run ho (wanted_at (b := false) hgd (hds 4 168 rfl) hg) (hpure 8 (by decide) L w' hW) (run_ld69 _ _ _ hop _ _ _ _ (eval_of h0) _ (l8 L w' hW).1 (l8 L w' hW).2)
  | 9, ho, hL, _ =>
    obtain ⟨hop, hdst, hgd⟩ := tab_at htab ho (show rlaT[9]? = _ from rfl)
    simp only at hop hgd
    have hg := frm_at hdis ha 4 168 (hds 4 168 rfl) (by omega) (depl_of hdep 9 4 (by decide) ho hd)
    have h0 := frm_old ha 23 _ (hold 23 rfl) o23
    exact doesL_run ho (wanted_at (b := false) hgd (hds 4 168 rfl) hg) (hpure 9 (by decide) L w' hW) (by rw [run_move _ _ _ hop]; exact congrArg (fun v => Result.ok (Next.value v) w') (eval_of h0))
  | 10, ho, hL, _ =>
    obtain ⟨hop, hdst, hgd⟩ := tab_at htab ho (show rlaT[10]? = _ from rfl)
    simp only at hop hgd
    have hg := frm_at hdis ha 4 168 (hds 4 168 rfl) (by omega) (depl_of hdep 10 4 (by decide) ho hd)
    have h0 := frm_old ha 23 _ (hold 23 rfl) o23
    exact doesL_run ho (wanted_at (b := false) hgd (hds 4 168 rfl) hg) (hpure 10 (by decide) L w' hW) (by rw [run_move _ _ _ hop]; exact congrArg (fun v => Result.ok (Next.value v) w') (eval_of h0))
  | 11, ho, hL, _ =>
    obtain ⟨hop, hdst, hgd⟩ := tab_at htab ho (show rlaT[11]? = _ from rfl)
    simp only at hop hgd
    have hg := frm_at hdis ha 4 168 (hds 4 168 rfl) (by omega) (depl_of hdep 11 4 (by decide) ho hd)
    have h0 := frm_old ha 12 _ (hold 12 rfl) o12
    have h1 := frm_at hdis ha 10 174 (hds 10 174 rfl) (by omega) (depl_of hdep 11 10 (by decide) ho hd)
    exact doesL_run ho (wanted_at (b := false) hgd (hds 4 168 rfl) hg) (hpure 11 (by decide) L w' hW) (run_ia62 _ _ _ _ hop _ _ _ i11 (eval_of h0) (eval_of h1) _)
  | 12, ho, hL, _ =>
    obtain ⟨hop, hdst, hgd⟩ := tab_at htab ho (show rlaT[12]? = _ from rfl)
    simp only at hop hgd
    have hg := frm_at hdis ha 4 168 (hds 4 168 rfl) (by omega) (depl_of hdep 12 4 (by decide) ho hd)
    have h0 := frm_at hdis ha 11 175 (hds 11 175 rfl) (by omega) (depl_of hdep 12 11 (by decide) ho hd)
    exact doesL_run ho (wanted_at (b := false) hgd (hds 4 168 rfl) hg) (hpure 12 (by decide) L w' hW) (run_ld _ _ _ hop _ _ (eval_of h0) _ (l12 L w' hW))
  | 13, ho, hL, _ =>
    obtain ⟨hop, hdst, hgd⟩ := tab_at htab ho (show rlaT[13]? = _ from rfl)
    simp only at hop hgd
    have hg := frm_at hdis ha 4 168 (hds 4 168 rfl) (by omega) (depl_of hdep 13 4 (by decide) ho hd)
    have h0 := frm_at hdis ha 9 173 (hds 9 173 rfl) (by omega) (depl_of hdep 13 9 (by decide) ho hd)
    have h1 := frm_at hdis ha 12 176 (hds 12 176 rfl) (by omega) (depl_of hdep 13 12 (by decide) ho hd)
    exact doesL_run ho (wanted_at (b := false) hgd (hds 4 168 rfl) hg) (hpure 13 (by decide) L w' hW) (run_build69 _ _ _ _ hop (m : Int) tx (eval_of h0) (eval_of h1) _)
  | 14, ho, hL, _ =>
    obtain ⟨hop, hdst, hgd⟩ := tab_at htab ho (show rlaT[14]? = _ from rfl)
    simp only at hop hgd
    have hg := frm_at hdis ha 4 168 (hds 4 168 rfl) (by omega) (depl_of hdep 14 4 (by decide) ho hd)
    have h0 := frm_at hdis ha 8 172 (hds 8 172 rfl) (by omega) (depl_of hdep 14 8 (by decide) ho hd)
    have h1 := frm_at hdis ha 13 177 (hds 13 177 rfl) (by omega) (depl_of hdep 14 13 (by decide) ho hd)
    exact doesL_run ho (wanted_at (b := false) hgd (hds 4 168 rfl) hg) (hpure 14 (by decide) L w' hW) (run_neq69 _ _ _ _ hop _ _ (eval_of h0) (eval_of h1) _)
  | 15, ho, hL, _ =>
    obtain ⟨hop, hdst, hgd⟩ := tab_at htab ho (show rlaT[15]? = _ from rfl)
    simp only at hop hgd
    have h0 := frm_at hdis ha 4 168 (hds 4 168 rfl) (by omega) (depl_of hdep 15 4 (by decide) ho hd)
    have h2 := frm_at hdis ha 14 178 (hds 14 178 rfl) (by omega) (depl_of hdep 15 14 (by decide) ho hd)
    exact doesL_run ho (wanted_none hgd) (hpure 15 (by decide) L w' hW) (by rw [run_pick _ _ _ _ _ hop false (eval_of h0)]; exact congrArg (fun v => Result.ok (Next.value v) w') (eval_of h2))
  | (i + 16), ho, hL, hi => exact absurd hi (by omega)
def rlbT : List (Op × Option Tmp × Option (Nat × Bool)) := [
  (.move (.tmp 23), some 195, none),
  (.move (.tmp 23), some 196, none),
  (.indexAddr 62 (.tmp 11) (.tmp 196), some 197, none),
  (.load 9 (.tmp 197), some 198, none),
  (.move (.tmp 23), some 199, none),
  (.indexAddr 62 (.tmp 12) (.tmp 199), some 200, none),
  (.load 9 (.tmp 200), some 201, none),
  (.move (.tmp 24), some 202, none),
  (.call { callee := .value (.func 27), args := #[(.tmp 198), (.tmp 201), (.tmp 202)], argTypes := #[9, 9, 3] }, some 203, none),
  (.indexAddr 62 (.tmp 22) (.tmp 195), some 204, none),
  (.store 9 (.tmp 204) (.tmp 203), none, none)]
def rlbD : List (Nat × Nat) := [(2, 1), (3, 2), (5, 4), (6, 5), (8, 3), (8, 6), (8, 7), (9, 0), (10, 8), (10, 9)]
set_option maxHeartbeats 2000000 in
theorem rlb {ops : Array Oper} {id : Nat} {Q : Exit → Act → World → Prop} (A N T m s9 : Nat) (lx tx tv : Bs) (htab : ops.toList.map (fun o => (o.op, o.dst, o.guard)) = rlbT) (hdep : deplB rlbD ops = true) (hac : acB ops = true)
    (a0 : Act) (w : World) (hsz : 205 ≤ a0.tmps.size) (o11 : a0.tmps[11]? = some (.pointer (some ⟨A, 0, none⟩))) (o12 : a0.tmps[12]? = some (.pointer (some ⟨N, 0, none⟩))) (o22 : a0.tmps[22]? = some (.pointer (some ⟨T, 0, none⟩))) (o23 : a0.tmps[23]? = some (.int .i64 (m : Int))) (o24 : a0.tmps[24]? = some (.int .i64 (s9 : Int)))
    (Wd : (Nat → Bool) → World → Prop) (h0 : Wd (fun _ => false) w.drew) (hpure : ∀ i, i ∉ ([8, 10] : List Nat) → ∀ L W, Wd L W → Wd (upd L i) W)
    (i2 : m < 9) (l3 : ∀ L W, Wd L W → W.cell? ⟨A, 0 + m, none⟩ = some (S lx)) (i5 : m < 9) (l6 : ∀ L W, Wd L W → W.cell? ⟨N, 0 + m, none⟩ = some (S tx))
    (c8 : ∀ L W, Wd L W → L 8 = false → Calls Try.prog 27 #[S lx, S tx, .int .i64 (s9 : Int)] W fun e w' => e = .returned (S tv) ∧ Wd (upd L 8) w') (i9 : m < 9)
    (n10 : ∀ L W, Wd L W → L 10 = false → L 8 = true → L 9 = true → Wd (upd L 10) (W.setCell ⟨T, 0 + m, none⟩ (S tv)) ∧ (∃ u, W.cell? ⟨T, 0 + m, none⟩ = some u) ∧ W.frozen? ⟨T, 0 + m, none⟩ = false)
    (hend : ∀ L W, (∀ i, i < 11 → L i = true) → Wd L W → Q .normal ((((((((((a0.put (some 195) (.int .i64 (m : Int))).put (some 196) (.int .i64 (m : Int))).put (some 197) (.pointer (some ⟨A, 0 + m, none⟩))).put (some 198) (S lx)).put (some 199) (.int .i64 (m : Int))).put (some 200) (.pointer (some ⟨N, 0 + m, none⟩))).put (some 201) (S tx)).put (some 202) (.int .i64 (s9 : Int))).put (some 203) (S tv)).put (some 204) (.pointer (some ⟨T, 0 + m, none⟩))) W) : (Code.region id ops true).wp Try.prog Q a0 w := by
  let val : Nat → Value := fun i => match i with
    | 0 => (.int .i64 (m : Int))
    | 1 => (.int .i64 (m : Int))
    | 2 => (.pointer (some ⟨A, 0 + m, none⟩))
    | 3 => (S lx)
    | 4 => (.int .i64 (m : Int))
    | 5 => (.pointer (some ⟨N, 0 + m, none⟩))
    | 6 => (S tx)
    | 7 => (.int .i64 (s9 : Int))
    | 8 => (S tv)
    | 9 => (.pointer (some ⟨T, 0 + m, none⟩))
    | 10 => undef
    | _ => undef
  have hosz : ops.size = 11 := by
    have := congrArg List.length htab
    simpa [rlbT] using this
  have hds : ∀ i s, (rlbT[i]?).bind (·.2.1) = some s → dstOf ops i = some s := fun i s hi => by rw [tab_dst htab, hi]
  have hdisB : disL rlbT = true := by rfl
  have hdis := disL_of htab hdisB
  have hold : ∀ s, rlbT.all (fun x => !(x.2.1 == some s)) = true → (List.range ops.size).all (fun j => !(dstOf ops j == some s)) = true := fun s h => holdL htab s h
  refine region_detL val Wd (hac_of hac) hdis h0 ?_ ?_
  rotate_left
  · intro L W hall hW
    have := hend L W (by rw [← hosz]; exact hall) hW
    have e : frm ops a0 val (fun _ => true) ops.size = ((((((((((a0.put (some 195) (.int .i64 (m : Int))).put (some 196) (.int .i64 (m : Int))).put (some 197) (.pointer (some ⟨A, 0 + m, none⟩))).put (some 198) (S lx)).put (some 199) (.int .i64 (m : Int))).put (some 200) (.pointer (some ⟨N, 0 + m, none⟩))).put (some 201) (S tx)).put (some 202) (.int .i64 (s9 : Int))).put (some 203) (S tv)).put (some 204) (.pointer (some ⟨T, 0 + m, none⟩))) := by
      rw [hosz]
      simp only [frm, if_true]
      rw [tab_dst htab 0, tab_dst htab 1, tab_dst htab 2, tab_dst htab 3, tab_dst htab 4, tab_dst htab 5, tab_dst htab 6, tab_dst htab 7, tab_dst htab 8, tab_dst htab 9, (show dstOf ops 10 = none from (tab_dst htab 10).trans rfl), put_none]
      rfl
    rw [e]
    exact this
  intro i o ho L a w' hL hd ha hW
  have hi : i < 11 := by rw [← hosz]; exact (Array.getElem?_eq_some_iff.1 ho).1
  match i, ho, hL, hi with
  | 0, ho, hL, _ =>
    obtain ⟨hop, hdst, hgd⟩ := tab_at htab ho (show rlbT[0]? = _ from rfl)
    simp only at hop hgd
    have h0 := frm_old ha 23 _ (hold 23 rfl) o23
    exact doesL_run ho (wanted_none hgd) (hpure 0 (by decide) L w' hW) (by rw [run_move _ _ _ hop]; exact congrArg (fun v => Result.ok (Next.value v) w') (eval_of h0))
  | 1, ho, hL, _ =>
    obtain ⟨hop, hdst, hgd⟩ := tab_at htab ho (show rlbT[1]? = _ from rfl)
    simp only at hop hgd
    have h0 := frm_old ha 23 _ (hold 23 rfl) o23
    exact doesL_run ho (wanted_none hgd) (hpure 1 (by decide) L w' hW) (by rw [run_move _ _ _ hop]; exact congrArg (fun v => Result.ok (Next.value v) w') (eval_of h0))
  | 2, ho, hL, _ =>
    obtain ⟨hop, hdst, hgd⟩ := tab_at htab ho (show rlbT[2]? = _ from rfl)
    simp only at hop hgd
    have h0 := frm_old ha 11 _ (hold 11 rfl) o11
    have h1 := frm_at hdis ha 1 196 (hds 1 196 rfl) (by omega) (depl_of hdep 2 1 (by decide) ho hd)
    exact doesL_run ho (wanted_none hgd) (hpure 2 (by decide) L w' hW) (run_ia62 _ _ _ _ hop _ _ _ i2 (eval_of h0) (eval_of h1) _)
  | 3, ho, hL, _ =>
    obtain ⟨hop, hdst, hgd⟩ := tab_at htab ho (show rlbT[3]? = _ from rfl)
    simp only at hop hgd
    have h0 := frm_at hdis ha 2 197 (hds 2 197 rfl) (by omega) (depl_of hdep 3 2 (by decide) ho hd)
    exact doesL_run ho (wanted_none hgd) (hpure 3 (by decide) L w' hW) (run_ld _ _ _ hop _ _ (eval_of h0) _ (l3 L w' hW))
  | 4, ho, hL, _ =>
    obtain ⟨hop, hdst, hgd⟩ := tab_at htab ho (show rlbT[4]? = _ from rfl)
    simp only at hop hgd
    have h0 := frm_old ha 23 _ (hold 23 rfl) o23
    exact doesL_run ho (wanted_none hgd) (hpure 4 (by decide) L w' hW) (by rw [run_move _ _ _ hop]; exact congrArg (fun v => Result.ok (Next.value v) w') (eval_of h0))
  | 5, ho, hL, _ =>
    obtain ⟨hop, hdst, hgd⟩ := tab_at htab ho (show rlbT[5]? = _ from rfl)
    simp only at hop hgd
    have h0 := frm_old ha 12 _ (hold 12 rfl) o12
    have h1 := frm_at hdis ha 4 199 (hds 4 199 rfl) (by omega) (depl_of hdep 5 4 (by decide) ho hd)
    exact doesL_run ho (wanted_none hgd) (hpure 5 (by decide) L w' hW) (run_ia62 _ _ _ _ hop _ _ _ i5 (eval_of h0) (eval_of h1) _)
  | 6, ho, hL, _ =>
    obtain ⟨hop, hdst, hgd⟩ := tab_at htab ho (show rlbT[6]? = _ from rfl)
    simp only at hop hgd
    have h0 := frm_at hdis ha 5 200 (hds 5 200 rfl) (by omega) (depl_of hdep 6 5 (by decide) ho hd)
    exact doesL_run ho (wanted_none hgd) (hpure 6 (by decide) L w' hW) (run_ld _ _ _ hop _ _ (eval_of h0) _ (l6 L w' hW))
  | 7, ho, hL, _ =>
    obtain ⟨hop, hdst, hgd⟩ := tab_at htab ho (show rlbT[7]? = _ from rfl)
    simp only at hop hgd
    have h0 := frm_old ha 24 _ (hold 24 rfl) o24
    exact doesL_run ho (wanted_none hgd) (hpure 7 (by decide) L w' hW) (by rw [run_move _ _ _ hop]; exact congrArg (fun v => Result.ok (Next.value v) w') (eval_of h0))
  | 8, ho, hL, _ =>
    obtain ⟨hop, hdst, hgd⟩ := tab_at htab ho (show rlbT[8]? = _ from rfl)
    simp only at hop hgd
    have h0 := frm_at hdis ha 3 198 (hds 3 198 rfl) (by omega) (depl_of hdep 8 3 (by decide) ho hd)
    have h1 := frm_at hdis ha 6 201 (hds 6 201 rfl) (by omega) (depl_of hdep 8 6 (by decide) ho hd)
    have h2 := frm_at hdis ha 7 202 (hds 7 202 rfl) (by omega) (depl_of hdep 8 7 (by decide) ho hd)
    refine doesL_call ho (wanted_none hgd) 27 #[S lx, S tx, .int .i64 (s9 : Int)] ?_ (c8 L w' hW hL)
    rw [run_calls Try.func27 (by kernel_rfl) rfl _ _ _ _ hop rfl]
    simp only [List.map_toArray, List.map_cons, List.map_nil, eval_of h0, eval_of h1, eval_of h2]
    all_goals rfl
  | 9, ho, hL, _ =>
    obtain ⟨hop, hdst, hgd⟩ := tab_at htab ho (show rlbT[9]? = _ from rfl)
    simp only at hop hgd
    have h0 := frm_old ha 22 _ (hold 22 rfl) o22
    have h1 := frm_at hdis ha 0 195 (hds 0 195 rfl) (by omega) (depl_of hdep 9 0 (by decide) ho hd)
    exact doesL_run ho (wanted_none hgd) (hpure 9 (by decide) L w' hW) (run_ia62 _ _ _ _ hop _ _ _ i9 (eval_of h0) (eval_of h1) _)
  | 10, ho, hL, _ =>
    obtain ⟨hop, hdst, hgd⟩ := tab_at htab ho (show rlbT[10]? = _ from rfl)
    simp only at hop hgd
    have h0 := frm_at hdis ha 9 204 (hds 9 204 rfl) (by omega) (depl_of hdep 10 9 (by decide) ho hd)
    have h1 := frm_at hdis ha 8 203 (hds 8 203 rfl) (by omega) (depl_of hdep 10 8 (by decide) ho hd)
    obtain ⟨s1, s2, s3⟩ := n10 L w' hW hL (depl_of hdep 10 8 (by decide) ho hd) (depl_of hdep 10 9 (by decide) ho hd)
    exact doesL_skp ho (wanted_none hgd) rfl s1 (run_st9 _ _ _ _ hop _ _ (eval_of h0) (eval_of h1) _ s2 s3)
  | (i + 11), ho, hL, hi => exact absurd hi (by omega)
def rlcT : List (Op × Option Tmp × Option (Nat × Bool)) := [
  (.move (.tmp 31), some 264, none),
  (.binOp .neq 50 (.tmp 264) (.const (.int .i64 0)) 50, some 265, none),
  (.move (.tmp 265), some 266, none),
  (.move (.tmp 33), some 267, some (2, false)),
  (.binOp .neq 50 (.tmp 267) (.const (.int .i64 0)) 50, some 268, some (2, false)),
  (.pick (.tmp 266) (.const (.bool true)) (.tmp 268), some 269, none),
  (.move (.tmp 269), some 270, none),
  (.move (.tmp 28), some 271, some (6, false)),
  (.call { callee := .builtin .len, args := #[(.tmp 271)], argTypes := #[28] }, some 272, some (6, false)),
  (.binOp .neq 3 (.tmp 272) (.const (.int .i64 9)) 3, some 273, some (6, false)),
  (.pick (.tmp 270) (.const (.bool true)) (.tmp 273), some 274, none),
  (.move (.tmp 274), some 275, none),
  (.move (.tmp 30), some 276, some (11, false)),
  (.move (.tmp 29), some 277, some (11, false)),
  (.indexAddr 62 (.tmp 22) (.tmp 277), some 278, some (11, false)),
  (.load 9 (.tmp 278), some 279, some (11, false)),
  (.binOp .neq 9 (.tmp 276) (.tmp 279) 9, some 280, some (11, false)),
  (.pick (.tmp 275) (.const (.bool true)) (.tmp 280), some 281, none),
  (.move (.tmp 281), some 282, none),
  (.move (.tmp 28), some 283, some (18, false)),
  (.move (.tmp 29), some 284, some (18, false)),
  (.indexAddr 28 (.tmp 283) (.tmp 284), some 285, some (18, false)),
  (.load 9 (.tmp 285), some 286, some (18, false)),
  (.move (.tmp 29), some 287, some (18, false)),
  (.indexAddr 62 (.tmp 22) (.tmp 287), some 288, some (18, false)),
  (.load 9 (.tmp 288), some 289, some (18, false)),
  (.binOp .neq 9 (.tmp 286) (.tmp 289) 9, some 290, some (18, false)),
  (.pick (.tmp 282) (.const (.bool true)) (.tmp 290), some 291, none),
  (.move (.tmp 291), some 292, none),
  (.move (.tmp 32), some 293, some (28, false)),
  (.move (.tmp 29), some 294, some (28, false)),
  (.indexAddr 62 (.tmp 11) (.tmp 294), some 295, some (28, false)),
  (.load 9 (.tmp 295), some 296, some (28, false)),
  (.binOp .neq 9 (.tmp 293) (.tmp 296) 9, some 297, some (28, false)),
  (.pick (.tmp 292) (.const (.bool true)) (.tmp 297), some 298, none)]
def rlcD : List (Nat × Nat) := [(1, 0), (2, 1), (3, 2), (4, 2), (4, 3), (5, 2), (5, 4), (6, 5), (7, 6), (8, 6), (8, 7), (9, 6), (9, 8), (10, 6), (10, 9), (11, 10), (12, 11), (13, 11), (14, 11), (14, 13), (15, 11), (15, 14), (16, 11), (16, 12), (16, 15), (17, 11), (17, 16), (18, 17), (19, 18), (20, 18), (21, 18), (21, 19), (21, 20), (22, 18), (22, 21), (23, 18), (24, 18), (24, 23), (25, 18), (25, 24), (26, 18), (26, 22), (26, 25), (27, 18), (27, 26), (28, 27), (29, 28), (30, 28), (31, 28), (31, 30), (32, 28), (32, 31), (33, 28), (33, 29), (33, 32), (34, 28), (34, 33)]
set_option maxHeartbeats 2000000 in
theorem rlc {ops : Array Oper} {id : Nat} {Q : Exit → Act → World → Prop} (gb cb T A m : Nat) (x y : Bs) (htab : ops.toList.map (fun o => (o.op, o.dst, o.guard)) = rlcT) (hdep : deplB rlcD ops = true) (hac : acB ops = true)
    (a0 : Act) (w : World) (hsz : 299 ≤ a0.tmps.size) (o11 : a0.tmps[11]? = some (.pointer (some ⟨A, 0, none⟩))) (o22 : a0.tmps[22]? = some (.pointer (some ⟨T, 0, none⟩))) (o28 : a0.tmps[28]? = some (.slice (some ⟨gb, 0, none⟩) 9 cb)) (o29 : a0.tmps[29]? = some (.int .i64 (m : Int))) (o30 : a0.tmps[30]? = some (S x)) (o31 : a0.tmps[31]? = some (.int .i64 (0 : Int))) (o32 : a0.tmps[32]? = some (S y)) (o33 : a0.tmps[33]? = some (.int .i64 (0 : Int)))
    (Wd : (Nat → Bool) → World → Prop) (h0 : Wd (fun _ => false) w.drew) (hpure : ∀ i, i ∉ ([] : List Nat) → ∀ L W, Wd L W → Wd (upd L i) W)
    (i14 : m < 9)
    (l15 : ∀ L W, Wd L W → W.cell? ⟨T, 0 + m, none⟩ = some (S x))
    (i21 : m < 9)
    (l22 : ∀ L W, Wd L W → W.cell? ⟨gb, 0 + m, none⟩ = some (S x))
    (i24 : m < 9)
    (l25 : ∀ L W, Wd L W → W.cell? ⟨T, 0 + m, none⟩ = some (S x))
    (i31 : m < 9)
    (l32 : ∀ L W, Wd L W → W.cell? ⟨A, 0 + m, none⟩ = some (S y))
    (hend : ∀ L W, (∀ i, i < 35 → L i = true) → Wd L W → Q .normal (((((((((((((((((((((((((((((((((((a0.put (some 264) (.int .i64 (0 : Int))).put (some 265) (.bool false)).put (some 266) (.bool false)).put (some 267) (.int .i64 (0 : Int))).put (some 268) (.bool false)).put (some 269) (.bool false)).put (some 270) (.bool false)).put (some 271) (.slice (some ⟨gb, 0, none⟩) 9 cb)).put (some 272) (.int .i64 (9 : Int))).put (some 273) (.bool false)).put (some 274) (.bool false)).put (some 275) (.bool false)).put (some 276) (S x)).put (some 277) (.int .i64 (m : Int))).put (some 278) (.pointer (some ⟨T, 0 + m, none⟩))).put (some 279) (S x)).put (some 280) (.bool false)).put (some 281) (.bool false)).put (some 282) (.bool false)).put (some 283) (.slice (some ⟨gb, 0, none⟩) 9 cb)).put (some 284) (.int .i64 (m : Int))).put (some 285) (.pointer (some ⟨gb, 0 + m, none⟩))).put (some 286) (S x)).put (some 287) (.int .i64 (m : Int))).put (some 288) (.pointer (some ⟨T, 0 + m, none⟩))).put (some 289) (S x)).put (some 290) (.bool false)).put (some 291) (.bool false)).put (some 292) (.bool false)).put (some 293) (S y)).put (some 294) (.int .i64 (m : Int))).put (some 295) (.pointer (some ⟨A, 0 + m, none⟩))).put (some 296) (S y)).put (some 297) (.bool false)).put (some 298) (.bool false)) W) : (Code.region id ops true).wp Try.prog Q a0 w := by
  let val : Nat → Value := fun i => match i with
    | 0 => (.int .i64 (0 : Int))
    | 1 => (.bool false)
    | 2 => (.bool false)
    | 3 => (.int .i64 (0 : Int))
    | 4 => (.bool false)
    | 5 => (.bool false)
    | 6 => (.bool false)
    | 7 => (.slice (some ⟨gb, 0, none⟩) 9 cb)
    | 8 => (.int .i64 (9 : Int))
    | 9 => (.bool false)
    | 10 => (.bool false)
    | 11 => (.bool false)
    | 12 => (S x)
    | 13 => (.int .i64 (m : Int))
    | 14 => (.pointer (some ⟨T, 0 + m, none⟩))
    | 15 => (S x)
    | 16 => (.bool false)
    | 17 => (.bool false)
    | 18 => (.bool false)
    | 19 => (.slice (some ⟨gb, 0, none⟩) 9 cb)
    | 20 => (.int .i64 (m : Int))
    | 21 => (.pointer (some ⟨gb, 0 + m, none⟩))
    | 22 => (S x)
    | 23 => (.int .i64 (m : Int))
    | 24 => (.pointer (some ⟨T, 0 + m, none⟩))
    | 25 => (S x)
    | 26 => (.bool false)
    | 27 => (.bool false)
    | 28 => (.bool false)
    | 29 => (S y)
    | 30 => (.int .i64 (m : Int))
    | 31 => (.pointer (some ⟨A, 0 + m, none⟩))
    | 32 => (S y)
    | 33 => (.bool false)
    | 34 => (.bool false)
    | _ => undef
  have hosz : ops.size = 35 := by
    have := congrArg List.length htab
    simpa [rlcT] using this
  have hds : ∀ i s, (rlcT[i]?).bind (·.2.1) = some s → dstOf ops i = some s := fun i s hi => by rw [tab_dst htab, hi]
  have hdisB : disL rlcT = true := by rfl
  have hdis := disL_of htab hdisB
  have hold : ∀ s, rlcT.all (fun x => !(x.2.1 == some s)) = true → (List.range ops.size).all (fun j => !(dstOf ops j == some s)) = true := fun s h => holdL htab s h
  refine region_detL val Wd (hac_of hac) hdis h0 ?_ ?_
  rotate_left
  · intro L W hall hW
    have := hend L W (by rw [← hosz]; exact hall) hW
    have e : frm ops a0 val (fun _ => true) ops.size = (((((((((((((((((((((((((((((((((((a0.put (some 264) (.int .i64 (0 : Int))).put (some 265) (.bool false)).put (some 266) (.bool false)).put (some 267) (.int .i64 (0 : Int))).put (some 268) (.bool false)).put (some 269) (.bool false)).put (some 270) (.bool false)).put (some 271) (.slice (some ⟨gb, 0, none⟩) 9 cb)).put (some 272) (.int .i64 (9 : Int))).put (some 273) (.bool false)).put (some 274) (.bool false)).put (some 275) (.bool false)).put (some 276) (S x)).put (some 277) (.int .i64 (m : Int))).put (some 278) (.pointer (some ⟨T, 0 + m, none⟩))).put (some 279) (S x)).put (some 280) (.bool false)).put (some 281) (.bool false)).put (some 282) (.bool false)).put (some 283) (.slice (some ⟨gb, 0, none⟩) 9 cb)).put (some 284) (.int .i64 (m : Int))).put (some 285) (.pointer (some ⟨gb, 0 + m, none⟩))).put (some 286) (S x)).put (some 287) (.int .i64 (m : Int))).put (some 288) (.pointer (some ⟨T, 0 + m, none⟩))).put (some 289) (S x)).put (some 290) (.bool false)).put (some 291) (.bool false)).put (some 292) (.bool false)).put (some 293) (S y)).put (some 294) (.int .i64 (m : Int))).put (some 295) (.pointer (some ⟨A, 0 + m, none⟩))).put (some 296) (S y)).put (some 297) (.bool false)).put (some 298) (.bool false)) := by
      rw [hosz]
      simp only [frm, if_true]
      rw [tab_dst htab 0, tab_dst htab 1, tab_dst htab 2, tab_dst htab 3, tab_dst htab 4, tab_dst htab 5, tab_dst htab 6, tab_dst htab 7, tab_dst htab 8, tab_dst htab 9, tab_dst htab 10, tab_dst htab 11, tab_dst htab 12, tab_dst htab 13, tab_dst htab 14, tab_dst htab 15, tab_dst htab 16, tab_dst htab 17, tab_dst htab 18, tab_dst htab 19, tab_dst htab 20, tab_dst htab 21, tab_dst htab 22, tab_dst htab 23, tab_dst htab 24, tab_dst htab 25, tab_dst htab 26, tab_dst htab 27, tab_dst htab 28, tab_dst htab 29, tab_dst htab 30, tab_dst htab 31, tab_dst htab 32, tab_dst htab 33, tab_dst htab 34]
      rfl
    rw [e]
    exact this
  intro i o ho L a w' hL hd ha hW
  have hi : i < 35 := by rw [← hosz]; exact (Array.getElem?_eq_some_iff.1 ho).1
  match i, ho, hL, hi with
  | 0, ho, hL, _ =>
    obtain ⟨hop, hdst, hgd⟩ := tab_at htab ho (show rlcT[0]? = _ from rfl)
    simp only at hop hgd
    have h0 := frm_old ha 31 _ (hold 31 rfl) o31
    exact doesL_run ho (wanted_none hgd) (hpure 0 (by decide) L w' hW) (by rw [run_move _ _ _ hop]; exact congrArg (fun v => Result.ok (Next.value v) w') (eval_of h0))
  | 1, ho, hL, _ =>
    obtain ⟨hop, hdst, hgd⟩ := tab_at htab ho (show rlcT[1]? = _ from rfl)
    simp only at hop hgd
    have h0 := frm_at hdis ha 0 264 (hds 0 264 rfl) (by omega) (depl_of hdep 1 0 (by decide) ho hd)
    exact doesL_run ho (wanted_none hgd) (hpure 1 (by decide) L w' hW) (run_neqI _ _ _ _ _ _ hop _ (eval_of h0) rfl _)
  | 2, ho, hL, _ =>
    obtain ⟨hop, hdst, hgd⟩ := tab_at htab ho (show rlcT[2]? = _ from rfl)
    simp only at hop hgd
    have h0 := frm_at hdis ha 1 265 (hds 1 265 rfl) (by omega) (depl_of hdep 2 1 (by decide) ho hd)
    exact doesL_run ho (wanted_none hgd) (hpure 2 (by decide) L w' hW) (by rw [run_move _ _ _ hop]; exact congrArg (fun v => Result.ok (Next.value v) w') (eval_of h0))
  | 3, ho, hL, _ =>
    obtain ⟨hop, hdst, hgd⟩ := tab_at htab ho (show rlcT[3]? = _ from rfl)
    simp only at hop hgd
    have hg := frm_at hdis ha 2 266 (hds 2 266 rfl) (by omega) (depl_of hdep 3 2 (by decide) ho hd)
    have h0 := frm_old ha 33 _ (hold 33 rfl) o33
    exact doesL_run ho (wanted_at (b := false) hgd (hds 2 266 rfl) hg) (hpure 3 (by decide) L w' hW) (by rw [run_move _ _ _ hop]; exact congrArg (fun v => Result.ok (Next.value v) w') (eval_of h0))
  | 4, ho, hL, _ =>
    obtain ⟨hop, hdst, hgd⟩ := tab_at htab ho (show rlcT[4]? = _ from rfl)
    simp only at hop hgd
    have hg := frm_at hdis ha 2 266 (hds 2 266 rfl) (by omega) (depl_of hdep 4 2 (by decide) ho hd)
    have h0 := frm_at hdis ha 3 267 (hds 3 267 rfl) (by omega) (depl_of hdep 4 3 (by decide) ho hd)
    exact doesL_run ho (wanted_at (b := false) hgd (hds 2 266 rfl) hg) (hpure 4 (by decide) L w' hW) (run_neqI _ _ _ _ _ _ hop _ (eval_of h0) rfl _)
  | 5, ho, hL, _ =>
    obtain ⟨hop, hdst, hgd⟩ := tab_at htab ho (show rlcT[5]? = _ from rfl)
    simp only at hop hgd
    have h0 := frm_at hdis ha 2 266 (hds 2 266 rfl) (by omega) (depl_of hdep 5 2 (by decide) ho hd)
    have h2 := frm_at hdis ha 4 268 (hds 4 268 rfl) (by omega) (depl_of hdep 5 4 (by decide) ho hd)
    exact doesL_run ho (wanted_none hgd) (hpure 5 (by decide) L w' hW) (by rw [run_pick _ _ _ _ _ hop false (eval_of h0)]; exact congrArg (fun v => Result.ok (Next.value v) w') (eval_of h2))
  | 6, ho, hL, _ =>
    obtain ⟨hop, hdst, hgd⟩ := tab_at htab ho (show rlcT[6]? = _ from rfl)
    simp only at hop hgd
    have h0 := frm_at hdis ha 5 269 (hds 5 269 rfl) (by omega) (depl_of hdep 6 5 (by decide) ho hd)
    exact doesL_run ho (wanted_none hgd) (hpure 6 (by decide) L w' hW) (by rw [run_move _ _ _ hop]; exact congrArg (fun v => Result.ok (Next.value v) w') (eval_of h0))
  | 7, ho, hL, _ =>
    obtain ⟨hop, hdst, hgd⟩ := tab_at htab ho (show rlcT[7]? = _ from rfl)
    simp only at hop hgd
    have hg := frm_at hdis ha 6 270 (hds 6 270 rfl) (by omega) (depl_of hdep 7 6 (by decide) ho hd)
    have h0 := frm_old ha 28 _ (hold 28 rfl) o28
    exact doesL_run ho (wanted_at (b := false) hgd (hds 6 270 rfl) hg) (hpure 7 (by decide) L w' hW) (by rw [run_move _ _ _ hop]; exact congrArg (fun v => Result.ok (Next.value v) w') (eval_of h0))
  | 8, ho, hL, _ =>
    obtain ⟨hop, hdst, hgd⟩ := tab_at htab ho (show rlcT[8]? = _ from rfl)
    simp only at hop hgd
    have hg := frm_at hdis ha 6 270 (hds 6 270 rfl) (by omega) (depl_of hdep 8 6 (by decide) ho hd)
    have h0 := frm_at hdis ha 7 271 (hds 7 271 rfl) (by omega) (depl_of hdep 8 7 (by decide) ho hd)
    exact doesL_run ho (wanted_at (b := false) hgd (hds 6 270 rfl) hg) (hpure 8 (by decide) L w' hW) (run_len28 _ _ _ hop _ _ _ (eval_of h0) _)
  | 9, ho, hL, _ =>
    obtain ⟨hop, hdst, hgd⟩ := tab_at htab ho (show rlcT[9]? = _ from rfl)
    simp only at hop hgd
    have hg := frm_at hdis ha 6 270 (hds 6 270 rfl) (by omega) (depl_of hdep 9 6 (by decide) ho hd)
    have h0 := frm_at hdis ha 8 272 (hds 8 272 rfl) (by omega) (depl_of hdep 9 8 (by decide) ho hd)
    exact doesL_run ho (wanted_at (b := false) hgd (hds 6 270 rfl) hg) (hpure 9 (by decide) L w' hW) (run_neqI _ _ _ _ _ _ hop _ (eval_of h0) rfl _)
  | 10, ho, hL, _ =>
    obtain ⟨hop, hdst, hgd⟩ := tab_at htab ho (show rlcT[10]? = _ from rfl)
    simp only at hop hgd
    have h0 := frm_at hdis ha 6 270 (hds 6 270 rfl) (by omega) (depl_of hdep 10 6 (by decide) ho hd)
    have h2 := frm_at hdis ha 9 273 (hds 9 273 rfl) (by omega) (depl_of hdep 10 9 (by decide) ho hd)
    exact doesL_run ho (wanted_none hgd) (hpure 10 (by decide) L w' hW) (by rw [run_pick _ _ _ _ _ hop false (eval_of h0)]; exact congrArg (fun v => Result.ok (Next.value v) w') (eval_of h2))
  | 11, ho, hL, _ =>
    obtain ⟨hop, hdst, hgd⟩ := tab_at htab ho (show rlcT[11]? = _ from rfl)
    simp only at hop hgd
    have h0 := frm_at hdis ha 10 274 (hds 10 274 rfl) (by omega) (depl_of hdep 11 10 (by decide) ho hd)
    exact doesL_run ho (wanted_none hgd) (hpure 11 (by decide) L w' hW) (by rw [run_move _ _ _ hop]; exact congrArg (fun v => Result.ok (Next.value v) w') (eval_of h0))
  | 12, ho, hL, _ =>
    obtain ⟨hop, hdst, hgd⟩ := tab_at htab ho (show rlcT[12]? = _ from rfl)
    simp only at hop hgd
    have hg := frm_at hdis ha 11 275 (hds 11 275 rfl) (by omega) (depl_of hdep 12 11 (by decide) ho hd)
    have h0 := frm_old ha 30 _ (hold 30 rfl) o30
    exact doesL_run ho (wanted_at (b := false) hgd (hds 11 275 rfl) hg) (hpure 12 (by decide) L w' hW) (by rw [run_move _ _ _ hop]; exact congrArg (fun v => Result.ok (Next.value v) w') (eval_of h0))
  | 13, ho, hL, _ =>
    obtain ⟨hop, hdst, hgd⟩ := tab_at htab ho (show rlcT[13]? = _ from rfl)
    simp only at hop hgd
    have hg := frm_at hdis ha 11 275 (hds 11 275 rfl) (by omega) (depl_of hdep 13 11 (by decide) ho hd)
    have h0 := frm_old ha 29 _ (hold 29 rfl) o29
    exact doesL_run ho (wanted_at (b := false) hgd (hds 11 275 rfl) hg) (hpure 13 (by decide) L w' hW) (by rw [run_move _ _ _ hop]; exact congrArg (fun v => Result.ok (Next.value v) w') (eval_of h0))
  | 14, ho, hL, _ =>
    obtain ⟨hop, hdst, hgd⟩ := tab_at htab ho (show rlcT[14]? = _ from rfl)
    simp only at hop hgd
    have hg := frm_at hdis ha 11 275 (hds 11 275 rfl) (by omega) (depl_of hdep 14 11 (by decide) ho hd)
    have h0 := frm_old ha 22 _ (hold 22 rfl) o22
    have h1 := frm_at hdis ha 13 277 (hds 13 277 rfl) (by omega) (depl_of hdep 14 13 (by decide) ho hd)
    exact doesL_run ho (wanted_at (b := false) hgd (hds 11 275 rfl) hg) (hpure 14 (by decide) L w' hW) (run_ia62 _ _ _ _ hop _ _ _ i14 (eval_of h0) (eval_of h1) _)
  | 15, ho, hL, _ =>
    obtain ⟨hop, hdst, hgd⟩ := tab_at htab ho (show rlcT[15]? = _ from rfl)
    simp only at hop hgd
    have hg := frm_at hdis ha 11 275 (hds 11 275 rfl) (by omega) (depl_of hdep 15 11 (by decide) ho hd)
    have h0 := frm_at hdis ha 14 278 (hds 14 278 rfl) (by omega) (depl_of hdep 15 14 (by decide) ho hd)
    exact doesL_run ho (wanted_at (b := false) hgd (hds 11 275 rfl) hg) (hpure 15 (by decide) L w' hW) (run_ld _ _ _ hop _ _ (eval_of h0) _ (l15 L w' hW))
  | 16, ho, hL, _ =>
    obtain ⟨hop, hdst, hgd⟩ := tab_at htab ho (show rlcT[16]? = _ from rfl)
    simp only at hop hgd
    have hg := frm_at hdis ha 11 275 (hds 11 275 rfl) (by omega) (depl_of hdep 16 11 (by decide) ho hd)
    have h0 := frm_at hdis ha 12 276 (hds 12 276 rfl) (by omega) (depl_of hdep 16 12 (by decide) ho hd)
    have h1 := frm_at hdis ha 15 279 (hds 15 279 rfl) (by omega) (depl_of hdep 16 15 (by decide) ho hd)
    exact doesL_run ho (wanted_at (b := false) hgd (hds 11 275 rfl) hg) (hpure 16 (by decide) L w' hW) (run_neqS _ _ _ _ _ _ hop _ (eval_of h0) (eval_of h1) _)
  | 17, ho, hL, _ =>
    obtain ⟨hop, hdst, hgd⟩ := tab_at htab ho (show rlcT[17]? = _ from rfl)
    simp only at hop hgd
    have h0 := frm_at hdis ha 11 275 (hds 11 275 rfl) (by omega) (depl_of hdep 17 11 (by decide) ho hd)
    have h2 := frm_at hdis ha 16 280 (hds 16 280 rfl) (by omega) (depl_of hdep 17 16 (by decide) ho hd)
    exact doesL_run ho (wanted_none hgd) (hpure 17 (by decide) L w' hW) (by rw [run_pick _ _ _ _ _ hop false (eval_of h0)]; exact congrArg (fun v => Result.ok (Next.value v) w') (eval_of h2))
  | 18, ho, hL, _ =>
    obtain ⟨hop, hdst, hgd⟩ := tab_at htab ho (show rlcT[18]? = _ from rfl)
    simp only at hop hgd
    have h0 := frm_at hdis ha 17 281 (hds 17 281 rfl) (by omega) (depl_of hdep 18 17 (by decide) ho hd)
    exact doesL_run ho (wanted_none hgd) (hpure 18 (by decide) L w' hW) (by rw [run_move _ _ _ hop]; exact congrArg (fun v => Result.ok (Next.value v) w') (eval_of h0))
  | 19, ho, hL, _ =>
    obtain ⟨hop, hdst, hgd⟩ := tab_at htab ho (show rlcT[19]? = _ from rfl)
    simp only at hop hgd
    have hg := frm_at hdis ha 18 282 (hds 18 282 rfl) (by omega) (depl_of hdep 19 18 (by decide) ho hd)
    have h0 := frm_old ha 28 _ (hold 28 rfl) o28
    exact doesL_run ho (wanted_at (b := false) hgd (hds 18 282 rfl) hg) (hpure 19 (by decide) L w' hW) (by rw [run_move _ _ _ hop]; exact congrArg (fun v => Result.ok (Next.value v) w') (eval_of h0))
  | 20, ho, hL, _ =>
    obtain ⟨hop, hdst, hgd⟩ := tab_at htab ho (show rlcT[20]? = _ from rfl)
    simp only at hop hgd
    have hg := frm_at hdis ha 18 282 (hds 18 282 rfl) (by omega) (depl_of hdep 20 18 (by decide) ho hd)
    have h0 := frm_old ha 29 _ (hold 29 rfl) o29
    exact doesL_run ho (wanted_at (b := false) hgd (hds 18 282 rfl) hg) (hpure 20 (by decide) L w' hW) (by rw [run_move _ _ _ hop]; exact congrArg (fun v => Result.ok (Next.value v) w') (eval_of h0))
  | 21, ho, hL, _ =>
    obtain ⟨hop, hdst, hgd⟩ := tab_at htab ho (show rlcT[21]? = _ from rfl)
    simp only at hop hgd
    have hg := frm_at hdis ha 18 282 (hds 18 282 rfl) (by omega) (depl_of hdep 21 18 (by decide) ho hd)
    have h0 := frm_at hdis ha 19 283 (hds 19 283 rfl) (by omega) (depl_of hdep 21 19 (by decide) ho hd)
    have h1 := frm_at hdis ha 20 284 (hds 20 284 rfl) (by omega) (depl_of hdep 21 20 (by decide) ho hd)
    exact doesL_run ho (wanted_at (b := false) hgd (hds 18 282 rfl) hg) (hpure 21 (by decide) L w' hW) (run_ia28 _ _ _ _ hop _ _ _ _ _ i21 (eval_of h0) (eval_of h1) _)
  | 22, ho, hL, _ =>
    obtain ⟨hop, hdst, hgd⟩ := tab_at htab ho (show rlcT[22]? = _ from rfl)
    simp only at hop hgd
    have hg := frm_at hdis ha 18 282 (hds 18 282 rfl) (by omega) (depl_of hdep 22 18 (by decide) ho hd)
    have h0 := frm_at hdis ha 21 285 (hds 21 285 rfl) (by omega) (depl_of hdep 22 21 (by decide) ho hd)
    exact doesL_run ho (wanted_at (b := false) hgd (hds 18 282 rfl) hg) (hpure 22 (by decide) L w' hW) (run_ld _ _ _ hop _ _ (eval_of h0) _ (l22 L w' hW))
  | 23, ho, hL, _ =>
    obtain ⟨hop, hdst, hgd⟩ := tab_at htab ho (show rlcT[23]? = _ from rfl)
    simp only at hop hgd
    have hg := frm_at hdis ha 18 282 (hds 18 282 rfl) (by omega) (depl_of hdep 23 18 (by decide) ho hd)
    have h0 := frm_old ha 29 _ (hold 29 rfl) o29
    exact doesL_run ho (wanted_at (b := false) hgd (hds 18 282 rfl) hg) (hpure 23 (by decide) L w' hW) (by rw [run_move _ _ _ hop]; exact congrArg (fun v => Result.ok (Next.value v) w') (eval_of h0))
  | 24, ho, hL, _ =>
    obtain ⟨hop, hdst, hgd⟩ := tab_at htab ho (show rlcT[24]? = _ from rfl)
    simp only at hop hgd
    have hg := frm_at hdis ha 18 282 (hds 18 282 rfl) (by omega) (depl_of hdep 24 18 (by decide) ho hd)
    have h0 := frm_old ha 22 _ (hold 22 rfl) o22
    have h1 := frm_at hdis ha 23 287 (hds 23 287 rfl) (by omega) (depl_of hdep 24 23 (by decide) ho hd)
    exact doesL_run ho (wanted_at (b := false) hgd (hds 18 282 rfl) hg) (hpure 24 (by decide) L w' hW) (run_ia62 _ _ _ _ hop _ _ _ i24 (eval_of h0) (eval_of h1) _)
  | 25, ho, hL, _ =>
    obtain ⟨hop, hdst, hgd⟩ := tab_at htab ho (show rlcT[25]? = _ from rfl)
    simp only at hop hgd
    have hg := frm_at hdis ha 18 282 (hds 18 282 rfl) (by omega) (depl_of hdep 25 18 (by decide) ho hd)
    have h0 := frm_at hdis ha 24 288 (hds 24 288 rfl) (by omega) (depl_of hdep 25 24 (by decide) ho hd)
    exact doesL_run ho (wanted_at (b := false) hgd (hds 18 282 rfl) hg) (hpure 25 (by decide) L w' hW) (run_ld _ _ _ hop _ _ (eval_of h0) _ (l25 L w' hW))
  | 26, ho, hL, _ =>
    obtain ⟨hop, hdst, hgd⟩ := tab_at htab ho (show rlcT[26]? = _ from rfl)
    simp only at hop hgd
    have hg := frm_at hdis ha 18 282 (hds 18 282 rfl) (by omega) (depl_of hdep 26 18 (by decide) ho hd)
    have h0 := frm_at hdis ha 22 286 (hds 22 286 rfl) (by omega) (depl_of hdep 26 22 (by decide) ho hd)
    have h1 := frm_at hdis ha 25 289 (hds 25 289 rfl) (by omega) (depl_of hdep 26 25 (by decide) ho hd)
    exact doesL_run ho (wanted_at (b := false) hgd (hds 18 282 rfl) hg) (hpure 26 (by decide) L w' hW) (run_neqS _ _ _ _ _ _ hop _ (eval_of h0) (eval_of h1) _)
  | 27, ho, hL, _ =>
    obtain ⟨hop, hdst, hgd⟩ := tab_at htab ho (show rlcT[27]? = _ from rfl)
    simp only at hop hgd
    have h0 := frm_at hdis ha 18 282 (hds 18 282 rfl) (by omega) (depl_of hdep 27 18 (by decide) ho hd)
    have h2 := frm_at hdis ha 26 290 (hds 26 290 rfl) (by omega) (depl_of hdep 27 26 (by decide) ho hd)
    exact doesL_run ho (wanted_none hgd) (hpure 27 (by decide) L w' hW) (by rw [run_pick _ _ _ _ _ hop false (eval_of h0)]; exact congrArg (fun v => Result.ok (Next.value v) w') (eval_of h2))
  | 28, ho, hL, _ =>
    obtain ⟨hop, hdst, hgd⟩ := tab_at htab ho (show rlcT[28]? = _ from rfl)
    simp only at hop hgd
    have h0 := frm_at hdis ha 27 291 (hds 27 291 rfl) (by omega) (depl_of hdep 28 27 (by decide) ho hd)
    exact doesL_run ho (wanted_none hgd) (hpure 28 (by decide) L w' hW) (by rw [run_move _ _ _ hop]; exact congrArg (fun v => Result.ok (Next.value v) w') (eval_of h0))
  | 29, ho, hL, _ =>
    obtain ⟨hop, hdst, hgd⟩ := tab_at htab ho (show rlcT[29]? = _ from rfl)
    simp only at hop hgd
    have hg := frm_at hdis ha 28 292 (hds 28 292 rfl) (by omega) (depl_of hdep 29 28 (by decide) ho hd)
    have h0 := frm_old ha 32 _ (hold 32 rfl) o32
    exact doesL_run ho (wanted_at (b := false) hgd (hds 28 292 rfl) hg) (hpure 29 (by decide) L w' hW) (by rw [run_move _ _ _ hop]; exact congrArg (fun v => Result.ok (Next.value v) w') (eval_of h0))
  | 30, ho, hL, _ =>
    obtain ⟨hop, hdst, hgd⟩ := tab_at htab ho (show rlcT[30]? = _ from rfl)
    simp only at hop hgd
    have hg := frm_at hdis ha 28 292 (hds 28 292 rfl) (by omega) (depl_of hdep 30 28 (by decide) ho hd)
    have h0 := frm_old ha 29 _ (hold 29 rfl) o29
    exact doesL_run ho (wanted_at (b := false) hgd (hds 28 292 rfl) hg) (hpure 30 (by decide) L w' hW) (by rw [run_move _ _ _ hop]; exact congrArg (fun v => Result.ok (Next.value v) w') (eval_of h0))
  | 31, ho, hL, _ =>
    obtain ⟨hop, hdst, hgd⟩ := tab_at htab ho (show rlcT[31]? = _ from rfl)
    simp only at hop hgd
    have hg := frm_at hdis ha 28 292 (hds 28 292 rfl) (by omega) (depl_of hdep 31 28 (by decide) ho hd)
    have h0 := frm_old ha 11 _ (hold 11 rfl) o11
    have h1 := frm_at hdis ha 30 294 (hds 30 294 rfl) (by omega) (depl_of hdep 31 30 (by decide) ho hd)
    exact doesL_run ho (wanted_at (b := false) hgd (hds 28 292 rfl) hg) (hpure 31 (by decide) L w' hW) (run_ia62 _ _ _ _ hop _ _ _ i31 (eval_of h0) (eval_of h1) _)
  | 32, ho, hL, _ =>
    obtain ⟨hop, hdst, hgd⟩ := tab_at htab ho (show rlcT[32]? = _ from rfl)
    simp only at hop hgd
    have hg := frm_at hdis ha 28 292 (hds 28 292 rfl) (by omega) (depl_of hdep 32 28 (by decide) ho hd)
    have h0 := frm_at hdis ha 31 295 (hds 31 295 rfl) (by omega) (depl_of hdep 32 31 (by decide) ho hd)
    exact doesL_run ho (wanted_at (b := false) hgd (hds 28 292 rfl) hg) (hpure 32 (by decide) L w' hW) (run_ld _ _ _ hop _ _ (eval_of h0) _ (l32 L w' hW))
  | 33, ho, hL, _ =>
    obtain ⟨hop, hdst, hgd⟩ := tab_at htab ho (show rlcT[33]? = _ from rfl)
    simp only at hop hgd
    have hg := frm_at hdis ha 28 292 (hds 28 292 rfl) (by omega) (depl_of hdep 33 28 (by decide) ho hd)
    have h0 := frm_at hdis ha 29 293 (hds 29 293 rfl) (by omega) (depl_of hdep 33 29 (by decide) ho hd)
    have h1 := frm_at hdis ha 32 296 (hds 32 296 rfl) (by omega) (depl_of hdep 33 32 (by decide) ho hd)
    exact doesL_run ho (wanted_at (b := false) hgd (hds 28 292 rfl) hg) (hpure 33 (by decide) L w' hW) (run_neqS _ _ _ _ _ _ hop _ (eval_of h0) (eval_of h1) _)
  | 34, ho, hL, _ =>
    obtain ⟨hop, hdst, hgd⟩ := tab_at htab ho (show rlcT[34]? = _ from rfl)
    simp only at hop hgd
    have h0 := frm_at hdis ha 28 292 (hds 28 292 rfl) (by omega) (depl_of hdep 34 28 (by decide) ho hd)
    have h2 := frm_at hdis ha 33 297 (hds 33 297 rfl) (by omega) (depl_of hdep 34 33 (by decide) ho hd)
    exact doesL_run ho (wanted_none hgd) (hpure 34 (by decide) L w' hW) (by rw [run_pick _ _ _ _ _ hop false (eval_of h0)]; exact congrArg (fun v => Result.ok (Next.value v) w') (eval_of h2))
  | (i + 35), ho, hL, hi => exact absurd hi (by omega)
end Go.Proofs.Ytpelmacblglhoaa
