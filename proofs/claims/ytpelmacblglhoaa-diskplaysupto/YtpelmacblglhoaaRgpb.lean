import Derived.Test.YtpelmacblglhoaaZzas
import Derived.Test.YtpelmacblglhoaaRgpl
namespace Go.Proofs.Ytpelmacblglhoaa
open Go.RowKit
theorem run_f40_0 (ρ : Operand → Value) (o : Oper) (x : Operand) (ho : o.op = .fieldAddr 40 x 0) (g q : Nat) (hx : ρ x = .pointer (some ⟨g, q, none⟩)) (w : World) : (execOp ρ o).run Try.prog w = .ok (.value (.pointer (some ⟨g, q + 0, none⟩))) w := by
  unfold execOp
  simp only [ho, hx]
  kernel_rfl
theorem run_f40_1 (ρ : Operand → Value) (o : Oper) (x : Operand) (ho : o.op = .fieldAddr 40 x 1) (g q : Nat) (hx : ρ x = .pointer (some ⟨g, q, none⟩)) (w : World) : (execOp ρ o).run Try.prog w = .ok (.value (.pointer (some ⟨g, q + 1, none⟩))) w := by
  unfold execOp
  simp only [ho, hx]
  kernel_rfl
theorem run_ld37 (ρ : Operand → Value) (o : Oper) (x : Operand) (ho : o.op = .load 37 x) (p : Addr) (v : Value) (ha : ρ x = .pointer (some p)) (w : World) (hc : w.cell? p = some v) : (execOp ρ o).run Try.prog w = .ok (.value v) w := by
  unfold execOp
  simp only [ho, ha]
  simp [Instr.loadAt, go_sem, hc, Try.isAgg37]
theorem run_ld38 (ρ : Operand → Value) (o : Oper) (x : Operand) (ho : o.op = .load 38 x) (p : Addr) (v : Value) (ha : ρ x = .pointer (some p)) (w : World) (hc : w.cell? p = some v) : (execOp ρ o).run Try.prog w = .ok (.value v) w := by
  unfold execOp
  simp only [ho, ha]
  simp [Instr.loadAt, go_sem, hc, Try.isAgg38]
/-- What comes up: two lists. -/
structure ChB where
  p1 : Option Addr
  c1 : Nat
  p2 : Option Addr
  c2 : Nat
def vpb (Z g n c9 j D X m : Nat) (c : ChB) (i : Nat) : Value := match i with
  | 0 => (.pointer (some ⟨Z, 0, none⟩))
  | 1 => (.pointer (some ⟨Z, 0, none⟩))
  | 2 => (.pointer (some ⟨Z, 0 + 0, none⟩))
  | 3 => (.slice (some ⟨g, 0, none⟩) n c9)
  | 4 => (.int .i64 (j : Int))
  | 5 => (.pointer (some ⟨g, 0 + j * 2, none⟩))
  | 6 => (.pointer (some ⟨g, 0 + j * 2 + 0, none⟩))
  | 7 => (.pointer (some ⟨D, 0, none⟩))
  | 8 => (.slice c.p1 m c.c1)
  | 9 => (.pointer (some ⟨Z, 0, none⟩))
  | 10 => (.pointer (some ⟨Z, 0, none⟩))
  | 11 => (.pointer (some ⟨Z, 0 + 0, none⟩))
  | 12 => (.slice (some ⟨g, 0, none⟩) n c9)
  | 13 => (.int .i64 (j : Int))
  | 14 => (.pointer (some ⟨g, 0 + j * 2, none⟩))
  | 15 => (.pointer (some ⟨g, 0 + j * 2 + 1, none⟩))
  | 16 => (.pointer (some ⟨X, 0, none⟩))
  | 17 => (.slice c.p2 m c.c2)
  | 18 => (.bool true)
  | 19 => (.bool true)
  | _ => undef
def rpbT : List (Op × Option Tmp × Option (Nat × Bool)) := [
  (.move (.tmp 6), some 59, none),
  (.nilCheck (.tmp 59), some 60, none),
  (.fieldAddr 30 (.tmp 60) 0, some 61, none),
  (.load 25 (.tmp 61), some 62, none),
  (.move (.tmp 11), some 63, none),
  (.indexAddr 25 (.tmp 62) (.tmp 63), some 64, none),
  (.fieldAddr 40 (.tmp 64) 0, some 65, none),
  (.load 37 (.tmp 65), some 66, none),
  (.call { callee := .value (.func 11), args := #[(.tmp 66)], argTypes := #[37] }, some 67, none),
  (.move (.tmp 6), some 68, none),
  (.nilCheck (.tmp 68), some 69, none),
  (.fieldAddr 30 (.tmp 69) 0, some 70, none),
  (.load 25 (.tmp 70), some 71, none),
  (.move (.tmp 11), some 72, none),
  (.indexAddr 25 (.tmp 71) (.tmp 72), some 73, none),
  (.fieldAddr 40 (.tmp 73) 1, some 74, none),
  (.load 38 (.tmp 74), some 75, none),
  (.call { callee := .value (.func 12), args := #[(.tmp 75)], argTypes := #[38] }, some 76, none),
  (.call { callee := .value (.func 10), args := #[(.tmp 67), (.tmp 76)], argTypes := #[28, 28] }, some 77, none),
  (.assign (.tmp 77), some 12, none)]
def rpbD : List (Nat × Nat) := [(1, 0), (2, 1), (3, 2), (5, 3), (5, 4), (6, 5), (7, 6), (8, 7), (10, 9), (11, 10), (12, 11), (14, 12), (14, 13), (15, 14), (16, 15), (17, 16), (18, 8), (18, 17), (19, 18)]
set_option maxHeartbeats 2000000 in
theorem rpb {ops : Array Oper} {id : Nat} {Q : Exit → Act → World → Prop} (Z g n c9 j D X m : Nat) (htab : ops.toList.map (fun o => (o.op, o.dst, o.guard)) = rpbT) (hdep : deplB rpbD ops = true) (hac : acB ops = true)
    (a0 : Act) (w : World) (hsz : 78 ≤ a0.tmps.size) (o6 : a0.tmps[6]? = some (.pointer (some ⟨Z, 0, none⟩))) (o11 : a0.tmps[11]? = some (.int .i64 (j : Int)))
    (Wd : ChB → (Nat → Bool) → World → Prop) (h0 : ∃ c, Wd c (fun _ => false) w.drew) (hpure : ∀ i, i ∉ ([8, 17, 18] : List Nat) → ∀ c L W, Wd c L W → Wd c (upd L i) W)
    (i5 : j < n) (i14 : j < n) (l3 : ∀ c L W, Wd c L W → W.cell? ⟨Z, 0 + 0, none⟩ = some (.slice (some ⟨g, 0, none⟩) n c9)) (l7 : ∀ c L W, Wd c L W → W.cell? ⟨g, 0 + j * 2 + 0, none⟩ = some (.pointer (some ⟨D, 0, none⟩))) (l12 : ∀ c L W, Wd c L W → W.cell? ⟨Z, 0 + 0, none⟩ = some (.slice (some ⟨g, 0, none⟩) n c9)) (l16 : ∀ c L W, Wd c L W → W.cell? ⟨g, 0 + j * 2 + 1, none⟩ = some (.pointer (some ⟨X, 0, none⟩)))
    (c8 : ∀ c L W, Wd c L W → L 8 = false → Calls Try.prog 11 #[.pointer (some ⟨D, 0, none⟩)] W fun e w' => ∃ c' : ChB, (∀ i, L i = true → vpb Z g n c9 j D X m c' i = vpb Z g n c9 j D X m c i) ∧ e = .returned (.slice c'.p1 m c'.c1) ∧ Wd c' (upd L 8) w')
    (c17 : ∀ c L W, Wd c L W → L 17 = false → Calls Try.prog 12 #[.pointer (some ⟨X, 0, none⟩)] W fun e w' => ∃ c' : ChB, (∀ i, L i = true → vpb Z g n c9 j D X m c' i = vpb Z g n c9 j D X m c i) ∧ e = .returned (.slice c'.p2 m c'.c2) ∧ Wd c' (upd L 17) w')
    (c18 : ∀ c L W, Wd c L W → L 18 = false → L 8 = true → L 17 = true → Calls Try.prog 10 #[.slice c.p1 m c.c1, .slice c.p2 m c.c2] W fun e w' => e = .returned (.bool true) ∧ Wd c (upd L 18) w')
    (hend : ∀ c L W, (∀ i, i < 20 → L i = true) → Wd c L W → Q .normal ((((((((((((((((((((a0.put (some 59) (.pointer (some ⟨Z, 0, none⟩))).put (some 60) (.pointer (some ⟨Z, 0, none⟩))).put (some 61) (.pointer (some ⟨Z, 0 + 0, none⟩))).put (some 62) (.slice (some ⟨g, 0, none⟩) n c9)).put (some 63) (.int .i64 (j : Int))).put (some 64) (.pointer (some ⟨g, 0 + j * 2, none⟩))).put (some 65) (.pointer (some ⟨g, 0 + j * 2 + 0, none⟩))).put (some 66) (.pointer (some ⟨D, 0, none⟩))).put (some 67) (.slice c.p1 m c.c1)).put (some 68) (.pointer (some ⟨Z, 0, none⟩))).put (some 69) (.pointer (some ⟨Z, 0, none⟩))).put (some 70) (.pointer (some ⟨Z, 0 + 0, none⟩))).put (some 71) (.slice (some ⟨g, 0, none⟩) n c9)).put (some 72) (.int .i64 (j : Int))).put (some 73) (.pointer (some ⟨g, 0 + j * 2, none⟩))).put (some 74) (.pointer (some ⟨g, 0 + j * 2 + 1, none⟩))).put (some 75) (.pointer (some ⟨X, 0, none⟩))).put (some 76) (.slice c.p2 m c.c2)).put (some 77) (.bool true)).put (some 12) (.bool true)) W) : (Code.region id ops true).wp Try.prog Q a0 w := by
  let val : ChB → Nat → Value := vpb Z g n c9 j D X m
  have hosz : ops.size = 20 := by
    have := congrArg List.length htab
    simpa [rpbT] using this
  have hds : ∀ i s, (rpbT[i]?).bind (·.2.1) = some s → dstOf ops i = some s := fun i s hi => by rw [tab_dst htab, hi]
  have hdisB : disL rpbT = true := by rfl
  have hdis := disL_of htab hdisB
  have hold : ∀ s, rpbT.all (fun x => !(x.2.1 == some s)) = true → (List.range ops.size).all (fun j => !(dstOf ops j == some s)) = true := fun s h => holdL htab s h
  refine region_detX val Wd (hac_of hac) hdis h0 ?_ ?_
  rotate_left
  · intro c L W hall hW
    have := hend c L W (by rw [← hosz]; exact hall) hW
    have e : frm ops a0 (val c) (fun _ => true) ops.size = ((((((((((((((((((((a0.put (some 59) (.pointer (some ⟨Z, 0, none⟩))).put (some 60) (.pointer (some ⟨Z, 0, none⟩))).put (some 61) (.pointer (some ⟨Z, 0 + 0, none⟩))).put (some 62) (.slice (some ⟨g, 0, none⟩) n c9)).put (some 63) (.int .i64 (j : Int))).put (some 64) (.pointer (some ⟨g, 0 + j * 2, none⟩))).put (some 65) (.pointer (some ⟨g, 0 + j * 2 + 0, none⟩))).put (some 66) (.pointer (some ⟨D, 0, none⟩))).put (some 67) (.slice c.p1 m c.c1)).put (some 68) (.pointer (some ⟨Z, 0, none⟩))).put (some 69) (.pointer (some ⟨Z, 0, none⟩))).put (some 70) (.pointer (some ⟨Z, 0 + 0, none⟩))).put (some 71) (.slice (some ⟨g, 0, none⟩) n c9)).put (some 72) (.int .i64 (j : Int))).put (some 73) (.pointer (some ⟨g, 0 + j * 2, none⟩))).put (some 74) (.pointer (some ⟨g, 0 + j * 2 + 1, none⟩))).put (some 75) (.pointer (some ⟨X, 0, none⟩))).put (some 76) (.slice c.p2 m c.c2)).put (some 77) (.bool true)).put (some 12) (.bool true)) := by
      rw [hosz]
      simp only [frm, if_true]
      rw [tab_dst htab 0, tab_dst htab 1, tab_dst htab 2, tab_dst htab 3, tab_dst htab 4, tab_dst htab 5, tab_dst htab 6, tab_dst htab 7, tab_dst htab 8, tab_dst htab 9, tab_dst htab 10, tab_dst htab 11, tab_dst htab 12, tab_dst htab 13, tab_dst htab 14, tab_dst htab 15, tab_dst htab 16, tab_dst htab 17, tab_dst htab 18, tab_dst htab 19]
      rfl
    rw [e]
    exact this
  intro i o ho c L a w' hL hd ha hW
  have hi : i < 20 := by rw [← hosz]; exact (Array.getElem?_eq_some_iff.1 ho).1
  match i, ho, hL, hi with
  | 0, ho, hL, _ =>
    obtain ⟨hop, hdst, hgd⟩ := tab_at htab ho (show rpbT[0]? = _ from rfl)
    simp only at hop hgd
    have h0 := frm_old (val := val c) ha 6 _ (hold 6 rfl) o6
    exact doesX_of (doesL_run ho (wanted_none hgd) (hpure 0 (by decide) c L w' hW) (by rw [run_move _ _ _ hop]; exact congrArg (fun v => Result.ok (Next.value v) w') (eval_of h0)))
  | 1, ho, hL, _ =>
    obtain ⟨hop, hdst, hgd⟩ := tab_at htab ho (show rpbT[1]? = _ from rfl)
    simp only at hop hgd
    have h0 := frm_at (val := val c) hdis ha 0 59 (hds 0 59 rfl) (by omega) (depl_of hdep 1 0 (by decide) ho hd)
    exact doesX_of (doesL_run ho (wanted_none hgd) (hpure 1 (by decide) c L w' hW) (run_nil _ _ _ hop _ (eval_of h0) _))
  | 2, ho, hL, _ =>
    obtain ⟨hop, hdst, hgd⟩ := tab_at htab ho (show rpbT[2]? = _ from rfl)
    simp only at hop hgd
    have h0 := frm_at (val := val c) hdis ha 1 60 (hds 1 60 rfl) (by omega) (depl_of hdep 2 1 (by decide) ho hd)
    exact doesX_of (doesL_run ho (wanted_none hgd) (hpure 2 (by decide) c L w' hW) (run_f30_0 _ _ _ hop _ _ (eval_of h0) _))
  | 3, ho, hL, _ =>
    obtain ⟨hop, hdst, hgd⟩ := tab_at htab ho (show rpbT[3]? = _ from rfl)
    simp only at hop hgd
    have h0 := frm_at (val := val c) hdis ha 2 61 (hds 2 61 rfl) (by omega) (depl_of hdep 3 2 (by decide) ho hd)
    exact doesX_of (doesL_run ho (wanted_none hgd) (hpure 3 (by decide) c L w' hW) (run_ld25 _ _ _ hop _ _ (eval_of h0) _ (l3 c L w' hW)))
  | 4, ho, hL, _ =>
    obtain ⟨hop, hdst, hgd⟩ := tab_at htab ho (show rpbT[4]? = _ from rfl)
    simp only at hop hgd
    have h0 := frm_old (val := val c) ha 11 _ (hold 11 rfl) o11
    exact doesX_of (doesL_run ho (wanted_none hgd) (hpure 4 (by decide) c L w' hW) (by rw [run_move _ _ _ hop]; exact congrArg (fun v => Result.ok (Next.value v) w') (eval_of h0)))
  | 5, ho, hL, _ =>
    obtain ⟨hop, hdst, hgd⟩ := tab_at htab ho (show rpbT[5]? = _ from rfl)
    simp only at hop hgd
    have h0 := frm_at (val := val c) hdis ha 3 62 (hds 3 62 rfl) (by omega) (depl_of hdep 5 3 (by decide) ho hd)
    have h1 := frm_at (val := val c) hdis ha 4 63 (hds 4 63 rfl) (by omega) (depl_of hdep 5 4 (by decide) ho hd)
    exact doesX_of (doesL_run ho (wanted_none hgd) (hpure 5 (by decide) c L w' hW) (run_ia25 _ _ _ _ hop _ _ _ _ _ i5 (eval_of h0) (eval_of h1) _))
  | 6, ho, hL, _ =>
    obtain ⟨hop, hdst, hgd⟩ := tab_at htab ho (show rpbT[6]? = _ from rfl)
    simp only at hop hgd
    have h0 := frm_at (val := val c) hdis ha 5 64 (hds 5 64 rfl) (by omega) (depl_of hdep 6 5 (by decide) ho hd)
    exact doesX_of (doesL_run ho (wanted_none hgd) (hpure 6 (by decide) c L w' hW) (run_f40_0 _ _ _ hop _ _ (eval_of h0) _))
  | 7, ho, hL, _ =>
    obtain ⟨hop, hdst, hgd⟩ := tab_at htab ho (show rpbT[7]? = _ from rfl)
    simp only at hop hgd
    have h0 := frm_at (val := val c) hdis ha 6 65 (hds 6 65 rfl) (by omega) (depl_of hdep 7 6 (by decide) ho hd)
    exact doesX_of (doesL_run ho (wanted_none hgd) (hpure 7 (by decide) c L w' hW) (run_ld37 _ _ _ hop _ _ (eval_of h0) _ (l7 c L w' hW)))
  | 8, ho, hL, _ =>
    obtain ⟨hop, hdst, hgd⟩ := tab_at htab ho (show rpbT[8]? = _ from rfl)
    simp only at hop hgd
    have h0 := frm_at (val := val c) hdis ha 7 66 (hds 7 66 rfl) (by omega) (depl_of hdep 8 7 (by decide) ho hd)
    refine doesX_call ho (wanted_none hgd) 11 #[.pointer (some ⟨D, 0, none⟩)] ?_ (c8 c L w' hW hL)
    rw [run_calls Try.func11 (by kernel_rfl) rfl _ _ _ _ hop rfl]
    simp only [List.map_toArray, List.map_cons, List.map_nil, eval_of h0]
    all_goals rfl
  | 9, ho, hL, _ =>
    obtain ⟨hop, hdst, hgd⟩ := tab_at htab ho (show rpbT[9]? = _ from rfl)
    simp only at hop hgd
    have h0 := frm_old (val := val c) ha 6 _ (hold 6 rfl) o6
    exact doesX_of (doesL_run ho (wanted_none hgd) (hpure 9 (by decide) c L w' hW) (by rw [run_move _ _ _ hop]; exact congrArg (fun v => Result.ok (Next.value v) w') (eval_of h0)))
  | 10, ho, hL, _ =>
    obtain ⟨hop, hdst, hgd⟩ := tab_at htab ho (show rpbT[10]? = _ from rfl)
    simp only at hop hgd
    have h0 := frm_at (val := val c) hdis ha 9 68 (hds 9 68 rfl) (by omega) (depl_of hdep 10 9 (by decide) ho hd)
    exact doesX_of (doesL_run ho (wanted_none hgd) (hpure 10 (by decide) c L w' hW) (run_nil _ _ _ hop _ (eval_of h0) _))
  | 11, ho, hL, _ =>
    obtain ⟨hop, hdst, hgd⟩ := tab_at htab ho (show rpbT[11]? = _ from rfl)
    simp only at hop hgd
    have h0 := frm_at (val := val c) hdis ha 10 69 (hds 10 69 rfl) (by omega) (depl_of hdep 11 10 (by decide) ho hd)
    exact doesX_of (doesL_run ho (wanted_none hgd) (hpure 11 (by decide) c L w' hW) (run_f30_0 _ _ _ hop _ _ (eval_of h0) _))
  | 12, ho, hL, _ =>
    obtain ⟨hop, hdst, hgd⟩ := tab_at htab ho (show rpbT[12]? = _ from rfl)
    simp only at hop hgd
    have h0 := frm_at (val := val c) hdis ha 11 70 (hds 11 70 rfl) (by omega) (depl_of hdep 12 11 (by decide) ho hd)
    exact doesX_of (doesL_run ho (wanted_none hgd) (hpure 12 (by decide) c L w' hW) (run_ld25 _ _ _ hop _ _ (eval_of h0) _ (l12 c L w' hW)))
  | 13, ho, hL, _ =>
    obtain ⟨hop, hdst, hgd⟩ := tab_at htab ho (show rpbT[13]? = _ from rfl)
    simp only at hop hgd
    have h0 := frm_old (val := val c) ha 11 _ (hold 11 rfl) o11
    exact doesX_of (doesL_run ho (wanted_none hgd) (hpure 13 (by decide) c L w' hW) (by rw [run_move _ _ _ hop]; exact congrArg (fun v => Result.ok (Next.value v) w') (eval_of h0)))
  | 14, ho, hL, _ =>
    obtain ⟨hop, hdst, hgd⟩ := tab_at htab ho (show rpbT[14]? = _ from rfl)
    simp only at hop hgd
    have h0 := frm_at (val := val c) hdis ha 12 71 (hds 12 71 rfl) (by omega) (depl_of hdep 14 12 (by decide) ho hd)
    have h1 := frm_at (val := val c) hdis ha 13 72 (hds 13 72 rfl) (by omega) (depl_of hdep 14 13 (by decide) ho hd)
    exact doesX_of (doesL_run ho (wanted_none hgd) (hpure 14 (by decide) c L w' hW) (run_ia25 _ _ _ _ hop _ _ _ _ _ i14 (eval_of h0) (eval_of h1) _))
  | 15, ho, hL, _ =>
    obtain ⟨hop, hdst, hgd⟩ := tab_at htab ho (show rpbT[15]? = _ from rfl)
    simp only at hop hgd
    have h0 := frm_at (val := val c) hdis ha 14 73 (hds 14 73 rfl) (by omega) (depl_of hdep 15 14 (by decide) ho hd)
    exact doesX_of (doesL_run ho (wanted_none hgd) (hpure 15 (by decide) c L w' hW) (run_f40_1 _ _ _ hop _ _ (eval_of h0) _))
  | 16, ho, hL, _ =>
    obtain ⟨hop, hdst, hgd⟩ := tab_at htab ho (show rpbT[16]? = _ from rfl)
    simp only at hop hgd
    have h0 := frm_at (val := val c) hdis ha 15 74 (hds 15 74 rfl) (by omega) (depl_of hdep 16 15 (by decide) ho hd)
    exact doesX_of (doesL_run ho (wanted_none hgd) (hpure 16 (by decide) c L w' hW) (run_ld38 _ _ _ hop _ _ (eval_of h0) _ (l16 c L w' hW)))
  | 17, ho, hL, _ =>
    obtain ⟨hop, hdst, hgd⟩ := tab_at htab ho (show rpbT[17]? = _ from rfl)
    simp only at hop hgd
    have h0 := frm_at (val := val c) hdis ha 16 75 (hds 16 75 rfl) (by omega) (depl_of hdep 17 16 (by decide) ho hd)
    refine doesX_call ho (wanted_none hgd) 12 #[.pointer (some ⟨X, 0, none⟩)] ?_ (c17 c L w' hW hL)
    rw [run_calls Try.func12 (by kernel_rfl) rfl _ _ _ _ hop rfl]
    simp only [List.map_toArray, List.map_cons, List.map_nil, eval_of h0]
    all_goals rfl
  | 18, ho, hL, _ =>
    obtain ⟨hop, hdst, hgd⟩ := tab_at htab ho (show rpbT[18]? = _ from rfl)
    simp only at hop hgd
    have h0 := frm_at (val := val c) hdis ha 8 67 (hds 8 67 rfl) (by omega) (depl_of hdep 18 8 (by decide) ho hd)
    have h1 := frm_at (val := val c) hdis ha 17 76 (hds 17 76 rfl) (by omega) (depl_of hdep 18 17 (by decide) ho hd)
    refine doesX_of (doesL_call ho (wanted_none hgd) 10 #[.slice c.p1 m c.c1, .slice c.p2 m c.c2] ?_ (c18 c L w' hW hL (depl_of hdep 18 8 (by decide) ho hd) (depl_of hdep 18 17 (by decide) ho hd)))
    rw [run_calls Try.func10 (by kernel_rfl) rfl _ _ _ _ hop rfl]
    simp only [List.map_toArray, List.map_cons, List.map_nil, eval_of h0, eval_of h1]
    all_goals rfl
  | 19, ho, hL, _ =>
    obtain ⟨hop, hdst, hgd⟩ := tab_at htab ho (show rpbT[19]? = _ from rfl)
    simp only at hop hgd
    have h0 := frm_at (val := val c) hdis ha 18 77 (hds 18 77 rfl) (by omega) (depl_of hdep 19 18 (by decide) ho hd)
    exact doesX_of (doesL_run ho (wanted_none hgd) (hpure 19 (by decide) c L w' hW) (by rw [run_assign _ _ _ hop]; exact congrArg (fun v => Result.ok (Next.value v) w') (eval_of h0)))
  | (i + 20), ho, hL, hi => exact absurd hi (by omega)
def rpwT : List (Op × Option Tmp × Option (Nat × Bool)) := [
  (.move (.tmp 6), some 78, none),
  (.nilCheck (.tmp 78), some 79, none),
  (.fieldAddr 30 (.tmp 79) 0, some 80, none),
  (.load 25 (.tmp 80), some 81, none),
  (.move (.tmp 11), some 82, none),
  (.indexAddr 25 (.tmp 81) (.tmp 82), some 83, none),
  (.fieldAddr 40 (.tmp 83) 0, some 84, none),
  (.load 37 (.tmp 84), some 85, none),
  (.call { callee := .value (.func 14), args := #[(.tmp 85)], argTypes := #[37] }, some 86, none),
  (.move (.tmp 6), some 87, none),
  (.nilCheck (.tmp 87), some 88, none),
  (.fieldAddr 30 (.tmp 88) 0, some 89, none),
  (.load 25 (.tmp 89), some 90, none),
  (.move (.tmp 11), some 91, none),
  (.indexAddr 25 (.tmp 90) (.tmp 91), some 92, none),
  (.fieldAddr 40 (.tmp 92) 1, some 93, none),
  (.load 38 (.tmp 93), some 94, none),
  (.call { callee := .value (.func 15), args := #[(.tmp 94)], argTypes := #[38] }, some 95, none),
  (.call { callee := .value (.func 13), args := #[(.tmp 86), (.tmp 95)], argTypes := #[43, 43] }, some 96, none),
  (.assign (.tmp 96), some 13, none)]
def rpwD : List (Nat × Nat) := [(1, 0), (2, 1), (3, 2), (5, 3), (5, 4), (6, 5), (7, 6), (8, 7), (10, 9), (11, 10), (12, 11), (14, 12), (14, 13), (15, 14), (16, 15), (17, 16), (18, 8), (18, 17), (19, 18)]
set_option maxHeartbeats 2000000 in
theorem rpw {ops : Array Oper} {id : Nat} {Q : Exit → Act → World → Prop} (Z g n c9 j D X m : Nat) (htab : ops.toList.map (fun o => (o.op, o.dst, o.guard)) = rpwT) (hdep : deplB rpwD ops = true) (hac : acB ops = true)
    (a0 : Act) (w : World) (hsz : 97 ≤ a0.tmps.size) (o6 : a0.tmps[6]? = some (.pointer (some ⟨Z, 0, none⟩))) (o11 : a0.tmps[11]? = some (.int .i64 (j : Int)))
    (Wd : ChB → (Nat → Bool) → World → Prop) (h0 : ∃ c, Wd c (fun _ => false) w.drew) (hpure : ∀ i, i ∉ ([8, 17, 18] : List Nat) → ∀ c L W, Wd c L W → Wd c (upd L i) W)
    (i5 : j < n) (i14 : j < n) (l3 : ∀ c L W, Wd c L W → W.cell? ⟨Z, 0 + 0, none⟩ = some (.slice (some ⟨g, 0, none⟩) n c9)) (l7 : ∀ c L W, Wd c L W → W.cell? ⟨g, 0 + j * 2 + 0, none⟩ = some (.pointer (some ⟨D, 0, none⟩))) (l12 : ∀ c L W, Wd c L W → W.cell? ⟨Z, 0 + 0, none⟩ = some (.slice (some ⟨g, 0, none⟩) n c9)) (l16 : ∀ c L W, Wd c L W → W.cell? ⟨g, 0 + j * 2 + 1, none⟩ = some (.pointer (some ⟨X, 0, none⟩)))
    (c8 : ∀ c L W, Wd c L W → L 8 = false → Calls Try.prog 14 #[.pointer (some ⟨D, 0, none⟩)] W fun e w' => ∃ c' : ChB, (∀ i, L i = true → vpb Z g n c9 j D X m c' i = vpb Z g n c9 j D X m c i) ∧ e = .returned (.slice c'.p1 m c'.c1) ∧ Wd c' (upd L 8) w')
    (c17 : ∀ c L W, Wd c L W → L 17 = false → Calls Try.prog 15 #[.pointer (some ⟨X, 0, none⟩)] W fun e w' => ∃ c' : ChB, (∀ i, L i = true → vpb Z g n c9 j D X m c' i = vpb Z g n c9 j D X m c i) ∧ e = .returned (.slice c'.p2 m c'.c2) ∧ Wd c' (upd L 17) w')
    (c18 : ∀ c L W, Wd c L W → L 18 = false → L 8 = true → L 17 = true → Calls Try.prog 13 #[.slice c.p1 m c.c1, .slice c.p2 m c.c2] W fun e w' => e = .returned (.bool true) ∧ Wd c (upd L 18) w')
    (hend : ∀ c L W, (∀ i, i < 20 → L i = true) → Wd c L W → Q .normal ((((((((((((((((((((a0.put (some 78) (.pointer (some ⟨Z, 0, none⟩))).put (some 79) (.pointer (some ⟨Z, 0, none⟩))).put (some 80) (.pointer (some ⟨Z, 0 + 0, none⟩))).put (some 81) (.slice (some ⟨g, 0, none⟩) n c9)).put (some 82) (.int .i64 (j : Int))).put (some 83) (.pointer (some ⟨g, 0 + j * 2, none⟩))).put (some 84) (.pointer (some ⟨g, 0 + j * 2 + 0, none⟩))).put (some 85) (.pointer (some ⟨D, 0, none⟩))).put (some 86) (.slice c.p1 m c.c1)).put (some 87) (.pointer (some ⟨Z, 0, none⟩))).put (some 88) (.pointer (some ⟨Z, 0, none⟩))).put (some 89) (.pointer (some ⟨Z, 0 + 0, none⟩))).put (some 90) (.slice (some ⟨g, 0, none⟩) n c9)).put (some 91) (.int .i64 (j : Int))).put (some 92) (.pointer (some ⟨g, 0 + j * 2, none⟩))).put (some 93) (.pointer (some ⟨g, 0 + j * 2 + 1, none⟩))).put (some 94) (.pointer (some ⟨X, 0, none⟩))).put (some 95) (.slice c.p2 m c.c2)).put (some 96) (.bool true)).put (some 13) (.bool true)) W) : (Code.region id ops true).wp Try.prog Q a0 w := by
  let val : ChB → Nat → Value := vpb Z g n c9 j D X m
  have hosz : ops.size = 20 := by
    have := congrArg List.length htab
    simpa [rpwT] using this
  have hds : ∀ i s, (rpwT[i]?).bind (·.2.1) = some s → dstOf ops i = some s := fun i s hi => by rw [tab_dst htab, hi]
  have hdisB : disL rpwT = true := by rfl
  have hdis := disL_of htab hdisB
  have hold : ∀ s, rpwT.all (fun x => !(x.2.1 == some s)) = true → (List.range ops.size).all (fun j => !(dstOf ops j == some s)) = true := fun s h => holdL htab s h
  refine region_detX val Wd (hac_of hac) hdis h0 ?_ ?_
  rotate_left
  · intro c L W hall hW
    have := hend c L W (by rw [← hosz]; exact hall) hW
    have e : frm ops a0 (val c) (fun _ => true) ops.size = ((((((((((((((((((((a0.put (some 78) (.pointer (some ⟨Z, 0, none⟩))).put (some 79) (.pointer (some ⟨Z, 0, none⟩))).put (some 80) (.pointer (some ⟨Z, 0 + 0, none⟩))).put (some 81) (.slice (some ⟨g, 0, none⟩) n c9)).put (some 82) (.int .i64 (j : Int))).put (some 83) (.pointer (some ⟨g, 0 + j * 2, none⟩))).put (some 84) (.pointer (some ⟨g, 0 + j * 2 + 0, none⟩))).put (some 85) (.pointer (some ⟨D, 0, none⟩))).put (some 86) (.slice c.p1 m c.c1)).put (some 87) (.pointer (some ⟨Z, 0, none⟩))).put (some 88) (.pointer (some ⟨Z, 0, none⟩))).put (some 89) (.pointer (some ⟨Z, 0 + 0, none⟩))).put (some 90) (.slice (some ⟨g, 0, none⟩) n c9)).put (some 91) (.int .i64 (j : Int))).put (some 92) (.pointer (some ⟨g, 0 + j * 2, none⟩))).put (some 93) (.pointer (some ⟨g, 0 + j * 2 + 1, none⟩))).put (some 94) (.pointer (some ⟨X, 0, none⟩))).put (some 95) (.slice c.p2 m c.c2)).put (some 96) (.bool true)).put (some 13) (.bool true)) := by
      rw [hosz]
      simp only [frm, if_true]
      rw [tab_dst htab 0, tab_dst htab 1, tab_dst htab 2, tab_dst htab 3, tab_dst htab 4, tab_dst htab 5, tab_dst htab 6, tab_dst htab 7, tab_dst htab 8, tab_dst htab 9, tab_dst htab 10, tab_dst htab 11, tab_dst htab 12, tab_dst htab 13, tab_dst htab 14, tab_dst htab 15, tab_dst htab 16, tab_dst htab 17, tab_dst htab 18, tab_dst htab 19]
      rfl
    rw [e]
    exact this
  intro i o ho c L a w' hL hd ha hW
  have hi : i < 20 := by rw [← hosz]; exact (Array.getElem?_eq_some_iff.1 ho).1
  match i, ho, hL, hi with
  | 0, ho, hL, _ =>
    obtain ⟨hop, hdst, hgd⟩ := tab_at htab ho (show rpwT[0]? = _ from rfl)
    simp only at hop hgd
    have h0 := frm_old (val := val c) ha 6 _ (hold 6 rfl) o6
    exact doesX_of (doesL_run ho (wanted_none hgd) (hpure 0 (by decide) c L w' hW) (by rw [run_move _ _ _ hop]; exact congrArg (fun v => Result.ok (Next.value v) w') (eval_of h0)))
  | 1, ho, hL, _ =>
    obtain ⟨hop, hdst, hgd⟩ := tab_at htab ho (show rpwT[1]? = _ from rfl)
    simp only at hop hgd
    have h0 := frm_at (val := val c) hdis ha 0 78 (hds 0 78 rfl) (by omega) (depl_of hdep 1 0 (by decide) ho hd)
    exact doesX_of (doesL_run ho (wanted_none hgd) (hpure 1 (by decide) c L w' hW) (run_nil _ _ _ hop _ (eval_of h0) _))
  | 2, ho, hL, _ =>
    obtain ⟨hop, hdst, hgd⟩ := tab_at htab ho (show rpwT[2]? = _ from rfl)
    simp only at hop hgd
    have h0 := frm_at (val := val c) hdis ha 1 79 (hds 1 79 rfl) (by omega) (depl_of hdep 2 1 (by decide) ho hd)
    exact doesX_of (doesL_run ho (wanted_none hgd) (hpure 2 (by decide) c L w' hW) (run_f30_0 _ _ _ hop _ _ (eval_of h0) _))
  | 3, ho, hL, _ =>
    obtain ⟨hop, hdst, hgd⟩ := tab_at htab ho (show rpwT[3]? = _ from rfl)
    simp only at hop hgd
    have h0 := frm_at (val := val c) hdis ha 2 80 (hds 2 80 rfl) (by omega) (depl_of hdep 3 2 (by decide) ho hd)
    exact doesX_of (doesL_run ho (wanted_none hgd) (hpure 3 (by decide) c L w' hW) (run_ld25 _ _ _ hop _ _ (eval_of h0) _ (l3 c L w' hW)))
  | 4, ho, hL, _ =>
    obtain ⟨hop, hdst, hgd⟩ := tab_at htab ho (show rpwT[4]? = _ from rfl)
    simp only at hop hgd
    have h0 := frm_old (val := val c) ha 11 _ (hold 11 rfl) o11
    exact doesX_of (doesL_run ho (wanted_none hgd) (hpure 4 (by decide) c L w' hW) (by rw [run_move _ _ _ hop]; exact congrArg (fun v => Result.ok (Next.value v) w') (eval_of h0)))
  | 5, ho, hL, _ =>
    obtain ⟨hop, hdst, hgd⟩ := tab_at htab ho (show rpwT[5]? = _ from rfl)
    simp only at hop hgd
    have h0 := frm_at (val := val c) hdis ha 3 81 (hds 3 81 rfl) (by omega) (depl_of hdep 5 3 (by decide) ho hd)
    have h1 := frm_at (val := val c) hdis ha 4 82 (hds 4 82 rfl) (by omega) (depl_of hdep 5 4 (by decide) ho hd)
    exact doesX_of (doesL_run ho (wanted_none hgd) (hpure 5 (by decide) c L w' hW) (run_ia25 _ _ _ _ hop _ _ _ _ _ i5 (eval_of h0) (eval_of h1) _))
  | 6, ho, hL, _ =>
    obtain ⟨hop, hdst, hgd⟩ := tab_at htab ho (show rpwT[6]? = _ from rfl)
    simp only at hop hgd
    have h0 := frm_at (val := val c) hdis ha 5 83 (hds 5 83 rfl) (by omega) (depl_of hdep 6 5 (by decide) ho hd)
    exact doesX_of (doesL_run ho (wanted_none hgd) (hpure 6 (by decide) c L w' hW) (run_f40_0 _ _ _ hop _ _ (eval_of h0) _))
  | 7, ho, hL, _ =>
    obtain ⟨hop, hdst, hgd⟩ := tab_at htab ho (show rpwT[7]? = _ from rfl)
    simp only at hop hgd
    have h0 := frm_at (val := val c) hdis ha 6 84 (hds 6 84 rfl) (by omega) (depl_of hdep 7 6 (by decide) ho hd)
    exact doesX_of (doesL_run ho (wanted_none hgd) (hpure 7 (by decide) c L w' hW) (run_ld37 _ _ _ hop _ _ (eval_of h0) _ (l7 c L w' hW)))
  | 8, ho, hL, _ =>
    obtain ⟨hop, hdst, hgd⟩ := tab_at htab ho (show rpwT[8]? = _ from rfl)
    simp only at hop hgd
    have h0 := frm_at (val := val c) hdis ha 7 85 (hds 7 85 rfl) (by omega) (depl_of hdep 8 7 (by decide) ho hd)
    refine doesX_call ho (wanted_none hgd) 14 #[.pointer (some ⟨D, 0, none⟩)] ?_ (c8 c L w' hW hL)
    rw [run_calls Try.func14 (by kernel_rfl) rfl _ _ _ _ hop rfl]
    simp only [List.map_toArray, List.map_cons, List.map_nil, eval_of h0]
    all_goals rfl
  | 9, ho, hL, _ =>
    obtain ⟨hop, hdst, hgd⟩ := tab_at htab ho (show rpwT[9]? = _ from rfl)
    simp only at hop hgd
    have h0 := frm_old (val := val c) ha 6 _ (hold 6 rfl) o6
    exact doesX_of (doesL_run ho (wanted_none hgd) (hpure 9 (by decide) c L w' hW) (by rw [run_move _ _ _ hop]; exact congrArg (fun v => Result.ok (Next.value v) w') (eval_of h0)))
  | 10, ho, hL, _ =>
    obtain ⟨hop, hdst, hgd⟩ := tab_at htab ho (show rpwT[10]? = _ from rfl)
    simp only at hop hgd
    have h0 := frm_at (val := val c) hdis ha 9 87 (hds 9 87 rfl) (by omega) (depl_of hdep 10 9 (by decide) ho hd)
    exact doesX_of (doesL_run ho (wanted_none hgd) (hpure 10 (by decide) c L w' hW) (run_nil _ _ _ hop _ (eval_of h0) _))
  | 11, ho, hL, _ =>
    obtain ⟨hop, hdst, hgd⟩ := tab_at htab ho (show rpwT[11]? = _ from rfl)
    simp only at hop hgd
    have h0 := frm_at (val := val c) hdis ha 10 88 (hds 10 88 rfl) (by omega) (depl_of hdep 11 10 (by decide) ho hd)
    exact doesX_of (doesL_run ho (wanted_none hgd) (hpure 11 (by decide) c L w' hW) (run_f30_0 _ _ _ hop _ _ (eval_of h0) _))
  | 12, ho, hL, _ =>
    obtain ⟨hop, hdst, hgd⟩ := tab_at htab ho (show rpwT[12]? = _ from rfl)
    simp only at hop hgd
    have h0 := frm_at (val := val c) hdis ha 11 89 (hds 11 89 rfl) (by omega) (depl_of hdep 12 11 (by decide) ho hd)
    exact doesX_of (doesL_run ho (wanted_none hgd) (hpure 12 (by decide) c L w' hW) (run_ld25 _ _ _ hop _ _ (eval_of h0) _ (l12 c L w' hW)))
  | 13, ho, hL, _ =>
    obtain ⟨hop, hdst, hgd⟩ := tab_at htab ho (show rpwT[13]? = _ from rfl)
    simp only at hop hgd
    have h0 := frm_old (val := val c) ha 11 _ (hold 11 rfl) o11
    exact doesX_of (doesL_run ho (wanted_none hgd) (hpure 13 (by decide) c L w' hW) (by rw [run_move _ _ _ hop]; exact congrArg (fun v => Result.ok (Next.value v) w') (eval_of h0)))
  | 14, ho, hL, _ =>
    obtain ⟨hop, hdst, hgd⟩ := tab_at htab ho (show rpwT[14]? = _ from rfl)
    simp only at hop hgd
    have h0 := frm_at (val := val c) hdis ha 12 90 (hds 12 90 rfl) (by omega) (depl_of hdep 14 12 (by decide) ho hd)
    have h1 := frm_at (val := val c) hdis ha 13 91 (hds 13 91 rfl) (by omega) (depl_of hdep 14 13 (by decide) ho hd)
    exact doesX_of (doesL_run ho (wanted_none hgd) (hpure 14 (by decide) c L w' hW) (run_ia25 _ _ _ _ hop _ _ _ _ _ i14 (eval_of h0) (eval_of h1) _))
  | 15, ho, hL, _ =>
    obtain ⟨hop, hdst, hgd⟩ := tab_at htab ho (show rpwT[15]? = _ from rfl)
    simp only at hop hgd
    have h0 := frm_at (val := val c) hdis ha 14 92 (hds 14 92 rfl) (by omega) (depl_of hdep 15 14 (by decide) ho hd)
    exact doesX_of (doesL_run ho (wanted_none hgd) (hpure 15 (by decide) c L w' hW) (run_f40_1 _ _ _ hop _ _ (eval_of h0) _))
  | 16, ho, hL, _ =>
    obtain ⟨hop, hdst, hgd⟩ := tab_at htab ho (show rpwT[16]? = _ from rfl)
    simp only at hop hgd
    have h0 := frm_at (val := val c) hdis ha 15 93 (hds 15 93 rfl) (by omega) (depl_of hdep 16 15 (by decide) ho hd)
    exact doesX_of (doesL_run ho (wanted_none hgd) (hpure 16 (by decide) c L w' hW) (run_ld38 _ _ _ hop _ _ (eval_of h0) _ (l16 c L w' hW)))
  | 17, ho, hL, _ =>
    obtain ⟨hop, hdst, hgd⟩ := tab_at htab ho (show rpwT[17]? = _ from rfl)
    simp only at hop hgd
    have h0 := frm_at (val := val c) hdis ha 16 94 (hds 16 94 rfl) (by omega) (depl_of hdep 17 16 (by decide) ho hd)
    refine doesX_call ho (wanted_none hgd) 15 #[.pointer (some ⟨X, 0, none⟩)] ?_ (c17 c L w' hW hL)
    rw [run_calls Try.func15 (by kernel_rfl) rfl _ _ _ _ hop rfl]
    simp only [List.map_toArray, List.map_cons, List.map_nil, eval_of h0]
    all_goals rfl
  | 18, ho, hL, _ =>
    obtain ⟨hop, hdst, hgd⟩ := tab_at htab ho (show rpwT[18]? = _ from rfl)
    simp only at hop hgd
    have h0 := frm_at (val := val c) hdis ha 8 86 (hds 8 86 rfl) (by omega) (depl_of hdep 18 8 (by decide) ho hd)
    have h1 := frm_at (val := val c) hdis ha 17 95 (hds 17 95 rfl) (by omega) (depl_of hdep 18 17 (by decide) ho hd)
    refine doesX_of (doesL_call ho (wanted_none hgd) 13 #[.slice c.p1 m c.c1, .slice c.p2 m c.c2] ?_ (c18 c L w' hW hL (depl_of hdep 18 8 (by decide) ho hd) (depl_of hdep 18 17 (by decide) ho hd)))
    rw [run_calls Try.func13 (by kernel_rfl) rfl _ _ _ _ hop rfl]
    simp only [List.map_toArray, List.map_cons, List.map_nil, eval_of h0, eval_of h1]
    all_goals rfl
  | 19, ho, hL, _ =>
    obtain ⟨hop, hdst, hgd⟩ := tab_at htab ho (show rpwT[19]? = _ from rfl)
    simp only at hop hgd
    have h0 := frm_at (val := val c) hdis ha 18 96 (hds 18 96 rfl) (by omega) (depl_of hdep 19 18 (by decide) ho hd)
    exact doesX_of (doesL_run ho (wanted_none hgd) (hpure 19 (by decide) c L w' hW) (by rw [run_assign _ _ _ hop]; exact congrArg (fun v => Result.ok (Next.value v) w') (eval_of h0)))
  | (i + 20), ho, hL, hi => exact absurd hi (by omega)
end Go.Proofs.Ytpelmacblglhoaa
