import Derived.Test.YtpelmacblglhoaaRgpb
import Derived.Test.YtpelmacblglhoaaRgmk
namespace Go.Proofs.Ytpelmacblglhoaa
open Go.RowKit
theorem run_ld33 (ρ : Operand → Value) (o : Oper) (x : Operand) (ho : o.op = .load 33 x) (p : Addr) (v : Value) (ha : ρ x = .pointer (some p)) (w : World) (hc : w.cell? p = some v) : (execOp ρ o).run Try.prog w = .ok (.value v) w := by
  unfold execOp
  simp only [ho, ha]
  simp [Instr.loadAt, go_sem, hc, Try.isAgg33]
theorem run_same (ρ : Operand → Value) (o : Oper) (t u : TypeId) (x y : Operand) (ho : o.op = .binOp .eql t x y u) (a : Int) (ha : ρ x = .int .i64 a) (hb : ρ y = .int .i64 a) (w : World) : (execOp ρ o).run Try.prog w = .ok (.value (.bool true)) w := by
  unfold execOp
  simp only [ho, ha, hb]
  simp [go_sem]
theorem run_f35_4 (ρ : Operand → Value) (o : Oper) (x : Operand) (ho : o.op = .fieldAddr 35 x 4) (g q : Nat) (hx : ρ x = .pointer (some ⟨g, q, none⟩)) (w : World) : (execOp ρ o).run Try.prog w = .ok (.value (.pointer (some ⟨g, q + 4, none⟩))) w := by
  unfold execOp
  simp only [ho, hx]
  kernel_rfl
def rqaT : List (Op × Option Tmp × Option (Nat × Bool)) := [
  (.fieldAddr 40 (.tmp 7) 0, some 101, none),
  (.load 37 (.tmp 101), some 102, none),
  (.move (.tmp 13), some 103, none),
  (.fieldAddr 35 (.tmp 3) 3, some 104, none),
  (.load 9 (.tmp 104), some 105, none),
  (.call { callee := .builtin .len, args := #[(.tmp 105)], argTypes := #[9] }, some 106, none),
  (.call { callee := .value (.func 20), args := #[(.tmp 106)], argTypes := #[3] }, some 107, none),
  (.call { callee := .value (.func 26), args := #[(.tmp 102), (.tmp 103), (.tmp 107)], argTypes := #[37, 3, 9] }, some 108, none),
  (.assign (.tmp 108), some 14, none)]
def rqaD : List (Nat × Nat) := [(1, 0), (4, 3), (5, 4), (6, 5), (7, 1), (7, 2), (7, 6), (8, 7)]
set_option maxHeartbeats 2000000 in
theorem rqa {ops : Array Oper} {id : Nat} {Q : Exit → Act → World → Prop} (F T D m9 : Nat) (wv : Int) (str bk : Bs) (htab : ops.toList.map (fun o => (o.op, o.dst, o.guard)) = rqaT) (hdep : deplB rqaD ops = true) (hac : acB ops = true)
    (a0 : Act) (w : World) (hsz : 109 ≤ a0.tmps.size) (o3 : a0.tmps[3]? = some (.pointer (some ⟨T, 0, none⟩))) (o7 : a0.tmps[7]? = some (.pointer (some ⟨F, 0, none⟩))) (o13 : a0.tmps[13]? = some (.int .i64 (m9 : Int)))
    (Wd : (Nat → Bool) → World → Prop) (h0 : Wd (fun _ => false) w.drew) (hpure : ∀ i, i ∉ ([6, 7] : List Nat) → ∀ L W, Wd L W → Wd (upd L i) W)
    (l1 : ∀ L W, Wd L W → W.cell? ⟨F, 0 + 0, none⟩ = some (.pointer (some ⟨D, 0, none⟩))) (l4 : ∀ L W, Wd L W → W.cell? ⟨T, 0 + 3, none⟩ = some (S str))
    (c6 : ∀ L W, Wd L W → L 6 = false → Calls Try.prog 20 #[.int .i64 (str.length : Int)] W fun e w' => e = .returned (S bk) ∧ Wd (upd L 6) w')
    (c7 : ∀ L W, Wd L W → L 7 = false → L 1 = true → L 2 = true → L 6 = true → Calls Try.prog 26 #[.pointer (some ⟨D, 0, none⟩), .int .i64 (m9 : Int), S bk] W fun e w' => e = .returned (.int .i64 wv) ∧ Wd (upd L 7) w')
    (hend : ∀ L W, (∀ i, i < 9 → L i = true) → Wd L W → Q .normal (((((((((a0.put (some 101) (.pointer (some ⟨F, 0 + 0, none⟩))).put (some 102) (.pointer (some ⟨D, 0, none⟩))).put (some 103) (.int .i64 (m9 : Int))).put (some 104) (.pointer (some ⟨T, 0 + 3, none⟩))).put (some 105) (S str)).put (some 106) (.int .i64 (str.length : Int))).put (some 107) (S bk)).put (some 108) (.int .i64 wv)).put (some 14) (.int .i64 wv)) W) : (Code.region id ops true).wp Try.prog Q a0 w := by
  let val : Nat → Value := fun i => match i with
    | 0 => (.pointer (some ⟨F, 0 + 0, none⟩))
    | 1 => (.pointer (some ⟨D, 0, none⟩))
    | 2 => (.int .i64 (m9 : Int))
    | 3 => (.pointer (some ⟨T, 0 + 3, none⟩))
    | 4 => (S str)
    | 5 => (.int .i64 (str.length : Int))
    | 6 => (S bk)
    | 7 => (.int .i64 wv)
    | 8 => (.int .i64 wv)
    | _ => undef
  have hosz : ops.size = 9 := by
    have := congrArg List.length htab
    simpa [rqaT] using this
  have hds : ∀ i s, (rqaT[i]?).bind (·.2.1) = some s → dstOf ops i = some s := fun i s hi => by rw [tab_dst htab, hi]
  have hdisB : disL rqaT = true := by rfl
  have hdis := disL_of htab hdisB
  have hold : ∀ s, rqaT.all (fun x => !(x.2.1 == some s)) = true → (List.range ops.size).all (fun j => !(dstOf ops j == some s)) = true := fun s h => holdL htab s h
  refine region_detL val Wd (hac_of hac) hdis h0 ?_ ?_
  rotate_left
  · intro L W hall hW
    have := hend L W (by rw [← hosz]; exact hall) hW
    have e : frm ops a0 val (fun _ => true) ops.size = (((((((((a0.put (some 101) (.pointer (some ⟨F, 0 + 0, none⟩))).put (some 102) (.pointer (some ⟨D, 0, none⟩))).put (some 103) (.int .i64 (m9 : Int))).put (some 104) (.pointer (some ⟨T, 0 + 3, none⟩))).put (some 105) (S str)).put (some 106) (.int .i64 (str.length : Int))).put (some 107) (S bk)).put (some 108) (.int .i64 wv)).put (some 14) (.int .i64 wv)) := by
      rw [hosz]
      simp only [frm, if_true]
      rw [tab_dst htab 0, tab_dst htab 1, tab_dst htab 2, tab_dst htab 3, tab_dst htab 4, tab_dst htab 5, tab_dst htab 6, tab_dst htab 7, tab_dst htab 8]
      rfl
    rw [e]
    exact this
  intro i o ho L a w' hL hd ha hW
  have hi : i < 9 := by rw [← hosz]; exact (Array.getElem?_eq_some_iff.1 ho).1
  match i, ho, hL, hi with
  | 0, ho, hL, _ =>
    obtain ⟨hop, hdst, hgd⟩ := tab_at htab ho (show rqaT[0]? = _ from rfl)
    simp only at hop hgd
    have h0 := frm_old ha 7 _ (hold 7 rfl) o7
    exact doesL_run ho (wanted_none hgd) (hpure 0 (by decide) L w' hW) (run_f40_0 _ _ _ hop _ _ (eval_of h0) _)
  | 1, ho, hL, _ =>
    obtain ⟨hop, hdst, hgd⟩ := tab_at htab ho (show rqaT[1]? = _ from rfl)
    simp only at hop hgd
    have h0 := frm_at hdis ha 0 101 (hds 0 101 rfl) (by omega) (depl_of hdep 1 0 (by decide) ho hd)
    exact doesL_run ho (wanted_none hgd) (hpure 1 (by decide) L w' hW) (run_ld37 _ _ _ hop _ _ (eval_of h0) _ (l1 L w' hW))
  | 2, ho, hL, _ =>
    obtain ⟨hop, hdst, hgd⟩ := tab_at htab ho (show rqaT[2]? = _ from rfl)
    simp only at hop hgd
    have h0 := frm_old ha 13 _ (hold 13 rfl) o13
    exact doesL_run ho (wanted_none hgd) (hpure 2 (by decide) L w' hW) (by rw [run_move _ _ _ hop]; exact congrArg (fun v => Result.ok (Next.value v) w') (eval_of h0))
  | 3, ho, hL, _ =>
    obtain ⟨hop, hdst, hgd⟩ := tab_at htab ho (show rqaT[3]? = _ from rfl)
    simp only at hop hgd
    have h0 := frm_old ha 3 _ (hold 3 rfl) o3
    exact doesL_run ho (wanted_none hgd) (hpure 3 (by decide) L w' hW) (run_f35_3 _ _ _ hop _ _ (eval_of h0) _)
  | 4, ho, hL, _ =>
    obtain ⟨hop, hdst, hgd⟩ := tab_at htab ho (show rqaT[4]? = _ from rfl)
    simp only at hop hgd
    have h0 := frm_at hdis ha 3 104 (hds 3 104 rfl) (by omega) (depl_of hdep 4 3 (by decide) ho hd)
    exact doesL_run ho (wanted_none hgd) (hpure 4 (by decide) L w' hW) (run_ld _ _ _ hop _ _ (eval_of h0) _ (l4 L w' hW))
  | 5, ho, hL, _ =>
    obtain ⟨hop, hdst, hgd⟩ := tab_at htab ho (show rqaT[5]? = _ from rfl)
    simp only at hop hgd
    have h0 := frm_at hdis ha 4 105 (hds 4 105 rfl) (by omega) (depl_of hdep 5 4 (by decide) ho hd)
    exact doesL_run ho (wanted_none hgd) (hpure 5 (by decide) L w' hW) (run_len _ _ _ hop _ (eval_of h0) _)
  | 6, ho, hL, _ =>
    obtain ⟨hop, hdst, hgd⟩ := tab_at htab ho (show rqaT[6]? = _ from rfl)
    simp only at hop hgd
    have h0 := frm_at hdis ha 5 106 (hds 5 106 rfl) (by omega) (depl_of hdep 6 5 (by decide) ho hd)
    refine doesL_call ho (wanted_none hgd) 20 #[.int .i64 (str.length : Int)] ?_ (c6 L w' hW hL)
    rw [run_calls Try.func20 (by kernel_rfl) rfl _ _ _ _ hop rfl]
    simp only [List.map_toArray, List.map_cons, List.map_nil, eval_of h0]
    all_goals rfl
  | 7, ho, hL, _ =>
    obtain ⟨hop, hdst, hgd⟩ := tab_at htab ho (show rqaT[7]? = _ from rfl)
    simp only at hop hgd
    have h0 := frm_at hdis ha 1 102 (hds 1 102 rfl) (by omega) (depl_of hdep 7 1 (by decide) ho hd)
    have h1 := frm_at hdis ha 2 103 (hds 2 103 rfl) (by omega) (depl_of hdep 7 2 (by decide) ho hd)
    have h2 := frm_at hdis ha 6 107 (hds 6 107 rfl) (by omega) (depl_of hdep 7 6 (by decide) ho hd)
    refine doesL_call ho (wanted_none hgd) 26 #[.pointer (some ⟨D, 0, none⟩), .int .i64 (m9 : Int), S bk] ?_ (c7 L w' hW hL (depl_of hdep 7 1 (by decide) ho hd) (depl_of hdep 7 2 (by decide) ho hd) (depl_of hdep 7 6 (by decide) ho hd))
    rw [run_calls Try.func26 (by kernel_rfl) rfl _ _ _ _ hop rfl]
    simp only [List.map_toArray, List.map_cons, List.map_nil, eval_of h0, eval_of h1, eval_of h2]
    all_goals rfl
  | 8, ho, hL, _ =>
    obtain ⟨hop, hdst, hgd⟩ := tab_at htab ho (show rqaT[8]? = _ from rfl)
    simp only at hop hgd
    have h0 := frm_at hdis ha 7 108 (hds 7 108 rfl) (by omega) (depl_of hdep 8 7 (by decide) ho hd)
    exact doesL_run ho (wanted_none hgd) (hpure 8 (by decide) L w' hW) (by rw [run_assign _ _ _ hop]; exact congrArg (fun v => Result.ok (Next.value v) w') (eval_of h0))
  | (i + 9), ho, hL, hi => exact absurd hi (by omega)
def rqbT : List (Op × Option Tmp × Option (Nat × Bool)) := [
  (.move (.tmp 14), some 109, none),
  (.fieldAddr 40 (.tmp 7) 1, some 110, none),
  (.load 38 (.tmp 110), some 111, none),
  (.move (.tmp 13), some 112, none),
  (.fieldAddr 35 (.tmp 3) 3, some 113, none),
  (.load 9 (.tmp 113), some 114, none),
  (.call { callee := .builtin .len, args := #[(.tmp 114)], argTypes := #[9] }, some 115, none),
  (.call { callee := .value (.func 20), args := #[(.tmp 115)], argTypes := #[3] }, some 116, none),
  (.call { callee := .value (.func 32), args := #[(.tmp 111), (.tmp 112), (.tmp 116)], argTypes := #[38, 3, 9] }, some 117, none),
  (.binOp .eql 50 (.tmp 109) (.tmp 117) 50, some 118, none),
  (.assign (.tmp 118), some 4, none)]
def rqbD : List (Nat × Nat) := [(2, 1), (5, 4), (6, 5), (7, 6), (8, 2), (8, 3), (8, 7), (9, 0), (9, 8), (10, 9)]
set_option maxHeartbeats 2000000 in
theorem rqb {ops : Array Oper} {id : Nat} {Q : Exit → Act → World → Prop} (F T X m9 : Nat) (wv : Int) (str bk : Bs) (htab : ops.toList.map (fun o => (o.op, o.dst, o.guard)) = rqbT) (hdep : deplB rqbD ops = true) (hac : acB ops = true)
    (a0 : Act) (w : World) (hsz : 119 ≤ a0.tmps.size) (o3 : a0.tmps[3]? = some (.pointer (some ⟨T, 0, none⟩))) (o7 : a0.tmps[7]? = some (.pointer (some ⟨F, 0, none⟩))) (o13 : a0.tmps[13]? = some (.int .i64 (m9 : Int))) (o14 : a0.tmps[14]? = some (.int .i64 wv))
    (Wd : (Nat → Bool) → World → Prop) (h0 : Wd (fun _ => false) w.drew) (hpure : ∀ i, i ∉ ([7, 8] : List Nat) → ∀ L W, Wd L W → Wd (upd L i) W)
    (l2 : ∀ L W, Wd L W → W.cell? ⟨F, 0 + 1, none⟩ = some (.pointer (some ⟨X, 0, none⟩))) (l5 : ∀ L W, Wd L W → W.cell? ⟨T, 0 + 3, none⟩ = some (S str))
    (c7 : ∀ L W, Wd L W → L 7 = false → Calls Try.prog 20 #[.int .i64 (str.length : Int)] W fun e w' => e = .returned (S bk) ∧ Wd (upd L 7) w')
    (c8 : ∀ L W, Wd L W → L 8 = false → L 2 = true → L 3 = true → L 7 = true → Calls Try.prog 32 #[.pointer (some ⟨X, 0, none⟩), .int .i64 (m9 : Int), S bk] W fun e w' => e = .returned (.int .i64 wv) ∧ Wd (upd L 8) w')
    (hend : ∀ L W, (∀ i, i < 11 → L i = true) → Wd L W → Q .normal (((((((((((a0.put (some 109) (.int .i64 wv)).put (some 110) (.pointer (some ⟨F, 0 + 1, none⟩))).put (some 111) (.pointer (some ⟨X, 0, none⟩))).put (some 112) (.int .i64 (m9 : Int))).put (some 113) (.pointer (some ⟨T, 0 + 3, none⟩))).put (some 114) (S str)).put (some 115) (.int .i64 (str.length : Int))).put (some 116) (S bk)).put (some 117) (.int .i64 wv)).put (some 118) (.bool true)).put (some 4) (.bool true)) W) : (Code.region id ops true).wp Try.prog Q a0 w := by
  let val : Nat → Value := fun i => match i with
    | 0 => (.int .i64 wv)
    | 1 => (.pointer (some ⟨F, 0 + 1, none⟩))
    | 2 => (.pointer (some ⟨X, 0, none⟩))
    | 3 => (.int .i64 (m9 : Int))
    | 4 => (.pointer (some ⟨T, 0 + 3, none⟩))
    | 5 => (S str)
    | 6 => (.int .i64 (str.length : Int))
    | 7 => (S bk)
    | 8 => (.int .i64 wv)
    | 9 => (.bool true)
    | 10 => (.bool true)
    | _ => undef
  have hosz : ops.size = 11 := by
    have := congrArg List.length htab
    simpa [rqbT] using this
  have hds : ∀ i s, (rqbT[i]?).bind (·.2.1) = some s → dstOf ops i = some s := fun i s hi => by rw [tab_dst htab, hi]
  have hdisB : disL rqbT = true := by rfl
  have hdis := disL_of htab hdisB
  have hold : ∀ s, rqbT.all (fun x => !(x.2.1 == some s)) = true → (List.range ops.size).all (fun j => !(dstOf ops j == some s)) = true := fun s h => holdL htab s h
  refine region_detL val Wd (hac_of hac) hdis h0 ?_ ?_
  rotate_left
  · intro L W hall hW
    have := hend L W (by rw [← hosz]; exact hall) hW
    have e : frm ops a0 val (fun _ => true) ops.size = (((((((((((a0.put (some 109) (.int .i64 wv)).put (some 110) (.pointer (some ⟨F, 0 + 1, none⟩))).put (some 111) (.pointer (some ⟨X, 0, none⟩))).put (some 112) (.int .i64 (m9 : Int))).put (some 113) (.pointer (some ⟨T, 0 + 3, none⟩))).put (some 114) (S str)).put (some 115) (.int .i64 (str.length : Int))).put (some 116) (S bk)).put (some 117) (.int .i64 wv)).put (some 118) (.bool true)).put (some 4) (.bool true)) := by
      rw [hosz]
      simp only [frm, if_true]
      rw [tab_dst htab 0, tab_dst htab 1, tab_dst htab 2, tab_dst htab 3, tab_dst htab 4, tab_dst htab 5, tab_dst htab 6, tab_dst htab 7, tab_dst htab 8, tab_dst htab 9, tab_dst htab 10]
      rfl
    rw [e]
    exact this
  intro i o ho L a w' hL hd ha hW
  have hi : i < 11 := by rw [← hosz]; exact (Array.getElem?_eq_some_iff.1 ho).1
  match i, ho, hL, hi with
  | 0, ho, hL, _ =>
    obtain ⟨hop, hdst, hgd⟩ := tab_at htab ho (show rqbT[0]? = _ from rfl)
    simp only at hop hgd
    have h0 := frm_old ha 14 _ (hold 14 rfl) o14
    exact doesL_run ho (wanted_none hgd) (hpure 0 (by decide) L w' hW) (by rw [run_move _ _ _ hop]; exact congrArg (fun v => Result.ok (Next.value v) w') (eval_of h0))
  | 1, ho, hL, _ =>
    obtain ⟨hop, hdst, hgd⟩ := tab_at htab ho (show rqbT[1]? = _ from rfl)
    simp only at hop hgd
    have h0 := frm_old ha 7 _ (hold 7 rfl) o7
    exact doesL_run ho (wanted_none hgd) (hpure 1 (by decide) L w' hW) (run_f40_1 _ _ _ hop _ _ (eval_of h0) _)
  | 2, ho, hL, _ =>
    obtain ⟨hop, hdst, hgd⟩ := tab_at htab ho (show rqbT[2]? = _ from rfl)
    simp only at hop hgd
    have h0 := frm_at hdis ha 1 110 (hds 1 110 rfl) (by omega) (depl_of hdep 2 1 (by decide) ho hd)
    exact doesL_run ho (wanted_none hgd) (hpure 2 (by decide) L w' hW) (run_ld38 _ _ _ hop _ _ (eval_of h0) _ (l2 L w' hW))
  | 3, ho, hL, _ =>
    obtain ⟨hop, hdst, hgd⟩ := tab_at htab ho (show rqbT[3]? = _ from rfl)
    simp only at hop hgd
    have h0 := frm_old ha 13 _ (hold 13 rfl) o13
    exact doesL_run ho (wanted_none hgd) (hpure 3 (by decide) L w' hW) (by rw [run_move _ _ _ hop]; exact congrArg (fun v => Result.ok (Next.value v) w') (eval_of h0))
  | 4, ho, hL, _ =>
    obtain ⟨hop, hdst, hgd⟩ := tab_at htab ho (show rqbT[4]? = _ from rfl)
    simp only at hop hgd
    have h0 := frm_old ha 3 _ (hold 3 rfl) o3
    exact doesL_run ho (wanted_none hgd) (hpure 4 (by decide) L w' hW) (run_f35_3 _ _ _ hop _ _ (eval_of h0) _)
  | 5, ho, hL, _ =>
    obtain ⟨hop, hdst, hgd⟩ := tab_at htab ho (show rqbT[5]? = _ from rfl)
    simp only at hop hgd
    have h0 := frm_at hdis ha 4 113 (hds 4 113 rfl) (by omega) (depl_of hdep 5 4 (by decide) ho hd)
    exact doesL_run ho (wanted_none hgd) (hpure 5 (by decide) L w' hW) (run_ld _ _ _ hop _ _ (eval_of h0) _ (l5 L w' hW))
  | 6, ho, hL, _ =>
    obtain ⟨hop, hdst, hgd⟩ := tab_at htab ho (show rqbT[6]? = _ from rfl)
    simp only at hop hgd
    have h0 := frm_at hdis ha 5 114 (hds 5 114 rfl) (by omega) (depl_of hdep 6 5 (by decide) ho hd)
    exact doesL_run ho (wanted_none hgd) (hpure 6 (by decide) L w' hW) (run_len _ _ _ hop _ (eval_of h0) _)
  | 7, ho, hL, _ =>
    obtain ⟨hop, hdst, hgd⟩ := tab_at htab ho (show rqbT[7]? = _ from rfl)
    simp only at hop hgd
    have h0 := frm_at hdis ha 6 115 (hds 6 115 rfl) (by omega) (depl_of hdep 7 6 (by decide) ho hd)
    refine doesL_call ho (wanted_none hgd) 20 #[.int .i64 (str.length : Int)] ?_ (c7 L w' hW hL)
    rw [run_calls Try.func20 (by kernel_rfl) rfl _ _ _ _ hop rfl]
    simp only [List.map_toArray, List.map_cons, List.map_nil, eval_of h0]
    all_goals rfl
  | 8, ho, hL, _ =>
    obtain ⟨hop, hdst, hgd⟩ := tab_at htab ho (show rqbT[8]? = _ from rfl)
    simp only at hop hgd
    have h0 := frm_at hdis ha 2 111 (hds 2 111 rfl) (by omega) (depl_of hdep 8 2 (by decide) ho hd)
    have h1 := frm_at hdis ha 3 112 (hds 3 112 rfl) (by omega) (depl_of hdep 8 3 (by decide) ho hd)
    have h2 := frm_at hdis ha 7 116 (hds 7 116 rfl) (by omega) (depl_of hdep 8 7 (by decide) ho hd)
    refine doesL_call ho (wanted_none hgd) 32 #[.pointer (some ⟨X, 0, none⟩), .int .i64 (m9 : Int), S bk] ?_ (c8 L w' hW hL (depl_of hdep 8 2 (by decide) ho hd) (depl_of hdep 8 3 (by decide) ho hd) (depl_of hdep 8 7 (by decide) ho hd))
    rw [run_calls Try.func32 (by kernel_rfl) rfl _ _ _ _ hop rfl]
    simp only [List.map_toArray, List.map_cons, List.map_nil, eval_of h0, eval_of h1, eval_of h2]
    all_goals rfl
  | 9, ho, hL, _ =>
    obtain ⟨hop, hdst, hgd⟩ := tab_at htab ho (show rqbT[9]? = _ from rfl)
    simp only at hop hgd
    have h0 := frm_at hdis ha 0 109 (hds 0 109 rfl) (by omega) (depl_of hdep 9 0 (by decide) ho hd)
    have h1 := frm_at hdis ha 8 117 (hds 8 117 rfl) (by omega) (depl_of hdep 9 8 (by decide) ho hd)
    exact doesL_run ho (wanted_none hgd) (hpure 9 (by decide) L w' hW) (run_same _ _ _ _ _ _ hop _ (eval_of h0) (eval_of h1) _)
  | 10, ho, hL, _ =>
    obtain ⟨hop, hdst, hgd⟩ := tab_at htab ho (show rqbT[10]? = _ from rfl)
    simp only at hop hgd
    have h0 := frm_at hdis ha 9 118 (hds 9 118 rfl) (by omega) (depl_of hdep 10 9 (by decide) ho hd)
    exact doesL_run ho (wanted_none hgd) (hpure 10 (by decide) L w' hW) (by rw [run_assign _ _ _ hop]; exact congrArg (fun v => Result.ok (Next.value v) w') (eval_of h0))
  | (i + 11), ho, hL, hi => exact absurd hi (by omega)
def vqk (F T D X kn ck pm mm : Nat) (ka : Option Addr) (c : ChB) (i : Nat) : Value := match i with
  | 0 => (.agg #[.pointer (some ⟨D, 0, none⟩), .pointer (some ⟨X, 0, none⟩)])
  | 1 => (.pointer (some ⟨T, 0 + 4, none⟩))
  | 2 => (.slice ka kn ck)
  | 3 => (.pointer (some ⟨F, 0 + 1, none⟩))
  | 4 => (.pointer (some ⟨X, 0, none⟩))
  | 5 => (.slice c.p1 pm c.c1)
  | 6 => (.int .i64 (pm : Int))
  | 7 => (.slice c.p2 mm c.c2)
  | 8 => (.bool true)
  | 9 => (.bool true)
  | _ => undef
def rqkT : List (Op × Option Tmp × Option (Nat × Bool)) := [
  (.load 40 (.tmp 7), some 158, none),
  (.fieldAddr 35 (.tmp 3) 4, some 159, none),
  (.load 33 (.tmp 159), some 160, none),
  (.fieldAddr 40 (.tmp 7) 1, some 161, none),
  (.load 38 (.tmp 161), some 162, none),
  (.call { callee := .value (.func 15), args := #[(.tmp 162)], argTypes := #[38] }, some 163, none),
  (.call { callee := .builtin .len, args := #[(.tmp 163)], argTypes := #[43] }, some 164, none),
  (.call { callee := .value (.func 38), args := #[(.tmp 160), (.tmp 164)], argTypes := #[33, 3] }, some 165, none),
  (.call { callee := .value (.func 37), args := #[(.tmp 158), (.tmp 165)], argTypes := #[40, 33] }, some 166, none),
  (.assign (.tmp 166), some 4, none)]
def rqkD : List (Nat × Nat) := [(2, 1), (4, 3), (5, 4), (6, 5), (7, 2), (7, 6), (8, 0), (8, 7), (9, 8)]
set_option maxHeartbeats 2000000 in
theorem rqk {ops : Array Oper} {id : Nat} {Q : Exit → Act → World → Prop} (F T D X kn ck pm mm : Nat) (ka : Option Addr) (htab : ops.toList.map (fun o => (o.op, o.dst, o.guard)) = rqkT) (hdep : deplB rqkD ops = true) (hac : acB ops = true)
    (a0 : Act) (w : World) (hsz : 167 ≤ a0.tmps.size) (o3 : a0.tmps[3]? = some (.pointer (some ⟨T, 0, none⟩))) (o7 : a0.tmps[7]? = some (.pointer (some ⟨F, 0, none⟩)))
    (Wd : ChB → (Nat → Bool) → World → Prop) (h0 : ∃ c, Wd c (fun _ => false) w.drew) (hpure : ∀ i, i ∉ ([5, 7, 8, 6] : List Nat) → ∀ c L W, Wd c L W → Wd c (upd L i) W)
    (hpure6 : ∀ c L W, Wd c L W → L 5 = true → Wd c (upd L 6) W) (l0 : ∀ c L W, Wd c L W → W.cell? ⟨F, 0, none⟩ = some (.pointer (some ⟨D, 0, none⟩)) ∧ W.cell? ⟨F, 0 + 1, none⟩ = some (.pointer (some ⟨X, 0, none⟩))) (l2 : ∀ c L W, Wd c L W → W.cell? ⟨T, 0 + 4, none⟩ = some (.slice ka kn ck)) (l4 : ∀ c L W, Wd c L W → W.cell? ⟨F, 0 + 1, none⟩ = some (.pointer (some ⟨X, 0, none⟩)))
    (c5 : ∀ c L W, Wd c L W → L 5 = false → Calls Try.prog 15 #[.pointer (some ⟨X, 0, none⟩)] W fun e w' => ∃ c' : ChB, (∀ i, L i = true → vqk F T D X kn ck pm mm ka c' i = vqk F T D X kn ck pm mm ka c i) ∧ e = .returned (.slice c'.p1 pm c'.c1) ∧ Wd c' (upd L 5) w')
    (c7 : ∀ c L W, Wd c L W → L 7 = false → L 2 = true → L 6 = true → Calls Try.prog 38 #[.slice ka kn ck, .int .i64 (pm : Int)] W fun e w' => ∃ c' : ChB, (∀ i, L i = true → vqk F T D X kn ck pm mm ka c' i = vqk F T D X kn ck pm mm ka c i) ∧ e = .returned (.slice c'.p2 mm c'.c2) ∧ Wd c' (upd L 7) w')
    (c8 : ∀ c L W, Wd c L W → L 8 = false → L 0 = true → L 7 = true → Calls Try.prog 37 #[.agg #[.pointer (some ⟨D, 0, none⟩), .pointer (some ⟨X, 0, none⟩)], .slice c.p2 mm c.c2] W fun e w' => e = .returned (.bool true) ∧ Wd c (upd L 8) w')
    (hend : ∀ c L W, (∀ i, i < 10 → L i = true) → Wd c L W → Q .normal ((((((((((a0.put (some 158) (.agg #[.pointer (some ⟨D, 0, none⟩), .pointer (some ⟨X, 0, none⟩)])).put (some 159) (.pointer (some ⟨T, 0 + 4, none⟩))).put (some 160) (.slice ka kn ck)).put (some 161) (.pointer (some ⟨F, 0 + 1, none⟩))).put (some 162) (.pointer (some ⟨X, 0, none⟩))).put (some 163) (.slice c.p1 pm c.c1)).put (some 164) (.int .i64 (pm : Int))).put (some 165) (.slice c.p2 mm c.c2)).put (some 166) (.bool true)).put (some 4) (.bool true)) W) : (Code.region id ops true).wp Try.prog Q a0 w := by
  let val : ChB → Nat → Value := vqk F T D X kn ck pm mm ka
  have hosz : ops.size = 10 := by
    have := congrArg List.length htab
    simpa [rqkT] using this
  have hds : ∀ i s, (rqkT[i]?).bind (·.2.1) = some s → dstOf ops i = some s := fun i s hi => by rw [tab_dst htab, hi]
  have hdisB : disL rqkT = true := by rfl
  have hdis := disL_of htab hdisB
  have hold : ∀ s, rqkT.all (fun x => !(x.2.1 == some s)) = true → (List.range ops.size).all (fun j => !(dstOf ops j == some s)) = true := fun s h => holdL htab s h
  refine region_detX val Wd (hac_of hac) hdis h0 ?_ ?_
  rotate_left
  · intro c L W hall hW
    have := hend c L W (by rw [← hosz]; exact hall) hW
    have e : frm ops a0 (val c) (fun _ => true) ops.size = ((((((((((a0.put (some 158) (.agg #[.pointer (some ⟨D, 0, none⟩), .pointer (some ⟨X, 0, none⟩)])).put (some 159) (.pointer (some ⟨T, 0 + 4, none⟩))).put (some 160) (.slice ka kn ck)).put (some 161) (.pointer (some ⟨F, 0 + 1, none⟩))).put (some 162) (.pointer (some ⟨X, 0, none⟩))).put (some 163) (.slice c.p1 pm c.c1)).put (some 164) (.int .i64 (pm : Int))).put (some 165) (.slice c.p2 mm c.c2)).put (some 166) (.bool true)).put (some 4) (.bool true)) := by
      rw [hosz]
      simp only [frm, if_true]
      rw [tab_dst htab 0, tab_dst htab 1, tab_dst htab 2, tab_dst htab 3, tab_dst htab 4, tab_dst htab 5, tab_dst htab 6, tab_dst htab 7, tab_dst htab 8, tab_dst htab 9]
      rfl
    rw [e]
    exact this
  intro i o ho c L a w' hL hd ha hW
  have hi : i < 10 := by rw [← hosz]; exact (Array.getElem?_eq_some_iff.1 ho).1
  match i, ho, hL, hi with
  | 0, ho, hL, _ =>
    obtain ⟨hop, hdst, hgd⟩ := tab_at htab ho (show rqkT[0]? = _ from rfl)
    simp only at hop hgd
    have h0 := frm_old (val := val c) ha 7 _ (hold 7 rfl) o7
    exact doesX_of (doesL_run ho (wanted_none hgd) (hpure 0 (by decide) c L w' hW) (run_ld40 _ _ _ hop _ _ _ _ (eval_of h0) _ (l0 c L w' hW).1 (l0 c L w' hW).2))
  | 1, ho, hL, _ =>
    obtain ⟨hop, hdst, hgd⟩ := tab_at htab ho (show rqkT[1]? = _ from rfl)
    simp only at hop hgd
    have h0 := frm_old (val := val c) ha 3 _ (hold 3 rfl) o3
    exact doesX_of (doesL_run ho (wanted_none hgd) (hpure 1 (by decide) c L w' hW) (run_f35_4 _ _ _ hop _ _ (eval_of h0) _))
  | 2, ho, hL, _ =>
    obtain ⟨hop, hdst, hgd⟩ := tab_at htab ho (show rqkT[2]? = _ from rfl)
    simp only at hop hgd
    have h0 := frm_at (val := val c) hdis ha 1 159 (hds 1 159 rfl) (by omega) (depl_of hdep 2 1 (by decide) ho hd)
    exact doesX_of (doesL_run ho (wanted_none hgd) (hpure 2 (by decide) c L w' hW) (run_ld33 _ _ _ hop _ _ (eval_of h0) _ (l2 c L w' hW)))
  | 3, ho, hL, _ =>
    obtain ⟨hop, hdst, hgd⟩ := tab_at htab ho (show rqkT[3]? = _ from rfl)
    simp only at hop hgd
    have h0 := frm_old (val := val c) ha 7 _ (hold 7 rfl) o7
    exact doesX_of (doesL_run ho (wanted_none hgd) (hpure 3 (by decide) c L w' hW) (run_f40_1 _ _ _ hop _ _ (eval_of h0) _))
  | 4, ho, hL, _ =>
    obtain ⟨hop, hdst, hgd⟩ := tab_at htab ho (show rqkT[4]? = _ from rfl)
    simp only at hop hgd
    have h0 := frm_at (val := val c) hdis ha 3 161 (hds 3 161 rfl) (by omega) (depl_of hdep 4 3 (by decide) ho hd)
    exact doesX_of (doesL_run ho (wanted_none hgd) (hpure 4 (by decide) c L w' hW) (run_ld38 _ _ _ hop _ _ (eval_of h0) _ (l4 c L w' hW)))
  | 5, ho, hL, _ =>
    obtain ⟨hop, hdst, hgd⟩ := tab_at htab ho (show rqkT[5]? = _ from rfl)
    simp only at hop hgd
    have h0 := frm_at (val := val c) hdis ha 4 162 (hds 4 162 rfl) (by omega) (depl_of hdep 5 4 (by decide) ho hd)
    refine doesX_call ho (wanted_none hgd) 15 #[.pointer (some ⟨X, 0, none⟩)] ?_ (c5 c L w' hW hL)
    rw [run_calls Try.func15 (by kernel_rfl) rfl _ _ _ _ hop rfl]
    simp only [List.map_toArray, List.map_cons, List.map_nil, eval_of h0]
    all_goals rfl
  | 6, ho, hL, _ =>
    obtain ⟨hop, hdst, hgd⟩ := tab_at htab ho (show rqkT[6]? = _ from rfl)
    simp only at hop hgd
    have h0 := frm_at (val := val c) hdis ha 5 163 (hds 5 163 rfl) (by omega) (depl_of hdep 6 5 (by decide) ho hd)
    exact doesX_of (doesL_run ho (wanted_none hgd) (hpure6 c L w' hW (depl_of hdep 6 5 (by decide) ho hd)) (run_len43 _ _ _ hop _ _ _ (eval_of h0) _))
  | 7, ho, hL, _ =>
    obtain ⟨hop, hdst, hgd⟩ := tab_at htab ho (show rqkT[7]? = _ from rfl)
    simp only at hop hgd
    have h0 := frm_at (val := val c) hdis ha 2 160 (hds 2 160 rfl) (by omega) (depl_of hdep 7 2 (by decide) ho hd)
    have h1 := frm_at (val := val c) hdis ha 6 164 (hds 6 164 rfl) (by omega) (depl_of hdep 7 6 (by decide) ho hd)
    refine doesX_call ho (wanted_none hgd) 38 #[.slice ka kn ck, .int .i64 (pm : Int)] ?_ (c7 c L w' hW hL (depl_of hdep 7 2 (by decide) ho hd) (depl_of hdep 7 6 (by decide) ho hd))
    rw [run_calls Try.func38 (by kernel_rfl) rfl _ _ _ _ hop rfl]
    simp only [List.map_toArray, List.map_cons, List.map_nil, eval_of h0, eval_of h1]
    all_goals rfl
  | 8, ho, hL, _ =>
    obtain ⟨hop, hdst, hgd⟩ := tab_at htab ho (show rqkT[8]? = _ from rfl)
    simp only at hop hgd
    have h0 := frm_at (val := val c) hdis ha 0 158 (hds 0 158 rfl) (by omega) (depl_of hdep 8 0 (by decide) ho hd)
    have h1 := frm_at (val := val c) hdis ha 7 165 (hds 7 165 rfl) (by omega) (depl_of hdep 8 7 (by decide) ho hd)
    refine doesX_of (doesL_call ho (wanted_none hgd) 37 #[.agg #[.pointer (some ⟨D, 0, none⟩), .pointer (some ⟨X, 0, none⟩)], .slice c.p2 mm c.c2] ?_ (c8 c L w' hW hL (depl_of hdep 8 0 (by decide) ho hd) (depl_of hdep 8 7 (by decide) ho hd)))
    rw [run_calls Try.func37 (by kernel_rfl) rfl _ _ _ _ hop rfl]
    simp only [List.map_toArray, List.map_cons, List.map_nil, eval_of h0, eval_of h1]
    all_goals rfl
  | 9, ho, hL, _ =>
    obtain ⟨hop, hdst, hgd⟩ := tab_at htab ho (show rqkT[9]? = _ from rfl)
    simp only at hop hgd
    have h0 := frm_at (val := val c) hdis ha 8 166 (hds 8 166 rfl) (by omega) (depl_of hdep 9 8 (by decide) ho hd)
    exact doesX_of (doesL_run ho (wanted_none hgd) (hpure 9 (by decide) c L w' hW) (by rw [run_assign _ _ _ hop]; exact congrArg (fun v => Result.ok (Next.value v) w') (eval_of h0)))
  | (i + 10), ho, hL, hi => exact absurd hi (by omega)
end Go.Proofs.Ytpelmacblglhoaa
