import Derived.Test.YtjopnhhdemfniaaGreatDoorZrgpn
namespace Go.Proofs.YtjopnhhdemfniaaGreatDoor
open Go.RowKit

def vrlw10 (X Y nt ct jj g og : Nat) (ts : Option Addr) (ge : Int) (Vs Vt Vf : Value) (c : (Value × Value × Value × Nat)) (i : Nat) : Value := match i with
  | 0 => Vs
  | 1 => (.pointer (some ⟨Y, 0 + 0, none⟩))
  | 2 => (.slice ts nt ct)
  | 3 => (.int .i64 (jj : Int))
  | 4 => (.pointer (some ⟨g, og + jj * 2, none⟩))
  | 5 => Vt
  | 6 => Vf
  | 7 => (.int .i64 (jj : Int))
  | 8 => (.pointer (some ⟨X, 0 + 0, none⟩))
  | 9 => (.int .i64 ge)
  | 10 => (.int .i64 (7 * ge))
  | 11 => (.int .i64 ((jj : Int) + 7 * ge))
  | 12 => (.tuple #[c.1, c.2.1, c.2.2.1])
  | 13 => (.tuple #[c.1, c.2.1, c.2.2.1])
  | 14 => c.1
  | 15 => c.2.1
  | 16 => c.2.2.1
  | 17 => (.pointer (some ⟨c.2.2.2, 0, none⟩))
  | 18 => undef
  | 19 => c.2.1
  | 20 => c.2.2.1
  | _ => undef
def rlw10T : List (Op × Option Tmp × Option (Nat × Bool)) := [
  (.load 83 (.tmp 7), some 63, none),
  (.fieldAddr 73 (.tmp 8) 0, some 64, none),
  (.load 71 (.tmp 64), some 65, none),
  (.move (.tmp 13), some 66, none),
  (.indexAddr 71 (.tmp 65) (.tmp 66), some 67, none),
  (.load 92 (.tmp 67), some 68, none),
  (.move (.tmp 14), some 69, none),
  (.move (.tmp 13), some 70, none),
  (.fieldAddr 83 (.tmp 7) 0, some 71, none),
  (.load 3 (.tmp 71), some 72, none),
  (.binOp .mul 3 (.const (.int .i64 7)) (.tmp 72) 3, some 73, none),
  (.binOp .add 3 (.tmp 70) (.tmp 73) 3, some 74, none),
  (.call { callee := .value (.func 50), args := #[(.tmp 63), (.tmp 68), (.tmp 69), (.tmp 74)], argTypes := #[83, 92, 22, 3] }, some 75, none),
  (.move (.tmp 75), some 62, none),
  (.extract (.tmp 62) 0, some 76, none),
  (.extract (.tmp 62) 1, some 77, none),
  (.extract (.tmp 62) 2, some 78, none),
  (.alloc 83, some 16, none),
  (.store 83 (.tmp 16) (.tmp 76), none, none),
  (.assign (.tmp 77), some 17, none),
  (.assign (.tmp 78), some 18, none)]
def rlw10D : List (Nat × Nat) := [(2, 1), (4, 2), (4, 3), (5, 4), (9, 8), (10, 9), (11, 7), (11, 10), (12, 0), (12, 5), (12, 6), (12, 11), (13, 12), (14, 13), (15, 13), (16, 13), (18, 14), (18, 17), (19, 15), (20, 16)]
set_option maxHeartbeats 4000000 in
theorem rlw10 {ops : Array Oper} {id : Nat} {Q : Exit → Act → World → Prop} (X Y nt ct jj g og : Nat) (ts : Option Addr) (ge : Int) (Vs Vt Vf : Value) (htab : ops.toList.map (fun o => (o.op, o.dst, o.guard)) = rlw10T) (hdep : deplB rlw10D ops = true) (hac : acB ops = true)
    (a0 : Act) (w : World) (hsz : 79 ≤ a0.tmps.size) (o7 : a0.tmps[7]? = some (.pointer (some ⟨X, 0, none⟩))) (o8 : a0.tmps[8]? = some (.pointer (some ⟨Y, 0, none⟩))) (o13 : a0.tmps[13]? = some (.int .i64 (jj : Int))) (o14 : a0.tmps[14]? = some Vf)
    (Wd : (Value × Value × Value × Nat) → (Nat → Bool) → World → Prop) (h0 : ∃ c, Wd c (fun _ => false) w.drew) (hpure : ∀ i, i ∉ ([12, 13, 14, 15, 16, 17, 18, 19, 20] : List Nat) → ∀ c L W, Wd c L W → Wd c (upd L i) W)
    (r0 : ∀ c L W, Wd c L W → L 0 = false → (Instr.loadAt 83 (.pointer (some ⟨X, 0, none⟩))).run Tryz.prog W = .ok Vs W)
    (r2 : ∀ c L W, Wd c L W → L 2 = false → L 1 = true → (Instr.loadAt 71 (.pointer (some ⟨Y, 0 + 0, none⟩))).run Tryz.prog W = .ok (.slice ts nt ct) W)
    (r4 : ∀ W, (Instr.indexAt 71 (.slice ts nt ct) (.int .i64 (jj : Int))).run Tryz.prog W = .ok (.pointer (some ⟨g, og + jj * 2, none⟩)) W)
    (r5 : ∀ c L W, Wd c L W → L 5 = false → L 4 = true → (Instr.loadAt 92 (.pointer (some ⟨g, og + jj * 2, none⟩))).run Tryz.prog W = .ok Vt W)
    (r9 : ∀ c L W, Wd c L W → L 9 = false → L 8 = true → (Instr.loadAt 3 (.pointer (some ⟨X, 0 + 0, none⟩))).run Tryz.prog W = .ok (.int .i64 ge) W)
    (r10 : ∀ W, (do eqGuard .mul 3 (.const (.int .i64 7)) (.tmp 72) (.int .i64 7) (.int .i64 ge); binOp .mul 3 (.int .i64 7) (.int .i64 ge)).run Tryz.prog W = .ok (.int .i64 (7 * ge)) W)
    (r11 : ∀ W, (do eqGuard .add 3 (.tmp 70) (.tmp 73) (.int .i64 (jj : Int)) (.int .i64 (7 * ge)); binOp .add 3 (.int .i64 (jj : Int)) (.int .i64 (7 * ge))).run Tryz.prog W = .ok (.int .i64 ((jj : Int) + 7 * ge)) W)
    (r12 : ∀ c L W, Wd c L W → L 12 = false → L 0 = true → L 5 = true → L 6 = true → L 11 = true → Calls Tryz.prog 50 #[Vs, Vt, Vf, (.int .i64 ((jj : Int) + 7 * ge))] W fun eg w' => ∃ c', (∀ j, L j = true → vrlw10 X Y nt ct jj g og ts ge Vs Vt Vf c' j = vrlw10 X Y nt ct jj g og ts ge Vs Vt Vf c j) ∧ eg = .returned (vrlw10 X Y nt ct jj g og ts ge Vs Vt Vf c' 12) ∧ Wd c' (upd L 12) w')
    (r13 : ∀ c L W, Wd c L W → L 13 = false → L 12 = true → Wd c (upd L 13) W)
    (r14 : ∀ (c : (Value × Value × Value × Nat)) W, (Instr.extract (.tuple #[c.1, c.2.1, c.2.2.1]) 0).run Tryz.prog W = .ok c.1 W)
    (e14 : ∀ c L W, Wd c L W → L 14 = false → L 13 = true → Wd c (upd L 14) W)
    (r15 : ∀ (c : (Value × Value × Value × Nat)) W, (Instr.extract (.tuple #[c.1, c.2.1, c.2.2.1]) 1).run Tryz.prog W = .ok c.2.1 W)
    (e15 : ∀ c L W, Wd c L W → L 15 = false → L 13 = true → Wd c (upd L 15) W)
    (r16 : ∀ (c : (Value × Value × Value × Nat)) W, (Instr.extract (.tuple #[c.1, c.2.1, c.2.2.1]) 2).run Tryz.prog W = .ok c.2.2.1 W)
    (e16 : ∀ c L W, Wd c L W → L 16 = false → L 13 = true → Wd c (upd L 16) W)
    (r17 : ∀ c L W, Wd c L W → L 17 = false → ∃ c' W', (∀ j, L j = true → vrlw10 X Y nt ct jj g og ts ge Vs Vt Vf c' j = vrlw10 X Y nt ct jj g og ts ge Vs Vt Vf c j) ∧ (Instr.alloc 83 true (.tuple #[])).run Tryz.prog W = .ok (vrlw10 X Y nt ct jj g og ts ge Vs Vt Vf c' 17) W' ∧ Wd c' (upd L 17) W')
    (r18 : ∀ c L W, Wd c L W → L 18 = false → L 14 = true → L 17 = true → ∃ W', (Instr.storeAt 83 (.pointer (some ⟨c.2.2.2, 0, none⟩)) c.1).run Tryz.prog W = .ok () W' ∧ Wd c (upd L 18) W')
    (r19 : ∀ c L W, Wd c L W → L 19 = false → L 15 = true → Wd c (upd L 19) W)
    (r20 : ∀ c L W, Wd c L W → L 20 = false → L 16 = true → Wd c (upd L 20) W)
    (hend : ∀ c L W, (∀ i, i < 21 → L i = true) → Wd c L W → Q .normal ((((((((((((((((((((a0.put (some 63) Vs).put (some 64) (.pointer (some ⟨Y, 0 + 0, none⟩))).put (some 65) (.slice ts nt ct)).put (some 66) (.int .i64 (jj : Int))).put (some 67) (.pointer (some ⟨g, og + jj * 2, none⟩))).put (some 68) Vt).put (some 69) Vf).put (some 70) (.int .i64 (jj : Int))).put (some 71) (.pointer (some ⟨X, 0 + 0, none⟩))).put (some 72) (.int .i64 ge)).put (some 73) (.int .i64 (7 * ge))).put (some 74) (.int .i64 ((jj : Int) + 7 * ge))).put (some 75) (.tuple #[c.1, c.2.1, c.2.2.1])).put (some 62) (.tuple #[c.1, c.2.1, c.2.2.1])).put (some 76) c.1).put (some 77) c.2.1).put (some 78) c.2.2.1).put (some 16) (.pointer (some ⟨c.2.2.2, 0, none⟩))).put (some 17) c.2.1).put (some 18) c.2.2.1) W) : (Code.region id ops true).wp Tryz.prog Q a0 w := by
  let val : (Value × Value × Value × Nat) → Nat → Value := vrlw10 X Y nt ct jj g og ts ge Vs Vt Vf
  have hosz : ops.size = 21 := by
    have := congrArg List.length htab
    simpa [rlw10T] using this
  have hds : ∀ i s, (rlw10T[i]?).bind (·.2.1) = some s → dstOf ops i = some s := fun i s hi => by rw [tab_dst htab, hi]
  have hdisB : disL rlw10T = true := by rfl
  have hdis := disL_of htab hdisB
  have hold : ∀ s, rlw10T.all (fun x => !(x.2.1 == some s)) = true → (List.range ops.size).all (fun j => !(dstOf ops j == some s)) = true := fun s h => holdL htab s h
  refine region_detX val Wd (hac_of hac) hdis h0 ?_ ?_
  rotate_left
  · intro c L W hall hW
    have := hend c L W (by rw [← hosz]; exact hall) hW
    have e : frm ops a0 (val c) (fun _ => true) ops.size = ((((((((((((((((((((a0.put (some 63) Vs).put (some 64) (.pointer (some ⟨Y, 0 + 0, none⟩))).put (some 65) (.slice ts nt ct)).put (some 66) (.int .i64 (jj : Int))).put (some 67) (.pointer (some ⟨g, og + jj * 2, none⟩))).put (some 68) Vt).put (some 69) Vf).put (some 70) (.int .i64 (jj : Int))).put (some 71) (.pointer (some ⟨X, 0 + 0, none⟩))).put (some 72) (.int .i64 ge)).put (some 73) (.int .i64 (7 * ge))).put (some 74) (.int .i64 ((jj : Int) + 7 * ge))).put (some 75) (.tuple #[c.1, c.2.1, c.2.2.1])).put (some 62) (.tuple #[c.1, c.2.1, c.2.2.1])).put (some 76) c.1).put (some 77) c.2.1).put (some 78) c.2.2.1).put (some 16) (.pointer (some ⟨c.2.2.2, 0, none⟩))).put (some 17) c.2.1).put (some 18) c.2.2.1) := by
      rw [hosz]
      simp only [frm, if_true]
      rw [tab_dst htab 0, tab_dst htab 1, tab_dst htab 2, tab_dst htab 3, tab_dst htab 4, tab_dst htab 5, tab_dst htab 6, tab_dst htab 7, tab_dst htab 8, tab_dst htab 9, tab_dst htab 10, tab_dst htab 11, tab_dst htab 12, tab_dst htab 13, tab_dst htab 14, tab_dst htab 15, tab_dst htab 16, tab_dst htab 17, (show dstOf ops 18 = none from (tab_dst htab 18).trans rfl), put_none, tab_dst htab 19, tab_dst htab 20]
      rfl
    rw [e]
    exact this
  intro i o ho c L a w' hL hd ha hW
  have hi : i < 21 := by rw [← hosz]; exact (Array.getElem?_eq_some_iff.1 ho).1
  match i, ho, hL, hi with
  | 0, ho, hL, _ =>
    obtain ⟨hop, hdst, hgd⟩ := tab_at htab ho (show rlw10T[0]? = _ from rfl)
    simp only at hop hgd
    have h0 := frm_old (val := val c) ha 7 _ (hold 7 rfl) o7
    exact doesX_of (doesL_run ho (wanted_none hgd) (hpure 0 (by decide) c L w' hW) (g_load hop (eval_of h0) (r0 c L w' hW hL)))
  | 1, ho, hL, _ =>
    obtain ⟨hop, hdst, hgd⟩ := tab_at htab ho (show rlw10T[1]? = _ from rfl)
    simp only at hop hgd
    have h0 := frm_old (val := val c) ha 8 _ (hold 8 rfl) o8
    exact doesX_of (doesL_run ho (wanted_none hgd) (hpure 1 (by decide) c L w' hW) (g_field hop (eval_of h0) (by kernel_rfl)))
  | 2, ho, hL, _ =>
    obtain ⟨hop, hdst, hgd⟩ := tab_at htab ho (show rlw10T[2]? = _ from rfl)
    simp only at hop hgd
    have h0 := frm_at (val := val c) hdis ha 1 64 (hds 1 64 rfl) (by omega) (depl_of hdep 2 1 (by decide) ho hd)
    exact doesX_of (doesL_run ho (wanted_none hgd) (hpure 2 (by decide) c L w' hW) (g_load hop (eval_of h0) (r2 c L w' hW hL (depl_of hdep 2 1 (by decide) ho hd))))
  | 3, ho, hL, _ =>
    obtain ⟨hop, hdst, hgd⟩ := tab_at htab ho (show rlw10T[3]? = _ from rfl)
    simp only at hop hgd
    have h0 := frm_old (val := val c) ha 13 _ (hold 13 rfl) o13
    exact doesX_of (doesL_run ho (wanted_none hgd) (hpure 3 (by decide) c L w' hW) (by rw [run_move _ _ _ hop]; exact congrArg (fun v => Result.ok (Next.value v) w') (eval_of h0)))
  | 4, ho, hL, _ =>
    obtain ⟨hop, hdst, hgd⟩ := tab_at htab ho (show rlw10T[4]? = _ from rfl)
    simp only at hop hgd
    have h0 := frm_at (val := val c) hdis ha 2 65 (hds 2 65 rfl) (by omega) (depl_of hdep 4 2 (by decide) ho hd)
    have h1 := frm_at (val := val c) hdis ha 3 66 (hds 3 66 rfl) (by omega) (depl_of hdep 4 3 (by decide) ho hd)
    exact doesX_of (doesL_run ho (wanted_none hgd) (hpure 4 (by decide) c L w' hW) (g_ixa hop (eval_of h0) (eval_of h1) (r4 w')))
  | 5, ho, hL, _ =>
    obtain ⟨hop, hdst, hgd⟩ := tab_at htab ho (show rlw10T[5]? = _ from rfl)
    simp only at hop hgd
    have h0 := frm_at (val := val c) hdis ha 4 67 (hds 4 67 rfl) (by omega) (depl_of hdep 5 4 (by decide) ho hd)
    exact doesX_of (doesL_run ho (wanted_none hgd) (hpure 5 (by decide) c L w' hW) (g_load hop (eval_of h0) (r5 c L w' hW hL (depl_of hdep 5 4 (by decide) ho hd))))
  | 6, ho, hL, _ =>
    obtain ⟨hop, hdst, hgd⟩ := tab_at htab ho (show rlw10T[6]? = _ from rfl)
    simp only at hop hgd
    have h0 := frm_old (val := val c) ha 14 _ (hold 14 rfl) o14
    exact doesX_of (doesL_run ho (wanted_none hgd) (hpure 6 (by decide) c L w' hW) (by rw [run_move _ _ _ hop]; exact congrArg (fun v => Result.ok (Next.value v) w') (eval_of h0)))
  | 7, ho, hL, _ =>
    obtain ⟨hop, hdst, hgd⟩ := tab_at htab ho (show rlw10T[7]? = _ from rfl)
    simp only at hop hgd
    have h0 := frm_old (val := val c) ha 13 _ (hold 13 rfl) o13
    exact doesX_of (doesL_run ho (wanted_none hgd) (hpure 7 (by decide) c L w' hW) (by rw [run_move _ _ _ hop]; exact congrArg (fun v => Result.ok (Next.value v) w') (eval_of h0)))
  | 8, ho, hL, _ =>
    obtain ⟨hop, hdst, hgd⟩ := tab_at htab ho (show rlw10T[8]? = _ from rfl)
    simp only at hop hgd
    have h0 := frm_old (val := val c) ha 7 _ (hold 7 rfl) o7
    exact doesX_of (doesL_run ho (wanted_none hgd) (hpure 8 (by decide) c L w' hW) (g_field hop (eval_of h0) (by kernel_rfl)))
  | 9, ho, hL, _ =>
    obtain ⟨hop, hdst, hgd⟩ := tab_at htab ho (show rlw10T[9]? = _ from rfl)
    simp only at hop hgd
    have h0 := frm_at (val := val c) hdis ha 8 71 (hds 8 71 rfl) (by omega) (depl_of hdep 9 8 (by decide) ho hd)
    exact doesX_of (doesL_run ho (wanted_none hgd) (hpure 9 (by decide) c L w' hW) (g_load hop (eval_of h0) (r9 c L w' hW hL (depl_of hdep 9 8 (by decide) ho hd))))
  | 10, ho, hL, _ =>
    obtain ⟨hop, hdst, hgd⟩ := tab_at htab ho (show rlw10T[10]? = _ from rfl)
    simp only at hop hgd
    have h1 := frm_at (val := val c) hdis ha 9 72 (hds 9 72 rfl) (by omega) (depl_of hdep 10 9 (by decide) ho hd)
    exact doesX_of (doesL_run ho (wanted_none hgd) (hpure 10 (by decide) c L w' hW) (g_bin hop rfl (eval_of h1) (r10 w')))
  | 11, ho, hL, _ =>
    obtain ⟨hop, hdst, hgd⟩ := tab_at htab ho (show rlw10T[11]? = _ from rfl)
    simp only at hop hgd
    have h0 := frm_at (val := val c) hdis ha 7 70 (hds 7 70 rfl) (by omega) (depl_of hdep 11 7 (by decide) ho hd)
    have h1 := frm_at (val := val c) hdis ha 10 73 (hds 10 73 rfl) (by omega) (depl_of hdep 11 10 (by decide) ho hd)
    exact doesX_of (doesL_run ho (wanted_none hgd) (hpure 11 (by decide) c L w' hW) (g_bin hop (eval_of h0) (eval_of h1) (r11 w')))
  | 12, ho, hL, _ =>
    obtain ⟨hop, hdst, hgd⟩ := tab_at htab ho (show rlw10T[12]? = _ from rfl)
    simp only at hop hgd
    have h0 := frm_at (val := val c) hdis ha 0 63 (hds 0 63 rfl) (by omega) (depl_of hdep 12 0 (by decide) ho hd)
    have h1 := frm_at (val := val c) hdis ha 5 68 (hds 5 68 rfl) (by omega) (depl_of hdep 12 5 (by decide) ho hd)
    have h2 := frm_at (val := val c) hdis ha 6 69 (hds 6 69 rfl) (by omega) (depl_of hdep 12 6 (by decide) ho hd)
    have h3 := frm_at (val := val c) hdis ha 11 74 (hds 11 74 rfl) (by omega) (depl_of hdep 12 11 (by decide) ho hd)
    refine doesX_call ho (wanted_none hgd) 50 #[Vs, Vt, Vf, (.int .i64 ((jj : Int) + 7 * ge))] ?_ (r12 c L w' hW hL (depl_of hdep 12 0 (by decide) ho hd) (depl_of hdep 12 5 (by decide) ho hd) (depl_of hdep 12 6 (by decide) ho hd) (depl_of hdep 12 11 (by decide) ho hd))
    rw [run_calls Tryz.func50 (by kernel_rfl) rfl _ _ _ _ hop rfl]
    simp only [List.map_toArray, List.map_cons, List.map_nil, eval_of h0, eval_of h1, eval_of h2, eval_of h3]
    all_goals rfl
  | 13, ho, hL, _ =>
    obtain ⟨hop, hdst, hgd⟩ := tab_at htab ho (show rlw10T[13]? = _ from rfl)
    simp only at hop hgd
    have h0 := frm_at (val := val c) hdis ha 12 75 (hds 12 75 rfl) (by omega) (depl_of hdep 13 12 (by decide) ho hd)
    exact doesX_of (doesL_run ho (wanted_none hgd) (r13 c L w' hW hL (depl_of hdep 13 12 (by decide) ho hd)) (by rw [run_move _ _ _ hop]; exact congrArg (fun v => Result.ok (Next.value v) w') (eval_of h0)))
  | 14, ho, hL, _ =>
    obtain ⟨hop, hdst, hgd⟩ := tab_at htab ho (show rlw10T[14]? = _ from rfl)
    simp only at hop hgd
    have h0 := frm_at (val := val c) hdis ha 13 62 (hds 13 62 rfl) (by omega) (depl_of hdep 14 13 (by decide) ho hd)
    exact doesX_of (doesL_run ho (wanted_none hgd) (e14 c L w' hW hL (depl_of hdep 14 13 (by decide) ho hd)) (g_ext hop (eval_of h0) (r14 c w')))
  | 15, ho, hL, _ =>
    obtain ⟨hop, hdst, hgd⟩ := tab_at htab ho (show rlw10T[15]? = _ from rfl)
    simp only at hop hgd
    have h0 := frm_at (val := val c) hdis ha 13 62 (hds 13 62 rfl) (by omega) (depl_of hdep 15 13 (by decide) ho hd)
    exact doesX_of (doesL_run ho (wanted_none hgd) (e15 c L w' hW hL (depl_of hdep 15 13 (by decide) ho hd)) (g_ext hop (eval_of h0) (r15 c w')))
  | 16, ho, hL, _ =>
    obtain ⟨hop, hdst, hgd⟩ := tab_at htab ho (show rlw10T[16]? = _ from rfl)
    simp only at hop hgd
    have h0 := frm_at (val := val c) hdis ha 13 62 (hds 13 62 rfl) (by omega) (depl_of hdep 16 13 (by decide) ho hd)
    exact doesX_of (doesL_run ho (wanted_none hgd) (e16 c L w' hW hL (depl_of hdep 16 13 (by decide) ho hd)) (g_ext hop (eval_of h0) (r16 c w')))
  | 17, ho, hL, _ =>
    obtain ⟨hop, hdst, hgd⟩ := tab_at htab ho (show rlw10T[17]? = _ from rfl)
    simp only at hop hgd
    obtain ⟨c', W', q0, q1, q2⟩ := r17 c L w' hW hL
    exact doesX_runw ho (wanted_none hgd) c' q0 q2 (g_alloc hop q1)
  | 18, ho, hL, _ =>
    obtain ⟨hop, hdst, hgd⟩ := tab_at htab ho (show rlw10T[18]? = _ from rfl)
    simp only at hop hgd
    have h0 := frm_at (val := val c) hdis ha 17 16 (hds 17 16 rfl) (by omega) (depl_of hdep 18 17 (by decide) ho hd)
    have h1 := frm_at (val := val c) hdis ha 14 76 (hds 14 76 rfl) (by omega) (depl_of hdep 18 14 (by decide) ho hd)
    obtain ⟨W', q1, q2⟩ := r18 c L w' hW hL (depl_of hdep 18 14 (by decide) ho hd) (depl_of hdep 18 17 (by decide) ho hd)
    exact doesX_of (doesL_skp ho (wanted_none hgd) rfl q2 (g_store hop (eval_of h0) (eval_of h1) q1))
  | 19, ho, hL, _ =>
    obtain ⟨hop, hdst, hgd⟩ := tab_at htab ho (show rlw10T[19]? = _ from rfl)
    simp only at hop hgd
    have h0 := frm_at (val := val c) hdis ha 15 77 (hds 15 77 rfl) (by omega) (depl_of hdep 19 15 (by decide) ho hd)
    exact doesX_of (doesL_run ho (wanted_none hgd) (r19 c L w' hW hL (depl_of hdep 19 15 (by decide) ho hd)) (by rw [run_assign _ _ _ hop]; exact congrArg (fun v => Result.ok (Next.value v) w') (eval_of h0)))
  | 20, ho, hL, _ =>
    obtain ⟨hop, hdst, hgd⟩ := tab_at htab ho (show rlw10T[20]? = _ from rfl)
    simp only at hop hgd
    have h0 := frm_at (val := val c) hdis ha 16 78 (hds 16 78 rfl) (by omega) (depl_of hdep 20 16 (by decide) ho hd)
    exact doesX_of (doesL_run ho (wanted_none hgd) (r20 c L w' hW hL (depl_of hdep 20 16 (by decide) ho hd)) (by rw [run_assign _ _ _ hop]; exact congrArg (fun v => Result.ok (Next.value v) w') (eval_of h0)))
  | (i + 21), ho, hL, hi => exact absurd hi (by omega)
end Go.Proofs.YtjopnhhdemfniaaGreatDoor
namespace Go.Proofs.YtjopnhhdemfniaaGreatDoor
open Go.RowKit
theorem run_len71 (ρ : Operand → Value) (o : Oper) (x : Operand) (ho : o.op = .call { callee := .builtin .len, args := #[x], argTypes := #[71] }) (a : Option Addr) (n c : Nat) (hx : ρ x = .slice a n c) (w : World) : (execOp ρ o).run Tryz.prog w = .ok (.value (.int .i64 (n : Int))) w := by
  unfold execOp
  simp only [ho, resolve, invoke, builtin]
  simp [hx, go_sem]
def vrls5 (g og nn cc jj kn kc tn tc : Nat) (ka ts : Option Addr) (mo v1 v2 v3 v4 v5 v6 v7 : Int) (_c : Unit) (i : Nat) : Value := match i with
  | 0 => (.int .i64 (mo : Int))
  | 1 => (.int .i64 (v1 : Int))
  | 2 => (.slice (some ⟨g, og, none⟩) nn cc)
  | 3 => (.int .i64 (jj : Int))
  | 4 => (.pointer (some ⟨g, og + jj * 3, none⟩))
  | 5 => (.pointer (some ⟨g, og + jj * 3 + 2, none⟩))
  | 6 => (.slice ka kn kc)
  | 7 => (.int .i64 (kn : Int))
  | 8 => (.int .i64 (v2 : Int))
  | 9 => (.int .i64 (v3 : Int))
  | 10 => (.slice (some ⟨g, og, none⟩) nn cc)
  | 11 => (.int .i64 (jj : Int))
  | 12 => (.pointer (some ⟨g, og + jj * 3, none⟩))
  | 13 => (.pointer (some ⟨g, og + jj * 3 + 0, none⟩))
  | 14 => (.slice ts tn tc)
  | 15 => (.int .i64 (tn : Int))
  | 16 => (.int .i64 (v4 : Int))
  | 17 => (.int .i64 (v5 : Int))
  | 18 => (.int .i64 (v6 : Int))
  | 19 => (.int .i64 (v7 : Int))
  | 20 => (.int .i64 (v7 : Int))
  | _ => undef
def rls5T : List (Op × Option Tmp × Option (Nat × Bool)) := [
  (.move (.tmp 9), some 45, none),
  (.call { callee := .value (.func 9), args := #[(.tmp 45), (.const (.int .i64 100000))], argTypes := #[3, 3] }, some 46, none),
  (.move (.tmp 3), some 47, none),
  (.move (.tmp 10), some 48, none),
  (.indexAddr 70 (.tmp 47) (.tmp 48), some 49, none),
  (.fieldAddr 73 (.tmp 49) 2, some 50, none),
  (.load 22 (.tmp 50), some 51, none),
  (.call { callee := .builtin .len, args := #[(.tmp 51)], argTypes := #[22] }, some 52, none),
  (.call { callee := .builtin .min, args := #[(.tmp 52), (.const (.int .i64 2147483647))], argTypes := #[3, 3] }, some 53, none),
  (.binOp .mul 3 (.const (.int .i64 8)) (.tmp 53) 3, some 54, none),
  (.move (.tmp 3), some 55, none),
  (.move (.tmp 10), some 56, none),
  (.indexAddr 70 (.tmp 55) (.tmp 56), some 57, none),
  (.fieldAddr 73 (.tmp 57) 0, some 58, none),
  (.load 71 (.tmp 58), some 59, none),
  (.call { callee := .builtin .len, args := #[(.tmp 59)], argTypes := #[71] }, some 60, none),
  (.call { callee := .builtin .min, args := #[(.tmp 60), (.const (.int .i64 2147483647))], argTypes := #[3, 3] }, some 61, none),
  (.binOp .mul 3 (.const (.int .i64 5000)) (.tmp 61) 3, some 62, none),
  (.call { callee := .value (.func 9), args := #[(.tmp 54), (.tmp 62)], argTypes := #[3, 3] }, some 63, none),
  (.call { callee := .value (.func 9), args := #[(.tmp 46), (.tmp 63)], argTypes := #[3, 3] }, some 64, none),
  (.assign (.tmp 64), some 9, none)]
def rls5D : List (Nat × Nat) := [(1, 0), (4, 2), (4, 3), (5, 4), (6, 5), (7, 6), (8, 7), (9, 8), (12, 10), (12, 11), (13, 12), (14, 13), (15, 14), (16, 15), (17, 16), (18, 9), (18, 17), (19, 1), (19, 18), (20, 19)]
set_option maxHeartbeats 4000000 in
theorem rls5 {ops : Array Oper} {id : Nat} {Q : Exit → Act → World → Prop} (g og nn cc jj kn kc tn tc : Nat) (ka ts : Option Addr) (mo v1 v2 v3 v4 v5 v6 v7 : Int) (htab : ops.toList.map (fun o => (o.op, o.dst, o.guard)) = rls5T) (hdep : deplB rls5D ops = true) (hac : acB ops = true)
    (a0 : Act) (w : World) (hsz : 65 ≤ a0.tmps.size) (o3 : a0.tmps[3]? = some (.slice (some ⟨g, og, none⟩) nn cc)) (o9 : a0.tmps[9]? = some (.int .i64 (mo : Int))) (o10 : a0.tmps[10]? = some (.int .i64 (jj : Int)))
    (Wd : Unit → (Nat → Bool) → World → Prop) (h0 : ∃ c, Wd c (fun _ => false) w.drew) (hpure : ∀ i, i ∉ ([1, 18, 19, 20] : List Nat) → ∀ c L W, Wd c L W → Wd c (upd L i) W)
    (e0 : ∀ c L W, Wd c L W → L 0 = false → L 20 = false)
    (r1 : ∀ c L W, Wd c L W → L 1 = false → L 0 = true → Calls Tryz.prog 9 #[(.int .i64 (mo : Int)), (.int .i64 100000)] W fun eg w' => ∃ c', (∀ j, L j = true → vrls5 g og nn cc jj kn kc tn tc ka ts mo v1 v2 v3 v4 v5 v6 v7 c' j = vrls5 g og nn cc jj kn kc tn tc ka ts mo v1 v2 v3 v4 v5 v6 v7 c j) ∧ eg = .returned (vrls5 g og nn cc jj kn kc tn tc ka ts mo v1 v2 v3 v4 v5 v6 v7 c' 1) ∧ Wd c' (upd L 1) w')
    (r4 : ∀ W, (Instr.indexAt 70 (.slice (some ⟨g, og, none⟩) nn cc) (.int .i64 (jj : Int))).run Tryz.prog W = .ok (.pointer (some ⟨g, og + jj * 3, none⟩)) W)
    (r6 : ∀ c L W, Wd c L W → L 6 = false → L 5 = true → (Instr.loadAt 22 (.pointer (some ⟨g, og + jj * 3 + 2, none⟩))).run Tryz.prog W = .ok (.slice ka kn kc) W)
    (r8 : ∀ T, ∀ W, (Builtin.min_ #[3, 3] T #[(.int .i64 (kn : Int)), (.int .i64 2147483647)]).run Tryz.prog W = .ok (.int .i64 (v2 : Int)) W)
    (r9 : ∀ W, (do eqGuard .mul 3 (.const (.int .i64 8)) (.tmp 53) (.int .i64 8) (.int .i64 (v2 : Int)); binOp .mul 3 (.int .i64 8) (.int .i64 (v2 : Int))).run Tryz.prog W = .ok (.int .i64 (v3 : Int)) W)
    (r12 : ∀ W, (Instr.indexAt 70 (.slice (some ⟨g, og, none⟩) nn cc) (.int .i64 (jj : Int))).run Tryz.prog W = .ok (.pointer (some ⟨g, og + jj * 3, none⟩)) W)
    (r14 : ∀ c L W, Wd c L W → L 14 = false → L 13 = true → (Instr.loadAt 71 (.pointer (some ⟨g, og + jj * 3 + 0, none⟩))).run Tryz.prog W = .ok (.slice ts tn tc) W)
    (r16 : ∀ T, ∀ W, (Builtin.min_ #[3, 3] T #[(.int .i64 (tn : Int)), (.int .i64 2147483647)]).run Tryz.prog W = .ok (.int .i64 (v4 : Int)) W)
    (r17 : ∀ W, (do eqGuard .mul 3 (.const (.int .i64 5000)) (.tmp 61) (.int .i64 5000) (.int .i64 (v4 : Int)); binOp .mul 3 (.int .i64 5000) (.int .i64 (v4 : Int))).run Tryz.prog W = .ok (.int .i64 (v5 : Int)) W)
    (r18 : ∀ c L W, Wd c L W → L 18 = false → L 9 = true → L 17 = true → Calls Tryz.prog 9 #[(.int .i64 (v3 : Int)), (.int .i64 (v5 : Int))] W fun eg w' => ∃ c', (∀ j, L j = true → vrls5 g og nn cc jj kn kc tn tc ka ts mo v1 v2 v3 v4 v5 v6 v7 c' j = vrls5 g og nn cc jj kn kc tn tc ka ts mo v1 v2 v3 v4 v5 v6 v7 c j) ∧ eg = .returned (vrls5 g og nn cc jj kn kc tn tc ka ts mo v1 v2 v3 v4 v5 v6 v7 c' 18) ∧ Wd c' (upd L 18) w')
    (r19 : ∀ c L W, Wd c L W → L 19 = false → L 1 = true → L 18 = true → Calls Tryz.prog 9 #[(.int .i64 (v1 : Int)), (.int .i64 (v6 : Int))] W fun eg w' => ∃ c', (∀ j, L j = true → vrls5 g og nn cc jj kn kc tn tc ka ts mo v1 v2 v3 v4 v5 v6 v7 c' j = vrls5 g og nn cc jj kn kc tn tc ka ts mo v1 v2 v3 v4 v5 v6 v7 c j) ∧ eg = .returned (vrls5 g og nn cc jj kn kc tn tc ka ts mo v1 v2 v3 v4 v5 v6 v7 c' 19) ∧ Wd c' (upd L 19) w')
    (r20 : ∀ c L W, Wd c L W → L 20 = false → L 19 = true → Wd c (upd L 20) W)
    (hend : ∀ c L W, (∀ i, i < 21 → L i = true) → Wd c L W → Q .normal (((((((((((((((((((((a0.put (some 45) (.int .i64 (mo : Int))).put (some 46) (.int .i64 (v1 : Int))).put (some 47) (.slice (some ⟨g, og, none⟩) nn cc)).put (some 48) (.int .i64 (jj : Int))).put (some 49) (.pointer (some ⟨g, og + jj * 3, none⟩))).put (some 50) (.pointer (some ⟨g, og + jj * 3 + 2, none⟩))).put (some 51) (.slice ka kn kc)).put (some 52) (.int .i64 (kn : Int))).put (some 53) (.int .i64 (v2 : Int))).put (some 54) (.int .i64 (v3 : Int))).put (some 55) (.slice (some ⟨g, og, none⟩) nn cc)).put (some 56) (.int .i64 (jj : Int))).put (some 57) (.pointer (some ⟨g, og + jj * 3, none⟩))).put (some 58) (.pointer (some ⟨g, og + jj * 3 + 0, none⟩))).put (some 59) (.slice ts tn tc)).put (some 60) (.int .i64 (tn : Int))).put (some 61) (.int .i64 (v4 : Int))).put (some 62) (.int .i64 (v5 : Int))).put (some 63) (.int .i64 (v6 : Int))).put (some 64) (.int .i64 (v7 : Int))).put (some 9) (.int .i64 (v7 : Int))) W) : (Code.region id ops true).wp Tryz.prog Q a0 w := by
  let val : Unit → Nat → Value := vrls5 g og nn cc jj kn kc tn tc ka ts mo v1 v2 v3 v4 v5 v6 v7
  have hosz : ops.size = 21 := by
    have := congrArg List.length htab
    simpa [rls5T] using this
  have hds : ∀ i s, (rls5T[i]?).bind (·.2.1) = some s → dstOf ops i = some s := fun i s hi => by rw [tab_dst htab, hi]
  have hdisB : disL rls5T = true := by rfl
  have hdis := disL_of htab hdisB
  have hold : ∀ s, rls5T.all (fun x => !(x.2.1 == some s)) = true → (List.range ops.size).all (fun j => !(dstOf ops j == some s)) = true := fun s h => holdL htab s h
  refine region_detX val Wd (hac_of hac) hdis h0 ?_ ?_
  rotate_left
  · intro c L W hall hW
    have := hend c L W (by rw [← hosz]; exact hall) hW
    have e : frm ops a0 (val c) (fun _ => true) ops.size = (((((((((((((((((((((a0.put (some 45) (.int .i64 (mo : Int))).put (some 46) (.int .i64 (v1 : Int))).put (some 47) (.slice (some ⟨g, og, none⟩) nn cc)).put (some 48) (.int .i64 (jj : Int))).put (some 49) (.pointer (some ⟨g, og + jj * 3, none⟩))).put (some 50) (.pointer (some ⟨g, og + jj * 3 + 2, none⟩))).put (some 51) (.slice ka kn kc)).put (some 52) (.int .i64 (kn : Int))).put (some 53) (.int .i64 (v2 : Int))).put (some 54) (.int .i64 (v3 : Int))).put (some 55) (.slice (some ⟨g, og, none⟩) nn cc)).put (some 56) (.int .i64 (jj : Int))).put (some 57) (.pointer (some ⟨g, og + jj * 3, none⟩))).put (some 58) (.pointer (some ⟨g, og + jj * 3 + 0, none⟩))).put (some 59) (.slice ts tn tc)).put (some 60) (.int .i64 (tn : Int))).put (some 61) (.int .i64 (v4 : Int))).put (some 62) (.int .i64 (v5 : Int))).put (some 63) (.int .i64 (v6 : Int))).put (some 64) (.int .i64 (v7 : Int))).put (some 9) (.int .i64 (v7 : Int))) := by
      rw [hosz]
      simp only [frm, if_true]
      rw [tab_dst htab 0, tab_dst htab 1, tab_dst htab 2, tab_dst htab 3, tab_dst htab 4, tab_dst htab 5, tab_dst htab 6, tab_dst htab 7, tab_dst htab 8, tab_dst htab 9, tab_dst htab 10, tab_dst htab 11, tab_dst htab 12, tab_dst htab 13, tab_dst htab 14, tab_dst htab 15, tab_dst htab 16, tab_dst htab 17, tab_dst htab 18, tab_dst htab 19, tab_dst htab 20]
      rfl
    rw [e]
    exact this
  intro i o ho c L a w' hL hd ha hW
  have hi : i < 21 := by rw [← hosz]; exact (Array.getElem?_eq_some_iff.1 ho).1
  match i, ho, hL, hi with
  | 0, ho, hL, _ =>
    obtain ⟨hop, hdst, hgd⟩ := tab_at htab ho (show rls5T[0]? = _ from rfl)
    simp only at hop hgd
    have h0 : a.tmps[9]? = some (.int .i64 (mo : Int)) := by rw [ha, frm_late a0 (val c) L 9 20 (e0 c L w' hW hL) ops.size (late_of htab (by rfl))]; exact o9
    exact doesX_of (doesL_run ho (wanted_none hgd) (hpure 0 (by decide) c L w' hW) (by rw [run_move _ _ _ hop]; exact congrArg (fun v => Result.ok (Next.value v) w') (eval_of h0)))
  | 1, ho, hL, _ =>
    obtain ⟨hop, hdst, hgd⟩ := tab_at htab ho (show rls5T[1]? = _ from rfl)
    simp only at hop hgd
    have h0 := frm_at (val := val c) hdis ha 0 45 (hds 0 45 rfl) (by omega) (depl_of hdep 1 0 (by decide) ho hd)
    refine doesX_call ho (wanted_none hgd) 9 #[(.int .i64 (mo : Int)), (.int .i64 100000)] ?_ (r1 c L w' hW hL (depl_of hdep 1 0 (by decide) ho hd))
    rw [run_calls Tryz.func9 (by kernel_rfl) rfl _ _ _ _ hop rfl]
    simp only [List.map_toArray, List.map_cons, List.map_nil, eval_of h0]
    all_goals rfl
  | 2, ho, hL, _ =>
    obtain ⟨hop, hdst, hgd⟩ := tab_at htab ho (show rls5T[2]? = _ from rfl)
    simp only at hop hgd
    have h0 := frm_old (val := val c) ha 3 _ (hold 3 rfl) o3
    exact doesX_of (doesL_run ho (wanted_none hgd) (hpure 2 (by decide) c L w' hW) (by rw [run_move _ _ _ hop]; exact congrArg (fun v => Result.ok (Next.value v) w') (eval_of h0)))
  | 3, ho, hL, _ =>
    obtain ⟨hop, hdst, hgd⟩ := tab_at htab ho (show rls5T[3]? = _ from rfl)
    simp only at hop hgd
    have h0 := frm_old (val := val c) ha 10 _ (hold 10 rfl) o10
    exact doesX_of (doesL_run ho (wanted_none hgd) (hpure 3 (by decide) c L w' hW) (by rw [run_move _ _ _ hop]; exact congrArg (fun v => Result.ok (Next.value v) w') (eval_of h0)))
  | 4, ho, hL, _ =>
    obtain ⟨hop, hdst, hgd⟩ := tab_at htab ho (show rls5T[4]? = _ from rfl)
    simp only at hop hgd
    have h0 := frm_at (val := val c) hdis ha 2 47 (hds 2 47 rfl) (by omega) (depl_of hdep 4 2 (by decide) ho hd)
    have h1 := frm_at (val := val c) hdis ha 3 48 (hds 3 48 rfl) (by omega) (depl_of hdep 4 3 (by decide) ho hd)
    exact doesX_of (doesL_run ho (wanted_none hgd) (hpure 4 (by decide) c L w' hW) (g_ixa hop (eval_of h0) (eval_of h1) (r4 w')))
  | 5, ho, hL, _ =>
    obtain ⟨hop, hdst, hgd⟩ := tab_at htab ho (show rls5T[5]? = _ from rfl)
    simp only at hop hgd
    have h0 := frm_at (val := val c) hdis ha 4 49 (hds 4 49 rfl) (by omega) (depl_of hdep 5 4 (by decide) ho hd)
    exact doesX_of (doesL_run ho (wanted_none hgd) (hpure 5 (by decide) c L w' hW) (g_field hop (eval_of h0) (by kernel_rfl)))
  | 6, ho, hL, _ =>
    obtain ⟨hop, hdst, hgd⟩ := tab_at htab ho (show rls5T[6]? = _ from rfl)
    simp only at hop hgd
    have h0 := frm_at (val := val c) hdis ha 5 50 (hds 5 50 rfl) (by omega) (depl_of hdep 6 5 (by decide) ho hd)
    exact doesX_of (doesL_run ho (wanted_none hgd) (hpure 6 (by decide) c L w' hW) (g_load hop (eval_of h0) (r6 c L w' hW hL (depl_of hdep 6 5 (by decide) ho hd))))
  | 7, ho, hL, _ =>
    obtain ⟨hop, hdst, hgd⟩ := tab_at htab ho (show rls5T[7]? = _ from rfl)
    simp only at hop hgd
    have h0 := frm_at (val := val c) hdis ha 6 51 (hds 6 51 rfl) (by omega) (depl_of hdep 7 6 (by decide) ho hd)
    exact doesX_of (doesL_run ho (wanted_none hgd) (hpure 7 (by decide) c L w' hW) (run_len22 _ _ _ hop _ _ _ (eval_of h0) _))
  | 8, ho, hL, _ =>
    obtain ⟨hop, hdst, hgd⟩ := tab_at htab ho (show rls5T[8]? = _ from rfl)
    simp only at hop hgd
    have h0 := frm_at (val := val c) hdis ha 7 52 (hds 7 52 rfl) (by omega) (depl_of hdep 8 7 (by decide) ho hd)
    exact doesX_of (doesL_run ho (wanted_none hgd) (hpure 8 (by decide) c L w' hW) (g_min hop (eval_of h0) rfl (r8 _ w')))
  | 9, ho, hL, _ =>
    obtain ⟨hop, hdst, hgd⟩ := tab_at htab ho (show rls5T[9]? = _ from rfl)
    simp only at hop hgd
    have h1 := frm_at (val := val c) hdis ha 8 53 (hds 8 53 rfl) (by omega) (depl_of hdep 9 8 (by decide) ho hd)
    exact doesX_of (doesL_run ho (wanted_none hgd) (hpure 9 (by decide) c L w' hW) (g_bin hop rfl (eval_of h1) (r9 w')))
  | 10, ho, hL, _ =>
    obtain ⟨hop, hdst, hgd⟩ := tab_at htab ho (show rls5T[10]? = _ from rfl)
    simp only at hop hgd
    have h0 := frm_old (val := val c) ha 3 _ (hold 3 rfl) o3
    exact doesX_of (doesL_run ho (wanted_none hgd) (hpure 10 (by decide) c L w' hW) (by rw [run_move _ _ _ hop]; exact congrArg (fun v => Result.ok (Next.value v) w') (eval_of h0)))
  | 11, ho, hL, _ =>
    obtain ⟨hop, hdst, hgd⟩ := tab_at htab ho (show rls5T[11]? = _ from rfl)
    simp only at hop hgd
    have h0 := frm_old (val := val c) ha 10 _ (hold 10 rfl) o10
    exact doesX_of (doesL_run ho (wanted_none hgd) (hpure 11 (by decide) c L w' hW) (by rw [run_move _ _ _ hop]; exact congrArg (fun v => Result.ok (Next.value v) w') (eval_of h0)))
  | 12, ho, hL, _ =>
    obtain ⟨hop, hdst, hgd⟩ := tab_at htab ho (show rls5T[12]? = _ from rfl)
    simp only at hop hgd
    have h0 := frm_at (val := val c) hdis ha 10 55 (hds 10 55 rfl) (by omega) (depl_of hdep 12 10 (by decide) ho hd)
    have h1 := frm_at (val := val c) hdis ha 11 56 (hds 11 56 rfl) (by omega) (depl_of hdep 12 11 (by decide) ho hd)
    exact doesX_of (doesL_run ho (wanted_none hgd) (hpure 12 (by decide) c L w' hW) (g_ixa hop (eval_of h0) (eval_of h1) (r12 w')))
  | 13, ho, hL, _ =>
    obtain ⟨hop, hdst, hgd⟩ := tab_at htab ho (show rls5T[13]? = _ from rfl)
    simp only at hop hgd
    have h0 := frm_at (val := val c) hdis ha 12 57 (hds 12 57 rfl) (by omega) (depl_of hdep 13 12 (by decide) ho hd)
    exact doesX_of (doesL_run ho (wanted_none hgd) (hpure 13 (by decide) c L w' hW) (g_field hop (eval_of h0) (by kernel_rfl)))
  | 14, ho, hL, _ =>
    obtain ⟨hop, hdst, hgd⟩ := tab_at htab ho (show rls5T[14]? = _ from rfl)
    simp only at hop hgd
    have h0 := frm_at (val := val c) hdis ha 13 58 (hds 13 58 rfl) (by omega) (depl_of hdep 14 13 (by decide) ho hd)
    exact doesX_of (doesL_run ho (wanted_none hgd) (hpure 14 (by decide) c L w' hW) (g_load hop (eval_of h0) (r14 c L w' hW hL (depl_of hdep 14 13 (by decide) ho hd))))
  | 15, ho, hL, _ =>
    obtain ⟨hop, hdst, hgd⟩ := tab_at htab ho (show rls5T[15]? = _ from rfl)
    simp only at hop hgd
    have h0 := frm_at (val := val c) hdis ha 14 59 (hds 14 59 rfl) (by omega) (depl_of hdep 15 14 (by decide) ho hd)
    exact doesX_of (doesL_run ho (wanted_none hgd) (hpure 15 (by decide) c L w' hW) (run_len71 _ _ _ hop _ _ _ (eval_of h0) _))
  | 16, ho, hL, _ =>
    obtain ⟨hop, hdst, hgd⟩ := tab_at htab ho (show rls5T[16]? = _ from rfl)
    simp only at hop hgd
    have h0 := frm_at (val := val c) hdis ha 15 60 (hds 15 60 rfl) (by omega) (depl_of hdep 16 15 (by decide) ho hd)
    exact doesX_of (doesL_run ho (wanted_none hgd) (hpure 16 (by decide) c L w' hW) (g_min hop (eval_of h0) rfl (r16 _ w')))
  | 17, ho, hL, _ =>
    obtain ⟨hop, hdst, hgd⟩ := tab_at htab ho (show rls5T[17]? = _ from rfl)
    simp only at hop hgd
    have h1 := frm_at (val := val c) hdis ha 16 61 (hds 16 61 rfl) (by omega) (depl_of hdep 17 16 (by decide) ho hd)
    exact doesX_of (doesL_run ho (wanted_none hgd) (hpure 17 (by decide) c L w' hW) (g_bin hop rfl (eval_of h1) (r17 w')))
  | 18, ho, hL, _ =>
    obtain ⟨hop, hdst, hgd⟩ := tab_at htab ho (show rls5T[18]? = _ from rfl)
    simp only at hop hgd
    have h0 := frm_at (val := val c) hdis ha 9 54 (hds 9 54 rfl) (by omega) (depl_of hdep 18 9 (by decide) ho hd)
    have h1 := frm_at (val := val c) hdis ha 17 62 (hds 17 62 rfl) (by omega) (depl_of hdep 18 17 (by decide) ho hd)
    refine doesX_call ho (wanted_none hgd) 9 #[(.int .i64 (v3 : Int)), (.int .i64 (v5 : Int))] ?_ (r18 c L w' hW hL (depl_of hdep 18 9 (by decide) ho hd) (depl_of hdep 18 17 (by decide) ho hd))
    rw [run_calls Tryz.func9 (by kernel_rfl) rfl _ _ _ _ hop rfl]
    simp only [List.map_toArray, List.map_cons, List.map_nil, eval_of h0, eval_of h1]
    all_goals rfl
  | 19, ho, hL, _ =>
    obtain ⟨hop, hdst, hgd⟩ := tab_at htab ho (show rls5T[19]? = _ from rfl)
    simp only at hop hgd
    have h0 := frm_at (val := val c) hdis ha 1 46 (hds 1 46 rfl) (by omega) (depl_of hdep 19 1 (by decide) ho hd)
    have h1 := frm_at (val := val c) hdis ha 18 63 (hds 18 63 rfl) (by omega) (depl_of hdep 19 18 (by decide) ho hd)
    refine doesX_call ho (wanted_none hgd) 9 #[(.int .i64 (v1 : Int)), (.int .i64 (v6 : Int))] ?_ (r19 c L w' hW hL (depl_of hdep 19 1 (by decide) ho hd) (depl_of hdep 19 18 (by decide) ho hd))
    rw [run_calls Tryz.func9 (by kernel_rfl) rfl _ _ _ _ hop rfl]
    simp only [List.map_toArray, List.map_cons, List.map_nil, eval_of h0, eval_of h1]
    all_goals rfl
  | 20, ho, hL, _ =>
    obtain ⟨hop, hdst, hgd⟩ := tab_at htab ho (show rls5T[20]? = _ from rfl)
    simp only at hop hgd
    have h0 := frm_at (val := val c) hdis ha 19 64 (hds 19 64 rfl) (by omega) (depl_of hdep 20 19 (by decide) ho hd)
    exact doesX_of (doesL_run ho (wanted_none hgd) (r20 c L w' hW hL (depl_of hdep 20 19 (by decide) ho hd)) (by rw [run_assign _ _ _ hop]; exact congrArg (fun v => Result.ok (Next.value v) w') (eval_of h0)))
  | (i + 21), ho, hL, hi => exact absurd hi (by omega)
def vrls41 (Dd Pp _X g og nn cc jj : Nat) (mm : Int) (Vs Vt : Value) (c : (Value × Value × Value × Nat × Nat)) (i : Nat) : Value := match i with
  | 0 => (.pointer (some ⟨Dd, 0, none⟩))
  | 1 => (.pointer (some ⟨Pp, 0, none⟩))
  | 2 => Vs
  | 3 => (.slice (some ⟨g, og, none⟩) nn cc)
  | 4 => (.int .i64 (jj : Int))
  | 5 => (.pointer (some ⟨g, og + jj * 3, none⟩))
  | 6 => Vt
  | 7 => (.int .i64 mm)
  | 8 => (.tuple #[c.1, c.2.1, c.2.2.1])
  | 9 => (.tuple #[c.1, c.2.1, c.2.2.1])
  | 10 => c.1
  | 11 => c.2.1
  | 12 => c.2.2.1
  | 13 => (.pointer (some ⟨c.2.2.2.1, 0, none⟩))
  | 14 => (.pointer (some ⟨c.2.2.2.2, 0, none⟩))
  | 15 => undef
  | 16 => undef
  | 17 => c.2.2.1
  | _ => undef
def rls41T : List (Op × Option Tmp × Option (Nat × Bool)) := [
  (.move (.tmp 13), some 174, none),
  (.move (.tmp 24), some 175, none),
  (.load 83 (.tmp 21), some 176, none),
  (.move (.tmp 3), some 177, none),
  (.move (.tmp 23), some 178, none),
  (.indexAddr 70 (.tmp 177) (.tmp 178), some 179, none),
  (.load 73 (.tmp 179), some 180, none),
  (.move (.tmp 12), some 181, none),
  (.call { callee := .value (.func 42), args := #[(.tmp 174), (.tmp 175), (.tmp 176), (.tmp 180), (.tmp 181)], argTypes := #[55, 57, 83, 73, 3] }, some 182, none),
  (.move (.tmp 182), some 173, none),
  (.extract (.tmp 173) 0, some 183, none),
  (.extract (.tmp 173) 1, some 184, none),
  (.extract (.tmp 173) 2, some 185, none),
  (.alloc 83, some 27, none),
  (.alloc 83, some 28, none),
  (.store 83 (.tmp 27) (.tmp 183), none, none),
  (.store 83 (.tmp 28) (.tmp 184), none, none),
  (.assign (.tmp 185), some 29, none)]
def rls41D : List (Nat × Nat) := [(5, 3), (5, 4), (6, 5), (8, 0), (8, 1), (8, 2), (8, 6), (8, 7), (9, 8), (10, 9), (11, 9), (12, 9), (15, 10), (15, 13), (16, 11), (16, 14), (17, 12)]
set_option maxHeartbeats 4000000 in
theorem rls41 {ops : Array Oper} {id : Nat} {Q : Exit → Act → World → Prop} (Dd Pp X g og nn cc jj : Nat) (mm : Int) (Vs Vt : Value) (htab : ops.toList.map (fun o => (o.op, o.dst, o.guard)) = rls41T) (hdep : deplB rls41D ops = true) (hac : acB ops = true)
    (a0 : Act) (w : World) (hsz : 186 ≤ a0.tmps.size) (o3 : a0.tmps[3]? = some (.slice (some ⟨g, og, none⟩) nn cc)) (o12 : a0.tmps[12]? = some (.int .i64 mm)) (o13 : a0.tmps[13]? = some (.pointer (some ⟨Dd, 0, none⟩))) (o21 : a0.tmps[21]? = some (.pointer (some ⟨X, 0, none⟩))) (o23 : a0.tmps[23]? = some (.int .i64 (jj : Int))) (o24 : a0.tmps[24]? = some (.pointer (some ⟨Pp, 0, none⟩)))
    (Wd : (Value × Value × Value × Nat × Nat) → (Nat → Bool) → World → Prop) (h0 : ∃ c, Wd c (fun _ => false) w.drew) (hpure : ∀ i, i ∉ ([8, 9, 10, 11, 12, 13, 14, 15, 16, 17] : List Nat) → ∀ c L W, Wd c L W → Wd c (upd L i) W)
    (r2 : ∀ c L W, Wd c L W → L 2 = false → (Instr.loadAt 83 (.pointer (some ⟨X, 0, none⟩))).run Tryz.prog W = .ok Vs W)
    (r5 : ∀ W, (Instr.indexAt 70 (.slice (some ⟨g, og, none⟩) nn cc) (.int .i64 (jj : Int))).run Tryz.prog W = .ok (.pointer (some ⟨g, og + jj * 3, none⟩)) W)
    (r6 : ∀ c L W, Wd c L W → L 6 = false → L 5 = true → (Instr.loadAt 73 (.pointer (some ⟨g, og + jj * 3, none⟩))).run Tryz.prog W = .ok Vt W)
    (r8 : ∀ c L W, Wd c L W → L 8 = false → L 0 = true → L 1 = true → L 2 = true → L 6 = true → L 7 = true → Calls Tryz.prog 42 #[(.pointer (some ⟨Dd, 0, none⟩)), (.pointer (some ⟨Pp, 0, none⟩)), Vs, Vt, (.int .i64 mm)] W fun eg w' => ∃ c', (∀ j, L j = true → vrls41 Dd Pp X g og nn cc jj mm Vs Vt c' j = vrls41 Dd Pp X g og nn cc jj mm Vs Vt c j) ∧ eg = .returned (vrls41 Dd Pp X g og nn cc jj mm Vs Vt c' 8) ∧ Wd c' (upd L 8) w')
    (r9 : ∀ c L W, Wd c L W → L 9 = false → L 8 = true → Wd c (upd L 9) W)
    (r10 : ∀ (c : (Value × Value × Value × Nat × Nat)) W, (Instr.extract (.tuple #[c.1, c.2.1, c.2.2.1]) 0).run Tryz.prog W = .ok c.1 W)
    (e10 : ∀ c L W, Wd c L W → L 10 = false → L 9 = true → Wd c (upd L 10) W)
    (r11 : ∀ (c : (Value × Value × Value × Nat × Nat)) W, (Instr.extract (.tuple #[c.1, c.2.1, c.2.2.1]) 1).run Tryz.prog W = .ok c.2.1 W)
    (e11 : ∀ c L W, Wd c L W → L 11 = false → L 9 = true → Wd c (upd L 11) W)
    (r12 : ∀ (c : (Value × Value × Value × Nat × Nat)) W, (Instr.extract (.tuple #[c.1, c.2.1, c.2.2.1]) 2).run Tryz.prog W = .ok c.2.2.1 W)
    (e12 : ∀ c L W, Wd c L W → L 12 = false → L 9 = true → Wd c (upd L 12) W)
    (r13 : ∀ c L W, Wd c L W → L 13 = false → ∃ c' W', (∀ j, L j = true → vrls41 Dd Pp X g og nn cc jj mm Vs Vt c' j = vrls41 Dd Pp X g og nn cc jj mm Vs Vt c j) ∧ (Instr.alloc 83 true (.tuple #[])).run Tryz.prog W = .ok (vrls41 Dd Pp X g og nn cc jj mm Vs Vt c' 13) W' ∧ Wd c' (upd L 13) W')
    (r14 : ∀ c L W, Wd c L W → L 14 = false → ∃ c' W', (∀ j, L j = true → vrls41 Dd Pp X g og nn cc jj mm Vs Vt c' j = vrls41 Dd Pp X g og nn cc jj mm Vs Vt c j) ∧ (Instr.alloc 83 true (.tuple #[])).run Tryz.prog W = .ok (vrls41 Dd Pp X g og nn cc jj mm Vs Vt c' 14) W' ∧ Wd c' (upd L 14) W')
    (r15 : ∀ c L W, Wd c L W → L 15 = false → L 10 = true → L 13 = true → ∃ W', (Instr.storeAt 83 (.pointer (some ⟨c.2.2.2.1, 0, none⟩)) c.1).run Tryz.prog W = .ok () W' ∧ Wd c (upd L 15) W')
    (r16 : ∀ c L W, Wd c L W → L 16 = false → L 11 = true → L 14 = true → ∃ W', (Instr.storeAt 83 (.pointer (some ⟨c.2.2.2.2, 0, none⟩)) c.2.1).run Tryz.prog W = .ok () W' ∧ Wd c (upd L 16) W')
    (r17 : ∀ c L W, Wd c L W → L 17 = false → L 12 = true → Wd c (upd L 17) W)
    (hend : ∀ c L W, (∀ i, i < 18 → L i = true) → Wd c L W → Q .normal ((((((((((((((((a0.put (some 174) (.pointer (some ⟨Dd, 0, none⟩))).put (some 175) (.pointer (some ⟨Pp, 0, none⟩))).put (some 176) Vs).put (some 177) (.slice (some ⟨g, og, none⟩) nn cc)).put (some 178) (.int .i64 (jj : Int))).put (some 179) (.pointer (some ⟨g, og + jj * 3, none⟩))).put (some 180) Vt).put (some 181) (.int .i64 mm)).put (some 182) (.tuple #[c.1, c.2.1, c.2.2.1])).put (some 173) (.tuple #[c.1, c.2.1, c.2.2.1])).put (some 183) c.1).put (some 184) c.2.1).put (some 185) c.2.2.1).put (some 27) (.pointer (some ⟨c.2.2.2.1, 0, none⟩))).put (some 28) (.pointer (some ⟨c.2.2.2.2, 0, none⟩))).put (some 29) c.2.2.1) W) : (Code.region id ops true).wp Tryz.prog Q a0 w := by
  let val : (Value × Value × Value × Nat × Nat) → Nat → Value := vrls41 Dd Pp X g og nn cc jj mm Vs Vt
  have hosz : ops.size = 18 := by
    have := congrArg List.length htab
    simpa [rls41T] using this
  have hds : ∀ i s, (rls41T[i]?).bind (·.2.1) = some s → dstOf ops i = some s := fun i s hi => by rw [tab_dst htab, hi]
  have hdisB : disL rls41T = true := by rfl
  have hdis := disL_of htab hdisB
  have hold : ∀ s, rls41T.all (fun x => !(x.2.1 == some s)) = true → (List.range ops.size).all (fun j => !(dstOf ops j == some s)) = true := fun s h => holdL htab s h
  refine region_detX val Wd (hac_of hac) hdis h0 ?_ ?_
  rotate_left
  · intro c L W hall hW
    have := hend c L W (by rw [← hosz]; exact hall) hW
    have e : frm ops a0 (val c) (fun _ => true) ops.size = ((((((((((((((((a0.put (some 174) (.pointer (some ⟨Dd, 0, none⟩))).put (some 175) (.pointer (some ⟨Pp, 0, none⟩))).put (some 176) Vs).put (some 177) (.slice (some ⟨g, og, none⟩) nn cc)).put (some 178) (.int .i64 (jj : Int))).put (some 179) (.pointer (some ⟨g, og + jj * 3, none⟩))).put (some 180) Vt).put (some 181) (.int .i64 mm)).put (some 182) (.tuple #[c.1, c.2.1, c.2.2.1])).put (some 173) (.tuple #[c.1, c.2.1, c.2.2.1])).put (some 183) c.1).put (some 184) c.2.1).put (some 185) c.2.2.1).put (some 27) (.pointer (some ⟨c.2.2.2.1, 0, none⟩))).put (some 28) (.pointer (some ⟨c.2.2.2.2, 0, none⟩))).put (some 29) c.2.2.1) := by
      rw [hosz]
      simp only [frm, if_true]
      rw [tab_dst htab 0, tab_dst htab 1, tab_dst htab 2, tab_dst htab 3, tab_dst htab 4, tab_dst htab 5, tab_dst htab 6, tab_dst htab 7, tab_dst htab 8, tab_dst htab 9, tab_dst htab 10, tab_dst htab 11, tab_dst htab 12, tab_dst htab 13, tab_dst htab 14, (show dstOf ops 15 = none from (tab_dst htab 15).trans rfl), put_none, (show dstOf ops 16 = none from (tab_dst htab 16).trans rfl), put_none, tab_dst htab 17]
      rfl
    rw [e]
    exact this
  intro i o ho c L a w' hL hd ha hW
  have hi : i < 18 := by rw [← hosz]; exact (Array.getElem?_eq_some_iff.1 ho).1
  match i, ho, hL, hi with
  | 0, ho, hL, _ =>
    obtain ⟨hop, hdst, hgd⟩ := tab_at htab ho (show rls41T[0]? = _ from rfl)
    simp only at hop hgd
    have h0 := frm_old (val := val c) ha 13 _ (hold 13 rfl) o13
    exact doesX_of (doesL_run ho (wanted_none hgd) (hpure 0 (by decide) c L w' hW) (by rw [run_move _ _ _ hop]; exact congrArg (fun v => Result.ok (Next.value v) w') (eval_of h0)))
  | 1, ho, hL, _ =>
    obtain ⟨hop, hdst, hgd⟩ := tab_at htab ho (show rls41T[1]? = _ from rfl)
    simp only at hop hgd
    have h0 := frm_old (val := val c) ha 24 _ (hold 24 rfl) o24
    exact doesX_of (doesL_run ho (wanted_none hgd) (hpure 1 (by decide) c L w' hW) (by rw [run_move _ _ _ hop]; exact congrArg (fun v => Result.ok (Next.value v) w') (eval_of h0)))
  | 2, ho, hL, _ =>
    obtain ⟨hop, hdst, hgd⟩ := tab_at htab ho (show rls41T[2]? = _ from rfl)
    simp only at hop hgd
    have h0 := frm_old (val := val c) ha 21 _ (hold 21 rfl) o21
    exact doesX_of (doesL_run ho (wanted_none hgd) (hpure 2 (by decide) c L w' hW) (g_load hop (eval_of h0) (r2 c L w' hW hL)))
  | 3, ho, hL, _ =>
    obtain ⟨hop, hdst, hgd⟩ := tab_at htab ho (show rls41T[3]? = _ from rfl)
    simp only at hop hgd
    have h0 := frm_old (val := val c) ha 3 _ (hold 3 rfl) o3
    exact doesX_of (doesL_run ho (wanted_none hgd) (hpure 3 (by decide) c L w' hW) (by rw [run_move _ _ _ hop]; exact congrArg (fun v => Result.ok (Next.value v) w') (eval_of h0)))
  | 4, ho, hL, _ =>
    obtain ⟨hop, hdst, hgd⟩ := tab_at htab ho (show rls41T[4]? = _ from rfl)
    simp only at hop hgd
    have h0 := frm_old (val := val c) ha 23 _ (hold 23 rfl) o23
    exact doesX_of (doesL_run ho (wanted_none hgd) (hpure 4 (by decide) c L w' hW) (by rw [run_move _ _ _ hop]; exact congrArg (fun v => Result.ok (Next.value v) w') (eval_of h0)))
  | 5, ho, hL, _ =>
    obtain ⟨hop, hdst, hgd⟩ := tab_at htab ho (show rls41T[5]? = _ from rfl)
    simp only at hop hgd
    have h0 := frm_at (val := val c) hdis ha 3 177 (hds 3 177 rfl) (by omega) (depl_of hdep 5 3 (by decide) ho hd)
    have h1 := frm_at (val := val c) hdis ha 4 178 (hds 4 178 rfl) (by omega) (depl_of hdep 5 4 (by decide) ho hd)
    exact doesX_of (doesL_run ho (wanted_none hgd) (hpure 5 (by decide) c L w' hW) (g_ixa hop (eval_of h0) (eval_of h1) (r5 w')))
  | 6, ho, hL, _ =>
    obtain ⟨hop, hdst, hgd⟩ := tab_at htab ho (show rls41T[6]? = _ from rfl)
    simp only at hop hgd
    have h0 := frm_at (val := val c) hdis ha 5 179 (hds 5 179 rfl) (by omega) (depl_of hdep 6 5 (by decide) ho hd)
    exact doesX_of (doesL_run ho (wanted_none hgd) (hpure 6 (by decide) c L w' hW) (g_load hop (eval_of h0) (r6 c L w' hW hL (depl_of hdep 6 5 (by decide) ho hd))))
  | 7, ho, hL, _ =>
    obtain ⟨hop, hdst, hgd⟩ := tab_at htab ho (show rls41T[7]? = _ from rfl)
    simp only at hop hgd
    have h0 := frm_old (val := val c) ha 12 _ (hold 12 rfl) o12
    exact doesX_of (doesL_run ho (wanted_none hgd) (hpure 7 (by decide) c L w' hW) (by rw [run_move _ _ _ hop]; exact congrArg (fun v => Result.ok (Next.value v) w') (eval_of h0)))
  | 8, ho, hL, _ =>
    obtain ⟨hop, hdst, hgd⟩ := tab_at htab ho (show rls41T[8]? = _ from rfl)
    simp only at hop hgd
    have h0 := frm_at (val := val c) hdis ha 0 174 (hds 0 174 rfl) (by omega) (depl_of hdep 8 0 (by decide) ho hd)
    have h1 := frm_at (val := val c) hdis ha 1 175 (hds 1 175 rfl) (by omega) (depl_of hdep 8 1 (by decide) ho hd)
    have h2 := frm_at (val := val c) hdis ha 2 176 (hds 2 176 rfl) (by omega) (depl_of hdep 8 2 (by decide) ho hd)
    have h3 := frm_at (val := val c) hdis ha 6 180 (hds 6 180 rfl) (by omega) (depl_of hdep 8 6 (by decide) ho hd)
    have h4 := frm_at (val := val c) hdis ha 7 181 (hds 7 181 rfl) (by omega) (depl_of hdep 8 7 (by decide) ho hd)
    refine doesX_call ho (wanted_none hgd) 42 #[(.pointer (some ⟨Dd, 0, none⟩)), (.pointer (some ⟨Pp, 0, none⟩)), Vs, Vt, (.int .i64 mm)] ?_ (r8 c L w' hW hL (depl_of hdep 8 0 (by decide) ho hd) (depl_of hdep 8 1 (by decide) ho hd) (depl_of hdep 8 2 (by decide) ho hd) (depl_of hdep 8 6 (by decide) ho hd) (depl_of hdep 8 7 (by decide) ho hd))
    rw [run_calls Tryz.func42 (by kernel_rfl) rfl _ _ _ _ hop rfl]
    simp only [List.map_toArray, List.map_cons, List.map_nil, eval_of h0, eval_of h1, eval_of h2, eval_of h3, eval_of h4]
    all_goals rfl
  | 9, ho, hL, _ =>
    obtain ⟨hop, hdst, hgd⟩ := tab_at htab ho (show rls41T[9]? = _ from rfl)
    simp only at hop hgd
    have h0 := frm_at (val := val c) hdis ha 8 182 (hds 8 182 rfl) (by omega) (depl_of hdep 9 8 (by decide) ho hd)
    exact doesX_of (doesL_run ho (wanted_none hgd) (r9 c L w' hW hL (depl_of hdep 9 8 (by decide) ho hd)) (by rw [run_move _ _ _ hop]; exact congrArg (fun v => Result.ok (Next.value v) w') (eval_of h0)))
  | 10, ho, hL, _ =>
    obtain ⟨hop, hdst, hgd⟩ := tab_at htab ho (show rls41T[10]? = _ from rfl)
    simp only at hop hgd
    have h0 := frm_at (val := val c) hdis ha 9 173 (hds 9 173 rfl) (by omega) (depl_of hdep 10 9 (by decide) ho hd)
    exact doesX_of (doesL_run ho (wanted_none hgd) (e10 c L w' hW hL (depl_of hdep 10 9 (by decide) ho hd)) (g_ext hop (eval_of h0) (r10 c w')))
  | 11, ho, hL, _ =>
    obtain ⟨hop, hdst, hgd⟩ := tab_at htab ho (show rls41T[11]? = _ from rfl)
    simp only at hop hgd
    have h0 := frm_at (val := val c) hdis ha 9 173 (hds 9 173 rfl) (by omega) (depl_of hdep 11 9 (by decide) ho hd)
    exact doesX_of (doesL_run ho (wanted_none hgd) (e11 c L w' hW hL (depl_of hdep 11 9 (by decide) ho hd)) (g_ext hop (eval_of h0) (r11 c w')))
  | 12, ho, hL, _ =>
    obtain ⟨hop, hdst, hgd⟩ := tab_at htab ho (show rls41T[12]? = _ from rfl)
    simp only at hop hgd
    have h0 := frm_at (val := val c) hdis ha 9 173 (hds 9 173 rfl) (by omega) (depl_of hdep 12 9 (by decide) ho hd)
    exact doesX_of (doesL_run ho (wanted_none hgd) (e12 c L w' hW hL (depl_of hdep 12 9 (by decide) ho hd)) (g_ext hop (eval_of h0) (r12 c w')))
  | 13, ho, hL, _ =>
    obtain ⟨hop, hdst, hgd⟩ := tab_at htab ho (show rls41T[13]? = _ from rfl)
    simp only at hop hgd
    obtain ⟨c', W', q0, q1, q2⟩ := r13 c L w' hW hL
    exact doesX_runw ho (wanted_none hgd) c' q0 q2 (g_alloc hop q1)
  | 14, ho, hL, _ =>
    obtain ⟨hop, hdst, hgd⟩ := tab_at htab ho (show rls41T[14]? = _ from rfl)
    simp only at hop hgd
    obtain ⟨c', W', q0, q1, q2⟩ := r14 c L w' hW hL
    exact doesX_runw ho (wanted_none hgd) c' q0 q2 (g_alloc hop q1)
  | 15, ho, hL, _ =>
    obtain ⟨hop, hdst, hgd⟩ := tab_at htab ho (show rls41T[15]? = _ from rfl)
    simp only at hop hgd
    have h0 := frm_at (val := val c) hdis ha 13 27 (hds 13 27 rfl) (by omega) (depl_of hdep 15 13 (by decide) ho hd)
    have h1 := frm_at (val := val c) hdis ha 10 183 (hds 10 183 rfl) (by omega) (depl_of hdep 15 10 (by decide) ho hd)
    obtain ⟨W', q1, q2⟩ := r15 c L w' hW hL (depl_of hdep 15 10 (by decide) ho hd) (depl_of hdep 15 13 (by decide) ho hd)
    exact doesX_of (doesL_skp ho (wanted_none hgd) rfl q2 (g_store hop (eval_of h0) (eval_of h1) q1))
  | 16, ho, hL, _ =>
    obtain ⟨hop, hdst, hgd⟩ := tab_at htab ho (show rls41T[16]? = _ from rfl)
    simp only at hop hgd
    have h0 := frm_at (val := val c) hdis ha 14 28 (hds 14 28 rfl) (by omega) (depl_of hdep 16 14 (by decide) ho hd)
    have h1 := frm_at (val := val c) hdis ha 11 184 (hds 11 184 rfl) (by omega) (depl_of hdep 16 11 (by decide) ho hd)
    obtain ⟨W', q1, q2⟩ := r16 c L w' hW hL (depl_of hdep 16 11 (by decide) ho hd) (depl_of hdep 16 14 (by decide) ho hd)
    exact doesX_of (doesL_skp ho (wanted_none hgd) rfl q2 (g_store hop (eval_of h0) (eval_of h1) q1))
  | 17, ho, hL, _ =>
    obtain ⟨hop, hdst, hgd⟩ := tab_at htab ho (show rls41T[17]? = _ from rfl)
    simp only at hop hgd
    have h0 := frm_at (val := val c) hdis ha 12 185 (hds 12 185 rfl) (by omega) (depl_of hdep 17 12 (by decide) ho hd)
    exact doesX_of (doesL_run ho (wanted_none hgd) (r17 c L w' hW hL (depl_of hdep 17 12 (by decide) ho hd)) (by rw [run_assign _ _ _ hop]; exact congrArg (fun v => Result.ok (Next.value v) w') (eval_of h0)))
  | (i + 18), ho, hL, hi => exact absurd hi (by omega)
end Go.Proofs.YtjopnhhdemfniaaGreatDoor
