import Derived.Test.YtbeionikiiccpaaDoorGoq
namespace Go.Proofs.YtbeionikiiccpaaDoor
open Go.RowKit
def vrpa16 (X p ck : Bs) (vb : Bool) (_c : Unit) (i : Nat) : Value := match i with
  | 0 => (S X)
  | 1 => (S (X.drop 32))
  | 2 => (S p)
  | 3 => (S X)
  | 4 => (S (X.take 32))
  | 5 => (S (p ++ X.take 32))
  | 6 => (S ck)
  | 7 => (.bool vb)
  | _ => undef
def rpa16T : List (Op × Option Tmp × Option (Nat × Bool)) := [
  (.move (.tmp 10), some 53, none),
  (.slice 9 (.tmp 53) (some (.const (.int .i64 32))) none none, some 54, none),
  (.move (.tmp 7), some 55, none),
  (.move (.tmp 10), some 56, none),
  (.slice 9 (.tmp 56) none (some (.const (.int .i64 32))) none, some 57, none),
  (.binOp .add 9 (.tmp 55) (.tmp 57) 9, some 58, none),
  (.call { callee := .value (.func 22), args := #[(.tmp 58)], argTypes := #[9] }, some 59, none),
  (.binOp .neq 9 (.tmp 54) (.tmp 59) 9, some 60, none)]
def rpa16D : List (Nat × Nat) := [(1, 0), (4, 3), (5, 2), (5, 4), (6, 5), (7, 1), (7, 6)]
set_option maxHeartbeats 4000000 in
theorem rpa16 {ops : Array Oper} {id : Nat} {Q : Exit → Act → World → Prop} (X p ck : Bs) (vb : Bool) (htab : ops.toList.map (fun o => (o.op, o.dst, o.guard)) = rpa16T) (hdep : deplB rpa16D ops = true) (hac : acB ops = true)
    (a0 : Act) (w : World) (hsz : 61 ≤ a0.tmps.size) (o7 : a0.tmps[7]? = some (S p)) (o10 : a0.tmps[10]? = some (S X))
    (Wd : Unit → (Nat → Bool) → World → Prop) (h0 : ∃ c, Wd c (fun _ => false) w.drew) (hpure : ∀ i, i ∉ ([6] : List Nat) → ∀ c L W, Wd c L W → Wd c (upd L i) W)
    (r1 : ∀ W, (Instr.sliceAt 9 (S X) (some (.int .i64 32)) none none).run Tryd.prog W = .ok (S (X.drop 32)) W)
    (r4 : ∀ W, (Instr.sliceAt 9 (S X) none (some (.int .i64 32)) none).run Tryd.prog W = .ok (S (X.take 32)) W)
    (r5 : ∀ W, (do eqGuard .add 9 (.tmp 55) (.tmp 57) (S p) (S (X.take 32)); binOp .add 9 (S p) (S (X.take 32))).run Tryd.prog W = .ok (S (p ++ X.take 32)) W)
    (r6 : ∀ c L W, Wd c L W → L 6 = false → L 5 = true → Calls Tryd.prog 22 #[(S (p ++ X.take 32))] W fun eg w' => ∃ c', (∀ j, L j = true → vrpa16 X p ck vb c' j = vrpa16 X p ck vb c j) ∧ eg = .returned (vrpa16 X p ck vb c' 6) ∧ Wd c' (upd L 6) w')
    (r7 : ∀ W, (do eqGuard .neq 9 (.tmp 54) (.tmp 59) (S (X.drop 32)) (S ck); binOp .neq 9 (S (X.drop 32)) (S ck)).run Tryd.prog W = .ok (.bool vb) W)
    (hend : ∀ c L W, (∀ i, i < 8 → L i = true) → Wd c L W → Q .normal ((((((((a0.put (some 53) (S X)).put (some 54) (S (X.drop 32))).put (some 55) (S p)).put (some 56) (S X)).put (some 57) (S (X.take 32))).put (some 58) (S (p ++ X.take 32))).put (some 59) (S ck)).put (some 60) (.bool vb)) W) : (Code.region id ops true).wp Tryd.prog Q a0 w := by
  let val : Unit → Nat → Value := vrpa16 X p ck vb
  have hosz : ops.size = 8 := by
    have := congrArg List.length htab
    simpa [rpa16T] using this
  have hds : ∀ i s, (rpa16T[i]?).bind (·.2.1) = some s → dstOf ops i = some s := fun i s hi => by rw [tab_dst htab, hi]
  have hdisB : disL rpa16T = true := by rfl
  have hdis := disL_of htab hdisB
  have hold : ∀ s, rpa16T.all (fun x => !(x.2.1 == some s)) = true → (List.range ops.size).all (fun j => !(dstOf ops j == some s)) = true := fun s h => holdL htab s h
  refine region_detX val Wd (hac_of hac) hdis h0 ?_ ?_
  rotate_left
  · intro c L W hall hW
    have := hend c L W (by rw [← hosz]; exact hall) hW
    have e : frm ops a0 (val c) (fun _ => true) ops.size = ((((((((a0.put (some 53) (S X)).put (some 54) (S (X.drop 32))).put (some 55) (S p)).put (some 56) (S X)).put (some 57) (S (X.take 32))).put (some 58) (S (p ++ X.take 32))).put (some 59) (S ck)).put (some 60) (.bool vb)) := by
      rw [hosz]
      simp only [frm, if_true]
      rw [tab_dst htab 0, tab_dst htab 1, tab_dst htab 2, tab_dst htab 3, tab_dst htab 4, tab_dst htab 5, tab_dst htab 6, tab_dst htab 7]
      rfl
    rw [e]
    exact this
  intro i o ho c L a w' hL hd ha hW
  have hi : i < 8 := by rw [← hosz]; exact (Array.getElem?_eq_some_iff.1 ho).1
  match i, ho, hL, hi with
  | 0, ho, hL, _ =>
    obtain ⟨hop, hdst, hgd⟩ := tab_at htab ho (show rpa16T[0]? = _ from rfl)
    simp only at hop hgd
    have h0 := frm_old (val := val c) ha 10 _ (hold 10 rfl) o10
    exact doesX_of (doesL_run ho (wanted_none hgd) (hpure 0 (by decide) c L w' hW) (by rw [run_move _ _ _ hop]; exact congrArg (fun v => Result.ok (Next.value v) w') (eval_of h0)))
  | 1, ho, hL, _ =>
    obtain ⟨hop, hdst, hgd⟩ := tab_at htab ho (show rpa16T[1]? = _ from rfl)
    simp only at hop hgd
    have h0 := frm_at (val := val c) hdis ha 0 53 (hds 0 53 rfl) (by omega) (depl_of hdep 1 0 (by decide) ho hd)
    exact doesX_of (doesL_run ho (wanted_none hgd) (hpure 1 (by decide) c L w' hW) (g_sl hop (eval_of h0) (congrArg some rfl) rfl rfl (r1 w')))
  | 2, ho, hL, _ =>
    obtain ⟨hop, hdst, hgd⟩ := tab_at htab ho (show rpa16T[2]? = _ from rfl)
    simp only at hop hgd
    have h0 := frm_old (val := val c) ha 7 _ (hold 7 rfl) o7
    exact doesX_of (doesL_run ho (wanted_none hgd) (hpure 2 (by decide) c L w' hW) (by rw [run_move _ _ _ hop]; exact congrArg (fun v => Result.ok (Next.value v) w') (eval_of h0)))
  | 3, ho, hL, _ =>
    obtain ⟨hop, hdst, hgd⟩ := tab_at htab ho (show rpa16T[3]? = _ from rfl)
    simp only at hop hgd
    have h0 := frm_old (val := val c) ha 10 _ (hold 10 rfl) o10
    exact doesX_of (doesL_run ho (wanted_none hgd) (hpure 3 (by decide) c L w' hW) (by rw [run_move _ _ _ hop]; exact congrArg (fun v => Result.ok (Next.value v) w') (eval_of h0)))
  | 4, ho, hL, _ =>
    obtain ⟨hop, hdst, hgd⟩ := tab_at htab ho (show rpa16T[4]? = _ from rfl)
    simp only at hop hgd
    have h0 := frm_at (val := val c) hdis ha 3 56 (hds 3 56 rfl) (by omega) (depl_of hdep 4 3 (by decide) ho hd)
    exact doesX_of (doesL_run ho (wanted_none hgd) (hpure 4 (by decide) c L w' hW) (g_sl hop (eval_of h0) rfl (congrArg some rfl) rfl (r4 w')))
  | 5, ho, hL, _ =>
    obtain ⟨hop, hdst, hgd⟩ := tab_at htab ho (show rpa16T[5]? = _ from rfl)
    simp only at hop hgd
    have h0 := frm_at (val := val c) hdis ha 2 55 (hds 2 55 rfl) (by omega) (depl_of hdep 5 2 (by decide) ho hd)
    have h1 := frm_at (val := val c) hdis ha 4 57 (hds 4 57 rfl) (by omega) (depl_of hdep 5 4 (by decide) ho hd)
    exact doesX_of (doesL_run ho (wanted_none hgd) (hpure 5 (by decide) c L w' hW) (g_bin hop (eval_of h0) (eval_of h1) (r5 w')))
  | 6, ho, hL, _ =>
    obtain ⟨hop, hdst, hgd⟩ := tab_at htab ho (show rpa16T[6]? = _ from rfl)
    simp only at hop hgd
    have h0 := frm_at (val := val c) hdis ha 5 58 (hds 5 58 rfl) (by omega) (depl_of hdep 6 5 (by decide) ho hd)
    refine doesX_call ho (wanted_none hgd) 22 #[(S (p ++ X.take 32))] ?_ (r6 c L w' hW hL (depl_of hdep 6 5 (by decide) ho hd))
    rw [run_calls Tryd.func22 (by kernel_rfl) rfl _ _ _ _ hop rfl]
    simp only [List.map_toArray, List.map_cons, List.map_nil, eval_of h0]
    all_goals rfl
  | 7, ho, hL, _ =>
    obtain ⟨hop, hdst, hgd⟩ := tab_at htab ho (show rpa16T[7]? = _ from rfl)
    simp only at hop hgd
    have h0 := frm_at (val := val c) hdis ha 1 54 (hds 1 54 rfl) (by omega) (depl_of hdep 7 1 (by decide) ho hd)
    have h1 := frm_at (val := val c) hdis ha 6 59 (hds 6 59 rfl) (by omega) (depl_of hdep 7 6 (by decide) ho hd)
    exact doesX_of (doesL_run ho (wanted_none hgd) (hpure 7 (by decide) c L w' hW) (g_bin hop (eval_of h0) (eval_of h1) (r7 w')))
  | (i + 8), ho, hL, hi => exact absurd hi (by omega)
end Go.Proofs.YtbeionikiiccpaaDoor
