import Derived.Test.YtpelmacblglhoaaRgka
namespace Go.Proofs.Ytpelmacblglhoaa
open Go.RowKit
def vkb (D gb cb : Nat) (bk za zb : Bs) (c : Nat × Nat) : Nat → Value := fun i => match i with
  | 0 => (.slice (some ⟨gb, 0, none⟩) 8 cb)
  | 1 => (.pointer (some ⟨gb, 0 + 2, none⟩))
  | 2 => (S ((za ++ ((bk.drop 64).take (128 - 64))) ++ zb))
  | 3 => (.slice (some ⟨c.1, 0, none⟩) 64 64)
  | 4 => (S za)
  | 5 => (S bk)
  | 6 => (S ((bk.drop 64).take (128 - 64)))
  | 7 => (S (za ++ ((bk.drop 64).take (128 - 64))))
  | 8 => (.slice (some ⟨c.2, 0, none⟩) 384 384)
  | 9 => (S zb)
  | 10 => (S ((za ++ ((bk.drop 64).take (128 - 64))) ++ zb))
  | 11 => (.bool true)
  | 12 => (.bool true)
  | 13 => (.pointer (some ⟨D, 0, none⟩))
  | 14 => (.bool false)
  | 15 => (.bool (!false))
  | 16 => (.bool true)
  | 17 => (.bool true)
  | _ => undef
def rkbT : List (Op × Option Tmp × Option (Nat × Bool)) := [
  (.move (.tmp 9), some 80, none),
  (.indexAddr 28 (.tmp 80) (.const (.int .i64 2)), some 81, none),
  (.load 9 (.tmp 81), some 82, none),
  (.makeSlice 63 (.const (.int .i64 64)) (.const (.int .i64 64)), some 83, none),
  (.convert 63 9 (.tmp 83), some 84, none),
  (.call { callee := .value (.func 20), args := #[(.const (.int .i64 5))], argTypes := #[3] }, some 85, none),
  (.slice 9 (.tmp 85) (some (.const (.int .i64 64))) (some (.const (.int .i64 128))) none, some 86, none),
  (.binOp .add 9 (.tmp 84) (.tmp 86) 9, some 87, none),
  (.makeSlice 63 (.const (.int .i64 384)) (.const (.int .i64 384)), some 88, none),
  (.convert 63 9 (.tmp 88), some 89, none),
  (.binOp .add 9 (.tmp 87) (.tmp 89) 9, some 90, none),
  (.binOp .eql 9 (.tmp 82) (.tmp 90) 9, some 91, none),
  (.move (.tmp 91), some 92, none),
  (.move (.tmp 1), some 93, some (12, true)),
  (.call { callee := .value (.func 16), args := #[(.tmp 93)], argTypes := #[37] }, some 94, some (12, true)),
  (.unOp .not 4 (.tmp 94), some 95, some (12, true)),
  (.pick (.tmp 92) (.tmp 95) (.const (.bool false)), some 96, none),
  (.assign (.tmp 96), some 0, none)]
def rkbD : List (Nat × Nat) := [(1, 0), (2, 1), (4, 3), (6, 5), (7, 4), (7, 6), (9, 8), (10, 7), (10, 9), (11, 2), (11, 10), (12, 11), (13, 12), (14, 12), (14, 13), (15, 12), (15, 14), (16, 12), (16, 15), (17, 16)]
set_option maxHeartbeats 2000000 in
theorem rkb {ops : Array Oper} {id : Nat} {Q : Exit → Act → World → Prop} (D gb cb : Nat) (bk za zb : Bs) (htab : ops.toList.map (fun o => (o.op, o.dst, o.guard)) = rkbT) (hdep : deplB rkbD ops = true) (hac : acB ops = true)
    (a0 : Act) (w : World) (hsz : 97 ≤ a0.tmps.size) (o1 : a0.tmps[1]? = some (.pointer (some ⟨D, 0, none⟩))) (o9 : a0.tmps[9]? = some (.slice (some ⟨gb, 0, none⟩) 8 cb))
    (Wd : Nat × Nat → (Nat → Bool) → World → Prop) (h0 : ∃ c, Wd c (fun _ => false) w.drew) (hpure : ∀ i, i ∉ ([3, 5, 8, 14] : List Nat) → ∀ c L W, Wd c L W → Wd c (upd L i) W)
    (i1 : 2 < 8)
    (l2 : ∀ c L W, Wd c L W → W.cell? ⟨gb, 0 + 2, none⟩ = some (S ((za ++ ((bk.drop 64).take (128 - 64))) ++ zb)))
    (n3 : ∀ c L W, Wd c L W → L 3 = false → ∃ c' W', (∀ j, L j = true → vkb D gb cb bk za zb c' j = vkb D gb cb bk za zb c j) ∧ (Instr.makeSlice 63 (.int .i64 64) (.int .i64 64)).run Try.prog W = .ok (.slice (some ⟨c'.1, 0, none⟩) 64 64) W' ∧ Wd c' (upd L 3) W')
    (l4 : ∀ c L W, Wd c L W → L 3 = true → (convert 63 9 (.slice (some ⟨c.1, 0, none⟩) 64 64)).run Try.prog W = .ok (S za) W)
    (c5 : ∀ c L W, Wd c L W → L 5 = false → Calls Try.prog 20 #[.int .i64 (5 : Int)] W fun e w' => e = .returned (S bk) ∧ Wd c (upd L 5) w')
    (s6 : 64 ≤ 128 ∧ 128 ≤ bk.length)
    (a7 : za.length + ((bk.drop 64).take (128 - 64)).length ≤ 1000000000000)
    (n8 : ∀ c L W, Wd c L W → L 8 = false → ∃ c' W', (∀ j, L j = true → vkb D gb cb bk za zb c' j = vkb D gb cb bk za zb c j) ∧ (Instr.makeSlice 63 (.int .i64 384) (.int .i64 384)).run Try.prog W = .ok (.slice (some ⟨c'.2, 0, none⟩) 384 384) W' ∧ Wd c' (upd L 8) W')
    (l9 : ∀ c L W, Wd c L W → L 8 = true → (convert 63 9 (.slice (some ⟨c.2, 0, none⟩) 384 384)).run Try.prog W = .ok (S zb) W)
    (a10 : (za ++ ((bk.drop 64).take (128 - 64))).length + zb.length ≤ 1000000000000)
    (c14 : ∀ c L W, Wd c L W → L 14 = false → Calls Try.prog 16 #[.pointer (some ⟨D, 0, none⟩)] W fun e w' => e = .returned (.bool false) ∧ Wd c (upd L 14) w')
    (hend : ∀ c L W, (∀ i, i < 18 → L i = true) → Wd c L W → Q .normal ((((((((((((((((((a0.put (some 80) (.slice (some ⟨gb, 0, none⟩) 8 cb)).put (some 81) (.pointer (some ⟨gb, 0 + 2, none⟩))).put (some 82) (S ((za ++ ((bk.drop 64).take (128 - 64))) ++ zb))).put (some 83) (.slice (some ⟨c.1, 0, none⟩) 64 64)).put (some 84) (S za)).put (some 85) (S bk)).put (some 86) (S ((bk.drop 64).take (128 - 64)))).put (some 87) (S (za ++ ((bk.drop 64).take (128 - 64))))).put (some 88) (.slice (some ⟨c.2, 0, none⟩) 384 384)).put (some 89) (S zb)).put (some 90) (S ((za ++ ((bk.drop 64).take (128 - 64))) ++ zb))).put (some 91) (.bool true)).put (some 92) (.bool true)).put (some 93) (.pointer (some ⟨D, 0, none⟩))).put (some 94) (.bool false)).put (some 95) (.bool (!false))).put (some 96) (.bool true)).put (some 0) (.bool true)) W) : (Code.region id ops true).wp Try.prog Q a0 w := by
  let val : Nat × Nat → Nat → Value := fun c i => match i with
    | 0 => (.slice (some ⟨gb, 0, none⟩) 8 cb)
    | 1 => (.pointer (some ⟨gb, 0 + 2, none⟩))
    | 2 => (S ((za ++ ((bk.drop 64).take (128 - 64))) ++ zb))
    | 3 => (.slice (some ⟨c.1, 0, none⟩) 64 64)
    | 4 => (S za)
    | 5 => (S bk)
    | 6 => (S ((bk.drop 64).take (128 - 64)))
    | 7 => (S (za ++ ((bk.drop 64).take (128 - 64))))
    | 8 => (.slice (some ⟨c.2, 0, none⟩) 384 384)
    | 9 => (S zb)
    | 10 => (S ((za ++ ((bk.drop 64).take (128 - 64))) ++ zb))
    | 11 => (.bool true)
    | 12 => (.bool true)
    | 13 => (.pointer (some ⟨D, 0, none⟩))
    | 14 => (.bool false)
    | 15 => (.bool (!false))
    | 16 => (.bool true)
    | 17 => (.bool true)
    | _ => undef
  have hosz : ops.size = 18 := by
    have := congrArg List.length htab
    simpa [rkbT] using this
  have hds : ∀ i s, (rkbT[i]?).bind (·.2.1) = some s → dstOf ops i = some s := fun i s hi => by rw [tab_dst htab, hi]
  have hdisB : disL rkbT = true := by rfl
  have hdis := disL_of htab hdisB
  have hold : ∀ s, rkbT.all (fun x => !(x.2.1 == some s)) = true → (List.range ops.size).all (fun j => !(dstOf ops j == some s)) = true := fun s h => holdL htab s h
  refine region_detX val Wd (hac_of hac) hdis h0 ?_ ?_
  rotate_left
  · intro c L W hall hW
    have := hend c L W (by rw [← hosz]; exact hall) hW
    have e : frm ops a0 (val c) (fun _ => true) ops.size = ((((((((((((((((((a0.put (some 80) (.slice (some ⟨gb, 0, none⟩) 8 cb)).put (some 81) (.pointer (some ⟨gb, 0 + 2, none⟩))).put (some 82) (S ((za ++ ((bk.drop 64).take (128 - 64))) ++ zb))).put (some 83) (.slice (some ⟨c.1, 0, none⟩) 64 64)).put (some 84) (S za)).put (some 85) (S bk)).put (some 86) (S ((bk.drop 64).take (128 - 64)))).put (some 87) (S (za ++ ((bk.drop 64).take (128 - 64))))).put (some 88) (.slice (some ⟨c.2, 0, none⟩) 384 384)).put (some 89) (S zb)).put (some 90) (S ((za ++ ((bk.drop 64).take (128 - 64))) ++ zb))).put (some 91) (.bool true)).put (some 92) (.bool true)).put (some 93) (.pointer (some ⟨D, 0, none⟩))).put (some 94) (.bool false)).put (some 95) (.bool (!false))).put (some 96) (.bool true)).put (some 0) (.bool true)) := by
      rw [hosz]
      simp only [frm, if_true]
      rw [tab_dst htab 0, tab_dst htab 1, tab_dst htab 2, tab_dst htab 3, tab_dst htab 4, tab_dst htab 5, tab_dst htab 6, tab_dst htab 7, tab_dst htab 8, tab_dst htab 9, tab_dst htab 10, tab_dst htab 11, tab_dst htab 12, tab_dst htab 13, tab_dst htab 14, tab_dst htab 15, tab_dst htab 16, tab_dst htab 17]
      rfl
    rw [e]
    exact this
  intro i o ho c L a w' hL hd ha hW
  have hi : i < 18 := by rw [← hosz]; exact (Array.getElem?_eq_some_iff.1 ho).1
  match i, ho, hL, hi with
  | 0, ho, hL, _ =>
    obtain ⟨hop, hdst, hgd⟩ := tab_at htab ho (show rkbT[0]? = _ from rfl)
    simp only at hop hgd
    have h0 := frm_old (val := val c) ha 9 _ (hold 9 rfl) o9
    exact doesX_of (doesL_run ho (wanted_none hgd) (hpure 0 (by decide) c L w' hW) (by rw [run_move _ _ _ hop]; exact congrArg (fun v => Result.ok (Next.value v) w') (eval_of h0)))
  | 1, ho, hL, _ =>
    obtain ⟨hop, hdst, hgd⟩ := tab_at htab ho (show rkbT[1]? = _ from rfl)
    simp only at hop hgd
    have h0 := frm_at (val := val c) hdis ha 0 80 (hds 0 80 rfl) (by omega) (depl_of hdep 1 0 (by decide) ho hd)
    exact doesX_of (doesL_run ho (wanted_none hgd) (hpure 1 (by decide) c L w' hW) (run_ia28 _ _ _ _ hop _ _ _ _ 2 i1 (eval_of h0) rfl _))
  | 2, ho, hL, _ =>
    obtain ⟨hop, hdst, hgd⟩ := tab_at htab ho (show rkbT[2]? = _ from rfl)
    simp only at hop hgd
    have h0 := frm_at (val := val c) hdis ha 1 81 (hds 1 81 rfl) (by omega) (depl_of hdep 2 1 (by decide) ho hd)
    exact doesX_of (doesL_run ho (wanted_none hgd) (hpure 2 (by decide) c L w' hW) (run_ld _ _ _ hop _ _ (eval_of h0) _ (l2 c L w' hW)))
  | 3, ho, hL, _ =>
    obtain ⟨hop, hdst, hgd⟩ := tab_at htab ho (show rkbT[3]? = _ from rfl)
    simp only at hop hgd
    obtain ⟨c', W', q0, q1, q2⟩ := n3 c L w' hW hL
    refine doesX_runw ho (wanted_none hgd) c' q0 q2 (run_mks _ _ _ _ _ hop _ _ rfl rfl _ _ _ q1)
  | 4, ho, hL, _ =>
    obtain ⟨hop, hdst, hgd⟩ := tab_at htab ho (show rkbT[4]? = _ from rfl)
    simp only at hop hgd
    have h0 := frm_at (val := val c) hdis ha 3 83 (hds 3 83 rfl) (by omega) (depl_of hdep 4 3 (by decide) ho hd)
    exact doesX_of (doesL_run ho (wanted_none hgd) (hpure 4 (by decide) c L w' hW) (run_cnv _ _ _ _ _ hop _ _ (eval_of h0) _ (l4 c L w' hW (depl_of hdep 4 3 (by decide) ho hd))))
  | 5, ho, hL, _ =>
    obtain ⟨hop, hdst, hgd⟩ := tab_at htab ho (show rkbT[5]? = _ from rfl)
    simp only at hop hgd
    refine doesX_of (doesL_call ho (wanted_none hgd) 20 #[.int .i64 (5 : Int)] ?_ (c5 c L w' hW hL))
    rw [run_calls Try.func20 (by kernel_rfl) rfl _ _ _ _ hop rfl]
    simp only [List.map_toArray, List.map_cons, List.map_nil, ]
    all_goals rfl
  | 6, ho, hL, _ =>
    obtain ⟨hop, hdst, hgd⟩ := tab_at htab ho (show rkbT[6]? = _ from rfl)
    simp only at hop hgd
    have h0 := frm_at (val := val c) hdis ha 5 85 (hds 5 85 rfl) (by omega) (depl_of hdep 6 5 (by decide) ho hd)
    exact doesX_of (doesL_run ho (wanted_none hgd) (hpure 6 (by decide) c L w' hW) (run_cut2 _ _ _ _ _ hop _ 64 128 (s6).1 (s6).2 (eval_of h0) rfl rfl _))
  | 7, ho, hL, _ =>
    obtain ⟨hop, hdst, hgd⟩ := tab_at htab ho (show rkbT[7]? = _ from rfl)
    simp only at hop hgd
    have h0 := frm_at (val := val c) hdis ha 4 84 (hds 4 84 rfl) (by omega) (depl_of hdep 7 4 (by decide) ho hd)
    have h1 := frm_at (val := val c) hdis ha 6 86 (hds 6 86 rfl) (by omega) (depl_of hdep 7 6 (by decide) ho hd)
    exact doesX_of (doesL_run ho (wanted_none hgd) (hpure 7 (by decide) c L w' hW) (run_cat _ _ _ _ hop _ _ a7 (eval_of h0) (eval_of h1) _))
  | 8, ho, hL, _ =>
    obtain ⟨hop, hdst, hgd⟩ := tab_at htab ho (show rkbT[8]? = _ from rfl)
    simp only at hop hgd
    obtain ⟨c', W', q0, q1, q2⟩ := n8 c L w' hW hL
    refine doesX_runw ho (wanted_none hgd) c' q0 q2 (run_mks _ _ _ _ _ hop _ _ rfl rfl _ _ _ q1)
  | 9, ho, hL, _ =>
    obtain ⟨hop, hdst, hgd⟩ := tab_at htab ho (show rkbT[9]? = _ from rfl)
    simp only at hop hgd
    have h0 := frm_at (val := val c) hdis ha 8 88 (hds 8 88 rfl) (by omega) (depl_of hdep 9 8 (by decide) ho hd)
    exact doesX_of (doesL_run ho (wanted_none hgd) (hpure 9 (by decide) c L w' hW) (run_cnv _ _ _ _ _ hop _ _ (eval_of h0) _ (l9 c L w' hW (depl_of hdep 9 8 (by decide) ho hd))))
  | 10, ho, hL, _ =>
    obtain ⟨hop, hdst, hgd⟩ := tab_at htab ho (show rkbT[10]? = _ from rfl)
    simp only at hop hgd
    have h0 := frm_at (val := val c) hdis ha 7 87 (hds 7 87 rfl) (by omega) (depl_of hdep 10 7 (by decide) ho hd)
    have h1 := frm_at (val := val c) hdis ha 9 89 (hds 9 89 rfl) (by omega) (depl_of hdep 10 9 (by decide) ho hd)
    exact doesX_of (doesL_run ho (wanted_none hgd) (hpure 10 (by decide) c L w' hW) (run_cat _ _ _ _ hop _ _ a10 (eval_of h0) (eval_of h1) _))
  | 11, ho, hL, _ =>
    obtain ⟨hop, hdst, hgd⟩ := tab_at htab ho (show rkbT[11]? = _ from rfl)
    simp only at hop hgd
    have h0 := frm_at (val := val c) hdis ha 2 82 (hds 2 82 rfl) (by omega) (depl_of hdep 11 2 (by decide) ho hd)
    have h1 := frm_at (val := val c) hdis ha 10 90 (hds 10 90 rfl) (by omega) (depl_of hdep 11 10 (by decide) ho hd)
    exact doesX_of (doesL_run ho (wanted_none hgd) (hpure 11 (by decide) c L w' hW) (run_strsame _ _ _ _ _ _ hop _ (eval_of h0) (eval_of h1) _))
  | 12, ho, hL, _ =>
    obtain ⟨hop, hdst, hgd⟩ := tab_at htab ho (show rkbT[12]? = _ from rfl)
    simp only at hop hgd
    have h0 := frm_at (val := val c) hdis ha 11 91 (hds 11 91 rfl) (by omega) (depl_of hdep 12 11 (by decide) ho hd)
    exact doesX_of (doesL_run ho (wanted_none hgd) (hpure 12 (by decide) c L w' hW) (by rw [run_move _ _ _ hop]; exact congrArg (fun v => Result.ok (Next.value v) w') (eval_of h0)))
  | 13, ho, hL, _ =>
    obtain ⟨hop, hdst, hgd⟩ := tab_at htab ho (show rkbT[13]? = _ from rfl)
    simp only at hop hgd
    have hg := frm_at (val := val c) hdis ha 12 92 (hds 12 92 rfl) (by omega) (depl_of hdep 13 12 (by decide) ho hd)
    have h0 := frm_old (val := val c) ha 1 _ (hold 1 rfl) o1
    exact doesX_of (doesL_run ho (wanted_at (b := true) hgd (hds 12 92 rfl) hg) (hpure 13 (by decide) c L w' hW) (by rw [run_move _ _ _ hop]; exact congrArg (fun v => Result.ok (Next.value v) w') (eval_of h0)))
  | 14, ho, hL, _ =>
    obtain ⟨hop, hdst, hgd⟩ := tab_at htab ho (show rkbT[14]? = _ from rfl)
    simp only at hop hgd
    have hg := frm_at (val := val c) hdis ha 12 92 (hds 12 92 rfl) (by omega) (depl_of hdep 14 12 (by decide) ho hd)
    have h0 := frm_at (val := val c) hdis ha 13 93 (hds 13 93 rfl) (by omega) (depl_of hdep 14 13 (by decide) ho hd)
    refine doesX_of (doesL_call ho (wanted_at (b := true) hgd (hds 12 92 rfl) hg) 16 #[.pointer (some ⟨D, 0, none⟩)] ?_ (c14 c L w' hW hL))
    rw [run_calls Try.func16 (by kernel_rfl) rfl _ _ _ _ hop rfl]
    simp only [List.map_toArray, List.map_cons, List.map_nil, eval_of h0]
    all_goals rfl
  | 15, ho, hL, _ =>
    obtain ⟨hop, hdst, hgd⟩ := tab_at htab ho (show rkbT[15]? = _ from rfl)
    simp only at hop hgd
    have hg := frm_at (val := val c) hdis ha 12 92 (hds 12 92 rfl) (by omega) (depl_of hdep 15 12 (by decide) ho hd)
    have h0 := frm_at (val := val c) hdis ha 14 94 (hds 14 94 rfl) (by omega) (depl_of hdep 15 14 (by decide) ho hd)
    exact doesX_of (doesL_run ho (wanted_at (b := true) hgd (hds 12 92 rfl) hg) (hpure 15 (by decide) c L w' hW) (run_not _ _ _ _ hop _ (eval_of h0) _))
  | 16, ho, hL, _ =>
    obtain ⟨hop, hdst, hgd⟩ := tab_at htab ho (show rkbT[16]? = _ from rfl)
    simp only at hop hgd
    have h0 := frm_at (val := val c) hdis ha 12 92 (hds 12 92 rfl) (by omega) (depl_of hdep 16 12 (by decide) ho hd)
    have h1 := frm_at (val := val c) hdis ha 15 95 (hds 15 95 rfl) (by omega) (depl_of hdep 16 15 (by decide) ho hd)
    exact doesX_of (doesL_run ho (wanted_none hgd) (hpure 16 (by decide) c L w' hW) (by rw [run_pick _ _ _ _ _ hop true (eval_of h0)]; exact congrArg (fun v => Result.ok (Next.value v) w') (eval_of h1)))
  | 17, ho, hL, _ =>
    obtain ⟨hop, hdst, hgd⟩ := tab_at htab ho (show rkbT[17]? = _ from rfl)
    simp only at hop hgd
    have h0 := frm_at (val := val c) hdis ha 16 96 (hds 16 96 rfl) (by omega) (depl_of hdep 17 16 (by decide) ho hd)
    exact doesX_of (doesL_run ho (wanted_none hgd) (hpure 17 (by decide) c L w' hW) (by rw [run_assign _ _ _ hop]; exact congrArg (fun v => Result.ok (Next.value v) w') (eval_of h0)))
  | (i + 18), ho, hL, hi => exact absurd hi (by omega)
end Go.Proofs.Ytpelmacblglhoaa
