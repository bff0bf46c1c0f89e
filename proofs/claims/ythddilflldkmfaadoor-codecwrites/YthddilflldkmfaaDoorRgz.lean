import Derived.Test.YthddilflldkmfaaDoorOpx
import Derived.Test.YthddilflldkmfaaDoorSza
namespace Go.Proofs.YthddilflldkmfaaDoor
open Go.RowKit Go.Lib
def rznT : List (Op × Option Tmp × Option (Nat × Bool)) := [
  (.move (.tmp 0), some 22, none),
  (.move (.tmp 0), some 23, none),
  (.nilCheck (.tmp 23), some 24, none),
  (.fieldAddr 74 (.tmp 24) 0, some 25, none),
  (.load 9 (.tmp 25), some 26, none),
  (.move (.tmp 1), some 27, none),
  (.move (.tmp 2), some 28, none),
  (.call { callee := .value (.func 57), args := #[(.tmp 27), (.tmp 28)], argTypes := #[3, 3] }, some 29, none),
  (.binOp .add 9 (.tmp 26) (.tmp 29) 9, some 30, none),
  (.nilCheck (.tmp 22), some 31, none),
  (.fieldAddr 74 (.tmp 31) 0, some 32, none),
  (.store 9 (.tmp 32) (.tmp 30), none, none)]
def rznD : List (Nat × Nat) := [(2, 1), (3, 2), (4, 3), (7, 5), (7, 6), (8, 4), (8, 7), (9, 0), (10, 9), (11, 4), (11, 8), (11, 10)]
set_option maxHeartbeats 2000000 in
theorem rzn {ops : Array Oper} {id : Nat} {Q : Exit → Act → World → Prop} (z size n : Nat) (X Y : List UInt8) (htab : ops.toList.map (fun o => (o.op, o.dst, o.guard)) = rznT) (hdep : deplB rznD ops = true) (hac : acB ops = true)
    (a0 : Act) (w : World) (hsz : 33 ≤ a0.tmps.size) (o0 : a0.tmps[0]? = some (.pointer (some ⟨z, 0, none⟩))) (o1 : a0.tmps[1]? = some (.int .i64 (size : Int))) (o2 : a0.tmps[2]? = some (.int .i64 (n : Int)))
    (Wd : (Nat → Bool) → World → Prop) (h0 : Wd (fun _ => false) w.drew) (hpure : ∀ i, i ∉ ([7, 11] : List Nat) → ∀ L W, Wd L W → Wd (upd L i) W)
    (l4 : ∀ L W, Wd L W → L 4 = false → W.cell? ⟨z, 0 + 0, none⟩ = some (.string ⟨(X).toArray⟩))
    (c7 : ∀ L W, Wd L W → L 7 = false → Calls Tryd.prog 57 #[.int .i64 (size : Int), .int .i64 (n : Int)] W fun e w' => e = .returned (.string ⟨(Y).toArray⟩) ∧ Wd (upd L 7) w')
    (a8 : X.length + Y.length ≤ 1000000000000)
    (s11 : ∀ L W, Wd L W → L 11 = false → L 8 = true → L 10 = true → L 4 = true → ∃ old, W.cell? ⟨z, 0 + 0, none⟩ = some old ∧ W.frozen? ⟨z, 0 + 0, none⟩ = false ∧ Wd (upd L 11) (W.setCell ⟨z, 0 + 0, none⟩ (.string ⟨(X ++ Y).toArray⟩)))
    (hend : ∀ L W, (∀ i, i < 12 → L i = true) → Wd L W → Q .normal (((((((((((a0.put (some 22) (.pointer (some ⟨z, 0, none⟩))).put (some 23) (.pointer (some ⟨z, 0, none⟩))).put (some 24) (.pointer (some ⟨z, 0, none⟩))).put (some 25) (.pointer (some ⟨z, 0 + 0, none⟩))).put (some 26) (.string ⟨(X).toArray⟩)).put (some 27) (.int .i64 (size : Int))).put (some 28) (.int .i64 (n : Int))).put (some 29) (.string ⟨(Y).toArray⟩)).put (some 30) (.string ⟨(X ++ Y).toArray⟩)).put (some 31) (.pointer (some ⟨z, 0, none⟩))).put (some 32) (.pointer (some ⟨z, 0 + 0, none⟩))) W) : (Code.region id ops true).wp Tryd.prog Q a0 w := by
  let val : Nat → Value := fun i => match i with
    | 0 => (.pointer (some ⟨z, 0, none⟩))
    | 1 => (.pointer (some ⟨z, 0, none⟩))
    | 2 => (.pointer (some ⟨z, 0, none⟩))
    | 3 => (.pointer (some ⟨z, 0 + 0, none⟩))
    | 4 => (.string ⟨(X).toArray⟩)
    | 5 => (.int .i64 (size : Int))
    | 6 => (.int .i64 (n : Int))
    | 7 => (.string ⟨(Y).toArray⟩)
    | 8 => (.string ⟨(X ++ Y).toArray⟩)
    | 9 => (.pointer (some ⟨z, 0, none⟩))
    | 10 => (.pointer (some ⟨z, 0 + 0, none⟩))
    | 11 => undef
    | _ => undef
  have hosz : ops.size = 12 := by
    have := congrArg List.length htab
    simpa [rznT] using this
  have hds : ∀ i s, (rznT[i]?).bind (·.2.1) = some s → dstOf ops i = some s := fun i s hi => by rw [tab_dst htab, hi]
  have hdisB : disL rznT = true := by rfl
  have hdis := disL_of htab hdisB
  have hold : ∀ s, rznT.all (fun x => !(x.2.1 == some s)) = true → (List.range ops.size).all (fun j => !(dstOf ops j == some s)) = true := fun s h => holdL htab s h
  refine region_detL val Wd (hac_of hac) hdis h0 ?_ ?_
  rotate_left
  · intro L W hall hW
    have := hend L W (by rw [← hosz]; exact hall) hW
    have e : frm ops a0 val (fun _ => true) ops.size = (((((((((((a0.put (some 22) (.pointer (some ⟨z, 0, none⟩))).put (some 23) (.pointer (some ⟨z, 0, none⟩))).put (some 24) (.pointer (some ⟨z, 0, none⟩))).put (some 25) (.pointer (some ⟨z, 0 + 0, none⟩))).put (some 26) (.string ⟨(X).toArray⟩)).put (some 27) (.int .i64 (size : Int))).put (some 28) (.int .i64 (n : Int))).put (some 29) (.string ⟨(Y).toArray⟩)).put (some 30) (.string ⟨(X ++ Y).toArray⟩)).put (some 31) (.pointer (some ⟨z, 0, none⟩))).put (some 32) (.pointer (some ⟨z, 0 + 0, none⟩))) := by
      rw [hosz]
      simp only [frm, if_true]
      rw [tab_dst htab 0, tab_dst htab 1, tab_dst htab 2, tab_dst htab 3, tab_dst htab 4, tab_dst htab 5, tab_dst htab 6, tab_dst htab 7, tab_dst htab 8, tab_dst htab 9, tab_dst htab 10, (show dstOf ops 11 = none from (tab_dst htab 11).trans rfl), put_none]
      rfl
    rw [e]
    exact this
  intro i o ho L a w' hL hd ha hW
  have hi : i < 12 := by rw [← hosz]; exact (Array.getElem?_eq_some_iff.1 ho).1
  match i, ho, hL, hi with
  | 0, ho, hL, _ =>
    obtain ⟨hop, hdst, hgd⟩ := tab_at htab ho (show rznT[0]? = _ from rfl)
    simp only at hop hgd
    have h0 := frm_old ha 0 _ (hold 0 rfl) o0
    exact doesL_run ho (wanted_none hgd) (hpure 0 (by decide) L w' hW) (by rw [run_move _ _ _ hop]; exact congrArg (fun v => Result.ok (Next.value v) w') (eval_of h0))
  | 1, ho, hL, _ =>
    obtain ⟨hop, hdst, hgd⟩ := tab_at htab ho (show rznT[1]? = _ from rfl)
    simp only at hop hgd
    have h0 := frm_old ha 0 _ (hold 0 rfl) o0
    exact doesL_run ho (wanted_none hgd) (hpure 1 (by decide) L w' hW) (by rw [run_move _ _ _ hop]; exact congrArg (fun v => Result.ok (Next.value v) w') (eval_of h0))
  | 2, ho, hL, _ =>
    obtain ⟨hop, hdst, hgd⟩ := tab_at htab ho (show rznT[2]? = _ from rfl)
    simp only at hop hgd
    have h0 := frm_at hdis ha 1 23 (hds 1 23 rfl) (by omega) (depl_of hdep 2 1 (by decide) ho hd)
    exact doesL_run ho (wanted_none hgd) (hpure 2 (by decide) L w' hW) (run_nil _ _ _ hop _ (eval_of h0) _)
  | 3, ho, hL, _ =>
    obtain ⟨hop, hdst, hgd⟩ := tab_at htab ho (show rznT[3]? = _ from rfl)
    simp only at hop hgd
    have h0 := frm_at hdis ha 2 24 (hds 2 24 rfl) (by omega) (depl_of hdep 3 2 (by decide) ho hd)
    exact doesL_run ho (wanted_none hgd) (hpure 3 (by decide) L w' hW) (run_f74 _ _ _ 0 (by decide) hop _ _ (eval_of h0) _)
  | 4, ho, hL, _ =>
    obtain ⟨hop, hdst, hgd⟩ := tab_at htab ho (show rznT[4]? = _ from rfl)
    simp only at hop hgd
    have h0 := frm_at hdis ha 3 25 (hds 3 25 rfl) (by omega) (depl_of hdep 4 3 (by decide) ho hd)
    exact doesL_run ho (wanted_none hgd) (hpure 4 (by decide) L w' hW) (run_ld _ _ _ hop _ _ (eval_of h0) _ (l4 L w' hW hL))
  | 5, ho, hL, _ =>
    obtain ⟨hop, hdst, hgd⟩ := tab_at htab ho (show rznT[5]? = _ from rfl)
    simp only at hop hgd
    have h0 := frm_old ha 1 _ (hold 1 rfl) o1
    exact doesL_run ho (wanted_none hgd) (hpure 5 (by decide) L w' hW) (by rw [run_move _ _ _ hop]; exact congrArg (fun v => Result.ok (Next.value v) w') (eval_of h0))
  | 6, ho, hL, _ =>
    obtain ⟨hop, hdst, hgd⟩ := tab_at htab ho (show rznT[6]? = _ from rfl)
    simp only at hop hgd
    have h0 := frm_old ha 2 _ (hold 2 rfl) o2
    exact doesL_run ho (wanted_none hgd) (hpure 6 (by decide) L w' hW) (by rw [run_move _ _ _ hop]; exact congrArg (fun v => Result.ok (Next.value v) w') (eval_of h0))
  | 7, ho, hL, _ =>
    obtain ⟨hop, hdst, hgd⟩ := tab_at htab ho (show rznT[7]? = _ from rfl)
    simp only at hop hgd
    have h0 := frm_at hdis ha 5 27 (hds 5 27 rfl) (by omega) (depl_of hdep 7 5 (by decide) ho hd)
    have h1 := frm_at hdis ha 6 28 (hds 6 28 rfl) (by omega) (depl_of hdep 7 6 (by decide) ho hd)
    refine doesL_call ho (wanted_none hgd) 57 #[.int .i64 (size : Int), .int .i64 (n : Int)] ?_ (c7 L w' hW hL)
    rw [run_calls Tryd.func57 (by kernel_rfl) rfl _ _ _ _ hop rfl]
    simp only [List.map_toArray, List.map_cons, List.map_nil, eval_of h0, eval_of h1]
    all_goals rfl
  | 8, ho, hL, _ =>
    obtain ⟨hop, hdst, hgd⟩ := tab_at htab ho (show rznT[8]? = _ from rfl)
    simp only at hop hgd
    have h0 := frm_at hdis ha 4 26 (hds 4 26 rfl) (by omega) (depl_of hdep 8 4 (by decide) ho hd)
    have h1 := frm_at hdis ha 7 29 (hds 7 29 rfl) (by omega) (depl_of hdep 8 7 (by decide) ho hd)
    exact doesL_run ho (wanted_none hgd) (hpure 8 (by decide) L w' hW) (run_cat _ _ _ _ hop _ _ a8 (eval_of h0) (eval_of h1) _)
  | 9, ho, hL, _ =>
    obtain ⟨hop, hdst, hgd⟩ := tab_at htab ho (show rznT[9]? = _ from rfl)
    simp only at hop hgd
    have h0 := frm_at hdis ha 0 22 (hds 0 22 rfl) (by omega) (depl_of hdep 9 0 (by decide) ho hd)
    exact doesL_run ho (wanted_none hgd) (hpure 9 (by decide) L w' hW) (run_nil _ _ _ hop _ (eval_of h0) _)
  | 10, ho, hL, _ =>
    obtain ⟨hop, hdst, hgd⟩ := tab_at htab ho (show rznT[10]? = _ from rfl)
    simp only at hop hgd
    have h0 := frm_at hdis ha 9 31 (hds 9 31 rfl) (by omega) (depl_of hdep 10 9 (by decide) ho hd)
    exact doesL_run ho (wanted_none hgd) (hpure 10 (by decide) L w' hW) (run_f74 _ _ _ 0 (by decide) hop _ _ (eval_of h0) _)
  | 11, ho, hL, _ =>
    obtain ⟨hop, hdst, hgd⟩ := tab_at htab ho (show rznT[11]? = _ from rfl)
    simp only at hop hgd
    have h0 := frm_at hdis ha 10 32 (hds 10 32 rfl) (by omega) (depl_of hdep 11 10 (by decide) ho hd)
    have h1 := frm_at hdis ha 8 30 (hds 8 30 rfl) (by omega) (depl_of hdep 11 8 (by decide) ho hd)
    obtain ⟨old, s1, s2, s3⟩ := s11 L w' hW hL (depl_of hdep 11 8 (by decide) ho hd) (depl_of hdep 11 10 (by decide) ho hd) (depl_of hdep 11 4 (by decide) ho hd)
    exact doesL_skp ho (wanted_none hgd) rfl s3 (run_st9 _ _ _ _ hop _ _ (eval_of h0) (eval_of h1) _ old s1 s2)
  | (i + 12), ho, hL, hi => exact absurd hi (by omega)
def rztT : List (Op × Option Tmp × Option (Nat × Bool)) := [
  (.move (.tmp 0), some 20, none),
  (.move (.tmp 0), some 21, none),
  (.nilCheck (.tmp 21), some 22, none),
  (.fieldAddr 74 (.tmp 22) 0, some 23, none),
  (.load 9 (.tmp 23), some 24, none),
  (.move (.tmp 1), some 25, none),
  (.call { callee := .value (.func 60), args := #[(.tmp 25)], argTypes := #[3] }, some 26, none),
  (.move (.tmp 2), some 27, none),
  (.call { callee := .builtin .len, args := #[(.tmp 27)], argTypes := #[9] }, some 28, none),
  (.call { callee := .value (.func 57), args := #[(.tmp 26), (.tmp 28)], argTypes := #[3, 3] }, some 29, none),
  (.binOp .add 9 (.tmp 24) (.tmp 29) 9, some 30, none),
  (.move (.tmp 2), some 31, none),
  (.binOp .add 9 (.tmp 30) (.tmp 31) 9, some 32, none),
  (.nilCheck (.tmp 20), some 33, none),
  (.fieldAddr 74 (.tmp 33) 0, some 34, none),
  (.store 9 (.tmp 34) (.tmp 32), none, none)]
def rztD : List (Nat × Nat) := [(2, 1), (3, 2), (4, 3), (6, 5), (8, 7), (9, 6), (9, 8), (10, 4), (10, 9), (12, 10), (12, 11), (13, 0), (14, 13), (15, 4), (15, 12), (15, 14)]
set_option maxHeartbeats 2000000 in
theorem rzt {ops : Array Oper} {id : Nat} {Q : Exit → Act → World → Prop} (z k : Nat) (most : Int) (X Y s : List UInt8) (htab : ops.toList.map (fun o => (o.op, o.dst, o.guard)) = rztT) (hdep : deplB rztD ops = true) (hac : acB ops = true)
    (a0 : Act) (w : World) (hsz : 35 ≤ a0.tmps.size) (o0 : a0.tmps[0]? = some (.pointer (some ⟨z, 0, none⟩))) (o1 : a0.tmps[1]? = some (.int .i64 most)) (o2 : a0.tmps[2]? = some (.string ⟨(s).toArray⟩))
    (Wd : (Nat → Bool) → World → Prop) (h0 : Wd (fun _ => false) w.drew) (hpure : ∀ i, i ∉ ([6, 9, 15] : List Nat) → ∀ L W, Wd L W → Wd (upd L i) W)
    (l4 : ∀ L W, Wd L W → L 4 = false → W.cell? ⟨z, 0 + 0, none⟩ = some (.string ⟨(X).toArray⟩))
    (c6 : ∀ L W, Wd L W → L 6 = false → Calls Tryd.prog 60 #[.int .i64 most] W fun e w' => e = .returned (.int .i64 (k : Int)) ∧ Wd (upd L 6) w')
    (c9 : ∀ L W, Wd L W → L 9 = false → Calls Tryd.prog 57 #[.int .i64 (k : Int), .int .i64 (s.length : Int)] W fun e w' => e = .returned (.string ⟨(Y).toArray⟩) ∧ Wd (upd L 9) w')
    (a10 : X.length + Y.length ≤ 1000000000000) (a12 : (X ++ Y).length + s.length ≤ 1000000000000)
    (s15 : ∀ L W, Wd L W → L 15 = false → L 12 = true → L 14 = true → L 4 = true → ∃ old, W.cell? ⟨z, 0 + 0, none⟩ = some old ∧ W.frozen? ⟨z, 0 + 0, none⟩ = false ∧ Wd (upd L 15) (W.setCell ⟨z, 0 + 0, none⟩ (.string ⟨(X ++ Y ++ s).toArray⟩)))
    (hend : ∀ L W, (∀ i, i < 16 → L i = true) → Wd L W → Q .normal (((((((((((((((a0.put (some 20) (.pointer (some ⟨z, 0, none⟩))).put (some 21) (.pointer (some ⟨z, 0, none⟩))).put (some 22) (.pointer (some ⟨z, 0, none⟩))).put (some 23) (.pointer (some ⟨z, 0 + 0, none⟩))).put (some 24) (.string ⟨(X).toArray⟩)).put (some 25) (.int .i64 most)).put (some 26) (.int .i64 (k : Int))).put (some 27) (.string ⟨(s).toArray⟩)).put (some 28) (.int .i64 (s.length : Int))).put (some 29) (.string ⟨(Y).toArray⟩)).put (some 30) (.string ⟨(X ++ Y).toArray⟩)).put (some 31) (.string ⟨(s).toArray⟩)).put (some 32) (.string ⟨(X ++ Y ++ s).toArray⟩)).put (some 33) (.pointer (some ⟨z, 0, none⟩))).put (some 34) (.pointer (some ⟨z, 0 + 0, none⟩))) W) : (Code.region id ops true).wp Tryd.prog Q a0 w := by
  let val : Nat → Value := fun i => match i with
    | 0 => (.pointer (some ⟨z, 0, none⟩))
    | 1 => (.pointer (some ⟨z, 0, none⟩))
    | 2 => (.pointer (some ⟨z, 0, none⟩))
    | 3 => (.pointer (some ⟨z, 0 + 0, none⟩))
    | 4 => (.string ⟨(X).toArray⟩)
    | 5 => (.int .i64 most)
    | 6 => (.int .i64 (k : Int))
    | 7 => (.string ⟨(s).toArray⟩)
    | 8 => (.int .i64 (s.length : Int))
    | 9 => (.string ⟨(Y).toArray⟩)
    | 10 => (.string ⟨(X ++ Y).toArray⟩)
    | 11 => (.string ⟨(s).toArray⟩)
    | 12 => (.string ⟨(X ++ Y ++ s).toArray⟩)
    | 13 => (.pointer (some ⟨z, 0, none⟩))
    | 14 => (.pointer (some ⟨z, 0 + 0, none⟩))
    | 15 => undef
    | _ => undef
  have hosz : ops.size = 16 := by
    have := congrArg List.length htab
    simpa [rztT] using this
  have hds : ∀ i s, (rztT[i]?).bind (·.2.1) = some s → dstOf ops i = some s := fun i s hi => by rw [tab_dst htab, hi]
  have hdisB : disL rztT = true := by rfl
  have hdis := disL_of htab hdisB
  have hold : ∀ s, rztT.all (fun x => !(x.2.1 == some s)) = true → (List.range ops.size).all (fun j => !(dstOf ops j == some s)) = true := fun s h => holdL htab s h
  refine region_detL val Wd (hac_of hac) hdis h0 ?_ ?_
  rotate_left
  · intro L W hall hW
    have := hend L W (by rw [← hosz]; exact hall) hW
    have e : frm ops a0 val (fun _ => true) ops.size = (((((((((((((((a0.put (some 20) (.pointer (some ⟨z, 0, none⟩))).put (some 21) (.pointer (some ⟨z, 0, none⟩))).put (some 22) (.pointer (some ⟨z, 0, none⟩))).put (some 23) (.pointer (some ⟨z, 0 + 0, none⟩))).put (some 24) (.string ⟨(X).toArray⟩)).put (some 25) (.int .i64 most)).put (some 26) (.int .i64 (k : Int))).put (some 27) (.string ⟨(s).toArray⟩)).put (some 28) (.int .i64 (s.length : Int))).put (some 29) (.string ⟨(Y).toArray⟩)).put (some 30) (.string ⟨(X ++ Y).toArray⟩)).put (some 31) (.string ⟨(s).toArray⟩)).put (some 32) (.string ⟨(X ++ Y ++ s).toArray⟩)).put (some 33) (.pointer (some ⟨z, 0, none⟩))).put (some 34) (.pointer (some ⟨z, 0 + 0, none⟩))) := by
      rw [hosz]
      simp only [frm, if_true]
      rw [tab_dst htab 0, tab_dst htab 1, tab_dst htab 2, tab_dst htab 3, tab_dst htab 4, tab_dst htab 5, tab_dst htab 6, tab_dst htab 7, tab_dst htab 8, tab_dst htab 9, tab_dst htab 10, tab_dst htab 11, tab_dst htab 12, tab_dst htab 13, tab_dst htab 14, (show dstOf ops 15 = none from (tab_dst htab 15).trans rfl), put_none]
      rfl
    rw [e]
    exact this
  intro i o ho L a w' hL hd ha hW
  have hi : i < 16 := by rw [← hosz]; exact (Array.getElem?_eq_some_iff.1 ho).1
  match i, ho, hL, hi with
  | 0, ho, hL, _ =>
    obtain ⟨hop, hdst, hgd⟩ := tab_at htab ho (show rztT[0]? = _ from rfl)
    simp only at hop hgd
    have h0 := frm_old ha 0 _ (hold 0 rfl) o0
    exact doesL_run ho (wanted_none hgd) (hpure 0 (by decide) L w' hW) (by rw [run_move _ _ _ hop]; exact congrArg (fun v => Result.ok (Next.value v) w') (eval_of h0))
  | 1, ho, hL, _ =>
    obtain ⟨hop, hdst, hgd⟩ := tab_at htab ho (show rztT[1]? = _ from rfl)
    simp only at hop hgd
    have h0 := frm_old ha 0 _ (hold 0 rfl) o0
    exact doesL_run ho (wanted_none hgd) (hpure 1 (by decide) L w' hW) (by rw [run_move _ _ _ hop]; exact congrArg (fun v => Result.ok (Next.value v) w') (eval_of h0))
  | 2, ho, hL, _ =>
    obtain ⟨hop, hdst, hgd⟩ := tab_at htab ho (show rztT[2]? = _ from rfl)
    simp only at hop hgd
    have h0 := frm_at hdis ha 1 21 (hds 1 21 rfl) (by omega) (depl_of hdep 2 1 (by decide) ho hd)
    exact doesL_run ho (wanted_none hgd) (hpure 2 (by decide) L w' hW) (run_nil _ _ _ hop _ (eval_of h0) _)
  | 3, ho, hL, _ =>
    obtain ⟨hop, hdst, hgd⟩ := tab_at htab ho (show rztT[3]? = _ from rfl)
    simp only at hop hgd
    have h0 := frm_at hdis ha 2 22 (hds 2 22 rfl) (by omega) (depl_of hdep 3 2 (by decide) ho hd)
    exact doesL_run ho (wanted_none hgd) (hpure 3 (by decide) L w' hW) (run_f74 _ _ _ 0 (by decide) hop _ _ (eval_of h0) _)
  | 4, ho, hL, _ =>
    obtain ⟨hop, hdst, hgd⟩ := tab_at htab ho (show rztT[4]? = _ from rfl)
    simp only at hop hgd
    have h0 := frm_at hdis ha 3 23 (hds 3 23 rfl) (by omega) (depl_of hdep 4 3 (by decide) ho hd)
    exact doesL_run ho (wanted_none hgd) (hpure 4 (by decide) L w' hW) (run_ld _ _ _ hop _ _ (eval_of h0) _ (l4 L w' hW hL))
  | 5, ho, hL, _ =>
    obtain ⟨hop, hdst, hgd⟩ := tab_at htab ho (show rztT[5]? = _ from rfl)
    simp only at hop hgd
    have h0 := frm_old ha 1 _ (hold 1 rfl) o1
    exact doesL_run ho (wanted_none hgd) (hpure 5 (by decide) L w' hW) (by rw [run_move _ _ _ hop]; exact congrArg (fun v => Result.ok (Next.value v) w') (eval_of h0))
  | 6, ho, hL, _ =>
    obtain ⟨hop, hdst, hgd⟩ := tab_at htab ho (show rztT[6]? = _ from rfl)
    simp only at hop hgd
    have h0 := frm_at hdis ha 5 25 (hds 5 25 rfl) (by omega) (depl_of hdep 6 5 (by decide) ho hd)
    refine doesL_call ho (wanted_none hgd) 60 #[.int .i64 most] ?_ (c6 L w' hW hL)
    rw [run_calls Tryd.func60 (by kernel_rfl) rfl _ _ _ _ hop rfl]
    simp only [List.map_toArray, List.map_cons, List.map_nil, eval_of h0]
    all_goals rfl
  | 7, ho, hL, _ =>
    obtain ⟨hop, hdst, hgd⟩ := tab_at htab ho (show rztT[7]? = _ from rfl)
    simp only at hop hgd
    have h0 := frm_old ha 2 _ (hold 2 rfl) o2
    exact doesL_run ho (wanted_none hgd) (hpure 7 (by decide) L w' hW) (by rw [run_move _ _ _ hop]; exact congrArg (fun v => Result.ok (Next.value v) w') (eval_of h0))
  | 8, ho, hL, _ =>
    obtain ⟨hop, hdst, hgd⟩ := tab_at htab ho (show rztT[8]? = _ from rfl)
    simp only at hop hgd
    have h0 := frm_at hdis ha 7 27 (hds 7 27 rfl) (by omega) (depl_of hdep 8 7 (by decide) ho hd)
    exact doesL_run ho (wanted_none hgd) (hpure 8 (by decide) L w' hW) (run_len _ _ _ hop _ (eval_of h0) _)
  | 9, ho, hL, _ =>
    obtain ⟨hop, hdst, hgd⟩ := tab_at htab ho (show rztT[9]? = _ from rfl)
    simp only at hop hgd
    have h0 := frm_at hdis ha 6 26 (hds 6 26 rfl) (by omega) (depl_of hdep 9 6 (by decide) ho hd)
    have h1 := frm_at hdis ha 8 28 (hds 8 28 rfl) (by omega) (depl_of hdep 9 8 (by decide) ho hd)
    refine doesL_call ho (wanted_none hgd) 57 #[.int .i64 (k : Int), .int .i64 (s.length : Int)] ?_ (c9 L w' hW hL)
    rw [run_calls Tryd.func57 (by kernel_rfl) rfl _ _ _ _ hop rfl]
    simp only [List.map_toArray, List.map_cons, List.map_nil, eval_of h0, eval_of h1]
    all_goals rfl
  | 10, ho, hL, _ =>
    obtain ⟨hop, hdst, hgd⟩ := tab_at htab ho (show rztT[10]? = _ from rfl)
    simp only at hop hgd
    have h0 := frm_at hdis ha 4 24 (hds 4 24 rfl) (by omega) (depl_of hdep 10 4 (by decide) ho hd)
    have h1 := frm_at hdis ha 9 29 (hds 9 29 rfl) (by omega) (depl_of hdep 10 9 (by decide) ho hd)
    exact doesL_run ho (wanted_none hgd) (hpure 10 (by decide) L w' hW) (run_cat _ _ _ _ hop _ _ a10 (eval_of h0) (eval_of h1) _)
  | 11, ho, hL, _ =>
    obtain ⟨hop, hdst, hgd⟩ := tab_at htab ho (show rztT[11]? = _ from rfl)
    simp only at hop hgd
    have h0 := frm_old ha 2 _ (hold 2 rfl) o2
    exact doesL_run ho (wanted_none hgd) (hpure 11 (by decide) L w' hW) (by rw [run_move _ _ _ hop]; exact congrArg (fun v => Result.ok (Next.value v) w') (eval_of h0))
  | 12, ho, hL, _ =>
    obtain ⟨hop, hdst, hgd⟩ := tab_at htab ho (show rztT[12]? = _ from rfl)
    simp only at hop hgd
    have h0 := frm_at hdis ha 10 30 (hds 10 30 rfl) (by omega) (depl_of hdep 12 10 (by decide) ho hd)
    have h1 := frm_at hdis ha 11 31 (hds 11 31 rfl) (by omega) (depl_of hdep 12 11 (by decide) ho hd)
    exact doesL_run ho (wanted_none hgd) (hpure 12 (by decide) L w' hW) (run_cat _ _ _ _ hop _ _ a12 (eval_of h0) (eval_of h1) _)
  | 13, ho, hL, _ =>
    obtain ⟨hop, hdst, hgd⟩ := tab_at htab ho (show rztT[13]? = _ from rfl)
    simp only at hop hgd
    have h0 := frm_at hdis ha 0 20 (hds 0 20 rfl) (by omega) (depl_of hdep 13 0 (by decide) ho hd)
    exact doesL_run ho (wanted_none hgd) (hpure 13 (by decide) L w' hW) (run_nil _ _ _ hop _ (eval_of h0) _)
  | 14, ho, hL, _ =>
    obtain ⟨hop, hdst, hgd⟩ := tab_at htab ho (show rztT[14]? = _ from rfl)
    simp only at hop hgd
    have h0 := frm_at hdis ha 13 33 (hds 13 33 rfl) (by omega) (depl_of hdep 14 13 (by decide) ho hd)
    exact doesL_run ho (wanted_none hgd) (hpure 14 (by decide) L w' hW) (run_f74 _ _ _ 0 (by decide) hop _ _ (eval_of h0) _)
  | 15, ho, hL, _ =>
    obtain ⟨hop, hdst, hgd⟩ := tab_at htab ho (show rztT[15]? = _ from rfl)
    simp only at hop hgd
    have h0 := frm_at hdis ha 14 34 (hds 14 34 rfl) (by omega) (depl_of hdep 15 14 (by decide) ho hd)
    have h1 := frm_at hdis ha 12 32 (hds 12 32 rfl) (by omega) (depl_of hdep 15 12 (by decide) ho hd)
    obtain ⟨old, s1, s2, s3⟩ := s15 L w' hW hL (depl_of hdep 15 12 (by decide) ho hd) (depl_of hdep 15 14 (by decide) ho hd) (depl_of hdep 15 4 (by decide) ho hd)
    exact doesL_skp ho (wanted_none hgd) rfl s3 (run_st9 _ _ _ _ hop _ _ (eval_of h0) (eval_of h1) _ old s1 s2)
  | (i + 16), ho, hL, hi => exact absurd hi (by omega)
def rwaT : List (Op × Option Tmp × Option (Nat × Bool)) := [
  (.move (.tmp 4), some 62, none),
  (.move (.tmp 8), some 63, none),
  (.indexAddr 27 (.tmp 62) (.tmp 63), some 64, none),
  (.load 25 (.tmp 64), some 65, none),
  (.fieldAddr 33 (.tmp 7) 2, some 66, none),
  (.load 3 (.tmp 66), some 67, none),
  (.fieldAddr 33 (.tmp 7) 3, some 68, none),
  (.load 3 (.tmp 68), some 69, none),
  (.call { callee := .value (.func 13), args := #[(.tmp 65), (.tmp 67), (.tmp 69)], argTypes := #[25, 3, 3] }, some 70, none)]
def rwaD : List (Nat × Nat) := [(2, 0), (2, 1), (3, 2), (5, 4), (7, 6), (8, 3), (8, 5), (8, 7)]
set_option maxHeartbeats 2000000 in
theorem rwa {ops : Array Oper} {id : Nat} {Q : Exit → Act → World → Prop} (ga k u b : Nat) (p : Int) (q : Int) (htab : ops.toList.map (fun o => (o.op, o.dst, o.guard)) = rwaT) (hdep : deplB rwaD ops = true) (hac : acB ops = true)
    (a0 : Act) (w : World) (hsz : 71 ≤ a0.tmps.size) (o4 : a0.tmps[4]? = some (.slice (some ⟨ga, 0, none⟩) 2 2)) (o7 : a0.tmps[7]? = some (.pointer (some ⟨u, 0, none⟩))) (o8 : a0.tmps[8]? = some (.int .i64 (k : Int)))
    (Wd : (Nat → Bool) → World → Prop) (h0 : Wd (fun _ => false) w.drew) (hpure : ∀ i, i ∉ ([8] : List Nat) → ∀ L W, Wd L W → Wd (upd L i) W)
    (i2 : k < 2) (l3 : ∀ L W, Wd L W → W.cell? ⟨ga, 0 + k, none⟩ = some (.pointer (some ⟨b, 0, none⟩))) (l5 : ∀ L W, Wd L W → W.cell? ⟨u, 0 + 2, none⟩ = some (.int .i64 p)) (l7 : ∀ L W, Wd L W → W.cell? ⟨u, 0 + 3, none⟩ = some (.int .i64 q))
    (c8 : ∀ L W, Wd L W → L 8 = false → Calls Tryd.prog 13 #[(.pointer (some ⟨b, 0, none⟩)), (.int .i64 p), (.int .i64 q)] W fun e w' => e = .returned (.tuple #[]) ∧ Wd (upd L 8) w')
    (hend : ∀ L W, (∀ i, i < 9 → L i = true) → Wd L W → Q .normal (((((((((a0.put (some 62) (.slice (some ⟨ga, 0, none⟩) 2 2)).put (some 63) (.int .i64 (k : Int))).put (some 64) (.pointer (some ⟨ga, 0 + k, none⟩))).put (some 65) (.pointer (some ⟨b, 0, none⟩))).put (some 66) (.pointer (some ⟨u, 0 + 2, none⟩))).put (some 67) (.int .i64 p)).put (some 68) (.pointer (some ⟨u, 0 + 3, none⟩))).put (some 69) (.int .i64 q)).put (some 70) (.tuple #[])) W) : (Code.region id ops true).wp Tryd.prog Q a0 w := by
  let val : Nat → Value := fun i => match i with
    | 0 => (.slice (some ⟨ga, 0, none⟩) 2 2)
    | 1 => (.int .i64 (k : Int))
    | 2 => (.pointer (some ⟨ga, 0 + k, none⟩))
    | 3 => (.pointer (some ⟨b, 0, none⟩))
    | 4 => (.pointer (some ⟨u, 0 + 2, none⟩))
    | 5 => (.int .i64 p)
    | 6 => (.pointer (some ⟨u, 0 + 3, none⟩))
    | 7 => (.int .i64 q)
    | 8 => (.tuple #[])
    | _ => undef
  have hosz : ops.size = 9 := by
    have := congrArg List.length htab
    simpa [rwaT] using this
  have hds : ∀ i s, (rwaT[i]?).bind (·.2.1) = some s → dstOf ops i = some s := fun i s hi => by rw [tab_dst htab, hi]
  have hdisB : disL rwaT = true := by rfl
  have hdis := disL_of htab hdisB
  have hold : ∀ s, rwaT.all (fun x => !(x.2.1 == some s)) = true → (List.range ops.size).all (fun j => !(dstOf ops j == some s)) = true := fun s h => holdL htab s h
  refine region_detL val Wd (hac_of hac) hdis h0 ?_ ?_
  rotate_left
  · intro L W hall hW
    have := hend L W (by rw [← hosz]; exact hall) hW
    have e : frm ops a0 val (fun _ => true) ops.size = (((((((((a0.put (some 62) (.slice (some ⟨ga, 0, none⟩) 2 2)).put (some 63) (.int .i64 (k : Int))).put (some 64) (.pointer (some ⟨ga, 0 + k, none⟩))).put (some 65) (.pointer (some ⟨b, 0, none⟩))).put (some 66) (.pointer (some ⟨u, 0 + 2, none⟩))).put (some 67) (.int .i64 p)).put (some 68) (.pointer (some ⟨u, 0 + 3, none⟩))).put (some 69) (.int .i64 q)).put (some 70) (.tuple #[])) := by
      rw [hosz]
      simp only [frm, if_true]
      rw [tab_dst htab 0, tab_dst htab 1, tab_dst htab 2, tab_dst htab 3, tab_dst htab 4, tab_dst htab 5, tab_dst htab 6, tab_dst htab 7, tab_dst htab 8]
      rfl
    rw [e]
    exact this
  intro i o ho L a w' hL hd ha hW
  have hi : i < 9 := by rw [← hosz]; exact (Array.getElem?_eq_some_iff.1 ho).1
  match i, ho, hL, hi with
  | 0, ho, hL, _ =>
    obtain ⟨hop, hdst, hgd⟩ := tab_at htab ho (show rwaT[0]? = _ from rfl)
    simp only at hop hgd
    have h0 := frm_old ha 4 _ (hold 4 rfl) o4
    exact doesL_run ho (wanted_none hgd) (hpure 0 (by decide) L w' hW) (by rw [run_move _ _ _ hop]; exact congrArg (fun v => Result.ok (Next.value v) w') (eval_of h0))
  | 1, ho, hL, _ =>
    obtain ⟨hop, hdst, hgd⟩ := tab_at htab ho (show rwaT[1]? = _ from rfl)
    simp only at hop hgd
    have h0 := frm_old ha 8 _ (hold 8 rfl) o8
    exact doesL_run ho (wanted_none hgd) (hpure 1 (by decide) L w' hW) (by rw [run_move _ _ _ hop]; exact congrArg (fun v => Result.ok (Next.value v) w') (eval_of h0))
  | 2, ho, hL, _ =>
    obtain ⟨hop, hdst, hgd⟩ := tab_at htab ho (show rwaT[2]? = _ from rfl)
    simp only at hop hgd
    have h0 := frm_at hdis ha 0 62 (hds 0 62 rfl) (by omega) (depl_of hdep 2 0 (by decide) ho hd)
    have h1 := frm_at hdis ha 1 63 (hds 1 63 rfl) (by omega) (depl_of hdep 2 1 (by decide) ho hd)
    exact doesL_run ho (wanted_none hgd) (hpure 2 (by decide) L w' hW) (run_ia27 _ _ _ _ hop _ _ _ _ _ i2 (eval_of h0) (eval_of h1) _)
  | 3, ho, hL, _ =>
    obtain ⟨hop, hdst, hgd⟩ := tab_at htab ho (show rwaT[3]? = _ from rfl)
    simp only at hop hgd
    have h0 := frm_at hdis ha 2 64 (hds 2 64 rfl) (by omega) (depl_of hdep 3 2 (by decide) ho hd)
    exact doesL_run ho (wanted_none hgd) (hpure 3 (by decide) L w' hW) (run_ld25 _ _ _ hop _ _ (eval_of h0) _ (l3 L w' hW))
  | 4, ho, hL, _ =>
    obtain ⟨hop, hdst, hgd⟩ := tab_at htab ho (show rwaT[4]? = _ from rfl)
    simp only at hop hgd
    have h0 := frm_old ha 7 _ (hold 7 rfl) o7
    exact doesL_run ho (wanted_none hgd) (hpure 4 (by decide) L w' hW) (run_f33 _ _ _ 2 (by decide) hop _ _ (eval_of h0) _)
  | 5, ho, hL, _ =>
    obtain ⟨hop, hdst, hgd⟩ := tab_at htab ho (show rwaT[5]? = _ from rfl)
    simp only at hop hgd
    have h0 := frm_at hdis ha 4 66 (hds 4 66 rfl) (by omega) (depl_of hdep 5 4 (by decide) ho hd)
    exact doesL_run ho (wanted_none hgd) (hpure 5 (by decide) L w' hW) (run_ld3 _ _ _ hop _ _ (eval_of h0) _ (l5 L w' hW))
  | 6, ho, hL, _ =>
    obtain ⟨hop, hdst, hgd⟩ := tab_at htab ho (show rwaT[6]? = _ from rfl)
    simp only at hop hgd
    have h0 := frm_old ha 7 _ (hold 7 rfl) o7
    exact doesL_run ho (wanted_none hgd) (hpure 6 (by decide) L w' hW) (run_f33 _ _ _ 3 (by decide) hop _ _ (eval_of h0) _)
  | 7, ho, hL, _ =>
    obtain ⟨hop, hdst, hgd⟩ := tab_at htab ho (show rwaT[7]? = _ from rfl)
    simp only at hop hgd
    have h0 := frm_at hdis ha 6 68 (hds 6 68 rfl) (by omega) (depl_of hdep 7 6 (by decide) ho hd)
    exact doesL_run ho (wanted_none hgd) (hpure 7 (by decide) L w' hW) (run_ld3 _ _ _ hop _ _ (eval_of h0) _ (l7 L w' hW))
  | 8, ho, hL, _ =>
    obtain ⟨hop, hdst, hgd⟩ := tab_at htab ho (show rwaT[8]? = _ from rfl)
    simp only at hop hgd
    have h0 := frm_at hdis ha 3 65 (hds 3 65 rfl) (by omega) (depl_of hdep 8 3 (by decide) ho hd)
    have h1 := frm_at hdis ha 5 67 (hds 5 67 rfl) (by omega) (depl_of hdep 8 5 (by decide) ho hd)
    have h2 := frm_at hdis ha 7 69 (hds 7 69 rfl) (by omega) (depl_of hdep 8 7 (by decide) ho hd)
    refine doesL_call ho (wanted_none hgd) 13 #[(.pointer (some ⟨b, 0, none⟩)), (.int .i64 p), (.int .i64 q)] ?_ (c8 L w' hW hL)
    rw [run_calls Tryd.func13 (by kernel_rfl) rfl _ _ _ _ hop rfl]
    simp only [List.map_toArray, List.map_cons, List.map_nil, eval_of h0, eval_of h1, eval_of h2]
    all_goals rfl
  | (i + 9), ho, hL, hi => exact absurd hi (by omega)
def rwbT : List (Op × Option Tmp × Option (Nat × Bool)) := [
  (.move (.tmp 5), some 71, none),
  (.move (.tmp 8), some 72, none),
  (.indexAddr 30 (.tmp 71) (.tmp 72), some 73, none),
  (.load 28 (.tmp 73), some 74, none),
  (.fieldAddr 33 (.tmp 7) 2, some 75, none),
  (.load 3 (.tmp 75), some 76, none),
  (.fieldAddr 33 (.tmp 7) 3, some 77, none),
  (.load 3 (.tmp 77), some 78, none),
  (.call { callee := .value (.func 14), args := #[(.tmp 74), (.tmp 76), (.tmp 78)], argTypes := #[28, 3, 3] }, some 79, none)]
def rwbD : List (Nat × Nat) := [(2, 0), (2, 1), (3, 2), (5, 4), (7, 6), (8, 3), (8, 5), (8, 7)]
set_option maxHeartbeats 2000000 in
theorem rwb {ops : Array Oper} {id : Nat} {Q : Exit → Act → World → Prop} (ga k u b : Nat) (p : Int) (q : Int) (htab : ops.toList.map (fun o => (o.op, o.dst, o.guard)) = rwbT) (hdep : deplB rwbD ops = true) (hac : acB ops = true)
    (a0 : Act) (w : World) (hsz : 80 ≤ a0.tmps.size) (o5 : a0.tmps[5]? = some (.slice (some ⟨ga, 0, none⟩) 2 2)) (o7 : a0.tmps[7]? = some (.pointer (some ⟨u, 0, none⟩))) (o8 : a0.tmps[8]? = some (.int .i64 (k : Int)))
    (Wd : (Nat → Bool) → World → Prop) (h0 : Wd (fun _ => false) w.drew) (hpure : ∀ i, i ∉ ([8] : List Nat) → ∀ L W, Wd L W → Wd (upd L i) W)
    (i2 : k < 2) (l3 : ∀ L W, Wd L W → W.cell? ⟨ga, 0 + k, none⟩ = some (.pointer (some ⟨b, 0, none⟩))) (l5 : ∀ L W, Wd L W → W.cell? ⟨u, 0 + 2, none⟩ = some (.int .i64 p)) (l7 : ∀ L W, Wd L W → W.cell? ⟨u, 0 + 3, none⟩ = some (.int .i64 q))
    (c8 : ∀ L W, Wd L W → L 8 = false → Calls Tryd.prog 14 #[(.pointer (some ⟨b, 0, none⟩)), (.int .i64 p), (.int .i64 q)] W fun e w' => e = .returned (.tuple #[]) ∧ Wd (upd L 8) w')
    (hend : ∀ L W, (∀ i, i < 9 → L i = true) → Wd L W → Q .normal (((((((((a0.put (some 71) (.slice (some ⟨ga, 0, none⟩) 2 2)).put (some 72) (.int .i64 (k : Int))).put (some 73) (.pointer (some ⟨ga, 0 + k, none⟩))).put (some 74) (.pointer (some ⟨b, 0, none⟩))).put (some 75) (.pointer (some ⟨u, 0 + 2, none⟩))).put (some 76) (.int .i64 p)).put (some 77) (.pointer (some ⟨u, 0 + 3, none⟩))).put (some 78) (.int .i64 q)).put (some 79) (.tuple #[])) W) : (Code.region id ops true).wp Tryd.prog Q a0 w := by
  let val : Nat → Value := fun i => match i with
    | 0 => (.slice (some ⟨ga, 0, none⟩) 2 2)
    | 1 => (.int .i64 (k : Int))
    | 2 => (.pointer (some ⟨ga, 0 + k, none⟩))
    | 3 => (.pointer (some ⟨b, 0, none⟩))
    | 4 => (.pointer (some ⟨u, 0 + 2, none⟩))
    | 5 => (.int .i64 p)
    | 6 => (.pointer (some ⟨u, 0 + 3, none⟩))
    | 7 => (.int .i64 q)
    | 8 => (.tuple #[])
    | _ => undef
  have hosz : ops.size = 9 := by
    have := congrArg List.length htab
    simpa [rwbT] using this
  have hds : ∀ i s, (rwbT[i]?).bind (·.2.1) = some s → dstOf ops i = some s := fun i s hi => by rw [tab_dst htab, hi]
  have hdisB : disL rwbT = true := by rfl
  have hdis := disL_of htab hdisB
  have hold : ∀ s, rwbT.all (fun x => !(x.2.1 == some s)) = true → (List.range ops.size).all (fun j => !(dstOf ops j == some s)) = true := fun s h => holdL htab s h
  refine region_detL val Wd (hac_of hac) hdis h0 ?_ ?_
  rotate_left
  · intro L W hall hW
    have := hend L W (by rw [← hosz]; exact hall) hW
    have e : frm ops a0 val (fun _ => true) ops.size = (((((((((a0.put (some 71) (.slice (some ⟨ga, 0, none⟩) 2 2)).put (some 72) (.int .i64 (k : Int))).put (some 73) (.pointer (some ⟨ga, 0 + k, none⟩))).put (some 74) (.pointer (some ⟨b, 0, none⟩))).put (some 75) (.pointer (some ⟨u, 0 + 2, none⟩))).put (some 76) (.int .i64 p)).put (some 77) (.pointer (some ⟨u, 0 + 3, none⟩))).put (some 78) (.int .i64 q)).put (some 79) (.tuple #[])) := by
      rw [hosz]
      simp only [frm, if_true]
      rw [tab_dst htab 0, tab_dst htab 1, tab_dst htab 2, tab_dst htab 3, tab_dst htab 4, tab_dst htab 5, tab_dst htab 6, tab_dst htab 7, tab_dst htab 8]
      rfl
    rw [e]
    exact this
  intro i o ho L a w' hL hd ha hW
  have hi : i < 9 := by rw [← hosz]; exact (Array.getElem?_eq_some_iff.1 ho).1
  match i, ho, hL, hi with
  | 0, ho, hL, _ =>
    obtain ⟨hop, hdst, hgd⟩ := tab_at htab ho (show rwbT[0]? = _ from rfl)
    simp only at hop hgd
    have h0 := frm_old ha 5 _ (hold 5 rfl) o5
    exact doesL_run ho (wanted_none hgd) (hpure 0 (by decide) L w' hW) (by rw [run_move _ _ _ hop]; exact congrArg (fun v => Result.ok (Next.value v) w') (eval_of h0))
  | 1, ho, hL, _ =>
    obtain ⟨hop, hdst, hgd⟩ := tab_at htab ho (show rwbT[1]? = _ from rfl)
    simp only at hop hgd
    have h0 := frm_old ha 8 _ (hold 8 rfl) o8
    exact doesL_run ho (wanted_none hgd) (hpure 1 (by decide) L w' hW) (by rw [run_move _ _ _ hop]; exact congrArg (fun v => Result.ok (Next.value v) w') (eval_of h0))
  | 2, ho, hL, _ =>
    obtain ⟨hop, hdst, hgd⟩ := tab_at htab ho (show rwbT[2]? = _ from rfl)
    simp only at hop hgd
    have h0 := frm_at hdis ha 0 71 (hds 0 71 rfl) (by omega) (depl_of hdep 2 0 (by decide) ho hd)
    have h1 := frm_at hdis ha 1 72 (hds 1 72 rfl) (by omega) (depl_of hdep 2 1 (by decide) ho hd)
    exact doesL_run ho (wanted_none hgd) (hpure 2 (by decide) L w' hW) (run_ia30 _ _ _ _ hop _ _ _ _ _ i2 (eval_of h0) (eval_of h1) _)
  | 3, ho, hL, _ =>
    obtain ⟨hop, hdst, hgd⟩ := tab_at htab ho (show rwbT[3]? = _ from rfl)
    simp only at hop hgd
    have h0 := frm_at hdis ha 2 73 (hds 2 73 rfl) (by omega) (depl_of hdep 3 2 (by decide) ho hd)
    exact doesL_run ho (wanted_none hgd) (hpure 3 (by decide) L w' hW) (run_ld28 _ _ _ hop _ _ (eval_of h0) _ (l3 L w' hW))
  | 4, ho, hL, _ =>
    obtain ⟨hop, hdst, hgd⟩ := tab_at htab ho (show rwbT[4]? = _ from rfl)
    simp only at hop hgd
    have h0 := frm_old ha 7 _ (hold 7 rfl) o7
    exact doesL_run ho (wanted_none hgd) (hpure 4 (by decide) L w' hW) (run_f33 _ _ _ 2 (by decide) hop _ _ (eval_of h0) _)
  | 5, ho, hL, _ =>
    obtain ⟨hop, hdst, hgd⟩ := tab_at htab ho (show rwbT[5]? = _ from rfl)
    simp only at hop hgd
    have h0 := frm_at hdis ha 4 75 (hds 4 75 rfl) (by omega) (depl_of hdep 5 4 (by decide) ho hd)
    exact doesL_run ho (wanted_none hgd) (hpure 5 (by decide) L w' hW) (run_ld3 _ _ _ hop _ _ (eval_of h0) _ (l5 L w' hW))
  | 6, ho, hL, _ =>
    obtain ⟨hop, hdst, hgd⟩ := tab_at htab ho (show rwbT[6]? = _ from rfl)
    simp only at hop hgd
    have h0 := frm_old ha 7 _ (hold 7 rfl) o7
    exact doesL_run ho (wanted_none hgd) (hpure 6 (by decide) L w' hW) (run_f33 _ _ _ 3 (by decide) hop _ _ (eval_of h0) _)
  | 7, ho, hL, _ =>
    obtain ⟨hop, hdst, hgd⟩ := tab_at htab ho (show rwbT[7]? = _ from rfl)
    simp only at hop hgd
    have h0 := frm_at hdis ha 6 77 (hds 6 77 rfl) (by omega) (depl_of hdep 7 6 (by decide) ho hd)
    exact doesL_run ho (wanted_none hgd) (hpure 7 (by decide) L w' hW) (run_ld3 _ _ _ hop _ _ (eval_of h0) _ (l7 L w' hW))
  | 8, ho, hL, _ =>
    obtain ⟨hop, hdst, hgd⟩ := tab_at htab ho (show rwbT[8]? = _ from rfl)
    simp only at hop hgd
    have h0 := frm_at hdis ha 3 74 (hds 3 74 rfl) (by omega) (depl_of hdep 8 3 (by decide) ho hd)
    have h1 := frm_at hdis ha 5 76 (hds 5 76 rfl) (by omega) (depl_of hdep 8 5 (by decide) ho hd)
    have h2 := frm_at hdis ha 7 78 (hds 7 78 rfl) (by omega) (depl_of hdep 8 7 (by decide) ho hd)
    refine doesL_call ho (wanted_none hgd) 14 #[(.pointer (some ⟨b, 0, none⟩)), (.int .i64 p), (.int .i64 q)] ?_ (c8 L w' hW hL)
    rw [run_calls Tryd.func14 (by kernel_rfl) rfl _ _ _ _ hop rfl]
    simp only [List.map_toArray, List.map_cons, List.map_nil, eval_of h0, eval_of h1, eval_of h2]
    all_goals rfl
  | (i + 9), ho, hL, hi => exact absurd hi (by omega)
def rwcT : List (Op × Option Tmp × Option (Nat × Bool)) := [
  (.move (.tmp 4), some 82, none),
  (.move (.tmp 8), some 83, none),
  (.indexAddr 27 (.tmp 82) (.tmp 83), some 84, none),
  (.load 25 (.tmp 84), some 85, none),
  (.fieldAddr 33 (.tmp 7) 3, some 86, none),
  (.load 3 (.tmp 86), some 87, none),
  (.fieldAddr 33 (.tmp 7) 4, some 88, none),
  (.load 9 (.tmp 88), some 89, none),
  (.call { callee := .value (.func 15), args := #[(.tmp 85), (.tmp 87), (.tmp 89)], argTypes := #[25, 3, 9] }, some 90, none)]
def rwcD : List (Nat × Nat) := [(2, 0), (2, 1), (3, 2), (5, 4), (7, 6), (8, 3), (8, 5), (8, 7)]
set_option maxHeartbeats 2000000 in
theorem rwc {ops : Array Oper} {id : Nat} {Q : Exit → Act → World → Prop} (ga k u b : Nat) (q : Int) (s : List UInt8) (htab : ops.toList.map (fun o => (o.op, o.dst, o.guard)) = rwcT) (hdep : deplB rwcD ops = true) (hac : acB ops = true)
    (a0 : Act) (w : World) (hsz : 91 ≤ a0.tmps.size) (o4 : a0.tmps[4]? = some (.slice (some ⟨ga, 0, none⟩) 2 2)) (o7 : a0.tmps[7]? = some (.pointer (some ⟨u, 0, none⟩))) (o8 : a0.tmps[8]? = some (.int .i64 (k : Int)))
    (Wd : (Nat → Bool) → World → Prop) (h0 : Wd (fun _ => false) w.drew) (hpure : ∀ i, i ∉ ([8] : List Nat) → ∀ L W, Wd L W → Wd (upd L i) W)
    (i2 : k < 2) (l3 : ∀ L W, Wd L W → W.cell? ⟨ga, 0 + k, none⟩ = some (.pointer (some ⟨b, 0, none⟩))) (l5 : ∀ L W, Wd L W → W.cell? ⟨u, 0 + 3, none⟩ = some (.int .i64 q)) (l7 : ∀ L W, Wd L W → W.cell? ⟨u, 0 + 4, none⟩ = some (.string ⟨s.toArray⟩))
    (c8 : ∀ L W, Wd L W → L 8 = false → Calls Tryd.prog 15 #[(.pointer (some ⟨b, 0, none⟩)), (.int .i64 q), (.string ⟨s.toArray⟩)] W fun e w' => e = .returned (.tuple #[]) ∧ Wd (upd L 8) w')
    (hend : ∀ L W, (∀ i, i < 9 → L i = true) → Wd L W → Q .normal (((((((((a0.put (some 82) (.slice (some ⟨ga, 0, none⟩) 2 2)).put (some 83) (.int .i64 (k : Int))).put (some 84) (.pointer (some ⟨ga, 0 + k, none⟩))).put (some 85) (.pointer (some ⟨b, 0, none⟩))).put (some 86) (.pointer (some ⟨u, 0 + 3, none⟩))).put (some 87) (.int .i64 q)).put (some 88) (.pointer (some ⟨u, 0 + 4, none⟩))).put (some 89) (.string ⟨s.toArray⟩)).put (some 90) (.tuple #[])) W) : (Code.region id ops true).wp Tryd.prog Q a0 w := by
  let val : Nat → Value := fun i => match i with
    | 0 => (.slice (some ⟨ga, 0, none⟩) 2 2)
    | 1 => (.int .i64 (k : Int))
    | 2 => (.pointer (some ⟨ga, 0 + k, none⟩))
    | 3 => (.pointer (some ⟨b, 0, none⟩))
    | 4 => (.pointer (some ⟨u, 0 + 3, none⟩))
    | 5 => (.int .i64 q)
    | 6 => (.pointer (some ⟨u, 0 + 4, none⟩))
    | 7 => (.string ⟨s.toArray⟩)
    | 8 => (.tuple #[])
    | _ => undef
  have hosz : ops.size = 9 := by
    have := congrArg List.length htab
    simpa [rwcT] using this
  have hds : ∀ i s, (rwcT[i]?).bind (·.2.1) = some s → dstOf ops i = some s := fun i s hi => by rw [tab_dst htab, hi]
  have hdisB : disL rwcT = true := by rfl
  have hdis := disL_of htab hdisB
  have hold : ∀ s, rwcT.all (fun x => !(x.2.1 == some s)) = true → (List.range ops.size).all (fun j => !(dstOf ops j == some s)) = true := fun s h => holdL htab s h
  refine region_detL val Wd (hac_of hac) hdis h0 ?_ ?_
  rotate_left
  · intro L W hall hW
    have := hend L W (by rw [← hosz]; exact hall) hW
    have e : frm ops a0 val (fun _ => true) ops.size = (((((((((a0.put (some 82) (.slice (some ⟨ga, 0, none⟩) 2 2)).put (some 83) (.int .i64 (k : Int))).put (some 84) (.pointer (some ⟨ga, 0 + k, none⟩))).put (some 85) (.pointer (some ⟨b, 0, none⟩))).put (some 86) (.pointer (some ⟨u, 0 + 3, none⟩))).put (some 87) (.int .i64 q)).put (some 88) (.pointer (some ⟨u, 0 + 4, none⟩))).put (some 89) (.string ⟨s.toArray⟩)).put (some 90) (.tuple #[])) := by
      rw [hosz]
      simp only [frm, if_true]
      rw [tab_dst htab 0, tab_dst htab 1, tab_dst htab 2, tab_dst htab 3, tab_dst htab 4, tab_dst htab 5, tab_dst htab 6, tab_dst htab 7, tab_dst htab 8]
      rfl
    rw [e]
    exact this
  intro i o ho L a w' hL hd ha hW
  have hi : i < 9 := by rw [← hosz]; exact (Array.getElem?_eq_some_iff.1 ho).1
  match i, ho, hL, hi with
  | 0, ho, hL, _ =>
    obtain ⟨hop, hdst, hgd⟩ := tab_at htab ho (show rwcT[0]? = _ from rfl)
    simp only at hop hgd
    have h0 := frm_old ha 4 _ (hold 4 rfl) o4
    exact doesL_run ho (wanted_none hgd) (hpure 0 (by decide) L w' hW) (by rw [run_move _ _ _ hop]; exact congrArg (fun v => Result.ok (Next.value v) w') (eval_of h0))
  | 1, ho, hL, _ =>
    obtain ⟨hop, hdst, hgd⟩ := tab_at htab ho (show rwcT[1]? = _ from rfl)
    simp only at hop hgd
    have h0 := frm_old ha 8 _ (hold 8 rfl) o8
    exact doesL_run ho (wanted_none hgd) (hpure 1 (by decide) L w' hW) (by rw [run_move _ _ _ hop]; exact congrArg (fun v => Result.ok (Next.value v) w') (eval_of h0))
  | 2, ho, hL, _ =>
    obtain ⟨hop, hdst, hgd⟩ := tab_at htab ho (show rwcT[2]? = _ from rfl)
    simp only at hop hgd
    have h0 := frm_at hdis ha 0 82 (hds 0 82 rfl) (by omega) (depl_of hdep 2 0 (by decide) ho hd)
    have h1 := frm_at hdis ha 1 83 (hds 1 83 rfl) (by omega) (depl_of hdep 2 1 (by decide) ho hd)
    exact doesL_run ho (wanted_none hgd) (hpure 2 (by decide) L w' hW) (run_ia27 _ _ _ _ hop _ _ _ _ _ i2 (eval_of h0) (eval_of h1) _)
  | 3, ho, hL, _ =>
    obtain ⟨hop, hdst, hgd⟩ := tab_at htab ho (show rwcT[3]? = _ from rfl)
    simp only at hop hgd
    have h0 := frm_at hdis ha 2 84 (hds 2 84 rfl) (by omega) (depl_of hdep 3 2 (by decide) ho hd)
    exact doesL_run ho (wanted_none hgd) (hpure 3 (by decide) L w' hW) (run_ld25 _ _ _ hop _ _ (eval_of h0) _ (l3 L w' hW))
  | 4, ho, hL, _ =>
    obtain ⟨hop, hdst, hgd⟩ := tab_at htab ho (show rwcT[4]? = _ from rfl)
    simp only at hop hgd
    have h0 := frm_old ha 7 _ (hold 7 rfl) o7
    exact doesL_run ho (wanted_none hgd) (hpure 4 (by decide) L w' hW) (run_f33 _ _ _ 3 (by decide) hop _ _ (eval_of h0) _)
  | 5, ho, hL, _ =>
    obtain ⟨hop, hdst, hgd⟩ := tab_at htab ho (show rwcT[5]? = _ from rfl)
    simp only at hop hgd
    have h0 := frm_at hdis ha 4 86 (hds 4 86 rfl) (by omega) (depl_of hdep 5 4 (by decide) ho hd)
    exact doesL_run ho (wanted_none hgd) (hpure 5 (by decide) L w' hW) (run_ld3 _ _ _ hop _ _ (eval_of h0) _ (l5 L w' hW))
  | 6, ho, hL, _ =>
    obtain ⟨hop, hdst, hgd⟩ := tab_at htab ho (show rwcT[6]? = _ from rfl)
    simp only at hop hgd
    have h0 := frm_old ha 7 _ (hold 7 rfl) o7
    exact doesL_run ho (wanted_none hgd) (hpure 6 (by decide) L w' hW) (run_f33 _ _ _ 4 (by decide) hop _ _ (eval_of h0) _)
  | 7, ho, hL, _ =>
    obtain ⟨hop, hdst, hgd⟩ := tab_at htab ho (show rwcT[7]? = _ from rfl)
    simp only at hop hgd
    have h0 := frm_at hdis ha 6 88 (hds 6 88 rfl) (by omega) (depl_of hdep 7 6 (by decide) ho hd)
    exact doesL_run ho (wanted_none hgd) (hpure 7 (by decide) L w' hW) (run_ld _ _ _ hop _ _ (eval_of h0) _ (l7 L w' hW))
  | 8, ho, hL, _ =>
    obtain ⟨hop, hdst, hgd⟩ := tab_at htab ho (show rwcT[8]? = _ from rfl)
    simp only at hop hgd
    have h0 := frm_at hdis ha 3 85 (hds 3 85 rfl) (by omega) (depl_of hdep 8 3 (by decide) ho hd)
    have h1 := frm_at hdis ha 5 87 (hds 5 87 rfl) (by omega) (depl_of hdep 8 5 (by decide) ho hd)
    have h2 := frm_at hdis ha 7 89 (hds 7 89 rfl) (by omega) (depl_of hdep 8 7 (by decide) ho hd)
    refine doesL_call ho (wanted_none hgd) 15 #[(.pointer (some ⟨b, 0, none⟩)), (.int .i64 q), (.string ⟨s.toArray⟩)] ?_ (c8 L w' hW hL)
    rw [run_calls Tryd.func15 (by kernel_rfl) rfl _ _ _ _ hop rfl]
    simp only [List.map_toArray, List.map_cons, List.map_nil, eval_of h0, eval_of h1, eval_of h2]
    all_goals rfl
  | (i + 9), ho, hL, hi => exact absurd hi (by omega)
def rwdT : List (Op × Option Tmp × Option (Nat × Bool)) := [
  (.move (.tmp 5), some 91, none),
  (.move (.tmp 8), some 92, none),
  (.indexAddr 30 (.tmp 91) (.tmp 92), some 93, none),
  (.load 28 (.tmp 93), some 94, none),
  (.fieldAddr 33 (.tmp 7) 3, some 95, none),
  (.load 3 (.tmp 95), some 96, none),
  (.fieldAddr 33 (.tmp 7) 4, some 97, none),
  (.load 9 (.tmp 97), some 98, none),
  (.call { callee := .value (.func 16), args := #[(.tmp 94), (.tmp 96), (.tmp 98)], argTypes := #[28, 3, 9] }, some 99, none)]
def rwdD : List (Nat × Nat) := [(2, 0), (2, 1), (3, 2), (5, 4), (7, 6), (8, 3), (8, 5), (8, 7)]
set_option maxHeartbeats 2000000 in
theorem rwd {ops : Array Oper} {id : Nat} {Q : Exit → Act → World → Prop} (ga k u b : Nat) (q : Int) (s : List UInt8) (htab : ops.toList.map (fun o => (o.op, o.dst, o.guard)) = rwdT) (hdep : deplB rwdD ops = true) (hac : acB ops = true)
    (a0 : Act) (w : World) (hsz : 100 ≤ a0.tmps.size) (o5 : a0.tmps[5]? = some (.slice (some ⟨ga, 0, none⟩) 2 2)) (o7 : a0.tmps[7]? = some (.pointer (some ⟨u, 0, none⟩))) (o8 : a0.tmps[8]? = some (.int .i64 (k : Int)))
    (Wd : (Nat → Bool) → World → Prop) (h0 : Wd (fun _ => false) w.drew) (hpure : ∀ i, i ∉ ([8] : List Nat) → ∀ L W, Wd L W → Wd (upd L i) W)
    (i2 : k < 2) (l3 : ∀ L W, Wd L W → W.cell? ⟨ga, 0 + k, none⟩ = some (.pointer (some ⟨b, 0, none⟩))) (l5 : ∀ L W, Wd L W → W.cell? ⟨u, 0 + 3, none⟩ = some (.int .i64 q)) (l7 : ∀ L W, Wd L W → W.cell? ⟨u, 0 + 4, none⟩ = some (.string ⟨s.toArray⟩))
    (c8 : ∀ L W, Wd L W → L 8 = false → Calls Tryd.prog 16 #[(.pointer (some ⟨b, 0, none⟩)), (.int .i64 q), (.string ⟨s.toArray⟩)] W fun e w' => e = .returned (.tuple #[]) ∧ Wd (upd L 8) w')
    (hend : ∀ L W, (∀ i, i < 9 → L i = true) → Wd L W → Q .normal (((((((((a0.put (some 91) (.slice (some ⟨ga, 0, none⟩) 2 2)).put (some 92) (.int .i64 (k : Int))).put (some 93) (.pointer (some ⟨ga, 0 + k, none⟩))).put (some 94) (.pointer (some ⟨b, 0, none⟩))).put (some 95) (.pointer (some ⟨u, 0 + 3, none⟩))).put (some 96) (.int .i64 q)).put (some 97) (.pointer (some ⟨u, 0 + 4, none⟩))).put (some 98) (.string ⟨s.toArray⟩)).put (some 99) (.tuple #[])) W) : (Code.region id ops true).wp Tryd.prog Q a0 w := by
  let val : Nat → Value := fun i => match i with
    | 0 => (.slice (some ⟨ga, 0, none⟩) 2 2)
    | 1 => (.int .i64 (k : Int))
    | 2 => (.pointer (some ⟨ga, 0 + k, none⟩))
    | 3 => (.pointer (some ⟨b, 0, none⟩))
    | 4 => (.pointer (some ⟨u, 0 + 3, none⟩))
    | 5 => (.int .i64 q)
    | 6 => (.pointer (some ⟨u, 0 + 4, none⟩))
    | 7 => (.string ⟨s.toArray⟩)
    | 8 => (.tuple #[])
    | _ => undef
  have hosz : ops.size = 9 := by
    have := congrArg List.length htab
    simpa [rwdT] using this
  have hds : ∀ i s, (rwdT[i]?).bind (·.2.1) = some s → dstOf ops i = some s := fun i s hi => by rw [tab_dst htab, hi]
  have hdisB : disL rwdT = true := by rfl
  have hdis := disL_of htab hdisB
  have hold : ∀ s, rwdT.all (fun x => !(x.2.1 == some s)) = true → (List.range ops.size).all (fun j => !(dstOf ops j == some s)) = true := fun s h => holdL htab s h
  refine region_detL val Wd (hac_of hac) hdis h0 ?_ ?_
  rotate_left
  · intro L W hall hW
    have := hend L W (by rw [← hosz]; exact hall) hW
    have e : frm ops a0 val (fun _ => true) ops.size = (((((((((a0.put (some 91) (.slice (some ⟨ga, 0, none⟩) 2 2)).put (some 92) (.int .i64 (k : Int))).put (some 93) (.pointer (some ⟨ga, 0 + k, none⟩))).put (some 94) (.pointer (some ⟨b, 0, none⟩))).put (some 95) (.pointer (some ⟨u, 0 + 3, none⟩))).put (some 96) (.int .i64 q)).put (some 97) (.pointer (some ⟨u, 0 + 4, none⟩))).put (some 98) (.string ⟨s.toArray⟩)).put (some 99) (.tuple #[])) := by
      rw [hosz]
      simp only [frm, if_true]
      rw [tab_dst htab 0, tab_dst htab 1, tab_dst htab 2, tab_dst htab 3, tab_dst htab 4, tab_dst htab 5, tab_dst htab 6, tab_dst htab 7, tab_dst htab 8]
      rfl
    rw [e]
    exact this
  intro i o ho L a w' hL hd ha hW
  have hi : i < 9 := by rw [← hosz]; exact (Array.getElem?_eq_some_iff.1 ho).1
  match i, ho, hL, hi with
  | 0, ho, hL, _ =>
    obtain ⟨hop, hdst, hgd⟩ := tab_at htab ho (show rwdT[0]? = _ from rfl)
    simp only at hop hgd
    have h0 := frm_old ha 5 _ (hold 5 rfl) o5
    exact doesL_run ho (wanted_none hgd) (hpure 0 (by decide) L w' hW) (by rw [run_move _ _ _ hop]; exact congrArg (fun v => Result.ok (Next.value v) w') (eval_of h0))
  | 1, ho, hL, _ =>
    obtain ⟨hop, hdst, hgd⟩ := tab_at htab ho (show rwdT[1]? = _ from rfl)
    simp only at hop hgd
    have h0 := frm_old ha 8 _ (hold 8 rfl) o8
    exact doesL_run ho (wanted_none hgd) (hpure 1 (by decide) L w' hW) (by rw [run_move _ _ _ hop]; exact congrArg (fun v => Result.ok (Next.value v) w') (eval_of h0))
  | 2, ho, hL, _ =>
    obtain ⟨hop, hdst, hgd⟩ := tab_at htab ho (show rwdT[2]? = _ from rfl)
    simp only at hop hgd
    have h0 := frm_at hdis ha 0 91 (hds 0 91 rfl) (by omega) (depl_of hdep 2 0 (by decide) ho hd)
    have h1 := frm_at hdis ha 1 92 (hds 1 92 rfl) (by omega) (depl_of hdep 2 1 (by decide) ho hd)
    exact doesL_run ho (wanted_none hgd) (hpure 2 (by decide) L w' hW) (run_ia30 _ _ _ _ hop _ _ _ _ _ i2 (eval_of h0) (eval_of h1) _)
  | 3, ho, hL, _ =>
    obtain ⟨hop, hdst, hgd⟩ := tab_at htab ho (show rwdT[3]? = _ from rfl)
    simp only at hop hgd
    have h0 := frm_at hdis ha 2 93 (hds 2 93 rfl) (by omega) (depl_of hdep 3 2 (by decide) ho hd)
    exact doesL_run ho (wanted_none hgd) (hpure 3 (by decide) L w' hW) (run_ld28 _ _ _ hop _ _ (eval_of h0) _ (l3 L w' hW))
  | 4, ho, hL, _ =>
    obtain ⟨hop, hdst, hgd⟩ := tab_at htab ho (show rwdT[4]? = _ from rfl)
    simp only at hop hgd
    have h0 := frm_old ha 7 _ (hold 7 rfl) o7
    exact doesL_run ho (wanted_none hgd) (hpure 4 (by decide) L w' hW) (run_f33 _ _ _ 3 (by decide) hop _ _ (eval_of h0) _)
  | 5, ho, hL, _ =>
    obtain ⟨hop, hdst, hgd⟩ := tab_at htab ho (show rwdT[5]? = _ from rfl)
    simp only at hop hgd
    have h0 := frm_at hdis ha 4 95 (hds 4 95 rfl) (by omega) (depl_of hdep 5 4 (by decide) ho hd)
    exact doesL_run ho (wanted_none hgd) (hpure 5 (by decide) L w' hW) (run_ld3 _ _ _ hop _ _ (eval_of h0) _ (l5 L w' hW))
  | 6, ho, hL, _ =>
    obtain ⟨hop, hdst, hgd⟩ := tab_at htab ho (show rwdT[6]? = _ from rfl)
    simp only at hop hgd
    have h0 := frm_old ha 7 _ (hold 7 rfl) o7
    exact doesL_run ho (wanted_none hgd) (hpure 6 (by decide) L w' hW) (run_f33 _ _ _ 4 (by decide) hop _ _ (eval_of h0) _)
  | 7, ho, hL, _ =>
    obtain ⟨hop, hdst, hgd⟩ := tab_at htab ho (show rwdT[7]? = _ from rfl)
    simp only at hop hgd
    have h0 := frm_at hdis ha 6 97 (hds 6 97 rfl) (by omega) (depl_of hdep 7 6 (by decide) ho hd)
    exact doesL_run ho (wanted_none hgd) (hpure 7 (by decide) L w' hW) (run_ld _ _ _ hop _ _ (eval_of h0) _ (l7 L w' hW))
  | 8, ho, hL, _ =>
    obtain ⟨hop, hdst, hgd⟩ := tab_at htab ho (show rwdT[8]? = _ from rfl)
    simp only at hop hgd
    have h0 := frm_at hdis ha 3 94 (hds 3 94 rfl) (by omega) (depl_of hdep 8 3 (by decide) ho hd)
    have h1 := frm_at hdis ha 5 96 (hds 5 96 rfl) (by omega) (depl_of hdep 8 5 (by decide) ho hd)
    have h2 := frm_at hdis ha 7 98 (hds 7 98 rfl) (by omega) (depl_of hdep 8 7 (by decide) ho hd)
    refine doesL_call ho (wanted_none hgd) 16 #[(.pointer (some ⟨b, 0, none⟩)), (.int .i64 q), (.string ⟨s.toArray⟩)] ?_ (c8 L w' hW hL)
    rw [run_calls Tryd.func16 (by kernel_rfl) rfl _ _ _ _ hop rfl]
    simp only [List.map_toArray, List.map_cons, List.map_nil, eval_of h0, eval_of h1, eval_of h2]
    all_goals rfl
  | (i + 9), ho, hL, hi => exact absurd hi (by omega)
def rweT : List (Op × Option Tmp × Option (Nat × Bool)) := [
  (.move (.tmp 4), some 102, none),
  (.move (.tmp 8), some 103, none),
  (.indexAddr 27 (.tmp 102) (.tmp 103), some 104, none),
  (.load 25 (.tmp 104), some 105, none),
  (.fieldAddr 33 (.tmp 7) 4, some 106, none),
  (.load 9 (.tmp 106), some 107, none),
  (.call { callee := .value (.func 17), args := #[(.tmp 105), (.tmp 107)], argTypes := #[25, 9] }, some 108, none)]
def rweD : List (Nat × Nat) := [(2, 0), (2, 1), (3, 2), (5, 4), (6, 3), (6, 5)]
set_option maxHeartbeats 2000000 in
theorem rwe {ops : Array Oper} {id : Nat} {Q : Exit → Act → World → Prop} (ga k u b : Nat) (s : List UInt8) (htab : ops.toList.map (fun o => (o.op, o.dst, o.guard)) = rweT) (hdep : deplB rweD ops = true) (hac : acB ops = true)
    (a0 : Act) (w : World) (hsz : 109 ≤ a0.tmps.size) (o4 : a0.tmps[4]? = some (.slice (some ⟨ga, 0, none⟩) 2 2)) (o7 : a0.tmps[7]? = some (.pointer (some ⟨u, 0, none⟩))) (o8 : a0.tmps[8]? = some (.int .i64 (k : Int)))
    (Wd : (Nat → Bool) → World → Prop) (h0 : Wd (fun _ => false) w.drew) (hpure : ∀ i, i ∉ ([6] : List Nat) → ∀ L W, Wd L W → Wd (upd L i) W)
    (i2 : k < 2) (l3 : ∀ L W, Wd L W → W.cell? ⟨ga, 0 + k, none⟩ = some (.pointer (some ⟨b, 0, none⟩))) (l5 : ∀ L W, Wd L W → W.cell? ⟨u, 0 + 4, none⟩ = some (.string ⟨s.toArray⟩))
    (c6 : ∀ L W, Wd L W → L 6 = false → Calls Tryd.prog 17 #[(.pointer (some ⟨b, 0, none⟩)), (.string ⟨s.toArray⟩)] W fun e w' => e = .returned (.tuple #[]) ∧ Wd (upd L 6) w')
    (hend : ∀ L W, (∀ i, i < 7 → L i = true) → Wd L W → Q .normal (((((((a0.put (some 102) (.slice (some ⟨ga, 0, none⟩) 2 2)).put (some 103) (.int .i64 (k : Int))).put (some 104) (.pointer (some ⟨ga, 0 + k, none⟩))).put (some 105) (.pointer (some ⟨b, 0, none⟩))).put (some 106) (.pointer (some ⟨u, 0 + 4, none⟩))).put (some 107) (.string ⟨s.toArray⟩)).put (some 108) (.tuple #[])) W) : (Code.region id ops true).wp Tryd.prog Q a0 w := by
  let val : Nat → Value := fun i => match i with
    | 0 => (.slice (some ⟨ga, 0, none⟩) 2 2)
    | 1 => (.int .i64 (k : Int))
    | 2 => (.pointer (some ⟨ga, 0 + k, none⟩))
    | 3 => (.pointer (some ⟨b, 0, none⟩))
    | 4 => (.pointer (some ⟨u, 0 + 4, none⟩))
    | 5 => (.string ⟨s.toArray⟩)
    | 6 => (.tuple #[])
    | _ => undef
  have hosz : ops.size = 7 := by
    have := congrArg List.length htab
    simpa [rweT] using this
  have hds : ∀ i s, (rweT[i]?).bind (·.2.1) = some s → dstOf ops i = some s := fun i s hi => by rw [tab_dst htab, hi]
  have hdisB : disL rweT = true := by rfl
  have hdis := disL_of htab hdisB
  have hold : ∀ s, rweT.all (fun x => !(x.2.1 == some s)) = true → (List.range ops.size).all (fun j => !(dstOf ops j == some s)) = true := fun s h => holdL htab s h
  refine region_detL val Wd (hac_of hac) hdis h0 ?_ ?_
  rotate_left
  · intro L W hall hW
    have := hend L W (by rw [← hosz]; exact hall) hW
    have e : frm ops a0 val (fun _ => true) ops.size = (((((((a0.put (some 102) (.slice (some ⟨ga, 0, none⟩) 2 2)).put (some 103) (.int .i64 (k : Int))).put (some 104) (.pointer (some ⟨ga, 0 + k, none⟩))).put (some 105) (.pointer (some ⟨b, 0, none⟩))).put (some 106) (.pointer (some ⟨u, 0 + 4, none⟩))).put (some 107) (.string ⟨s.toArray⟩)).put (some 108) (.tuple #[])) := by
      rw [hosz]
      simp only [frm, if_true]
      rw [tab_dst htab 0, tab_dst htab 1, tab_dst htab 2, tab_dst htab 3, tab_dst htab 4, tab_dst htab 5, tab_dst htab 6]
      rfl
    rw [e]
    exact this
  intro i o ho L a w' hL hd ha hW
  have hi : i < 7 := by rw [← hosz]; exact (Array.getElem?_eq_some_iff.1 ho).1
  match i, ho, hL, hi with
  | 0, ho, hL, _ =>
    obtain ⟨hop, hdst, hgd⟩ := tab_at htab ho (show rweT[0]? = _ from rfl)
    simp only at hop hgd
    have h0 := frm_old ha 4 _ (hold 4 rfl) o4
    exact doesL_run ho (wanted_none hgd) (hpure 0 (by decide) L w' hW) (by rw [run_move _ _ _ hop]; exact congrArg (fun v => Result.ok (Next.value v) w') (eval_of h0))
  | 1, ho, hL, _ =>
    obtain ⟨hop, hdst, hgd⟩ := tab_at htab ho (show rweT[1]? = _ from rfl)
    simp only at hop hgd
    have h0 := frm_old ha 8 _ (hold 8 rfl) o8
    exact doesL_run ho (wanted_none hgd) (hpure 1 (by decide) L w' hW) (by rw [run_move _ _ _ hop]; exact congrArg (fun v => Result.ok (Next.value v) w') (eval_of h0))
  | 2, ho, hL, _ =>
    obtain ⟨hop, hdst, hgd⟩ := tab_at htab ho (show rweT[2]? = _ from rfl)
    simp only at hop hgd
    have h0 := frm_at hdis ha 0 102 (hds 0 102 rfl) (by omega) (depl_of hdep 2 0 (by decide) ho hd)
    have h1 := frm_at hdis ha 1 103 (hds 1 103 rfl) (by omega) (depl_of hdep 2 1 (by decide) ho hd)
    exact doesL_run ho (wanted_none hgd) (hpure 2 (by decide) L w' hW) (run_ia27 _ _ _ _ hop _ _ _ _ _ i2 (eval_of h0) (eval_of h1) _)
  | 3, ho, hL, _ =>
    obtain ⟨hop, hdst, hgd⟩ := tab_at htab ho (show rweT[3]? = _ from rfl)
    simp only at hop hgd
    have h0 := frm_at hdis ha 2 104 (hds 2 104 rfl) (by omega) (depl_of hdep 3 2 (by decide) ho hd)
    exact doesL_run ho (wanted_none hgd) (hpure 3 (by decide) L w' hW) (run_ld25 _ _ _ hop _ _ (eval_of h0) _ (l3 L w' hW))
  | 4, ho, hL, _ =>
    obtain ⟨hop, hdst, hgd⟩ := tab_at htab ho (show rweT[4]? = _ from rfl)
    simp only at hop hgd
    have h0 := frm_old ha 7 _ (hold 7 rfl) o7
    exact doesL_run ho (wanted_none hgd) (hpure 4 (by decide) L w' hW) (run_f33 _ _ _ 4 (by decide) hop _ _ (eval_of h0) _)
  | 5, ho, hL, _ =>
    obtain ⟨hop, hdst, hgd⟩ := tab_at htab ho (show rweT[5]? = _ from rfl)
    simp only at hop hgd
    have h0 := frm_at hdis ha 4 106 (hds 4 106 rfl) (by omega) (depl_of hdep 5 4 (by decide) ho hd)
    exact doesL_run ho (wanted_none hgd) (hpure 5 (by decide) L w' hW) (run_ld _ _ _ hop _ _ (eval_of h0) _ (l5 L w' hW))
  | 6, ho, hL, _ =>
    obtain ⟨hop, hdst, hgd⟩ := tab_at htab ho (show rweT[6]? = _ from rfl)
    simp only at hop hgd
    have h0 := frm_at hdis ha 3 105 (hds 3 105 rfl) (by omega) (depl_of hdep 6 3 (by decide) ho hd)
    have h1 := frm_at hdis ha 5 107 (hds 5 107 rfl) (by omega) (depl_of hdep 6 5 (by decide) ho hd)
    refine doesL_call ho (wanted_none hgd) 17 #[(.pointer (some ⟨b, 0, none⟩)), (.string ⟨s.toArray⟩)] ?_ (c6 L w' hW hL)
    rw [run_calls Tryd.func17 (by kernel_rfl) rfl _ _ _ _ hop rfl]
    simp only [List.map_toArray, List.map_cons, List.map_nil, eval_of h0, eval_of h1]
    all_goals rfl
  | (i + 7), ho, hL, hi => exact absurd hi (by omega)
def rwfT : List (Op × Option Tmp × Option (Nat × Bool)) := [
  (.move (.tmp 5), some 109, none),
  (.move (.tmp 8), some 110, none),
  (.indexAddr 30 (.tmp 109) (.tmp 110), some 111, none),
  (.load 28 (.tmp 111), some 112, none),
  (.fieldAddr 33 (.tmp 7) 4, some 113, none),
  (.load 9 (.tmp 113), some 114, none),
  (.call { callee := .value (.func 18), args := #[(.tmp 112), (.tmp 114)], argTypes := #[28, 9] }, some 115, none)]
def rwfD : List (Nat × Nat) := [(2, 0), (2, 1), (3, 2), (5, 4), (6, 3), (6, 5)]
set_option maxHeartbeats 2000000 in
theorem rwf {ops : Array Oper} {id : Nat} {Q : Exit → Act → World → Prop} (ga k u b : Nat) (s : List UInt8) (htab : ops.toList.map (fun o => (o.op, o.dst, o.guard)) = rwfT) (hdep : deplB rwfD ops = true) (hac : acB ops = true)
    (a0 : Act) (w : World) (hsz : 116 ≤ a0.tmps.size) (o5 : a0.tmps[5]? = some (.slice (some ⟨ga, 0, none⟩) 2 2)) (o7 : a0.tmps[7]? = some (.pointer (some ⟨u, 0, none⟩))) (o8 : a0.tmps[8]? = some (.int .i64 (k : Int)))
    (Wd : (Nat → Bool) → World → Prop) (h0 : Wd (fun _ => false) w.drew) (hpure : ∀ i, i ∉ ([6] : List Nat) → ∀ L W, Wd L W → Wd (upd L i) W)
    (i2 : k < 2) (l3 : ∀ L W, Wd L W → W.cell? ⟨ga, 0 + k, none⟩ = some (.pointer (some ⟨b, 0, none⟩))) (l5 : ∀ L W, Wd L W → W.cell? ⟨u, 0 + 4, none⟩ = some (.string ⟨s.toArray⟩))
    (c6 : ∀ L W, Wd L W → L 6 = false → Calls Tryd.prog 18 #[(.pointer (some ⟨b, 0, none⟩)), (.string ⟨s.toArray⟩)] W fun e w' => e = .returned (.tuple #[]) ∧ Wd (upd L 6) w')
    (hend : ∀ L W, (∀ i, i < 7 → L i = true) → Wd L W → Q .normal (((((((a0.put (some 109) (.slice (some ⟨ga, 0, none⟩) 2 2)).put (some 110) (.int .i64 (k : Int))).put (some 111) (.pointer (some ⟨ga, 0 + k, none⟩))).put (some 112) (.pointer (some ⟨b, 0, none⟩))).put (some 113) (.pointer (some ⟨u, 0 + 4, none⟩))).put (some 114) (.string ⟨s.toArray⟩)).put (some 115) (.tuple #[])) W) : (Code.region id ops true).wp Tryd.prog Q a0 w := by
  let val : Nat → Value := fun i => match i with
    | 0 => (.slice (some ⟨ga, 0, none⟩) 2 2)
    | 1 => (.int .i64 (k : Int))
    | 2 => (.pointer (some ⟨ga, 0 + k, none⟩))
    | 3 => (.pointer (some ⟨b, 0, none⟩))
    | 4 => (.pointer (some ⟨u, 0 + 4, none⟩))
    | 5 => (.string ⟨s.toArray⟩)
    | 6 => (.tuple #[])
    | _ => undef
  have hosz : ops.size = 7 := by
    have := congrArg List.length htab
    simpa [rwfT] using this
  have hds : ∀ i s, (rwfT[i]?).bind (·.2.1) = some s → dstOf ops i = some s := fun i s hi => by rw [tab_dst htab, hi]
  have hdisB : disL rwfT = true := by rfl
  have hdis := disL_of htab hdisB
  have hold : ∀ s, rwfT.all (fun x => !(x.2.1 == some s)) = true → (List.range ops.size).all (fun j => !(dstOf ops j == some s)) = true := fun s h => holdL htab s h
  refine region_detL val Wd (hac_of hac) hdis h0 ?_ ?_
  rotate_left
  · intro L W hall hW
    have := hend L W (by rw [← hosz]; exact hall) hW
    have e : frm ops a0 val (fun _ => true) ops.size = (((((((a0.put (some 109) (.slice (some ⟨ga, 0, none⟩) 2 2)).put (some 110) (.int .i64 (k : Int))).put (some 111) (.pointer (some ⟨ga, 0 + k, none⟩))).put (some 112) (.pointer (some ⟨b, 0, none⟩))).put (some 113) (.pointer (some ⟨u, 0 + 4, none⟩))).put (some 114) (.string ⟨s.toArray⟩)).put (some 115) (.tuple #[])) := by
      rw [hosz]
      simp only [frm, if_true]
      rw [tab_dst htab 0, tab_dst htab 1, tab_dst htab 2, tab_dst htab 3, tab_dst htab 4, tab_dst htab 5, tab_dst htab 6]
      rfl
    rw [e]
    exact this
  intro i o ho L a w' hL hd ha hW
  have hi : i < 7 := by rw [← hosz]; exact (Array.getElem?_eq_some_iff.1 ho).1
  match i, ho, hL, hi with
  | 0, ho, hL, _ =>
    obtain ⟨hop, hdst, hgd⟩ := tab_at htab ho (show rwfT[0]? = _ from rfl)
    simp only at hop hgd
    have h0 := frm_old ha 5 _ (hold 5 rfl) o5
    exact doesL_run ho (wanted_none hgd) (hpure 0 (by decide) L w' hW) (by rw [run_move _ _ _ hop]; exact congrArg (fun v => Result.ok (Next.value v) w') (eval_of h0))
  | 1, ho, hL, _ =>
    obtain ⟨hop, hdst, hgd⟩ := tab_at htab ho (show rwfT[1]? = _ from rfl)
    simp only at hop hgd
    have h0 := frm_old ha 8 _ (hold 8 rfl) o8
    exact doesL_run ho (wanted_none hgd) (hpure 1 (by decide) L w' hW) (by rw [run_move _ _ _ hop]; exact congrArg (fun v => Result.ok (Next.value v) w') (eval_of h0))
  | 2, ho, hL, _ =>
    obtain ⟨hop, hdst, hgd⟩ := tab_at htab ho (show rwfT[2]? = _ from rfl)
    simp only at hop hgd
    have h0 := frm_at hdis ha 0 109 (hds 0 109 rfl) (by omega) (depl_of hdep 2 0 (by decide) ho hd)
    have h1 := frm_at hdis ha 1 110 (hds 1 110 rfl) (by omega) (depl_of hdep 2 1 (by decide) ho hd)
    exact doesL_run ho (wanted_none hgd) (hpure 2 (by decide) L w' hW) (run_ia30 _ _ _ _ hop _ _ _ _ _ i2 (eval_of h0) (eval_of h1) _)
  | 3, ho, hL, _ =>
    obtain ⟨hop, hdst, hgd⟩ := tab_at htab ho (show rwfT[3]? = _ from rfl)
    simp only at hop hgd
    have h0 := frm_at hdis ha 2 111 (hds 2 111 rfl) (by omega) (depl_of hdep 3 2 (by decide) ho hd)
    exact doesL_run ho (wanted_none hgd) (hpure 3 (by decide) L w' hW) (run_ld28 _ _ _ hop _ _ (eval_of h0) _ (l3 L w' hW))
  | 4, ho, hL, _ =>
    obtain ⟨hop, hdst, hgd⟩ := tab_at htab ho (show rwfT[4]? = _ from rfl)
    simp only at hop hgd
    have h0 := frm_old ha 7 _ (hold 7 rfl) o7
    exact doesL_run ho (wanted_none hgd) (hpure 4 (by decide) L w' hW) (run_f33 _ _ _ 4 (by decide) hop _ _ (eval_of h0) _)
  | 5, ho, hL, _ =>
    obtain ⟨hop, hdst, hgd⟩ := tab_at htab ho (show rwfT[5]? = _ from rfl)
    simp only at hop hgd
    have h0 := frm_at hdis ha 4 113 (hds 4 113 rfl) (by omega) (depl_of hdep 5 4 (by decide) ho hd)
    exact doesL_run ho (wanted_none hgd) (hpure 5 (by decide) L w' hW) (run_ld _ _ _ hop _ _ (eval_of h0) _ (l5 L w' hW))
  | 6, ho, hL, _ =>
    obtain ⟨hop, hdst, hgd⟩ := tab_at htab ho (show rwfT[6]? = _ from rfl)
    simp only at hop hgd
    have h0 := frm_at hdis ha 3 112 (hds 3 112 rfl) (by omega) (depl_of hdep 6 3 (by decide) ho hd)
    have h1 := frm_at hdis ha 5 114 (hds 5 114 rfl) (by omega) (depl_of hdep 6 5 (by decide) ho hd)
    refine doesL_call ho (wanted_none hgd) 18 #[(.pointer (some ⟨b, 0, none⟩)), (.string ⟨s.toArray⟩)] ?_ (c6 L w' hW hL)
    rw [run_calls Tryd.func18 (by kernel_rfl) rfl _ _ _ _ hop rfl]
    simp only [List.map_toArray, List.map_cons, List.map_nil, eval_of h0, eval_of h1]
    all_goals rfl
  | (i + 7), ho, hL, hi => exact absurd hi (by omega)
def rwmT : List (Op × Option Tmp × Option (Nat × Bool)) := [
  (.move (.tmp 4), some 118, none),
  (.move (.tmp 8), some 119, none),
  (.indexAddr 27 (.tmp 118) (.tmp 119), some 120, none),
  (.load 25 (.tmp 120), some 121, none),
  (.move (.tmp 5), some 122, none),
  (.move (.tmp 8), some 123, none),
  (.indexAddr 30 (.tmp 122) (.tmp 123), some 124, none),
  (.load 28 (.tmp 124), some 125, none),
  (.load 33 (.tmp 7), some 126, none),
  (.call { callee := .value (.func 19), args := #[(.tmp 121), (.tmp 125), (.tmp 126)], argTypes := #[25, 28, 33] }, some 127, none),
  (.assign (.tmp 127), some 9, none)]
def rwmD : List (Nat × Nat) := [(2, 0), (2, 1), (3, 2), (6, 4), (6, 5), (7, 6), (9, 3), (9, 7), (9, 8), (10, 9)]
set_option maxHeartbeats 2000000 in
theorem rwm {ops : Array Oper} {id : Nat} {Q : Exit → Act → World → Prop} (gw gx k u b z : Nat) (x : Ro) (htab : ops.toList.map (fun o => (o.op, o.dst, o.guard)) = rwmT) (hdep : deplB rwmD ops = true) (hac : acB ops = true)
    (a0 : Act) (w : World) (hsz : 128 ≤ a0.tmps.size) (o4 : a0.tmps[4]? = some (.slice (some ⟨gw, 0, none⟩) 2 2)) (o5 : a0.tmps[5]? = some (.slice (some ⟨gx, 0, none⟩) 2 2)) (o7 : a0.tmps[7]? = some (.pointer (some ⟨u, 0, none⟩))) (o8 : a0.tmps[8]? = some (.int .i64 (k : Int)))
    (Wd : (Nat → Bool) → World → Prop) (h0 : Wd (fun _ => false) w.drew) (hpure : ∀ i, i ∉ ([9] : List Nat) → ∀ L W, Wd L W → Wd (upd L i) W)
    (i2 : k < 2) (i6 : k < 2) (l3 : ∀ L W, Wd L W → W.cell? ⟨gw, 0 + k, none⟩ = some (.pointer (some ⟨b, 0, none⟩))) (l7 : ∀ L W, Wd L W → W.cell? ⟨gx, 0 + k, none⟩ = some (.pointer (some ⟨z, 0, none⟩))) (l8 : ∀ L W, Wd L W → RoAt W u 0 x)
    (c9 : ∀ L W, Wd L W → L 9 = false → Calls Tryd.prog 19 #[(.pointer (some ⟨b, 0, none⟩)), (.pointer (some ⟨z, 0, none⟩)), (.agg #[.int .i64 x.kd, .int .i64 x.on, .int .i64 x.sz, .int .i64 x.nn, .string ⟨x.s.toArray⟩, .slice x.lp x.ln x.lc])] W fun e w' => e = .returned (.bool true) ∧ Wd (upd L 9) w')
    (hend : ∀ L W, (∀ i, i < 11 → L i = true) → Wd L W → Q .normal (((((((((((a0.put (some 118) (.slice (some ⟨gw, 0, none⟩) 2 2)).put (some 119) (.int .i64 (k : Int))).put (some 120) (.pointer (some ⟨gw, 0 + k, none⟩))).put (some 121) (.pointer (some ⟨b, 0, none⟩))).put (some 122) (.slice (some ⟨gx, 0, none⟩) 2 2)).put (some 123) (.int .i64 (k : Int))).put (some 124) (.pointer (some ⟨gx, 0 + k, none⟩))).put (some 125) (.pointer (some ⟨z, 0, none⟩))).put (some 126) (.agg #[.int .i64 x.kd, .int .i64 x.on, .int .i64 x.sz, .int .i64 x.nn, .string ⟨x.s.toArray⟩, .slice x.lp x.ln x.lc])).put (some 127) (.bool true)).put (some 9) (.bool true)) W) : (Code.region id ops true).wp Tryd.prog Q a0 w := by
  let val : Nat → Value := fun i => match i with
    | 0 => (.slice (some ⟨gw, 0, none⟩) 2 2)
    | 1 => (.int .i64 (k : Int))
    | 2 => (.pointer (some ⟨gw, 0 + k, none⟩))
    | 3 => (.pointer (some ⟨b, 0, none⟩))
    | 4 => (.slice (some ⟨gx, 0, none⟩) 2 2)
    | 5 => (.int .i64 (k : Int))
    | 6 => (.pointer (some ⟨gx, 0 + k, none⟩))
    | 7 => (.pointer (some ⟨z, 0, none⟩))
    | 8 => (.agg #[.int .i64 x.kd, .int .i64 x.on, .int .i64 x.sz, .int .i64 x.nn, .string ⟨x.s.toArray⟩, .slice x.lp x.ln x.lc])
    | 9 => (.bool true)
    | 10 => (.bool true)
    | _ => undef
  have hosz : ops.size = 11 := by
    have := congrArg List.length htab
    simpa [rwmT] using this
  have hds : ∀ i s, (rwmT[i]?).bind (·.2.1) = some s → dstOf ops i = some s := fun i s hi => by rw [tab_dst htab, hi]
  have hdisB : disL rwmT = true := by rfl
  have hdis := disL_of htab hdisB
  have hold : ∀ s, rwmT.all (fun x => !(x.2.1 == some s)) = true → (List.range ops.size).all (fun j => !(dstOf ops j == some s)) = true := fun s h => holdL htab s h
  refine region_detL val Wd (hac_of hac) hdis h0 ?_ ?_
  rotate_left
  · intro L W hall hW
    have := hend L W (by rw [← hosz]; exact hall) hW
    have e : frm ops a0 val (fun _ => true) ops.size = (((((((((((a0.put (some 118) (.slice (some ⟨gw, 0, none⟩) 2 2)).put (some 119) (.int .i64 (k : Int))).put (some 120) (.pointer (some ⟨gw, 0 + k, none⟩))).put (some 121) (.pointer (some ⟨b, 0, none⟩))).put (some 122) (.slice (some ⟨gx, 0, none⟩) 2 2)).put (some 123) (.int .i64 (k : Int))).put (some 124) (.pointer (some ⟨gx, 0 + k, none⟩))).put (some 125) (.pointer (some ⟨z, 0, none⟩))).put (some 126) (.agg #[.int .i64 x.kd, .int .i64 x.on, .int .i64 x.sz, .int .i64 x.nn, .string ⟨x.s.toArray⟩, .slice x.lp x.ln x.lc])).put (some 127) (.bool true)).put (some 9) (.bool true)) := by
      rw [hosz]
      simp only [frm, if_true]
      rw [tab_dst htab 0, tab_dst htab 1, tab_dst htab 2, tab_dst htab 3, tab_dst htab 4, tab_dst htab 5, tab_dst htab 6, tab_dst htab 7, tab_dst htab 8, tab_dst htab 9, tab_dst htab 10]
      rfl
    rw [e]
    exact this
  intro i o ho L a w' hL hd ha hW
  have hi : i < 11 := by rw [← hosz]; exact (Array.getElem?_eq_some_iff.1 ho).1
  match i, ho, hL, hi with
  | 0, ho, hL, _ =>
    obtain ⟨hop, hdst, hgd⟩ := tab_at htab ho (show rwmT[0]? = _ from rfl)
    simp only at hop hgd
    have h0 := frm_old ha 4 _ (hold 4 rfl) o4
    exact doesL_run ho (wanted_none hgd) (hpure 0 (by decide) L w' hW) (by rw [run_move _ _ _ hop]; exact congrArg (fun v => Result.ok (Next.value v) w') (eval_of h0))
  | 1, ho, hL, _ =>
    obtain ⟨hop, hdst, hgd⟩ := tab_at htab ho (show rwmT[1]? = _ from rfl)
    simp only at hop hgd
    have h0 := frm_old ha 8 _ (hold 8 rfl) o8
    exact doesL_run ho (wanted_none hgd) (hpure 1 (by decide) L w' hW) (by rw [run_move _ _ _ hop]; exact congrArg (fun v => Result.ok (Next.value v) w') (eval_of h0))
  | 2, ho, hL, _ =>
    obtain ⟨hop, hdst, hgd⟩ := tab_at htab ho (show rwmT[2]? = _ from rfl)
    simp only at hop hgd
    have h0 := frm_at hdis ha 0 118 (hds 0 118 rfl) (by omega) (depl_of hdep 2 0 (by decide) ho hd)
    have h1 := frm_at hdis ha 1 119 (hds 1 119 rfl) (by omega) (depl_of hdep 2 1 (by decide) ho hd)
    exact doesL_run ho (wanted_none hgd) (hpure 2 (by decide) L w' hW) (run_ia27 _ _ _ _ hop _ _ _ _ _ i2 (eval_of h0) (eval_of h1) _)
  | 3, ho, hL, _ =>
    obtain ⟨hop, hdst, hgd⟩ := tab_at htab ho (show rwmT[3]? = _ from rfl)
    simp only at hop hgd
    have h0 := frm_at hdis ha 2 120 (hds 2 120 rfl) (by omega) (depl_of hdep 3 2 (by decide) ho hd)
    exact doesL_run ho (wanted_none hgd) (hpure 3 (by decide) L w' hW) (run_ld25 _ _ _ hop _ _ (eval_of h0) _ (l3 L w' hW))
  | 4, ho, hL, _ =>
    obtain ⟨hop, hdst, hgd⟩ := tab_at htab ho (show rwmT[4]? = _ from rfl)
    simp only at hop hgd
    have h0 := frm_old ha 5 _ (hold 5 rfl) o5
    exact doesL_run ho (wanted_none hgd) (hpure 4 (by decide) L w' hW) (by rw [run_move _ _ _ hop]; exact congrArg (fun v => Result.ok (Next.value v) w') (eval_of h0))
  | 5, ho, hL, _ =>
    obtain ⟨hop, hdst, hgd⟩ := tab_at htab ho (show rwmT[5]? = _ from rfl)
    simp only at hop hgd
    have h0 := frm_old ha 8 _ (hold 8 rfl) o8
    exact doesL_run ho (wanted_none hgd) (hpure 5 (by decide) L w' hW) (by rw [run_move _ _ _ hop]; exact congrArg (fun v => Result.ok (Next.value v) w') (eval_of h0))
  | 6, ho, hL, _ =>
    obtain ⟨hop, hdst, hgd⟩ := tab_at htab ho (show rwmT[6]? = _ from rfl)
    simp only at hop hgd
    have h0 := frm_at hdis ha 4 122 (hds 4 122 rfl) (by omega) (depl_of hdep 6 4 (by decide) ho hd)
    have h1 := frm_at hdis ha 5 123 (hds 5 123 rfl) (by omega) (depl_of hdep 6 5 (by decide) ho hd)
    exact doesL_run ho (wanted_none hgd) (hpure 6 (by decide) L w' hW) (run_ia30 _ _ _ _ hop _ _ _ _ _ i6 (eval_of h0) (eval_of h1) _)
  | 7, ho, hL, _ =>
    obtain ⟨hop, hdst, hgd⟩ := tab_at htab ho (show rwmT[7]? = _ from rfl)
    simp only at hop hgd
    have h0 := frm_at hdis ha 6 124 (hds 6 124 rfl) (by omega) (depl_of hdep 7 6 (by decide) ho hd)
    exact doesL_run ho (wanted_none hgd) (hpure 7 (by decide) L w' hW) (run_ld28 _ _ _ hop _ _ (eval_of h0) _ (l7 L w' hW))
  | 8, ho, hL, _ =>
    obtain ⟨hop, hdst, hgd⟩ := tab_at htab ho (show rwmT[8]? = _ from rfl)
    simp only at hop hgd
    have h0 := frm_old ha 7 _ (hold 7 rfl) o7
    exact doesL_run ho (wanted_none hgd) (hpure 8 (by decide) L w' hW) (run_l33 _ _ _ hop _ (eval_of h0) _ _ _ _ _ _ _ (l8 L w' hW).c0 (l8 L w' hW).c1 (l8 L w' hW).c2 (l8 L w' hW).c3 (l8 L w' hW).c4 (l8 L w' hW).c5)
  | 9, ho, hL, _ =>
    obtain ⟨hop, hdst, hgd⟩ := tab_at htab ho (show rwmT[9]? = _ from rfl)
    simp only at hop hgd
    have h0 := frm_at hdis ha 3 121 (hds 3 121 rfl) (by omega) (depl_of hdep 9 3 (by decide) ho hd)
    have h1 := frm_at hdis ha 7 125 (hds 7 125 rfl) (by omega) (depl_of hdep 9 7 (by decide) ho hd)
    have h2 := frm_at hdis ha 8 126 (hds 8 126 rfl) (by omega) (depl_of hdep 9 8 (by decide) ho hd)
    refine doesL_call ho (wanted_none hgd) 19 #[(.pointer (some ⟨b, 0, none⟩)), (.pointer (some ⟨z, 0, none⟩)), (.agg #[.int .i64 x.kd, .int .i64 x.on, .int .i64 x.sz, .int .i64 x.nn, .string ⟨x.s.toArray⟩, .slice x.lp x.ln x.lc])] ?_ (c9 L w' hW hL)
    rw [run_calls Tryd.func19 (by kernel_rfl) rfl _ _ _ _ hop rfl]
    simp only [List.map_toArray, List.map_cons, List.map_nil, eval_of h0, eval_of h1, eval_of h2]
    all_goals rfl
  | 10, ho, hL, _ =>
    obtain ⟨hop, hdst, hgd⟩ := tab_at htab ho (show rwmT[10]? = _ from rfl)
    simp only at hop hgd
    have h0 := frm_at hdis ha 9 127 (hds 9 127 rfl) (by omega) (depl_of hdep 10 9 (by decide) ho hd)
    exact doesL_run ho (wanted_none hgd) (hpure 10 (by decide) L w' hW) (by rw [run_assign _ _ _ hop]; exact congrArg (fun v => Result.ok (Next.value v) w') (eval_of h0))
  | (i + 11), ho, hL, hi => exact absurd hi (by omega)
end Go.Proofs.YthddilflldkmfaaDoor
