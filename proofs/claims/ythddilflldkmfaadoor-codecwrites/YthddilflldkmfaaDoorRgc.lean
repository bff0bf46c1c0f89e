import Derived.Test.YthddilflldkmfaaDoorOpc
namespace Go.Proofs.YthddilflldkmfaaDoor
open Go.RowKit Go.Lib
def rgnT : List (Op × Option Tmp × Option (Nat × Bool)) := [
  (.move (.tmp 8), some 65, none),
  (.move (.tmp 12), some 66, none),
  (.indexAddr 45 (.tmp 65) (.tmp 66), some 67, none),
  (.load 43 (.tmp 67), some 68, none),
  (.fieldAddr 33 (.tmp 11) 2, some 69, none),
  (.load 3 (.tmp 69), some 70, none),
  (.call { callee := .value (.func 25), args := #[(.tmp 68), (.tmp 70)], argTypes := #[43, 3] }, some 71, none),
  (.move (.tmp 9), some 72, none),
  (.move (.tmp 12), some 73, none),
  (.indexAddr 48 (.tmp 72) (.tmp 73), some 74, none),
  (.load 46 (.tmp 74), some 75, none),
  (.fieldAddr 33 (.tmp 11) 2, some 76, none),
  (.load 3 (.tmp 76), some 77, none),
  (.call { callee := .value (.func 26), args := #[(.tmp 75), (.tmp 77)], argTypes := #[46, 3] }, some 78, none),
  (.binOp .eql 3 (.tmp 71) (.tmp 78) 3, some 79, none),
  (.assign (.tmp 79), some 13, none)]
def rgnD : List (Nat × Nat) := [(2, 0), (2, 1), (3, 2), (5, 4), (6, 3), (6, 5), (9, 7), (9, 8), (10, 9), (12, 11), (13, 10), (13, 12), (14, 6), (14, 13), (15, 14)]
set_option maxHeartbeats 2000000 in
theorem rgn {ops : Array Oper} {id : Nat} {Q : Exit → Act → World → Prop} (gr gy k u b y : Nat) (z : Int) (x : Int) (htab : ops.toList.map (fun o => (o.op, o.dst, o.guard)) = rgnT) (hdep : deplB rgnD ops = true) (hac : acB ops = true)
    (a0 : Act) (w : World) (hsz : 80 ≤ a0.tmps.size) (o8 : a0.tmps[8]? = some (.slice (some ⟨gr, 0, none⟩) 2 2)) (o9 : a0.tmps[9]? = some (.slice (some ⟨gy, 0, none⟩) 2 2)) (o11 : a0.tmps[11]? = some (.pointer (some ⟨u, 0, none⟩))) (o12 : a0.tmps[12]? = some (.int .i64 (k : Int)))
    (Wd : (Nat → Bool) → World → Prop) (h0 : Wd (fun _ => false) w.drew) (hpure : ∀ i, i ∉ ([6, 13] : List Nat) → ∀ L W, Wd L W → Wd (upd L i) W)
    (i2 : k < 2) (i9 : k < 2) (l3 : ∀ L W, Wd L W → W.cell? ⟨gr, 0 + k, none⟩ = some (.pointer (some ⟨b, 0, none⟩))) (l10 : ∀ L W, Wd L W → W.cell? ⟨gy, 0 + k, none⟩ = some (.pointer (some ⟨y, 0, none⟩))) (l5 : ∀ L W, Wd L W → W.cell? ⟨u, 0 + 2, none⟩ = some (.int .i64 z)) (l12 : ∀ L W, Wd L W → W.cell? ⟨u, 0 + 2, none⟩ = some (.int .i64 z))
    (c6 : ∀ L W, Wd L W → L 6 = false → Calls Tryd.prog 25 #[(.pointer (some ⟨b, 0, none⟩)), .int .i64 z] W fun e w' => e = .returned (.int .i64 x) ∧ Wd (upd L 6) w') (c13 : ∀ L W, Wd L W → L 13 = false → Calls Tryd.prog 26 #[(.pointer (some ⟨y, 0, none⟩)), .int .i64 z] W fun e w' => e = .returned (.int .i64 x) ∧ Wd (upd L 13) w')
    (hend : ∀ L W, (∀ i, i < 16 → L i = true) → Wd L W → Q .normal ((((((((((((((((a0.put (some 65) (.slice (some ⟨gr, 0, none⟩) 2 2)).put (some 66) (.int .i64 (k : Int))).put (some 67) (.pointer (some ⟨gr, 0 + k, none⟩))).put (some 68) (.pointer (some ⟨b, 0, none⟩))).put (some 69) (.pointer (some ⟨u, 0 + 2, none⟩))).put (some 70) (.int .i64 z)).put (some 71) (.int .i64 x)).put (some 72) (.slice (some ⟨gy, 0, none⟩) 2 2)).put (some 73) (.int .i64 (k : Int))).put (some 74) (.pointer (some ⟨gy, 0 + k, none⟩))).put (some 75) (.pointer (some ⟨y, 0, none⟩))).put (some 76) (.pointer (some ⟨u, 0 + 2, none⟩))).put (some 77) (.int .i64 z)).put (some 78) (.int .i64 x)).put (some 79) (.bool true)).put (some 13) (.bool true)) W) : (Code.region id ops true).wp Tryd.prog Q a0 w := by
  let val : Nat → Value := fun i => match i with
    | 0 => (.slice (some ⟨gr, 0, none⟩) 2 2)
    | 1 => (.int .i64 (k : Int))
    | 2 => (.pointer (some ⟨gr, 0 + k, none⟩))
    | 3 => (.pointer (some ⟨b, 0, none⟩))
    | 4 => (.pointer (some ⟨u, 0 + 2, none⟩))
    | 5 => (.int .i64 z)
    | 6 => (.int .i64 x)
    | 7 => (.slice (some ⟨gy, 0, none⟩) 2 2)
    | 8 => (.int .i64 (k : Int))
    | 9 => (.pointer (some ⟨gy, 0 + k, none⟩))
    | 10 => (.pointer (some ⟨y, 0, none⟩))
    | 11 => (.pointer (some ⟨u, 0 + 2, none⟩))
    | 12 => (.int .i64 z)
    | 13 => (.int .i64 x)
    | 14 => (.bool true)
    | 15 => (.bool true)
    | _ => undef
  have hosz : ops.size = 16 := by
    have := congrArg List.length htab
    simpa [rgnT] using this
  have hds : ∀ i s, (rgnT[i]?).bind (·.2.1) = some s → dstOf ops i = some s := fun i s hi => by rw [tab_dst htab, hi]
  have hdisB : disL rgnT = true := by rfl
  have hdis := disL_of htab hdisB
  have hold : ∀ s, rgnT.all (fun x => !(x.2.1 == some s)) = true → (List.range ops.size).all (fun j => !(dstOf ops j == some s)) = true := fun s h => holdL htab s h
  refine region_detL val Wd (hac_of hac) hdis h0 ?_ ?_
  rotate_left
  · intro L W hall hW
    have := hend L W (by rw [← hosz]; exact hall) hW
    have e : frm ops a0 val (fun _ => true) ops.size = ((((((((((((((((a0.put (some 65) (.slice (some ⟨gr, 0, none⟩) 2 2)).put (some 66) (.int .i64 (k : Int))).put (some 67) (.pointer (some ⟨gr, 0 + k, none⟩))).put (some 68) (.pointer (some ⟨b, 0, none⟩))).put (some 69) (.pointer (some ⟨u, 0 + 2, none⟩))).put (some 70) (.int .i64 z)).put (some 71) (.int .i64 x)).put (some 72) (.slice (some ⟨gy, 0, none⟩) 2 2)).put (some 73) (.int .i64 (k : Int))).put (some 74) (.pointer (some ⟨gy, 0 + k, none⟩))).put (some 75) (.pointer (some ⟨y, 0, none⟩))).put (some 76) (.pointer (some ⟨u, 0 + 2, none⟩))).put (some 77) (.int .i64 z)).put (some 78) (.int .i64 x)).put (some 79) (.bool true)).put (some 13) (.bool true)) := by
      rw [hosz]
      simp only [frm, if_true]
      rw [tab_dst htab 0, tab_dst htab 1, tab_dst htab 2, tab_dst htab 3, tab_dst htab 4, tab_dst htab 5, tab_dst htab 6, tab_dst htab 7, tab_dst htab 8, tab_dst htab 9, tab_dst htab 10, tab_dst htab 11, tab_dst htab 12, tab_dst htab 13, tab_dst htab 14, tab_dst htab 15]
      rfl
    rw [e]
    exact this
  intro i o ho L a w' hL hd ha hW
  have hi : i < 16 := by rw [← hosz]; exact (Array.getElem?_eq_some_iff.1 ho).1
  match i, ho, hL, hi with
  | 0, ho, hL, _ =>
    obtain ⟨hop, hdst, hgd⟩ := tab_at htab ho (show rgnT[0]? = _ from rfl)
    simp only at hop hgd
    have h0 := frm_old ha 8 _ (hold 8 rfl) o8
    exact doesL_run ho (wanted_none hgd) (hpure 0 (by decide) L w' hW) (by rw [run_move _ _ _ hop]; exact congrArg (fun v => Result.ok (Next.value v) w') (eval_of h0))
  | 1, ho, hL, _ =>
    obtain ⟨hop, hdst, hgd⟩ := tab_at htab ho (show rgnT[1]? = _ from rfl)
    simp only at hop hgd
    have h0 := frm_old ha 12 _ (hold 12 rfl) o12
    exact doesL_run ho (wanted_none hgd) (hpure 1 (by decide) L w' hW) (by rw [run_move _ _ _ hop]; exact congrArg (fun v => Result.ok (Next.value v) w') (eval_of h0))
  | 2, ho, hL, _ =>
    obtain ⟨hop, hdst, hgd⟩ := tab_at htab ho (show rgnT[2]? = _ from rfl)
    simp only at hop hgd
    have h0 := frm_at hdis ha 0 65 (hds 0 65 rfl) (by omega) (depl_of hdep 2 0 (by decide) ho hd)
    have h1 := frm_at hdis ha 1 66 (hds 1 66 rfl) (by omega) (depl_of hdep 2 1 (by decide) ho hd)
    exact doesL_run ho (wanted_none hgd) (hpure 2 (by decide) L w' hW) (run_ia45 _ _ _ _ hop _ _ _ _ _ i2 (eval_of h0) (eval_of h1) _)
  | 3, ho, hL, _ =>
    obtain ⟨hop, hdst, hgd⟩ := tab_at htab ho (show rgnT[3]? = _ from rfl)
    simp only at hop hgd
    have h0 := frm_at hdis ha 2 67 (hds 2 67 rfl) (by omega) (depl_of hdep 3 2 (by decide) ho hd)
    exact doesL_run ho (wanted_none hgd) (hpure 3 (by decide) L w' hW) (run_ld43 _ _ _ hop _ _ (eval_of h0) _ (l3 L w' hW))
  | 4, ho, hL, _ =>
    obtain ⟨hop, hdst, hgd⟩ := tab_at htab ho (show rgnT[4]? = _ from rfl)
    simp only at hop hgd
    have h0 := frm_old ha 11 _ (hold 11 rfl) o11
    exact doesL_run ho (wanted_none hgd) (hpure 4 (by decide) L w' hW) (run_f33 _ _ _ 2 (by decide) hop _ _ (eval_of h0) _)
  | 5, ho, hL, _ =>
    obtain ⟨hop, hdst, hgd⟩ := tab_at htab ho (show rgnT[5]? = _ from rfl)
    simp only at hop hgd
    have h0 := frm_at hdis ha 4 69 (hds 4 69 rfl) (by omega) (depl_of hdep 5 4 (by decide) ho hd)
    exact doesL_run ho (wanted_none hgd) (hpure 5 (by decide) L w' hW) (run_ld3 _ _ _ hop _ _ (eval_of h0) _ (l5 L w' hW))
  | 6, ho, hL, _ =>
    obtain ⟨hop, hdst, hgd⟩ := tab_at htab ho (show rgnT[6]? = _ from rfl)
    simp only at hop hgd
    have h0 := frm_at hdis ha 3 68 (hds 3 68 rfl) (by omega) (depl_of hdep 6 3 (by decide) ho hd)
    have h1 := frm_at hdis ha 5 70 (hds 5 70 rfl) (by omega) (depl_of hdep 6 5 (by decide) ho hd)
    refine doesL_call ho (wanted_none hgd) 25 #[(.pointer (some ⟨b, 0, none⟩)), .int .i64 z] ?_ (c6 L w' hW hL)
    rw [run_calls Tryd.func25 (by kernel_rfl) rfl _ _ _ _ hop rfl]
    simp only [List.map_toArray, List.map_cons, List.map_nil, eval_of h0, eval_of h1]
    all_goals rfl
  | 7, ho, hL, _ =>
    obtain ⟨hop, hdst, hgd⟩ := tab_at htab ho (show rgnT[7]? = _ from rfl)
    simp only at hop hgd
    have h0 := frm_old ha 9 _ (hold 9 rfl) o9
    exact doesL_run ho (wanted_none hgd) (hpure 7 (by decide) L w' hW) (by rw [run_move _ _ _ hop]; exact congrArg (fun v => Result.ok (Next.value v) w') (eval_of h0))
  | 8, ho, hL, _ =>
    obtain ⟨hop, hdst, hgd⟩ := tab_at htab ho (show rgnT[8]? = _ from rfl)
    simp only at hop hgd
    have h0 := frm_old ha 12 _ (hold 12 rfl) o12
    exact doesL_run ho (wanted_none hgd) (hpure 8 (by decide) L w' hW) (by rw [run_move _ _ _ hop]; exact congrArg (fun v => Result.ok (Next.value v) w') (eval_of h0))
  | 9, ho, hL, _ =>
    obtain ⟨hop, hdst, hgd⟩ := tab_at htab ho (show rgnT[9]? = _ from rfl)
    simp only at hop hgd
    have h0 := frm_at hdis ha 7 72 (hds 7 72 rfl) (by omega) (depl_of hdep 9 7 (by decide) ho hd)
    have h1 := frm_at hdis ha 8 73 (hds 8 73 rfl) (by omega) (depl_of hdep 9 8 (by decide) ho hd)
    exact doesL_run ho (wanted_none hgd) (hpure 9 (by decide) L w' hW) (run_ia48 _ _ _ _ hop _ _ _ _ _ i9 (eval_of h0) (eval_of h1) _)
  | 10, ho, hL, _ =>
    obtain ⟨hop, hdst, hgd⟩ := tab_at htab ho (show rgnT[10]? = _ from rfl)
    simp only at hop hgd
    have h0 := frm_at hdis ha 9 74 (hds 9 74 rfl) (by omega) (depl_of hdep 10 9 (by decide) ho hd)
    exact doesL_run ho (wanted_none hgd) (hpure 10 (by decide) L w' hW) (run_ld46 _ _ _ hop _ _ (eval_of h0) _ (l10 L w' hW))
  | 11, ho, hL, _ =>
    obtain ⟨hop, hdst, hgd⟩ := tab_at htab ho (show rgnT[11]? = _ from rfl)
    simp only at hop hgd
    have h0 := frm_old ha 11 _ (hold 11 rfl) o11
    exact doesL_run ho (wanted_none hgd) (hpure 11 (by decide) L w' hW) (run_f33 _ _ _ 2 (by decide) hop _ _ (eval_of h0) _)
  | 12, ho, hL, _ =>
    obtain ⟨hop, hdst, hgd⟩ := tab_at htab ho (show rgnT[12]? = _ from rfl)
    simp only at hop hgd
    have h0 := frm_at hdis ha 11 76 (hds 11 76 rfl) (by omega) (depl_of hdep 12 11 (by decide) ho hd)
    exact doesL_run ho (wanted_none hgd) (hpure 12 (by decide) L w' hW) (run_ld3 _ _ _ hop _ _ (eval_of h0) _ (l12 L w' hW))
  | 13, ho, hL, _ =>
    obtain ⟨hop, hdst, hgd⟩ := tab_at htab ho (show rgnT[13]? = _ from rfl)
    simp only at hop hgd
    have h0 := frm_at hdis ha 10 75 (hds 10 75 rfl) (by omega) (depl_of hdep 13 10 (by decide) ho hd)
    have h1 := frm_at hdis ha 12 77 (hds 12 77 rfl) (by omega) (depl_of hdep 13 12 (by decide) ho hd)
    refine doesL_call ho (wanted_none hgd) 26 #[(.pointer (some ⟨y, 0, none⟩)), .int .i64 z] ?_ (c13 L w' hW hL)
    rw [run_calls Tryd.func26 (by kernel_rfl) rfl _ _ _ _ hop rfl]
    simp only [List.map_toArray, List.map_cons, List.map_nil, eval_of h0, eval_of h1]
    all_goals rfl
  | 14, ho, hL, _ =>
    obtain ⟨hop, hdst, hgd⟩ := tab_at htab ho (show rgnT[14]? = _ from rfl)
    simp only at hop hgd
    have h0 := frm_at hdis ha 6 71 (hds 6 71 rfl) (by omega) (depl_of hdep 14 6 (by decide) ho hd)
    have h1 := frm_at hdis ha 13 78 (hds 13 78 rfl) (by omega) (depl_of hdep 14 13 (by decide) ho hd)
    exact doesL_run ho (wanted_none hgd) (hpure 14 (by decide) L w' hW) (run_same _ _ _ _ _ _ hop _ (eval_of h0) (eval_of h1) _)
  | 15, ho, hL, _ =>
    obtain ⟨hop, hdst, hgd⟩ := tab_at htab ho (show rgnT[15]? = _ from rfl)
    simp only at hop hgd
    have h0 := frm_at hdis ha 14 79 (hds 14 79 rfl) (by omega) (depl_of hdep 15 14 (by decide) ho hd)
    exact doesL_run ho (wanted_none hgd) (hpure 15 (by decide) L w' hW) (by rw [run_assign _ _ _ hop]; exact congrArg (fun v => Result.ok (Next.value v) w') (eval_of h0))
  | (i + 16), ho, hL, hi => exact absurd hi (by omega)
def rgtT : List (Op × Option Tmp × Option (Nat × Bool)) := [
  (.move (.tmp 8), some 82, none),
  (.move (.tmp 12), some 83, none),
  (.indexAddr 45 (.tmp 82) (.tmp 83), some 84, none),
  (.load 43 (.tmp 84), some 85, none),
  (.fieldAddr 33 (.tmp 11) 3, some 86, none),
  (.load 3 (.tmp 86), some 87, none),
  (.call { callee := .value (.func 27), args := #[(.tmp 85), (.tmp 87)], argTypes := #[43, 3] }, some 88, none),
  (.move (.tmp 9), some 89, none),
  (.move (.tmp 12), some 90, none),
  (.indexAddr 48 (.tmp 89) (.tmp 90), some 91, none),
  (.load 46 (.tmp 91), some 92, none),
  (.fieldAddr 33 (.tmp 11) 3, some 93, none),
  (.load 3 (.tmp 93), some 94, none),
  (.call { callee := .value (.func 28), args := #[(.tmp 92), (.tmp 94)], argTypes := #[46, 3] }, some 95, none),
  (.binOp .eql 9 (.tmp 88) (.tmp 95) 9, some 96, none),
  (.assign (.tmp 96), some 13, none)]
def rgtD : List (Nat × Nat) := [(2, 0), (2, 1), (3, 2), (5, 4), (6, 3), (6, 5), (9, 7), (9, 8), (10, 9), (12, 11), (13, 10), (13, 12), (14, 6), (14, 13), (15, 14)]
set_option maxHeartbeats 2000000 in
theorem rgt {ops : Array Oper} {id : Nat} {Q : Exit → Act → World → Prop} (gr gy k u b y : Nat) (z : Int) (x : List UInt8) (htab : ops.toList.map (fun o => (o.op, o.dst, o.guard)) = rgtT) (hdep : deplB rgtD ops = true) (hac : acB ops = true)
    (a0 : Act) (w : World) (hsz : 97 ≤ a0.tmps.size) (o8 : a0.tmps[8]? = some (.slice (some ⟨gr, 0, none⟩) 2 2)) (o9 : a0.tmps[9]? = some (.slice (some ⟨gy, 0, none⟩) 2 2)) (o11 : a0.tmps[11]? = some (.pointer (some ⟨u, 0, none⟩))) (o12 : a0.tmps[12]? = some (.int .i64 (k : Int)))
    (Wd : (Nat → Bool) → World → Prop) (h0 : Wd (fun _ => false) w.drew) (hpure : ∀ i, i ∉ ([6, 13] : List Nat) → ∀ L W, Wd L W → Wd (upd L i) W)
    (i2 : k < 2) (i9 : k < 2) (l3 : ∀ L W, Wd L W → W.cell? ⟨gr, 0 + k, none⟩ = some (.pointer (some ⟨b, 0, none⟩))) (l10 : ∀ L W, Wd L W → W.cell? ⟨gy, 0 + k, none⟩ = some (.pointer (some ⟨y, 0, none⟩))) (l5 : ∀ L W, Wd L W → W.cell? ⟨u, 0 + 3, none⟩ = some (.int .i64 z)) (l12 : ∀ L W, Wd L W → W.cell? ⟨u, 0 + 3, none⟩ = some (.int .i64 z))
    (c6 : ∀ L W, Wd L W → L 6 = false → Calls Tryd.prog 27 #[(.pointer (some ⟨b, 0, none⟩)), .int .i64 z] W fun e w' => e = .returned (.string ⟨x.toArray⟩) ∧ Wd (upd L 6) w') (c13 : ∀ L W, Wd L W → L 13 = false → Calls Tryd.prog 28 #[(.pointer (some ⟨y, 0, none⟩)), .int .i64 z] W fun e w' => e = .returned (.string ⟨x.toArray⟩) ∧ Wd (upd L 13) w')
    (hend : ∀ L W, (∀ i, i < 16 → L i = true) → Wd L W → Q .normal ((((((((((((((((a0.put (some 82) (.slice (some ⟨gr, 0, none⟩) 2 2)).put (some 83) (.int .i64 (k : Int))).put (some 84) (.pointer (some ⟨gr, 0 + k, none⟩))).put (some 85) (.pointer (some ⟨b, 0, none⟩))).put (some 86) (.pointer (some ⟨u, 0 + 3, none⟩))).put (some 87) (.int .i64 z)).put (some 88) (.string ⟨x.toArray⟩)).put (some 89) (.slice (some ⟨gy, 0, none⟩) 2 2)).put (some 90) (.int .i64 (k : Int))).put (some 91) (.pointer (some ⟨gy, 0 + k, none⟩))).put (some 92) (.pointer (some ⟨y, 0, none⟩))).put (some 93) (.pointer (some ⟨u, 0 + 3, none⟩))).put (some 94) (.int .i64 z)).put (some 95) (.string ⟨x.toArray⟩)).put (some 96) (.bool true)).put (some 13) (.bool true)) W) : (Code.region id ops true).wp Tryd.prog Q a0 w := by
  let val : Nat → Value := fun i => match i with
    | 0 => (.slice (some ⟨gr, 0, none⟩) 2 2)
    | 1 => (.int .i64 (k : Int))
    | 2 => (.pointer (some ⟨gr, 0 + k, none⟩))
    | 3 => (.pointer (some ⟨b, 0, none⟩))
    | 4 => (.pointer (some ⟨u, 0 + 3, none⟩))
    | 5 => (.int .i64 z)
    | 6 => (.string ⟨x.toArray⟩)
    | 7 => (.slice (some ⟨gy, 0, none⟩) 2 2)
    | 8 => (.int .i64 (k : Int))
    | 9 => (.pointer (some ⟨gy, 0 + k, none⟩))
    | 10 => (.pointer (some ⟨y, 0, none⟩))
    | 11 => (.pointer (some ⟨u, 0 + 3, none⟩))
    | 12 => (.int .i64 z)
    | 13 => (.string ⟨x.toArray⟩)
    | 14 => (.bool true)
    | 15 => (.bool true)
    | _ => undef
  have hosz : ops.size = 16 := by
    have := congrArg List.length htab
    simpa [rgtT] using this
  have hds : ∀ i s, (rgtT[i]?).bind (·.2.1) = some s → dstOf ops i = some s := fun i s hi => by rw [tab_dst htab, hi]
  have hdisB : disL rgtT = true := by rfl
  have hdis := disL_of htab hdisB
  have hold : ∀ s, rgtT.all (fun x => !(x.2.1 == some s)) = true → (List.range ops.size).all (fun j => !(dstOf ops j == some s)) = true := fun s h => holdL htab s h
  refine region_detL val Wd (hac_of hac) hdis h0 ?_ ?_
  rotate_left
  · intro L W hall hW
    have := hend L W (by rw [← hosz]; exact hall) hW
    have e : frm ops a0 val (fun _ => true) ops.size = ((((((((((((((((a0.put (some 82) (.slice (some ⟨gr, 0, none⟩) 2 2)).put (some 83) (.int .i64 (k : Int))).put (some 84) (.pointer (some ⟨gr, 0 + k, none⟩))).put (some 85) (.pointer (some ⟨b, 0, none⟩))).put (some 86) (.pointer (some ⟨u, 0 + 3, none⟩))).put (some 87) (.int .i64 z)).put (some 88) (.string ⟨x.toArray⟩)).put (some 89) (.slice (some ⟨gy, 0, none⟩) 2 2)).put (some 90) (.int .i64 (k : Int))).put (some 91) (.pointer (some ⟨gy, 0 + k, none⟩))).put (some 92) (.pointer (some ⟨y, 0, none⟩))).put (some 93) (.pointer (some ⟨u, 0 + 3, none⟩))).put (some 94) (.int .i64 z)).put (some 95) (.string ⟨x.toArray⟩)).put (some 96) (.bool true)).put (some 13) (.bool true)) := by
      rw [hosz]
      simp only [frm, if_true]
      rw [tab_dst htab 0, tab_dst htab 1, tab_dst htab 2, tab_dst htab 3, tab_dst htab 4, tab_dst htab 5, tab_dst htab 6, tab_dst htab 7, tab_dst htab 8, tab_dst htab 9, tab_dst htab 10, tab_dst htab 11, tab_dst htab 12, tab_dst htab 13, tab_dst htab 14, tab_dst htab 15]
      rfl
    rw [e]
    exact this
  intro i o ho L a w' hL hd ha hW
  have hi : i < 16 := by rw [← hosz]; exact (Array.getElem?_eq_some_iff.1 ho).1
  match i, ho, hL, hi with
  | 0, ho, hL, _ =>
    obtain ⟨hop, hdst, hgd⟩ := tab_at htab ho (show rgtT[0]? = _ from rfl)
    simp only at hop hgd
    have h0 := frm_old ha 8 _ (hold 8 rfl) o8
    exact doesL_run ho (wanted_none hgd) (hpure 0 (by decide) L w' hW) (by rw [run_move _ _ _ hop]; exact congrArg (fun v => Result.ok (Next.value v) w') (eval_of h0))
  | 1, ho, hL, _ =>
    obtain ⟨hop, hdst, hgd⟩ := tab_at htab ho (show rgtT[1]? = _ from rfl)
    simp only at hop hgd
    have h0 := frm_old ha 12 _ (hold 12 rfl) o12
    exact doesL_run ho (wanted_none hgd) (hpure 1 (by decide) L w' hW) (by rw [run_move _ _ _ hop]; exact congrArg (fun v => Result.ok (Next.value v) w') (eval_of h0))
  | 2, ho, hL, _ =>
    obtain ⟨hop, hdst, hgd⟩ := tab_at htab ho (show rgtT[2]? = _ from rfl)
    simp only at hop hgd
    have h0 := frm_at hdis ha 0 82 (hds 0 82 rfl) (by omega) (depl_of hdep 2 0 (by decide) ho hd)
    have h1 := frm_at hdis ha 1 83 (hds 1 83 rfl) (by omega) (depl_of hdep 2 1 (by decide) ho hd)
    exact doesL_run ho (wanted_none hgd) (hpure 2 (by decide) L w' hW) (run_ia45 _ _ _ _ hop _ _ _ _ _ i2 (eval_of h0) (eval_of h1) _)
  | 3, ho, hL, _ =>
    obtain ⟨hop, hdst, hgd⟩ := tab_at htab ho (show rgtT[3]? = _ from rfl)
    simp only at hop hgd
    have h0 := frm_at hdis ha 2 84 (hds 2 84 rfl) (by omega) (depl_of hdep 3 2 (by decide) ho hd)
    exact doesL_run ho (wanted_none hgd) (hpure 3 (by decide) L w' hW) (run_ld43 _ _ _ hop _ _ (eval_of h0) _ (l3 L w' hW))
  | 4, ho, hL, _ =>
    obtain ⟨hop, hdst, hgd⟩ := tab_at htab ho (show rgtT[4]? = _ from rfl)
    simp only at hop hgd
    have h0 := frm_old ha 11 _ (hold 11 rfl) o11
    exact doesL_run ho (wanted_none hgd) (hpure 4 (by decide) L w' hW) (run_f33 _ _ _ 3 (by decide) hop _ _ (eval_of h0) _)
  | 5, ho, hL, _ =>
    obtain ⟨hop, hdst, hgd⟩ := tab_at htab ho (show rgtT[5]? = _ from rfl)
    simp only at hop hgd
    have h0 := frm_at hdis ha 4 86 (hds 4 86 rfl) (by omega) (depl_of hdep 5 4 (by decide) ho hd)
    exact doesL_run ho (wanted_none hgd) (hpure 5 (by decide) L w' hW) (run_ld3 _ _ _ hop _ _ (eval_of h0) _ (l5 L w' hW))
  | 6, ho, hL, _ =>
    obtain ⟨hop, hdst, hgd⟩ := tab_at htab ho (show rgtT[6]? = _ from rfl)
    simp only at hop hgd
    have h0 := frm_at hdis ha 3 85 (hds 3 85 rfl) (by omega) (depl_of hdep 6 3 (by decide) ho hd)
    have h1 := frm_at hdis ha 5 87 (hds 5 87 rfl) (by omega) (depl_of hdep 6 5 (by decide) ho hd)
    refine doesL_call ho (wanted_none hgd) 27 #[(.pointer (some ⟨b, 0, none⟩)), .int .i64 z] ?_ (c6 L w' hW hL)
    rw [run_calls Tryd.func27 (by kernel_rfl) rfl _ _ _ _ hop rfl]
    simp only [List.map_toArray, List.map_cons, List.map_nil, eval_of h0, eval_of h1]
    all_goals rfl
  | 7, ho, hL, _ =>
    obtain ⟨hop, hdst, hgd⟩ := tab_at htab ho (show rgtT[7]? = _ from rfl)
    simp only at hop hgd
    have h0 := frm_old ha 9 _ (hold 9 rfl) o9
    exact doesL_run ho (wanted_none hgd) (hpure 7 (by decide) L w' hW) (by rw [run_move _ _ _ hop]; exact congrArg (fun v => Result.ok (Next.value v) w') (eval_of h0))
  | 8, ho, hL, _ =>
    obtain ⟨hop, hdst, hgd⟩ := tab_at htab ho (show rgtT[8]? = _ from rfl)
    simp only at hop hgd
    have h0 := frm_old ha 12 _ (hold 12 rfl) o12
    exact doesL_run ho (wanted_none hgd) (hpure 8 (by decide) L w' hW) (by rw [run_move _ _ _ hop]; exact congrArg (fun v => Result.ok (Next.value v) w') (eval_of h0))
  | 9, ho, hL, _ =>
    obtain ⟨hop, hdst, hgd⟩ := tab_at htab ho (show rgtT[9]? = _ from rfl)
    simp only at hop hgd
    have h0 := frm_at hdis ha 7 89 (hds 7 89 rfl) (by omega) (depl_of hdep 9 7 (by decide) ho hd)
    have h1 := frm_at hdis ha 8 90 (hds 8 90 rfl) (by omega) (depl_of hdep 9 8 (by decide) ho hd)
    exact doesL_run ho (wanted_none hgd) (hpure 9 (by decide) L w' hW) (run_ia48 _ _ _ _ hop _ _ _ _ _ i9 (eval_of h0) (eval_of h1) _)
  | 10, ho, hL, _ =>
    obtain ⟨hop, hdst, hgd⟩ := tab_at htab ho (show rgtT[10]? = _ from rfl)
    simp only at hop hgd
    have h0 := frm_at hdis ha 9 91 (hds 9 91 rfl) (by omega) (depl_of hdep 10 9 (by decide) ho hd)
    exact doesL_run ho (wanted_none hgd) (hpure 10 (by decide) L w' hW) (run_ld46 _ _ _ hop _ _ (eval_of h0) _ (l10 L w' hW))
  | 11, ho, hL, _ =>
    obtain ⟨hop, hdst, hgd⟩ := tab_at htab ho (show rgtT[11]? = _ from rfl)
    simp only at hop hgd
    have h0 := frm_old ha 11 _ (hold 11 rfl) o11
    exact doesL_run ho (wanted_none hgd) (hpure 11 (by decide) L w' hW) (run_f33 _ _ _ 3 (by decide) hop _ _ (eval_of h0) _)
  | 12, ho, hL, _ =>
    obtain ⟨hop, hdst, hgd⟩ := tab_at htab ho (show rgtT[12]? = _ from rfl)
    simp only at hop hgd
    have h0 := frm_at hdis ha 11 93 (hds 11 93 rfl) (by omega) (depl_of hdep 12 11 (by decide) ho hd)
    exact doesL_run ho (wanted_none hgd) (hpure 12 (by decide) L w' hW) (run_ld3 _ _ _ hop _ _ (eval_of h0) _ (l12 L w' hW))
  | 13, ho, hL, _ =>
    obtain ⟨hop, hdst, hgd⟩ := tab_at htab ho (show rgtT[13]? = _ from rfl)
    simp only at hop hgd
    have h0 := frm_at hdis ha 10 92 (hds 10 92 rfl) (by omega) (depl_of hdep 13 10 (by decide) ho hd)
    have h1 := frm_at hdis ha 12 94 (hds 12 94 rfl) (by omega) (depl_of hdep 13 12 (by decide) ho hd)
    refine doesL_call ho (wanted_none hgd) 28 #[(.pointer (some ⟨y, 0, none⟩)), .int .i64 z] ?_ (c13 L w' hW hL)
    rw [run_calls Tryd.func28 (by kernel_rfl) rfl _ _ _ _ hop rfl]
    simp only [List.map_toArray, List.map_cons, List.map_nil, eval_of h0, eval_of h1]
    all_goals rfl
  | 14, ho, hL, _ =>
    obtain ⟨hop, hdst, hgd⟩ := tab_at htab ho (show rgtT[14]? = _ from rfl)
    simp only at hop hgd
    have h0 := frm_at hdis ha 6 88 (hds 6 88 rfl) (by omega) (depl_of hdep 14 6 (by decide) ho hd)
    have h1 := frm_at hdis ha 13 95 (hds 13 95 rfl) (by omega) (depl_of hdep 14 13 (by decide) ho hd)
    exact doesL_run ho (wanted_none hgd) (hpure 14 (by decide) L w' hW) (run_strsame _ _ _ _ _ _ hop _ (eval_of h0) (eval_of h1) _)
  | 15, ho, hL, _ =>
    obtain ⟨hop, hdst, hgd⟩ := tab_at htab ho (show rgtT[15]? = _ from rfl)
    simp only at hop hgd
    have h0 := frm_at hdis ha 14 96 (hds 14 96 rfl) (by omega) (depl_of hdep 15 14 (by decide) ho hd)
    exact doesL_run ho (wanted_none hgd) (hpure 15 (by decide) L w' hW) (by rw [run_assign _ _ _ hop]; exact congrArg (fun v => Result.ok (Next.value v) w') (eval_of h0))
  | (i + 16), ho, hL, hi => exact absurd hi (by omega)
def rgxT : List (Op × Option Tmp × Option (Nat × Bool)) := [
  (.move (.tmp 8), some 99, none),
  (.move (.tmp 12), some 100, none),
  (.indexAddr 45 (.tmp 99) (.tmp 100), some 101, none),
  (.load 43 (.tmp 101), some 102, none),
  (.fieldAddr 33 (.tmp 11) 3, some 103, none),
  (.load 3 (.tmp 103), some 104, none),
  (.call { callee := .value (.func 29), args := #[(.tmp 102), (.tmp 104)], argTypes := #[43, 3] }, some 105, none),
  (.move (.tmp 9), some 106, none),
  (.move (.tmp 12), some 107, none),
  (.indexAddr 48 (.tmp 106) (.tmp 107), some 108, none),
  (.load 46 (.tmp 108), some 109, none),
  (.fieldAddr 33 (.tmp 11) 3, some 110, none),
  (.load 3 (.tmp 110), some 111, none),
  (.call { callee := .value (.func 30), args := #[(.tmp 109), (.tmp 111)], argTypes := #[46, 3] }, some 112, none),
  (.binOp .eql 9 (.tmp 105) (.tmp 112) 9, some 113, none),
  (.assign (.tmp 113), some 13, none)]
def rgxD : List (Nat × Nat) := [(2, 0), (2, 1), (3, 2), (5, 4), (6, 3), (6, 5), (9, 7), (9, 8), (10, 9), (12, 11), (13, 10), (13, 12), (14, 6), (14, 13), (15, 14)]
set_option maxHeartbeats 2000000 in
theorem rgx {ops : Array Oper} {id : Nat} {Q : Exit → Act → World → Prop} (gr gy k u b y : Nat) (z : Int) (x : List UInt8) (htab : ops.toList.map (fun o => (o.op, o.dst, o.guard)) = rgxT) (hdep : deplB rgxD ops = true) (hac : acB ops = true)
    (a0 : Act) (w : World) (hsz : 114 ≤ a0.tmps.size) (o8 : a0.tmps[8]? = some (.slice (some ⟨gr, 0, none⟩) 2 2)) (o9 : a0.tmps[9]? = some (.slice (some ⟨gy, 0, none⟩) 2 2)) (o11 : a0.tmps[11]? = some (.pointer (some ⟨u, 0, none⟩))) (o12 : a0.tmps[12]? = some (.int .i64 (k : Int)))
    (Wd : (Nat → Bool) → World → Prop) (h0 : Wd (fun _ => false) w.drew) (hpure : ∀ i, i ∉ ([6, 13] : List Nat) → ∀ L W, Wd L W → Wd (upd L i) W)
    (i2 : k < 2) (i9 : k < 2) (l3 : ∀ L W, Wd L W → W.cell? ⟨gr, 0 + k, none⟩ = some (.pointer (some ⟨b, 0, none⟩))) (l10 : ∀ L W, Wd L W → W.cell? ⟨gy, 0 + k, none⟩ = some (.pointer (some ⟨y, 0, none⟩))) (l5 : ∀ L W, Wd L W → W.cell? ⟨u, 0 + 3, none⟩ = some (.int .i64 z)) (l12 : ∀ L W, Wd L W → W.cell? ⟨u, 0 + 3, none⟩ = some (.int .i64 z))
    (c6 : ∀ L W, Wd L W → L 6 = false → Calls Tryd.prog 29 #[(.pointer (some ⟨b, 0, none⟩)), .int .i64 z] W fun e w' => e = .returned (.string ⟨x.toArray⟩) ∧ Wd (upd L 6) w') (c13 : ∀ L W, Wd L W → L 13 = false → Calls Tryd.prog 30 #[(.pointer (some ⟨y, 0, none⟩)), .int .i64 z] W fun e w' => e = .returned (.string ⟨x.toArray⟩) ∧ Wd (upd L 13) w')
    (hend : ∀ L W, (∀ i, i < 16 → L i = true) → Wd L W → Q .normal ((((((((((((((((a0.put (some 99) (.slice (some ⟨gr, 0, none⟩) 2 2)).put (some 100) (.int .i64 (k : Int))).put (some 101) (.pointer (some ⟨gr, 0 + k, none⟩))).put (some 102) (.pointer (some ⟨b, 0, none⟩))).put (some 103) (.pointer (some ⟨u, 0 + 3, none⟩))).put (some 104) (.int .i64 z)).put (some 105) (.string ⟨x.toArray⟩)).put (some 106) (.slice (some ⟨gy, 0, none⟩) 2 2)).put (some 107) (.int .i64 (k : Int))).put (some 108) (.pointer (some ⟨gy, 0 + k, none⟩))).put (some 109) (.pointer (some ⟨y, 0, none⟩))).put (some 110) (.pointer (some ⟨u, 0 + 3, none⟩))).put (some 111) (.int .i64 z)).put (some 112) (.string ⟨x.toArray⟩)).put (some 113) (.bool true)).put (some 13) (.bool true)) W) : (Code.region id ops true).wp Tryd.prog Q a0 w := by
  let val : Nat → Value := fun i => match i with
    | 0 => (.slice (some ⟨gr, 0, none⟩) 2 2)
    | 1 => (.int .i64 (k : Int))
    | 2 => (.pointer (some ⟨gr, 0 + k, none⟩))
    | 3 => (.pointer (some ⟨b, 0, none⟩))
    | 4 => (.pointer (some ⟨u, 0 + 3, none⟩))
    | 5 => (.int .i64 z)
    | 6 => (.string ⟨x.toArray⟩)
    | 7 => (.slice (some ⟨gy, 0, none⟩) 2 2)
    | 8 => (.int .i64 (k : Int))
    | 9 => (.pointer (some ⟨gy, 0 + k, none⟩))
    | 10 => (.pointer (some ⟨y, 0, none⟩))
    | 11 => (.pointer (some ⟨u, 0 + 3, none⟩))
    | 12 => (.int .i64 z)
    | 13 => (.string ⟨x.toArray⟩)
    | 14 => (.bool true)
    | 15 => (.bool true)
    | _ => undef
  have hosz : ops.size = 16 := by
    have := congrArg List.length htab
    simpa [rgxT] using this
  have hds : ∀ i s, (rgxT[i]?).bind (·.2.1) = some s → dstOf ops i = some s := fun i s hi => by rw [tab_dst htab, hi]
  have hdisB : disL rgxT = true := by rfl
  have hdis := disL_of htab hdisB
  have hold : ∀ s, rgxT.all (fun x => !(x.2.1 == some s)) = true → (List.range ops.size).all (fun j => !(dstOf ops j == some s)) = true := fun s h => holdL htab s h
  refine region_detL val Wd (hac_of hac) hdis h0 ?_ ?_
  rotate_left
  · intro L W hall hW
    have := hend L W (by rw [← hosz]; exact hall) hW
    have e : frm ops a0 val (fun _ => true) ops.size = ((((((((((((((((a0.put (some 99) (.slice (some ⟨gr, 0, none⟩) 2 2)).put (some 100) (.int .i64 (k : Int))).put (some 101) (.pointer (some ⟨gr, 0 + k, none⟩))).put (some 102) (.pointer (some ⟨b, 0, none⟩))).put (some 103) (.pointer (some ⟨u, 0 + 3, none⟩))).put (some 104) (.int .i64 z)).put (some 105) (.string ⟨x.toArray⟩)).put (some 106) (.slice (some ⟨gy, 0, none⟩) 2 2)).put (some 107) (.int .i64 (k : Int))).put (some 108) (.pointer (some ⟨gy, 0 + k, none⟩))).put (some 109) (.pointer (some ⟨y, 0, none⟩))).put (some 110) (.pointer (some ⟨u, 0 + 3, none⟩))).put (some 111) (.int .i64 z)).put (some 112) (.string ⟨x.toArray⟩)).put (some 113) (.bool true)).put (some 13) (.bool true)) := by
      rw [hosz]
      simp only [frm, if_true]
      rw [tab_dst htab 0, tab_dst htab 1, tab_dst htab 2, tab_dst htab 3, tab_dst htab 4, tab_dst htab 5, tab_dst htab 6, tab_dst htab 7, tab_dst htab 8, tab_dst htab 9, tab_dst htab 10, tab_dst htab 11, tab_dst htab 12, tab_dst htab 13, tab_dst htab 14, tab_dst htab 15]
      rfl
    rw [e]
    exact this
  intro i o ho L a w' hL hd ha hW
  have hi : i < 16 := by rw [← hosz]; exact (Array.getElem?_eq_some_iff.1 ho).1
  match i, ho, hL, hi with
  | 0, ho, hL, _ =>
    obtain ⟨hop, hdst, hgd⟩ := tab_at htab ho (show rgxT[0]? = _ from rfl)
    simp only at hop hgd
    have h0 := frm_old ha 8 _ (hold 8 rfl) o8
    exact doesL_run ho (wanted_none hgd) (hpure 0 (by decide) L w' hW) (by rw [run_move _ _ _ hop]; exact congrArg (fun v => Result.ok (Next.value v) w') (eval_of h0))
  | 1, ho, hL, _ =>
    obtain ⟨hop, hdst, hgd⟩ := tab_at htab ho (show rgxT[1]? = _ from rfl)
    simp only at hop hgd
    have h0 := frm_old ha 12 _ (hold 12 rfl) o12
    exact doesL_run ho (wanted_none hgd) (hpure 1 (by decide) L w' hW) (by rw [run_move _ _ _ hop]; exact congrArg (fun v => Result.ok (Next.value v) w') (eval_of h0))
  | 2, ho, hL, _ =>
    obtain ⟨hop, hdst, hgd⟩ := tab_at htab ho (show rgxT[2]? = _ from rfl)
    simp only at hop hgd
    have h0 := frm_at hdis ha 0 99 (hds 0 99 rfl) (by omega) (depl_of hdep 2 0 (by decide) ho hd)
    have h1 := frm_at hdis ha 1 100 (hds 1 100 rfl) (by omega) (depl_of hdep 2 1 (by decide) ho hd)
    exact doesL_run ho (wanted_none hgd) (hpure 2 (by decide) L w' hW) (run_ia45 _ _ _ _ hop _ _ _ _ _ i2 (eval_of h0) (eval_of h1) _)
  | 3, ho, hL, _ =>
    obtain ⟨hop, hdst, hgd⟩ := tab_at htab ho (show rgxT[3]? = _ from rfl)
    simp only at hop hgd
    have h0 := frm_at hdis ha 2 101 (hds 2 101 rfl) (by omega) (depl_of hdep 3 2 (by decide) ho hd)
    exact doesL_run ho (wanted_none hgd) (hpure 3 (by decide) L w' hW) (run_ld43 _ _ _ hop _ _ (eval_of h0) _ (l3 L w' hW))
  | 4, ho, hL, _ =>
    obtain ⟨hop, hdst, hgd⟩ := tab_at htab ho (show rgxT[4]? = _ from rfl)
    simp only at hop hgd
    have h0 := frm_old ha 11 _ (hold 11 rfl) o11
    exact doesL_run ho (wanted_none hgd) (hpure 4 (by decide) L w' hW) (run_f33 _ _ _ 3 (by decide) hop _ _ (eval_of h0) _)
  | 5, ho, hL, _ =>
    obtain ⟨hop, hdst, hgd⟩ := tab_at htab ho (show rgxT[5]? = _ from rfl)
    simp only at hop hgd
    have h0 := frm_at hdis ha 4 103 (hds 4 103 rfl) (by omega) (depl_of hdep 5 4 (by decide) ho hd)
    exact doesL_run ho (wanted_none hgd) (hpure 5 (by decide) L w' hW) (run_ld3 _ _ _ hop _ _ (eval_of h0) _ (l5 L w' hW))
  | 6, ho, hL, _ =>
    obtain ⟨hop, hdst, hgd⟩ := tab_at htab ho (show rgxT[6]? = _ from rfl)
    simp only at hop hgd
    have h0 := frm_at hdis ha 3 102 (hds 3 102 rfl) (by omega) (depl_of hdep 6 3 (by decide) ho hd)
    have h1 := frm_at hdis ha 5 104 (hds 5 104 rfl) (by omega) (depl_of hdep 6 5 (by decide) ho hd)
    refine doesL_call ho (wanted_none hgd) 29 #[(.pointer (some ⟨b, 0, none⟩)), .int .i64 z] ?_ (c6 L w' hW hL)
    rw [run_calls Tryd.func29 (by kernel_rfl) rfl _ _ _ _ hop rfl]
    simp only [List.map_toArray, List.map_cons, List.map_nil, eval_of h0, eval_of h1]
    all_goals rfl
  | 7, ho, hL, _ =>
    obtain ⟨hop, hdst, hgd⟩ := tab_at htab ho (show rgxT[7]? = _ from rfl)
    simp only at hop hgd
    have h0 := frm_old ha 9 _ (hold 9 rfl) o9
    exact doesL_run ho (wanted_none hgd) (hpure 7 (by decide) L w' hW) (by rw [run_move _ _ _ hop]; exact congrArg (fun v => Result.ok (Next.value v) w') (eval_of h0))
  | 8, ho, hL, _ =>
    obtain ⟨hop, hdst, hgd⟩ := tab_at htab ho (show rgxT[8]? = _ from rfl)
    simp only at hop hgd
    have h0 := frm_old ha 12 _ (hold 12 rfl) o12
    exact doesL_run ho (wanted_none hgd) (hpure 8 (by decide) L w' hW) (by rw [run_move _ _ _ hop]; exact congrArg (fun v => Result.ok (Next.value v) w') (eval_of h0))
  | 9, ho, hL, _ =>
    obtain ⟨hop, hdst, hgd⟩ := tab_at htab ho (show rgxT[9]? = _ from rfl)
    simp only at hop hgd
    have h0 := frm_at hdis ha 7 106 (hds 7 106 rfl) (by omega) (depl_of hdep 9 7 (by decide) ho hd)
    have h1 := frm_at hdis ha 8 107 (hds 8 107 rfl) (by omega) (depl_of hdep 9 8 (by decide) ho hd)
    exact doesL_run ho (wanted_none hgd) (hpure 9 (by decide) L w' hW) (run_ia48 _ _ _ _ hop _ _ _ _ _ i9 (eval_of h0) (eval_of h1) _)
  | 10, ho, hL, _ =>
    obtain ⟨hop, hdst, hgd⟩ := tab_at htab ho (show rgxT[10]? = _ from rfl)
    simp only at hop hgd
    have h0 := frm_at hdis ha 9 108 (hds 9 108 rfl) (by omega) (depl_of hdep 10 9 (by decide) ho hd)
    exact doesL_run ho (wanted_none hgd) (hpure 10 (by decide) L w' hW) (run_ld46 _ _ _ hop _ _ (eval_of h0) _ (l10 L w' hW))
  | 11, ho, hL, _ =>
    obtain ⟨hop, hdst, hgd⟩ := tab_at htab ho (show rgxT[11]? = _ from rfl)
    simp only at hop hgd
    have h0 := frm_old ha 11 _ (hold 11 rfl) o11
    exact doesL_run ho (wanted_none hgd) (hpure 11 (by decide) L w' hW) (run_f33 _ _ _ 3 (by decide) hop _ _ (eval_of h0) _)
  | 12, ho, hL, _ =>
    obtain ⟨hop, hdst, hgd⟩ := tab_at htab ho (show rgxT[12]? = _ from rfl)
    simp only at hop hgd
    have h0 := frm_at hdis ha 11 110 (hds 11 110 rfl) (by omega) (depl_of hdep 12 11 (by decide) ho hd)
    exact doesL_run ho (wanted_none hgd) (hpure 12 (by decide) L w' hW) (run_ld3 _ _ _ hop _ _ (eval_of h0) _ (l12 L w' hW))
  | 13, ho, hL, _ =>
    obtain ⟨hop, hdst, hgd⟩ := tab_at htab ho (show rgxT[13]? = _ from rfl)
    simp only at hop hgd
    have h0 := frm_at hdis ha 10 109 (hds 10 109 rfl) (by omega) (depl_of hdep 13 10 (by decide) ho hd)
    have h1 := frm_at hdis ha 12 111 (hds 12 111 rfl) (by omega) (depl_of hdep 13 12 (by decide) ho hd)
    refine doesL_call ho (wanted_none hgd) 30 #[(.pointer (some ⟨y, 0, none⟩)), .int .i64 z] ?_ (c13 L w' hW hL)
    rw [run_calls Tryd.func30 (by kernel_rfl) rfl _ _ _ _ hop rfl]
    simp only [List.map_toArray, List.map_cons, List.map_nil, eval_of h0, eval_of h1]
    all_goals rfl
  | 14, ho, hL, _ =>
    obtain ⟨hop, hdst, hgd⟩ := tab_at htab ho (show rgxT[14]? = _ from rfl)
    simp only at hop hgd
    have h0 := frm_at hdis ha 6 105 (hds 6 105 rfl) (by omega) (depl_of hdep 14 6 (by decide) ho hd)
    have h1 := frm_at hdis ha 13 112 (hds 13 112 rfl) (by omega) (depl_of hdep 14 13 (by decide) ho hd)
    exact doesL_run ho (wanted_none hgd) (hpure 14 (by decide) L w' hW) (run_strsame _ _ _ _ _ _ hop _ (eval_of h0) (eval_of h1) _)
  | 15, ho, hL, _ =>
    obtain ⟨hop, hdst, hgd⟩ := tab_at htab ho (show rgxT[15]? = _ from rfl)
    simp only at hop hgd
    have h0 := frm_at hdis ha 14 113 (hds 14 113 rfl) (by omega) (depl_of hdep 15 14 (by decide) ho hd)
    exact doesL_run ho (wanted_none hgd) (hpure 15 (by decide) L w' hW) (by rw [run_assign _ _ _ hop]; exact congrArg (fun v => Result.ok (Next.value v) w') (eval_of h0))
  | (i + 16), ho, hL, hi => exact absurd hi (by omega)
def rgdT : List (Op × Option Tmp × Option (Nat × Bool)) := [
  (.move (.tmp 8), some 116, none),
  (.move (.tmp 12), some 117, none),
  (.indexAddr 45 (.tmp 116) (.tmp 117), some 118, none),
  (.load 43 (.tmp 118), some 119, none),
  (.call { callee := .value (.func 31), args := #[(.tmp 119)], argTypes := #[43] }, some 120, none),
  (.move (.tmp 9), some 121, none),
  (.move (.tmp 12), some 122, none),
  (.indexAddr 48 (.tmp 121) (.tmp 122), some 123, none),
  (.load 46 (.tmp 123), some 124, none),
  (.call { callee := .value (.func 32), args := #[(.tmp 124)], argTypes := #[46] }, some 125, none),
  (.binOp .eql 39 (.tmp 120) (.tmp 125) 39, some 126, none),
  (.move (.tmp 126), some 127, none),
  (.move (.tmp 8), some 128, some (11, true)),
  (.move (.tmp 12), some 129, some (11, true)),
  (.indexAddr 45 (.tmp 128) (.tmp 129), some 130, some (11, true)),
  (.load 43 (.tmp 130), some 131, some (11, true)),
  (.call { callee := .value (.func 33), args := #[(.tmp 131)], argTypes := #[43] }, some 132, some (11, true)),
  (.move (.tmp 9), some 133, some (11, true)),
  (.move (.tmp 12), some 134, some (11, true)),
  (.indexAddr 48 (.tmp 133) (.tmp 134), some 135, some (11, true)),
  (.load 46 (.tmp 135), some 136, some (11, true)),
  (.call { callee := .value (.func 34), args := #[(.tmp 136)], argTypes := #[46] }, some 137, some (11, true)),
  (.binOp .eql 3 (.tmp 132) (.tmp 137) 3, some 138, some (11, true)),
  (.pick (.tmp 127) (.tmp 138) (.const (.bool false)), some 139, none),
  (.assign (.tmp 139), some 13, none)]
def rgdD : List (Nat × Nat) := [(2, 0), (2, 1), (3, 2), (4, 3), (7, 5), (7, 6), (8, 7), (9, 8), (10, 4), (10, 9), (11, 10), (12, 11), (13, 11), (14, 11), (14, 12), (14, 13), (15, 11), (15, 14), (16, 11), (16, 15), (17, 11), (18, 11), (19, 11), (19, 17), (19, 18), (20, 11), (20, 19), (21, 11), (21, 20), (22, 11), (22, 16), (22, 21), (23, 11), (23, 22), (24, 23)]
set_option maxHeartbeats 2000000 in
theorem rgd {ops : Array Oper} {id : Nat} {Q : Exit → Act → World → Prop} (gr gy k b y : Nat) (d l : Int) (htab : ops.toList.map (fun o => (o.op, o.dst, o.guard)) = rgdT) (hdep : deplB rgdD ops = true) (hac : acB ops = true)
    (a0 : Act) (w : World) (hsz : 140 ≤ a0.tmps.size) (o8 : a0.tmps[8]? = some (.slice (some ⟨gr, 0, none⟩) 2 2)) (o9 : a0.tmps[9]? = some (.slice (some ⟨gy, 0, none⟩) 2 2)) (o12 : a0.tmps[12]? = some (.int .i64 (k : Int)))
    (Wd : (Nat → Bool) → World → Prop) (h0 : Wd (fun _ => false) w.drew) (hpure : ∀ i, i ∉ ([4, 9, 16, 21] : List Nat) → ∀ L W, Wd L W → Wd (upd L i) W)
    (i2 : k < 2) (i7 : k < 2) (i14 : k < 2) (i19 : k < 2) (l3 : ∀ L W, Wd L W → W.cell? ⟨gr, 0 + k, none⟩ = some (.pointer (some ⟨b, 0, none⟩))) (l8 : ∀ L W, Wd L W → W.cell? ⟨gy, 0 + k, none⟩ = some (.pointer (some ⟨y, 0, none⟩))) (l15 : ∀ L W, Wd L W → W.cell? ⟨gr, 0 + k, none⟩ = some (.pointer (some ⟨b, 0, none⟩))) (l20 : ∀ L W, Wd L W → W.cell? ⟨gy, 0 + k, none⟩ = some (.pointer (some ⟨y, 0, none⟩)))
    (c4 : ∀ L W, Wd L W → L 4 = false → Calls Tryd.prog 31 #[(.pointer (some ⟨b, 0, none⟩))] W fun e w' => e = .returned (.int .i64 d) ∧ Wd (upd L 4) w') (c9 : ∀ L W, Wd L W → L 9 = false → Calls Tryd.prog 32 #[(.pointer (some ⟨y, 0, none⟩))] W fun e w' => e = .returned (.int .i64 d) ∧ Wd (upd L 9) w')
    (c16 : ∀ L W, Wd L W → L 16 = false → Calls Tryd.prog 33 #[(.pointer (some ⟨b, 0, none⟩))] W fun e w' => e = .returned (.int .i64 l) ∧ Wd (upd L 16) w') (c21 : ∀ L W, Wd L W → L 21 = false → Calls Tryd.prog 34 #[(.pointer (some ⟨y, 0, none⟩))] W fun e w' => e = .returned (.int .i64 l) ∧ Wd (upd L 21) w')
    (hend : ∀ L W, (∀ i, i < 25 → L i = true) → Wd L W → Q .normal (((((((((((((((((((((((((a0.put (some 116) (.slice (some ⟨gr, 0, none⟩) 2 2)).put (some 117) (.int .i64 (k : Int))).put (some 118) (.pointer (some ⟨gr, 0 + k, none⟩))).put (some 119) (.pointer (some ⟨b, 0, none⟩))).put (some 120) (.int .i64 d)).put (some 121) (.slice (some ⟨gy, 0, none⟩) 2 2)).put (some 122) (.int .i64 (k : Int))).put (some 123) (.pointer (some ⟨gy, 0 + k, none⟩))).put (some 124) (.pointer (some ⟨y, 0, none⟩))).put (some 125) (.int .i64 d)).put (some 126) (.bool true)).put (some 127) (.bool true)).put (some 128) (.slice (some ⟨gr, 0, none⟩) 2 2)).put (some 129) (.int .i64 (k : Int))).put (some 130) (.pointer (some ⟨gr, 0 + k, none⟩))).put (some 131) (.pointer (some ⟨b, 0, none⟩))).put (some 132) (.int .i64 l)).put (some 133) (.slice (some ⟨gy, 0, none⟩) 2 2)).put (some 134) (.int .i64 (k : Int))).put (some 135) (.pointer (some ⟨gy, 0 + k, none⟩))).put (some 136) (.pointer (some ⟨y, 0, none⟩))).put (some 137) (.int .i64 l)).put (some 138) (.bool true)).put (some 139) (.bool true)).put (some 13) (.bool true)) W) : (Code.region id ops true).wp Tryd.prog Q a0 w := by
  let val : Nat → Value := fun i => match i with
    | 0 => (.slice (some ⟨gr, 0, none⟩) 2 2)
    | 1 => (.int .i64 (k : Int))
    | 2 => (.pointer (some ⟨gr, 0 + k, none⟩))
    | 3 => (.pointer (some ⟨b, 0, none⟩))
    | 4 => (.int .i64 d)
    | 5 => (.slice (some ⟨gy, 0, none⟩) 2 2)
    | 6 => (.int .i64 (k : Int))
    | 7 => (.pointer (some ⟨gy, 0 + k, none⟩))
    | 8 => (.pointer (some ⟨y, 0, none⟩))
    | 9 => (.int .i64 d)
    | 10 => (.bool true)
    | 11 => (.bool true)
    | 12 => (.slice (some ⟨gr, 0, none⟩) 2 2)
    | 13 => (.int .i64 (k : Int))
    | 14 => (.pointer (some ⟨gr, 0 + k, none⟩))
    | 15 => (.pointer (some ⟨b, 0, none⟩))
    | 16 => (.int .i64 l)
    | 17 => (.slice (some ⟨gy, 0, none⟩) 2 2)
    | 18 => (.int .i64 (k : Int))
    | 19 => (.pointer (some ⟨gy, 0 + k, none⟩))
    | 20 => (.pointer (some ⟨y, 0, none⟩))
    | 21 => (.int .i64 l)
    | 22 => (.bool true)
    | 23 => (.bool true)
    | 24 => (.bool true)
    | _ => undef
  have hosz : ops.size = 25 := by
    have := congrArg List.length htab
    simpa [rgdT] using this
  have hds : ∀ i s, (rgdT[i]?).bind (·.2.1) = some s → dstOf ops i = some s := fun i s hi => by rw [tab_dst htab, hi]
  have hdisB : disL rgdT = true := by rfl
  have hdis := disL_of htab hdisB
  have hold : ∀ s, rgdT.all (fun x => !(x.2.1 == some s)) = true → (List.range ops.size).all (fun j => !(dstOf ops j == some s)) = true := fun s h => holdL htab s h
  refine region_detL val Wd (hac_of hac) hdis h0 ?_ ?_
  rotate_left
  · intro L W hall hW
    have := hend L W (by rw [← hosz]; exact hall) hW
    have e : frm ops a0 val (fun _ => true) ops.size = (((((((((((((((((((((((((a0.put (some 116) (.slice (some ⟨gr, 0, none⟩) 2 2)).put (some 117) (.int .i64 (k : Int))).put (some 118) (.pointer (some ⟨gr, 0 + k, none⟩))).put (some 119) (.pointer (some ⟨b, 0, none⟩))).put (some 120) (.int .i64 d)).put (some 121) (.slice (some ⟨gy, 0, none⟩) 2 2)).put (some 122) (.int .i64 (k : Int))).put (some 123) (.pointer (some ⟨gy, 0 + k, none⟩))).put (some 124) (.pointer (some ⟨y, 0, none⟩))).put (some 125) (.int .i64 d)).put (some 126) (.bool true)).put (some 127) (.bool true)).put (some 128) (.slice (some ⟨gr, 0, none⟩) 2 2)).put (some 129) (.int .i64 (k : Int))).put (some 130) (.pointer (some ⟨gr, 0 + k, none⟩))).put (some 131) (.pointer (some ⟨b, 0, none⟩))).put (some 132) (.int .i64 l)).put (some 133) (.slice (some ⟨gy, 0, none⟩) 2 2)).put (some 134) (.int .i64 (k : Int))).put (some 135) (.pointer (some ⟨gy, 0 + k, none⟩))).put (some 136) (.pointer (some ⟨y, 0, none⟩))).put (some 137) (.int .i64 l)).put (some 138) (.bool true)).put (some 139) (.bool true)).put (some 13) (.bool true)) := by
      rw [hosz]
      simp only [frm, if_true]
      rw [tab_dst htab 0, tab_dst htab 1, tab_dst htab 2, tab_dst htab 3, tab_dst htab 4, tab_dst htab 5, tab_dst htab 6, tab_dst htab 7, tab_dst htab 8, tab_dst htab 9, tab_dst htab 10, tab_dst htab 11, tab_dst htab 12, tab_dst htab 13, tab_dst htab 14, tab_dst htab 15, tab_dst htab 16, tab_dst htab 17, tab_dst htab 18, tab_dst htab 19, tab_dst htab 20, tab_dst htab 21, tab_dst htab 22, tab_dst htab 23, tab_dst htab 24]
      rfl
    rw [e]
    exact this
  intro i o ho L a w' hL hd ha hW
  have hi : i < 25 := by rw [← hosz]; exact (Array.getElem?_eq_some_iff.1 ho).1
  match i, ho, hL, hi with
  | 0, ho, hL, _ =>
    obtain ⟨hop, hdst, hgd⟩ := tab_at htab ho (show rgdT[0]? = _ from rfl)
    simp only at hop hgd
    have h0 := frm_old ha 8 _ (hold 8 rfl) o8
    exact doesL_run ho (wanted_none hgd) (hpure 0 (by decide) L w' hW) (by rw [run_move _ _ _ hop]; exact congrArg (fun v => Result.ok (Next.value v) w') (eval_of h0))
  | 1, ho, hL, _ =>
    obtain ⟨hop, hdst, hgd⟩ := tab_at htab ho (show rgdT[1]? = _ from rfl)
    simp only at hop hgd
    have h0 := frm_old ha 12 _ (hold 12 rfl) o12
    exact doesL_run ho (wanted_none hgd) (hpure 1 (by decide) L w' hW) (by rw [run_move _ _ _ hop]; exact congrArg (fun v => Result.ok (Next.value v) w') (eval_of h0))
  | 2, ho, hL, _ =>
    obtain ⟨hop, hdst, hgd⟩ := tab_at htab ho (show rgdT[2]? = _ from rfl)
    simp only at hop hgd
    have h0 := frm_at hdis ha 0 116 (hds 0 116 rfl) (by omega) (depl_of hdep 2 0 (by decide) ho hd)
    have h1 := frm_at hdis ha 1 117 (hds 1 117 rfl) (by omega) (depl_of hdep 2 1 (by decide) ho hd)
    exact doesL_run ho (wanted_none hgd) (hpure 2 (by decide) L w' hW) (run_ia45 _ _ _ _ hop _ _ _ _ _ i2 (eval_of h0) (eval_of h1) _)
  | 3, ho, hL, _ =>
    obtain ⟨hop, hdst, hgd⟩ := tab_at htab ho (show rgdT[3]? = _ from rfl)
    simp only at hop hgd
    have h0 := frm_at hdis ha 2 118 (hds 2 118 rfl) (by omega) (depl_of hdep 3 2 (by decide) ho hd)
    exact doesL_run ho (wanted_none hgd) (hpure 3 (by decide) L w' hW) (run_ld43 _ _ _ hop _ _ (eval_of h0) _ (l3 L w' hW))
  | 4, ho, hL, _ =>
    obtain ⟨hop, hdst, hgd⟩ := tab_at htab ho (show rgdT[4]? = _ from rfl)
    simp only at hop hgd
    have h0 := frm_at hdis ha 3 119 (hds 3 119 rfl) (by omega) (depl_of hdep 4 3 (by decide) ho hd)
    refine doesL_call ho (wanted_none hgd) 31 #[(.pointer (some ⟨b, 0, none⟩))] ?_ (c4 L w' hW hL)
    rw [run_calls Tryd.func31 (by kernel_rfl) rfl _ _ _ _ hop rfl]
    simp only [List.map_toArray, List.map_cons, List.map_nil, eval_of h0]
    all_goals rfl
  | 5, ho, hL, _ =>
    obtain ⟨hop, hdst, hgd⟩ := tab_at htab ho (show rgdT[5]? = _ from rfl)
    simp only at hop hgd
    have h0 := frm_old ha 9 _ (hold 9 rfl) o9
    exact doesL_run ho (wanted_none hgd) (hpure 5 (by decide) L w' hW) (by rw [run_move _ _ _ hop]; exact congrArg (fun v => Result.ok (Next.value v) w') (eval_of h0))
  | 6, ho, hL, _ =>
    obtain ⟨hop, hdst, hgd⟩ := tab_at htab ho (show rgdT[6]? = _ from rfl)
    simp only at hop hgd
    have h0 := frm_old ha 12 _ (hold 12 rfl) o12
    exact doesL_run ho (wanted_none hgd) (hpure 6 (by decide) L w' hW) (by rw [run_move _ _ _ hop]; exact congrArg (fun v => Result.ok (Next.value v) w') (eval_of h0))
  | 7, ho, hL, _ =>
    obtain ⟨hop, hdst, hgd⟩ := tab_at htab ho (show rgdT[7]? = _ from rfl)
    simp only at hop hgd
    have h0 := frm_at hdis ha 5 121 (hds 5 121 rfl) (by omega) (depl_of hdep 7 5 (by decide) ho hd)
    have h1 := frm_at hdis ha 6 122 (hds 6 122 rfl) (by omega) (depl_of hdep 7 6 (by decide) ho hd)
    exact doesL_run ho (wanted_none hgd) (hpure 7 (by decide) L w' hW) (run_ia48 _ _ _ _ hop _ _ _ _ _ i7 (eval_of h0) (eval_of h1) _)
  | 8, ho, hL, _ =>
    obtain ⟨hop, hdst, hgd⟩ := tab_at htab ho (show rgdT[8]? = _ from rfl)
    simp only at hop hgd
    have h0 := frm_at hdis ha 7 123 (hds 7 123 rfl) (by omega) (depl_of hdep 8 7 (by decide) ho hd)
    exact doesL_run ho (wanted_none hgd) (hpure 8 (by decide) L w' hW) (run_ld46 _ _ _ hop _ _ (eval_of h0) _ (l8 L w' hW))
  | 9, ho, hL, _ =>
    obtain ⟨hop, hdst, hgd⟩ := tab_at htab ho (show rgdT[9]? = _ from rfl)
    simp only at hop hgd
    have h0 := frm_at hdis ha 8 124 (hds 8 124 rfl) (by omega) (depl_of hdep 9 8 (by decide) ho hd)
    refine doesL_call ho (wanted_none hgd) 32 #[(.pointer (some ⟨y, 0, none⟩))] ?_ (c9 L w' hW hL)
    rw [run_calls Tryd.func32 (by kernel_rfl) rfl _ _ _ _ hop rfl]
    simp only [List.map_toArray, List.map_cons, List.map_nil, eval_of h0]
    all_goals rfl
  | 10, ho, hL, _ =>
    obtain ⟨hop, hdst, hgd⟩ := tab_at htab ho (show rgdT[10]? = _ from rfl)
    simp only at hop hgd
    have h0 := frm_at hdis ha 4 120 (hds 4 120 rfl) (by omega) (depl_of hdep 10 4 (by decide) ho hd)
    have h1 := frm_at hdis ha 9 125 (hds 9 125 rfl) (by omega) (depl_of hdep 10 9 (by decide) ho hd)
    exact doesL_run ho (wanted_none hgd) (hpure 10 (by decide) L w' hW) (run_same _ _ _ _ _ _ hop _ (eval_of h0) (eval_of h1) _)
  | 11, ho, hL, _ =>
    obtain ⟨hop, hdst, hgd⟩ := tab_at htab ho (show rgdT[11]? = _ from rfl)
    simp only at hop hgd
    have h0 := frm_at hdis ha 10 126 (hds 10 126 rfl) (by omega) (depl_of hdep 11 10 (by decide) ho hd)
    exact doesL_run ho (wanted_none hgd) (hpure 11 (by decide) L w' hW) (by rw [run_move _ _ _ hop]; exact congrArg (fun v => Result.ok (Next.value v) w') (eval_of h0))
  | 12, ho, hL, _ =>
    obtain ⟨hop, hdst, hgd⟩ := tab_at htab ho (show rgdT[12]? = _ from rfl)
    simp only at hop hgd
    have hg := frm_at hdis ha 11 127 (hds 11 127 rfl) (by omega) (depl_of hdep 12 11 (by decide) ho hd)
    have h0 := frm_old ha 8 _ (hold 8 rfl) o8
    exact doesL_run ho (wanted_at (b := true) hgd (hds 11 127 rfl) hg) (hpure 12 (by decide) L w' hW) (by rw [run_move _ _ _ hop]; exact congrArg (fun v => Result.ok (Next.value v) w') (eval_of h0))
  | 13, ho, hL, _ =>
    obtain ⟨hop, hdst, hgd⟩ := tab_at htab ho (show rgdT[13]? = _ from rfl)
    simp only at hop hgd
    have hg := frm_at hdis ha 11 127 (hds 11 127 rfl) (by omega) (depl_of hdep 13 11 (by decide) ho hd)
    have h0 := frm_old ha 12 _ (hold 12 rfl) o12
    exact doesL_run ho (wanted_at (b := true) hgd (hds 11 127 rfl) hg) (hpure 13 (by decide) L w' hW) (by rw [run_move _ _ _ hop]; exact congrArg (fun v => Result.ok (Next.value v) w') (eval_of h0))
  | 14, ho, hL, _ =>
    obtain ⟨hop, hdst, hgd⟩ := tab_at htab ho (show rgdT[14]? = _ from rfl)
    simp only at hop hgd
    have hg := frm_at hdis ha 11 127 (hds 11 127 rfl) (by omega) (depl_of hdep 14 11 (by decide) ho hd)
    have h0 := frm_at hdis ha 12 128 (hds 12 128 rfl) (by omega) (depl_of hdep 14 12 (by decide) ho hd)
    have h1 := frm_at hdis ha 13 129 (hds 13 129 rfl) (by omega) (depl_of hdep 14 13 (by decide) ho hd)
    exact doesL_run ho (wanted_at (b := true) hgd (hds 11 127 rfl) hg) (hpure 14 (by decide) L w' hW) (run_ia45 _ _ _ _ hop _ _ _ _ _ i14 (eval_of h0) (eval_of h1) _)
  | 15, ho, hL, _ =>
    obtain ⟨hop, hdst, hgd⟩ := tab_at htab ho (show rgdT[15]? = _ from rfl)
    simp only at hop hgd
    have hg := frm_at hdis ha 11 127 (hds 11 127 rfl) (by omega) (depl_of hdep 15 11 (by decide) ho hd)
    have h0 := frm_at hdis ha 14 130 (hds 14 130 rfl) (by omega) (depl_of hdep 15 14 (by decide) ho hd)
    exact doesL_run ho (wanted_at (b := true) hgd (hds 11 127 rfl) hg) (hpure 15 (by decide) L w' hW) (run_ld43 _ _ _ hop _ _ (eval_of h0) _ (l15 L w' hW))
  | 16, ho, hL, _ =>
    obtain ⟨hop, hdst, hgd⟩ := tab_at htab ho (show rgdT[16]? = _ from rfl)
    simp only at hop hgd
    have hg := frm_at hdis ha 11 127 (hds 11 127 rfl) (by omega) (depl_of hdep 16 11 (by decide) ho hd)
    have h0 := frm_at hdis ha 15 131 (hds 15 131 rfl) (by omega) (depl_of hdep 16 15 (by decide) ho hd)
    refine doesL_call ho (wanted_at (b := true) hgd (hds 11 127 rfl) hg) 33 #[(.pointer (some ⟨b, 0, none⟩))] ?_ (c16 L w' hW hL)
    rw [run_calls Tryd.func33 (by kernel_rfl) rfl _ _ _ _ hop rfl]
    simp only [List.map_toArray, List.map_cons, List.map_nil, eval_of h0]
    all_goals rfl
  | 17, ho, hL, _ =>
    obtain ⟨hop, hdst, hgd⟩ := tab_at htab ho (show rgdT[17]? = _ from rfl)
    simp only at hop hgd
    have hg := frm_at hdis ha 11 127 (hds 11 127 rfl) (by omega) (depl_of hdep 17 11 (by decide) ho hd)
    have h0 := frm_old ha 9 _ (hold 9 rfl) o9
    exact doesL_run ho (wanted_at (b := true) hgd (hds 11 127 rfl) hg) (hpure 17 (by decide) L w' hW) (by rw [run_move _ _ _ hop]; exact congrArg (fun v => Result.ok (Next.value v) w') (eval_of h0))
  | 18, ho, hL, _ =>
    obtain ⟨hop, hdst, hgd⟩ := tab_at htab ho (show rgdT[18]? = _ from rfl)
    simp only at hop hgd
    have hg := frm_at hdis ha 11 127 (hds 11 127 rfl) (by omega) (depl_of hdep 18 11 (by decide) ho hd)
    have h0 := frm_old ha 12 _ (hold 12 rfl) o12
    exact doesL_run ho (wanted_at (b := true) hgd (hds 11 127 rfl) hg) (hpure 18 (by decide) L w' hW) (by rw [run_move _ _ _ hop]; exact congrArg (fun v => Result.ok (Next.value v) w') (eval_of h0))
  | 19, ho, hL, _ =>
    obtain ⟨hop, hdst, hgd⟩ := tab_at htab ho (show rgdT[19]? = _ from rfl)
    simp only at hop hgd
    have hg := frm_at hdis ha 11 127 (hds 11 127 rfl) (by omega) (depl_of hdep 19 11 (by decide) ho hd)
    have h0 := frm_at hdis ha 17 133 (hds 17 133 rfl) (by omega) (depl_of hdep 19 17 (by decide) ho hd)
    have h1 := frm_at hdis ha 18 134 (hds 18 134 rfl) (by omega) (depl_of hdep 19 18 (by decide) ho hd)
    exact doesL_run ho (wanted_at (b := true) hgd (hds 11 127 rfl) hg) (hpure 19 (by decide) L w' hW) (run_ia48 _ _ _ _ hop _ _ _ _ _ i19 (eval_of h0) (eval_of h1) _)
  | 20, ho, hL, _ =>
    obtain ⟨hop, hdst, hgd⟩ := tab_at htab ho (show rgdT[20]? = _ from rfl)
    simp only at hop hgd
    have hg := frm_at hdis ha 11 127 (hds 11 127 rfl) (by omega) (depl_of hdep 20 11 (by decide) ho hd)
    have h0 := frm_at hdis ha 19 135 (hds 19 135 rfl) (by omega) (depl_of hdep 20 19 (by decide) ho hd)
    exact doesL_run ho (wanted_at (b := true) hgd (hds 11 127 rfl) hg) (hpure 20 (by decide) L w' hW) (run_ld46 _ _ _ hop _ _ (eval_of h0) _ (l20 L w' hW))
  | 21, ho, hL, _ =>
    obtain ⟨hop, hdst, hgd⟩ := tab_at htab ho (show rgdT[21]? = _ from rfl)
    simp only at hop hgd
    have hg := frm_at hdis ha 11 127 (hds 11 127 rfl) (by omega) (depl_of hdep 21 11 (by decide) ho hd)
    have h0 := frm_at hdis ha 20 136 (hds 20 136 rfl) (by omega) (depl_of hdep 21 20 (by decide) ho hd)
    refine doesL_call ho (wanted_at (b := true) hgd (hds 11 127 rfl) hg) 34 #[(.pointer (some ⟨y, 0, none⟩))] ?_ (c21 L w' hW hL)
    rw [run_calls Tryd.func34 (by kernel_rfl) rfl _ _ _ _ hop rfl]
    simp only [List.map_toArray, List.map_cons, List.map_nil, eval_of h0]
    all_goals rfl
  | 22, ho, hL, _ =>
    obtain ⟨hop, hdst, hgd⟩ := tab_at htab ho (show rgdT[22]? = _ from rfl)
    simp only at hop hgd
    have hg := frm_at hdis ha 11 127 (hds 11 127 rfl) (by omega) (depl_of hdep 22 11 (by decide) ho hd)
    have h0 := frm_at hdis ha 16 132 (hds 16 132 rfl) (by omega) (depl_of hdep 22 16 (by decide) ho hd)
    have h1 := frm_at hdis ha 21 137 (hds 21 137 rfl) (by omega) (depl_of hdep 22 21 (by decide) ho hd)
    exact doesL_run ho (wanted_at (b := true) hgd (hds 11 127 rfl) hg) (hpure 22 (by decide) L w' hW) (run_same _ _ _ _ _ _ hop _ (eval_of h0) (eval_of h1) _)
  | 23, ho, hL, _ =>
    obtain ⟨hop, hdst, hgd⟩ := tab_at htab ho (show rgdT[23]? = _ from rfl)
    simp only at hop hgd
    have h0 := frm_at hdis ha 11 127 (hds 11 127 rfl) (by omega) (depl_of hdep 23 11 (by decide) ho hd)
    have h1 := frm_at hdis ha 22 138 (hds 22 138 rfl) (by omega) (depl_of hdep 23 22 (by decide) ho hd)
    exact doesL_run ho (wanted_none hgd) (hpure 23 (by decide) L w' hW) (by rw [run_pick _ _ _ _ _ hop true (eval_of h0)]; exact congrArg (fun v => Result.ok (Next.value v) w') (eval_of h1))
  | 24, ho, hL, _ =>
    obtain ⟨hop, hdst, hgd⟩ := tab_at htab ho (show rgdT[24]? = _ from rfl)
    simp only at hop hgd
    have h0 := frm_at hdis ha 23 139 (hds 23 139 rfl) (by omega) (depl_of hdep 24 23 (by decide) ho hd)
    exact doesL_run ho (wanted_none hgd) (hpure 24 (by decide) L w' hW) (by rw [run_assign _ _ _ hop]; exact congrArg (fun v => Result.ok (Next.value v) w') (eval_of h0))
  | (i + 25), ho, hL, hi => exact absurd hi (by omega)
end Go.Proofs.YthddilflldkmfaaDoor
