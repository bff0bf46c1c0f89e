import Derived.Test.YtllialbdofklgaaGreatDoorRgnd
namespace Go.Proofs.YtllialbdofklgaaGreatDoor
open Go.RowKit
theorem run_len22 (ρ : Operand → Value) (o : Oper) (x : Operand) (ho : o.op = .call { callee := .builtin .len, args := #[x], argTypes := #[22] }) (a : Option Addr) (n c : Nat) (hx : ρ x = .slice a n c) (w : World) : (execOp ρ o).run Tryz.prog w = .ok (.value (.int .i64 (n : Int))) w := by
  unfold execOp
  simp only [ho]
  simp [resolve, invoke, builtin, hx, Builtin.len_, Builtin.lenOf, go_sem]
theorem run_cut22 (ρ : Operand → Value) (o : Oper) (x y : Operand) (ho : o.op = .slice 22 x none (some y) none) (g k n c : Nat) (hk : k ≤ c) (hx : ρ x = .slice (some ⟨g, 0, none⟩) n c) (hy : ρ y = .int .i64 (k : Int)) (w : World) : (execOp ρ o).run Tryz.prog w = .ok (.value (.slice (some ⟨g, 0, none⟩) k c)) w := by
  unfold execOp
  simp only [ho, hx, Option.map_some, Option.map_none, hy]
  have h1 : (k : Int) ≤ (c : Int) := by omega
  have u := Tryz.underlying22
  have z := Tryz.sizeOf9
  simp [Instr.sliceAt, go_sem, u, z, h1]
theorem run_st22 (ρ : Operand → Value) (o : Oper) (x y : Operand) (ho : o.op = .store 22 x y) (p : Addr) (v : Value) (ha : ρ x = .pointer (some p)) (hy : ρ y = v) (w : World) (hv : ∃ a n k, v = .slice a n k) (hc : ∃ u, w.cell? p = some u) (hf : w.frozen? p = false) : (execOp ρ o).run Tryz.prog w = .ok .skip (w.setCell p v) := by
  obtain ⟨u, hc⟩ := hc
  obtain ⟨a, n, k, rfl⟩ := hv
  have h1 : (Value.slice a n k).oneCell' = true := rfl
  have s0 : (store p (.slice a n k)).run Tryz.prog w = .ok () (w.setCell p (.slice a n k)) := by
    rw [run_store _ _ _ _ _ h1, hc]
    simp [hf]
  unfold execOp
  simp only [ho, ha, hy]
  simp [go_sem, s0, Result.andThen]
theorem run_len23 (ρ : Operand → Value) (o : Oper) (x : Operand) (ho : o.op = .call { callee := .builtin .len, args := #[x], argTypes := #[23] }) (a : Option Addr) (n c : Nat) (hx : ρ x = .slice a n c) (w : World) : (execOp ρ o).run Tryz.prog w = .ok (.value (.int .i64 (n : Int))) w := by
  unfold execOp
  simp only [ho]
  simp [resolve, invoke, builtin, hx, Builtin.len_, Builtin.lenOf, go_sem]
theorem run_cut23 (ρ : Operand → Value) (o : Oper) (x y : Operand) (ho : o.op = .slice 23 x none (some y) none) (g k n c : Nat) (hk : k ≤ c) (hx : ρ x = .slice (some ⟨g, 0, none⟩) n c) (hy : ρ y = .int .i64 (k : Int)) (w : World) : (execOp ρ o).run Tryz.prog w = .ok (.value (.slice (some ⟨g, 0, none⟩) k c)) w := by
  unfold execOp
  simp only [ho, hx, Option.map_some, Option.map_none, hy]
  have h1 : (k : Int) ≤ (c : Int) := by omega
  have u := Tryz.underlying23
  have z := Tryz.sizeOf3
  simp [Instr.sliceAt, go_sem, u, z, h1]
theorem run_st23 (ρ : Operand → Value) (o : Oper) (x y : Operand) (ho : o.op = .store 23 x y) (p : Addr) (v : Value) (ha : ρ x = .pointer (some p)) (hy : ρ y = v) (w : World) (hv : ∃ a n k, v = .slice a n k) (hc : ∃ u, w.cell? p = some u) (hf : w.frozen? p = false) : (execOp ρ o).run Tryz.prog w = .ok .skip (w.setCell p v) := by
  obtain ⟨u, hc⟩ := hc
  obtain ⟨a, n, k, rfl⟩ := hv
  have h1 : (Value.slice a n k).oneCell' = true := rfl
  have s0 : (store p (.slice a n k)).run Tryz.prog w = .ok () (w.setCell p (.slice a n k)) := by
    rw [run_store _ _ _ _ _ h1, hc]
    simp [hf]
  unfold execOp
  simp only [ho, ha, hy]
  simp [go_sem, s0, Result.andThen]
def rlkT : List (Op × Option Tmp × Option (Nat × Bool)) := [
  (.fieldAddr 25 (.tmp 1) 1, some 3, none),
  (.load 22 (.tmp 3), some 4, none),
  (.call { callee := .value (.func 23), args := #[(.tmp 4)], argTypes := #[22] }, some 5, none),
  (.fieldAddr 25 (.tmp 1) 1, some 6, none),
  (.load 22 (.tmp 6), some 7, none),
  (.call { callee := .builtin .len, args := #[(.tmp 7)], argTypes := #[22] }, some 8, none),
  (.slice 22 (.tmp 5) none (some (.tmp 8)) none, some 9, none),
  (.fieldAddr 25 (.tmp 1) 1, some 10, none),
  (.store 22 (.tmp 10) (.tmp 9), none, none)]
def rlkD : List (Nat × Nat) := [(1, 0), (2, 1), (4, 3), (5, 4), (6, 2), (6, 5), (8, 1), (8, 2), (8, 4), (8, 6), (8, 7)]
set_option maxHeartbeats 2000000 in
theorem rlk {ops : Array Oper} {id : Nat} {Q : Exit → Act → World → Prop} (X G n kc : Nat) (ka : Option Addr) (htab : ops.toList.map (fun o => (o.op, o.dst, o.guard)) = rlkT) (hdep : deplB rlkD ops = true) (hac : acB ops = true)
    (a0 : Act) (w : World) (hsz : 11 ≤ a0.tmps.size) (o1 : a0.tmps[1]? = some (.pointer (some ⟨X, 0, none⟩)))
    (Wd : (Nat → Bool) → World → Prop) (h0 : Wd (fun _ => false) w.drew) (hpure : ∀ i, i ∉ ([2, 8] : List Nat) → ∀ L W, Wd L W → Wd (upd L i) W)
    (l1 : ∀ L W, Wd L W → L 1 = false → W.cell? ⟨X, 0 + 1, none⟩ = some (.slice ka n kc)) (l4 : ∀ L W, Wd L W → L 4 = false → W.cell? ⟨X, 0 + 1, none⟩ = some (.slice ka n kc)) (s6 : n ≤ n + 4)
    (c2 : ∀ L W, Wd L W → L 2 = false → Calls Tryz.prog 23 #[.slice ka n kc] W fun e w' => e = .returned (.slice (some ⟨G, 0, none⟩) (n + 4) (n + 4)) ∧ Wd (upd L 2) w')
    (n8 : ∀ L W, Wd L W → L 8 = false → L 6 = true → L 7 = true → L 1 = true → L 4 = true → L 2 = true → Wd (upd L 8) (W.setCell ⟨X, 0 + 1, none⟩ (.slice (some ⟨G, 0, none⟩) n (n + 4))) ∧ (∃ a m k, Value.slice (some ⟨G, 0, none⟩) n (n + 4) = .slice a m k) ∧ (∃ u, W.cell? ⟨X, 0 + 1, none⟩ = some u) ∧ W.frozen? ⟨X, 0 + 1, none⟩ = false)
    (hend : ∀ L W, (∀ i, i < 9 → L i = true) → Wd L W → Q .normal ((((((((a0.put (some 3) (.pointer (some ⟨X, 0 + 1, none⟩))).put (some 4) (.slice ka n kc)).put (some 5) (.slice (some ⟨G, 0, none⟩) (n + 4) (n + 4))).put (some 6) (.pointer (some ⟨X, 0 + 1, none⟩))).put (some 7) (.slice ka n kc)).put (some 8) (.int .i64 (n : Int))).put (some 9) (.slice (some ⟨G, 0, none⟩) n (n + 4))).put (some 10) (.pointer (some ⟨X, 0 + 1, none⟩))) W) : (Code.region id ops true).wp Tryz.prog Q a0 w := by
  let val : Nat → Value := fun i => match i with
    | 0 => (.pointer (some ⟨X, 0 + 1, none⟩))
    | 1 => (.slice ka n kc)
    | 2 => (.slice (some ⟨G, 0, none⟩) (n + 4) (n + 4))
    | 3 => (.pointer (some ⟨X, 0 + 1, none⟩))
    | 4 => (.slice ka n kc)
    | 5 => (.int .i64 (n : Int))
    | 6 => (.slice (some ⟨G, 0, none⟩) n (n + 4))
    | 7 => (.pointer (some ⟨X, 0 + 1, none⟩))
    | 8 => undef
    | _ => undef
  have hosz : ops.size = 9 := by
    have := congrArg List.length htab
    simpa [rlkT] using this
  have hds : ∀ i s, (rlkT[i]?).bind (·.2.1) = some s → dstOf ops i = some s := fun i s hi => by rw [tab_dst htab, hi]
  have hdisB : disL rlkT = true := by rfl
  have hdis := disL_of htab hdisB
  have hold : ∀ s, rlkT.all (fun x => !(x.2.1 == some s)) = true → (List.range ops.size).all (fun j => !(dstOf ops j == some s)) = true := fun s h => holdL htab s h
  refine region_detL val Wd (hac_of hac) hdis h0 ?_ ?_
  rotate_left
  · intro L W hall hW
    have := hend L W (by rw [← hosz]; exact hall) hW
    have e : frm ops a0 val (fun _ => true) ops.size = ((((((((a0.put (some 3) (.pointer (some ⟨X, 0 + 1, none⟩))).put (some 4) (.slice ka n kc)).put (some 5) (.slice (some ⟨G, 0, none⟩) (n + 4) (n + 4))).put (some 6) (.pointer (some ⟨X, 0 + 1, none⟩))).put (some 7) (.slice ka n kc)).put (some 8) (.int .i64 (n : Int))).put (some 9) (.slice (some ⟨G, 0, none⟩) n (n + 4))).put (some 10) (.pointer (some ⟨X, 0 + 1, none⟩))) := by
      rw [hosz]
      simp only [frm, if_true]
      rw [tab_dst htab 0, tab_dst htab 1, tab_dst htab 2, tab_dst htab 3, tab_dst htab 4, tab_dst htab 5, tab_dst htab 6, tab_dst htab 7, (show dstOf ops 8 = none from (tab_dst htab 8).trans rfl), put_none]
      rfl
    rw [e]
    exact this
  intro i o ho L a w' hL hd ha hW
  have hi : i < 9 := by rw [← hosz]; exact (Array.getElem?_eq_some_iff.1 ho).1
  match i, ho, hL, hi with
  | 0, ho, hL, _ =>
    obtain ⟨hop, hdst, hgd⟩ := tab_at htab ho (show rlkT[0]? = _ from rfl)
    simp only at hop hgd
    have h0 := frm_old ha 1 _ (hold 1 rfl) o1
    exact doesL_run ho (wanted_none hgd) (hpure 0 (by decide) L w' hW) (run_f25_1 _ _ _ hop _ _ (eval_of h0) _)
  | 1, ho, hL, _ =>
    obtain ⟨hop, hdst, hgd⟩ := tab_at htab ho (show rlkT[1]? = _ from rfl)
    simp only at hop hgd
    have h0 := frm_at hdis ha 0 3 (hds 0 3 rfl) (by omega) (depl_of hdep 1 0 (by decide) ho hd)
    exact doesL_run ho (wanted_none hgd) (hpure 1 (by decide) L w' hW) (run_ld22 _ _ _ hop _ _ (eval_of h0) _ (l1 L w' hW hL))
  | 2, ho, hL, _ =>
    obtain ⟨hop, hdst, hgd⟩ := tab_at htab ho (show rlkT[2]? = _ from rfl)
    simp only at hop hgd
    have h0 := frm_at hdis ha 1 4 (hds 1 4 rfl) (by omega) (depl_of hdep 2 1 (by decide) ho hd)
    refine doesL_call ho (wanted_none hgd) 23 #[.slice ka n kc] ?_ (c2 L w' hW hL)
    rw [run_calls Tryz.func23 (by kernel_rfl) rfl _ _ _ _ hop rfl]
    simp only [List.map_toArray, List.map_cons, List.map_nil, eval_of h0]
    all_goals rfl
  | 3, ho, hL, _ =>
    obtain ⟨hop, hdst, hgd⟩ := tab_at htab ho (show rlkT[3]? = _ from rfl)
    simp only at hop hgd
    have h0 := frm_old ha 1 _ (hold 1 rfl) o1
    exact doesL_run ho (wanted_none hgd) (hpure 3 (by decide) L w' hW) (run_f25_1 _ _ _ hop _ _ (eval_of h0) _)
  | 4, ho, hL, _ =>
    obtain ⟨hop, hdst, hgd⟩ := tab_at htab ho (show rlkT[4]? = _ from rfl)
    simp only at hop hgd
    have h0 := frm_at hdis ha 3 6 (hds 3 6 rfl) (by omega) (depl_of hdep 4 3 (by decide) ho hd)
    exact doesL_run ho (wanted_none hgd) (hpure 4 (by decide) L w' hW) (run_ld22 _ _ _ hop _ _ (eval_of h0) _ (l4 L w' hW hL))
  | 5, ho, hL, _ =>
    obtain ⟨hop, hdst, hgd⟩ := tab_at htab ho (show rlkT[5]? = _ from rfl)
    simp only at hop hgd
    have h0 := frm_at hdis ha 4 7 (hds 4 7 rfl) (by omega) (depl_of hdep 5 4 (by decide) ho hd)
    exact doesL_run ho (wanted_none hgd) (hpure 5 (by decide) L w' hW) (run_len22 _ _ _ hop _ _ _ (eval_of h0) _)
  | 6, ho, hL, _ =>
    obtain ⟨hop, hdst, hgd⟩ := tab_at htab ho (show rlkT[6]? = _ from rfl)
    simp only at hop hgd
    have h0 := frm_at hdis ha 2 5 (hds 2 5 rfl) (by omega) (depl_of hdep 6 2 (by decide) ho hd)
    have h1 := frm_at hdis ha 5 8 (hds 5 8 rfl) (by omega) (depl_of hdep 6 5 (by decide) ho hd)
    exact doesL_run ho (wanted_none hgd) (hpure 6 (by decide) L w' hW) (run_cut22 _ _ _ _ hop _ _ _ _ s6 (eval_of h0) (eval_of h1) _)
  | 7, ho, hL, _ =>
    obtain ⟨hop, hdst, hgd⟩ := tab_at htab ho (show rlkT[7]? = _ from rfl)
    simp only at hop hgd
    have h0 := frm_old ha 1 _ (hold 1 rfl) o1
    exact doesL_run ho (wanted_none hgd) (hpure 7 (by decide) L w' hW) (run_f25_1 _ _ _ hop _ _ (eval_of h0) _)
  | 8, ho, hL, _ =>
    obtain ⟨hop, hdst, hgd⟩ := tab_at htab ho (show rlkT[8]? = _ from rfl)
    simp only at hop hgd
    have h0 := frm_at hdis ha 7 10 (hds 7 10 rfl) (by omega) (depl_of hdep 8 7 (by decide) ho hd)
    have h1 := frm_at hdis ha 6 9 (hds 6 9 rfl) (by omega) (depl_of hdep 8 6 (by decide) ho hd)
    obtain ⟨s1, s2, s3, s4⟩ := n8 L w' hW hL (depl_of hdep 8 6 (by decide) ho hd) (depl_of hdep 8 7 (by decide) ho hd) (depl_of hdep 8 1 (by decide) ho hd) (depl_of hdep 8 4 (by decide) ho hd) (depl_of hdep 8 2 (by decide) ho hd)
    exact doesL_skp ho (wanted_none hgd) rfl s1 (run_st22 _ _ _ _ hop _ _ (eval_of h0) (eval_of h1) _ s2 s3 s4)
  | (i + 9), ho, hL, hi => exact absurd hi (by omega)
def rlvT : List (Op × Option Tmp × Option (Nat × Bool)) := [
  (.fieldAddr 25 (.tmp 1) 2, some 11, none),
  (.load 22 (.tmp 11), some 12, none),
  (.call { callee := .value (.func 23), args := #[(.tmp 12)], argTypes := #[22] }, some 13, none),
  (.fieldAddr 25 (.tmp 1) 2, some 14, none),
  (.load 22 (.tmp 14), some 15, none),
  (.call { callee := .builtin .len, args := #[(.tmp 15)], argTypes := #[22] }, some 16, none),
  (.slice 22 (.tmp 13) none (some (.tmp 16)) none, some 17, none),
  (.fieldAddr 25 (.tmp 1) 2, some 18, none),
  (.store 22 (.tmp 18) (.tmp 17), none, none)]
def rlvD : List (Nat × Nat) := [(1, 0), (2, 1), (4, 3), (5, 4), (6, 2), (6, 5), (8, 1), (8, 2), (8, 4), (8, 6), (8, 7)]
set_option maxHeartbeats 2000000 in
theorem rlv {ops : Array Oper} {id : Nat} {Q : Exit → Act → World → Prop} (X G n kc : Nat) (ka : Option Addr) (htab : ops.toList.map (fun o => (o.op, o.dst, o.guard)) = rlvT) (hdep : deplB rlvD ops = true) (hac : acB ops = true)
    (a0 : Act) (w : World) (hsz : 19 ≤ a0.tmps.size) (o1 : a0.tmps[1]? = some (.pointer (some ⟨X, 0, none⟩)))
    (Wd : (Nat → Bool) → World → Prop) (h0 : Wd (fun _ => false) w.drew) (hpure : ∀ i, i ∉ ([2, 8] : List Nat) → ∀ L W, Wd L W → Wd (upd L i) W)
    (l1 : ∀ L W, Wd L W → L 1 = false → W.cell? ⟨X, 0 + 2, none⟩ = some (.slice ka n kc)) (l4 : ∀ L W, Wd L W → L 4 = false → W.cell? ⟨X, 0 + 2, none⟩ = some (.slice ka n kc)) (s6 : n ≤ n + 4)
    (c2 : ∀ L W, Wd L W → L 2 = false → Calls Tryz.prog 23 #[.slice ka n kc] W fun e w' => e = .returned (.slice (some ⟨G, 0, none⟩) (n + 4) (n + 4)) ∧ Wd (upd L 2) w')
    (n8 : ∀ L W, Wd L W → L 8 = false → L 6 = true → L 7 = true → L 1 = true → L 4 = true → L 2 = true → Wd (upd L 8) (W.setCell ⟨X, 0 + 2, none⟩ (.slice (some ⟨G, 0, none⟩) n (n + 4))) ∧ (∃ a m k, Value.slice (some ⟨G, 0, none⟩) n (n + 4) = .slice a m k) ∧ (∃ u, W.cell? ⟨X, 0 + 2, none⟩ = some u) ∧ W.frozen? ⟨X, 0 + 2, none⟩ = false)
    (hend : ∀ L W, (∀ i, i < 9 → L i = true) → Wd L W → Q .normal ((((((((a0.put (some 11) (.pointer (some ⟨X, 0 + 2, none⟩))).put (some 12) (.slice ka n kc)).put (some 13) (.slice (some ⟨G, 0, none⟩) (n + 4) (n + 4))).put (some 14) (.pointer (some ⟨X, 0 + 2, none⟩))).put (some 15) (.slice ka n kc)).put (some 16) (.int .i64 (n : Int))).put (some 17) (.slice (some ⟨G, 0, none⟩) n (n + 4))).put (some 18) (.pointer (some ⟨X, 0 + 2, none⟩))) W) : (Code.region id ops true).wp Tryz.prog Q a0 w := by
  let val : Nat → Value := fun i => match i with
    | 0 => (.pointer (some ⟨X, 0 + 2, none⟩))
    | 1 => (.slice ka n kc)
    | 2 => (.slice (some ⟨G, 0, none⟩) (n + 4) (n + 4))
    | 3 => (.pointer (some ⟨X, 0 + 2, none⟩))
    | 4 => (.slice ka n kc)
    | 5 => (.int .i64 (n : Int))
    | 6 => (.slice (some ⟨G, 0, none⟩) n (n + 4))
    | 7 => (.pointer (some ⟨X, 0 + 2, none⟩))
    | 8 => undef
    | _ => undef
  have hosz : ops.size = 9 := by
    have := congrArg List.length htab
    simpa [rlvT] using this
  have hds : ∀ i s, (rlvT[i]?).bind (·.2.1) = some s → dstOf ops i = some s := fun i s hi => by rw [tab_dst htab, hi]
  have hdisB : disL rlvT = true := by rfl
  have hdis := disL_of htab hdisB
  have hold : ∀ s, rlvT.all (fun x => !(x.2.1 == some s)) = true → (List.range ops.size).all (fun j => !(dstOf ops j == some s)) = true := fun s h => holdL htab s h
  refine region_detL val Wd (hac_of hac) hdis h0 ?_ ?_
  rotate_left
  · intro L W hall hW
    have := hend L W (by rw [← hosz]; exact hall) hW
    have e : frm ops a0 val (fun _ => true) ops.size = ((((((((a0.put (some 11) (.pointer (some ⟨X, 0 + 2, none⟩))).put (some 12) (.slice ka n kc)).put (some 13) (.slice (some ⟨G, 0, none⟩) (n + 4) (n + 4))).put (some 14) (.pointer (some ⟨X, 0 + 2, none⟩))).put (some 15) (.slice ka n kc)).put (some 16) (.int .i64 (n : Int))).put (some 17) (.slice (some ⟨G, 0, none⟩) n (n + 4))).put (some 18) (.pointer (some ⟨X, 0 + 2, none⟩))) := by
      rw [hosz]
      simp only [frm, if_true]
      rw [tab_dst htab 0, tab_dst htab 1, tab_dst htab 2, tab_dst htab 3, tab_dst htab 4, tab_dst htab 5, tab_dst htab 6, tab_dst htab 7, (show dstOf ops 8 = none from (tab_dst htab 8).trans rfl), put_none]
      rfl
    rw [e]
    exact this
  intro i o ho L a w' hL hd ha hW
  have hi : i < 9 := by rw [← hosz]; exact (Array.getElem?_eq_some_iff.1 ho).1
  match i, ho, hL, hi with
  | 0, ho, hL, _ =>
    obtain ⟨hop, hdst, hgd⟩ := tab_at htab ho (show rlvT[0]? = _ from rfl)
    simp only at hop hgd
    have h0 := frm_old ha 1 _ (hold 1 rfl) o1
    exact doesL_run ho (wanted_none hgd) (hpure 0 (by decide) L w' hW) (run_f25_2 _ _ _ hop _ _ (eval_of h0) _)
  | 1, ho, hL, _ =>
    obtain ⟨hop, hdst, hgd⟩ := tab_at htab ho (show rlvT[1]? = _ from rfl)
    simp only at hop hgd
    have h0 := frm_at hdis ha 0 11 (hds 0 11 rfl) (by omega) (depl_of hdep 1 0 (by decide) ho hd)
    exact doesL_run ho (wanted_none hgd) (hpure 1 (by decide) L w' hW) (run_ld22 _ _ _ hop _ _ (eval_of h0) _ (l1 L w' hW hL))
  | 2, ho, hL, _ =>
    obtain ⟨hop, hdst, hgd⟩ := tab_at htab ho (show rlvT[2]? = _ from rfl)
    simp only at hop hgd
    have h0 := frm_at hdis ha 1 12 (hds 1 12 rfl) (by omega) (depl_of hdep 2 1 (by decide) ho hd)
    refine doesL_call ho (wanted_none hgd) 23 #[.slice ka n kc] ?_ (c2 L w' hW hL)
    rw [run_calls Tryz.func23 (by kernel_rfl) rfl _ _ _ _ hop rfl]
    simp only [List.map_toArray, List.map_cons, List.map_nil, eval_of h0]
    all_goals rfl
  | 3, ho, hL, _ =>
    obtain ⟨hop, hdst, hgd⟩ := tab_at htab ho (show rlvT[3]? = _ from rfl)
    simp only at hop hgd
    have h0 := frm_old ha 1 _ (hold 1 rfl) o1
    exact doesL_run ho (wanted_none hgd) (hpure 3 (by decide) L w' hW) (run_f25_2 _ _ _ hop _ _ (eval_of h0) _)
  | 4, ho, hL, _ =>
    obtain ⟨hop, hdst, hgd⟩ := tab_at htab ho (show rlvT[4]? = _ from rfl)
    simp only at hop hgd
    have h0 := frm_at hdis ha 3 14 (hds 3 14 rfl) (by omega) (depl_of hdep 4 3 (by decide) ho hd)
    exact doesL_run ho (wanted_none hgd) (hpure 4 (by decide) L w' hW) (run_ld22 _ _ _ hop _ _ (eval_of h0) _ (l4 L w' hW hL))
  | 5, ho, hL, _ =>
    obtain ⟨hop, hdst, hgd⟩ := tab_at htab ho (show rlvT[5]? = _ from rfl)
    simp only at hop hgd
    have h0 := frm_at hdis ha 4 15 (hds 4 15 rfl) (by omega) (depl_of hdep 5 4 (by decide) ho hd)
    exact doesL_run ho (wanted_none hgd) (hpure 5 (by decide) L w' hW) (run_len22 _ _ _ hop _ _ _ (eval_of h0) _)
  | 6, ho, hL, _ =>
    obtain ⟨hop, hdst, hgd⟩ := tab_at htab ho (show rlvT[6]? = _ from rfl)
    simp only at hop hgd
    have h0 := frm_at hdis ha 2 13 (hds 2 13 rfl) (by omega) (depl_of hdep 6 2 (by decide) ho hd)
    have h1 := frm_at hdis ha 5 16 (hds 5 16 rfl) (by omega) (depl_of hdep 6 5 (by decide) ho hd)
    exact doesL_run ho (wanted_none hgd) (hpure 6 (by decide) L w' hW) (run_cut22 _ _ _ _ hop _ _ _ _ s6 (eval_of h0) (eval_of h1) _)
  | 7, ho, hL, _ =>
    obtain ⟨hop, hdst, hgd⟩ := tab_at htab ho (show rlvT[7]? = _ from rfl)
    simp only at hop hgd
    have h0 := frm_old ha 1 _ (hold 1 rfl) o1
    exact doesL_run ho (wanted_none hgd) (hpure 7 (by decide) L w' hW) (run_f25_2 _ _ _ hop _ _ (eval_of h0) _)
  | 8, ho, hL, _ =>
    obtain ⟨hop, hdst, hgd⟩ := tab_at htab ho (show rlvT[8]? = _ from rfl)
    simp only at hop hgd
    have h0 := frm_at hdis ha 7 18 (hds 7 18 rfl) (by omega) (depl_of hdep 8 7 (by decide) ho hd)
    have h1 := frm_at hdis ha 6 17 (hds 6 17 rfl) (by omega) (depl_of hdep 8 6 (by decide) ho hd)
    obtain ⟨s1, s2, s3, s4⟩ := n8 L w' hW hL (depl_of hdep 8 6 (by decide) ho hd) (depl_of hdep 8 7 (by decide) ho hd) (depl_of hdep 8 1 (by decide) ho hd) (depl_of hdep 8 4 (by decide) ho hd) (depl_of hdep 8 2 (by decide) ho hd)
    exact doesL_skp ho (wanted_none hgd) rfl s1 (run_st22 _ _ _ _ hop _ _ (eval_of h0) (eval_of h1) _ s2 s3 s4)
  | (i + 9), ho, hL, hi => exact absurd hi (by omega)
def rliT : List (Op × Option Tmp × Option (Nat × Bool)) := [
  (.fieldAddr 25 (.tmp 1) 3, some 19, none),
  (.load 23 (.tmp 19), some 20, none),
  (.call { callee := .value (.func 19), args := #[(.tmp 20)], argTypes := #[23] }, some 21, none),
  (.fieldAddr 25 (.tmp 1) 3, some 22, none),
  (.load 23 (.tmp 22), some 23, none),
  (.call { callee := .builtin .len, args := #[(.tmp 23)], argTypes := #[23] }, some 24, none),
  (.slice 23 (.tmp 21) none (some (.tmp 24)) none, some 25, none),
  (.fieldAddr 25 (.tmp 1) 3, some 26, none),
  (.store 23 (.tmp 26) (.tmp 25), none, none)]
def rliD : List (Nat × Nat) := [(1, 0), (2, 1), (4, 3), (5, 4), (6, 2), (6, 5), (8, 1), (8, 2), (8, 4), (8, 6), (8, 7)]
set_option maxHeartbeats 2000000 in
theorem rli {ops : Array Oper} {id : Nat} {Q : Exit → Act → World → Prop} (X G n kc : Nat) (ka : Option Addr) (htab : ops.toList.map (fun o => (o.op, o.dst, o.guard)) = rliT) (hdep : deplB rliD ops = true) (hac : acB ops = true)
    (a0 : Act) (w : World) (hsz : 27 ≤ a0.tmps.size) (o1 : a0.tmps[1]? = some (.pointer (some ⟨X, 0, none⟩)))
    (Wd : (Nat → Bool) → World → Prop) (h0 : Wd (fun _ => false) w.drew) (hpure : ∀ i, i ∉ ([2, 8] : List Nat) → ∀ L W, Wd L W → Wd (upd L i) W)
    (l1 : ∀ L W, Wd L W → L 1 = false → W.cell? ⟨X, 0 + 3, none⟩ = some (.slice ka n kc)) (l4 : ∀ L W, Wd L W → L 4 = false → W.cell? ⟨X, 0 + 3, none⟩ = some (.slice ka n kc)) (s6 : n ≤ n + 4)
    (c2 : ∀ L W, Wd L W → L 2 = false → Calls Tryz.prog 19 #[.slice ka n kc] W fun e w' => e = .returned (.slice (some ⟨G, 0, none⟩) (n + 4) (n + 4)) ∧ Wd (upd L 2) w')
    (n8 : ∀ L W, Wd L W → L 8 = false → L 6 = true → L 7 = true → L 1 = true → L 4 = true → L 2 = true → Wd (upd L 8) (W.setCell ⟨X, 0 + 3, none⟩ (.slice (some ⟨G, 0, none⟩) n (n + 4))) ∧ (∃ a m k, Value.slice (some ⟨G, 0, none⟩) n (n + 4) = .slice a m k) ∧ (∃ u, W.cell? ⟨X, 0 + 3, none⟩ = some u) ∧ W.frozen? ⟨X, 0 + 3, none⟩ = false)
    (hend : ∀ L W, (∀ i, i < 9 → L i = true) → Wd L W → Q .normal ((((((((a0.put (some 19) (.pointer (some ⟨X, 0 + 3, none⟩))).put (some 20) (.slice ka n kc)).put (some 21) (.slice (some ⟨G, 0, none⟩) (n + 4) (n + 4))).put (some 22) (.pointer (some ⟨X, 0 + 3, none⟩))).put (some 23) (.slice ka n kc)).put (some 24) (.int .i64 (n : Int))).put (some 25) (.slice (some ⟨G, 0, none⟩) n (n + 4))).put (some 26) (.pointer (some ⟨X, 0 + 3, none⟩))) W) : (Code.region id ops true).wp Tryz.prog Q a0 w := by
  let val : Nat → Value := fun i => match i with
    | 0 => (.pointer (some ⟨X, 0 + 3, none⟩))
    | 1 => (.slice ka n kc)
    | 2 => (.slice (some ⟨G, 0, none⟩) (n + 4) (n + 4))
    | 3 => (.pointer (some ⟨X, 0 + 3, none⟩))
    | 4 => (.slice ka n kc)
    | 5 => (.int .i64 (n : Int))
    | 6 => (.slice (some ⟨G, 0, none⟩) n (n + 4))
    | 7 => (.pointer (some ⟨X, 0 + 3, none⟩))
    | 8 => undef
    | _ => undef
  have hosz : ops.size = 9 := by
    have := congrArg List.length htab
    simpa [rliT] using this
  have hds : ∀ i s, (rliT[i]?).bind (·.2.1) = some s → dstOf ops i = some s := fun i s hi => by rw [tab_dst htab, hi]
  have hdisB : disL rliT = true := by rfl
  have hdis := disL_of htab hdisB
  have hold : ∀ s, rliT.all (fun x => !(x.2.1 == some s)) = true → (List.range ops.size).all (fun j => !(dstOf ops j == some s)) = true := fun s h => holdL htab s h
  refine region_detL val Wd (hac_of hac) hdis h0 ?_ ?_
  rotate_left
  · intro L W hall hW
    have := hend L W (by rw [← hosz]; exact hall) hW
    have e : frm ops a0 val (fun _ => true) ops.size = ((((((((a0.put (some 19) (.pointer (some ⟨X, 0 + 3, none⟩))).put (some 20) (.slice ka n kc)).put (some 21) (.slice (some ⟨G, 0, none⟩) (n + 4) (n + 4))).put (some 22) (.pointer (some ⟨X, 0 + 3, none⟩))).put (some 23) (.slice ka n kc)).put (some 24) (.int .i64 (n : Int))).put (some 25) (.slice (some ⟨G, 0, none⟩) n (n + 4))).put (some 26) (.pointer (some ⟨X, 0 + 3, none⟩))) := by
      rw [hosz]
      simp only [frm, if_true]
      rw [tab_dst htab 0, tab_dst htab 1, tab_dst htab 2, tab_dst htab 3, tab_dst htab 4, tab_dst htab 5, tab_dst htab 6, tab_dst htab 7, (show dstOf ops 8 = none from (tab_dst htab 8).trans rfl), put_none]
      rfl
    rw [e]
    exact this
  intro i o ho L a w' hL hd ha hW
  have hi : i < 9 := by rw [← hosz]; exact (Array.getElem?_eq_some_iff.1 ho).1
  match i, ho, hL, hi with
  | 0, ho, hL, _ =>
    obtain ⟨hop, hdst, hgd⟩ := tab_at htab ho (show rliT[0]? = _ from rfl)
    simp only at hop hgd
    have h0 := frm_old ha 1 _ (hold 1 rfl) o1
    exact doesL_run ho (wanted_none hgd) (hpure 0 (by decide) L w' hW) (run_f25_3 _ _ _ hop _ _ (eval_of h0) _)
  | 1, ho, hL, _ =>
    obtain ⟨hop, hdst, hgd⟩ := tab_at htab ho (show rliT[1]? = _ from rfl)
    simp only at hop hgd
    have h0 := frm_at hdis ha 0 19 (hds 0 19 rfl) (by omega) (depl_of hdep 1 0 (by decide) ho hd)
    exact doesL_run ho (wanted_none hgd) (hpure 1 (by decide) L w' hW) (run_ld23 _ _ _ hop _ _ (eval_of h0) _ (l1 L w' hW hL))
  | 2, ho, hL, _ =>
    obtain ⟨hop, hdst, hgd⟩ := tab_at htab ho (show rliT[2]? = _ from rfl)
    simp only at hop hgd
    have h0 := frm_at hdis ha 1 20 (hds 1 20 rfl) (by omega) (depl_of hdep 2 1 (by decide) ho hd)
    refine doesL_call ho (wanted_none hgd) 19 #[.slice ka n kc] ?_ (c2 L w' hW hL)
    rw [run_calls Tryz.func19 (by kernel_rfl) rfl _ _ _ _ hop rfl]
    simp only [List.map_toArray, List.map_cons, List.map_nil, eval_of h0]
    all_goals rfl
  | 3, ho, hL, _ =>
    obtain ⟨hop, hdst, hgd⟩ := tab_at htab ho (show rliT[3]? = _ from rfl)
    simp only at hop hgd
    have h0 := frm_old ha 1 _ (hold 1 rfl) o1
    exact doesL_run ho (wanted_none hgd) (hpure 3 (by decide) L w' hW) (run_f25_3 _ _ _ hop _ _ (eval_of h0) _)
  | 4, ho, hL, _ =>
    obtain ⟨hop, hdst, hgd⟩ := tab_at htab ho (show rliT[4]? = _ from rfl)
    simp only at hop hgd
    have h0 := frm_at hdis ha 3 22 (hds 3 22 rfl) (by omega) (depl_of hdep 4 3 (by decide) ho hd)
    exact doesL_run ho (wanted_none hgd) (hpure 4 (by decide) L w' hW) (run_ld23 _ _ _ hop _ _ (eval_of h0) _ (l4 L w' hW hL))
  | 5, ho, hL, _ =>
    obtain ⟨hop, hdst, hgd⟩ := tab_at htab ho (show rliT[5]? = _ from rfl)
    simp only at hop hgd
    have h0 := frm_at hdis ha 4 23 (hds 4 23 rfl) (by omega) (depl_of hdep 5 4 (by decide) ho hd)
    exact doesL_run ho (wanted_none hgd) (hpure 5 (by decide) L w' hW) (run_len23 _ _ _ hop _ _ _ (eval_of h0) _)
  | 6, ho, hL, _ =>
    obtain ⟨hop, hdst, hgd⟩ := tab_at htab ho (show rliT[6]? = _ from rfl)
    simp only at hop hgd
    have h0 := frm_at hdis ha 2 21 (hds 2 21 rfl) (by omega) (depl_of hdep 6 2 (by decide) ho hd)
    have h1 := frm_at hdis ha 5 24 (hds 5 24 rfl) (by omega) (depl_of hdep 6 5 (by decide) ho hd)
    exact doesL_run ho (wanted_none hgd) (hpure 6 (by decide) L w' hW) (run_cut23 _ _ _ _ hop _ _ _ _ s6 (eval_of h0) (eval_of h1) _)
  | 7, ho, hL, _ =>
    obtain ⟨hop, hdst, hgd⟩ := tab_at htab ho (show rliT[7]? = _ from rfl)
    simp only at hop hgd
    have h0 := frm_old ha 1 _ (hold 1 rfl) o1
    exact doesL_run ho (wanted_none hgd) (hpure 7 (by decide) L w' hW) (run_f25_3 _ _ _ hop _ _ (eval_of h0) _)
  | 8, ho, hL, _ =>
    obtain ⟨hop, hdst, hgd⟩ := tab_at htab ho (show rliT[8]? = _ from rfl)
    simp only at hop hgd
    have h0 := frm_at hdis ha 7 26 (hds 7 26 rfl) (by omega) (depl_of hdep 8 7 (by decide) ho hd)
    have h1 := frm_at hdis ha 6 25 (hds 6 25 rfl) (by omega) (depl_of hdep 8 6 (by decide) ho hd)
    obtain ⟨s1, s2, s3, s4⟩ := n8 L w' hW hL (depl_of hdep 8 6 (by decide) ho hd) (depl_of hdep 8 7 (by decide) ho hd) (depl_of hdep 8 1 (by decide) ho hd) (depl_of hdep 8 4 (by decide) ho hd) (depl_of hdep 8 2 (by decide) ho hd)
    exact doesL_skp ho (wanted_none hgd) rfl s1 (run_st23 _ _ _ _ hop _ _ (eval_of h0) (eval_of h1) _ s2 s3 s4)
  | (i + 9), ho, hL, hi => exact absurd hi (by omega)
end Go.Proofs.YtllialbdofklgaaGreatDoor
