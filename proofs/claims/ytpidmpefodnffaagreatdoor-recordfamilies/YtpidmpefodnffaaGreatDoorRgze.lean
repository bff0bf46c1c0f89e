import Derived.Test.YtpidmpefodnffaaGreatDoorZrb
namespace Go.Proofs.YtpidmpefodnffaaGreatDoor
open Go.RowKit Go.Lib
set_option maxHeartbeats 4000000
set_option maxRecDepth 8000
def vrzb4 (_Y g o ii : Nat) (A1 A2 : Array Value) (_c : Unit) (i : Nat) : Value := match i with
  | 0 => (.agg A1)
  | 1 => (.slice (some ⟨g, 0, none⟩) 3 3)
  | 2 => (I (ii : Int))
  | 3 => (.pointer (some ⟨g, o, none⟩))
  | 4 => (.agg A2)
  | 5 => (.bool true)
  | 6 => (.bool true)
  | _ => undef
def rzb4T : List (Op × Option Tmp × Option (Nat × Bool)) := [
  (.load 40 (.tmp 26), some 203, none),
  (.move (.tmp 8), some 204, none),
  (.move (.tmp 9), some 205, none),
  (.indexAddr 41 (.tmp 204) (.tmp 205), some 206, none),
  (.load 40 (.tmp 206), some 207, none),
  (.call { callee := .value (.func 27), args := #[(.tmp 203), (.tmp 207)], argTypes := #[40, 40] }, some 208, none),
  (.assign (.tmp 208), some 31, none)]
def rzb4D : List (Nat × Nat) := [(3, 1), (3, 2), (4, 3), (5, 0), (5, 4), (6, 5)]
set_option maxHeartbeats 4000000 in
theorem rzb4 {ops : Array Oper} {id : Nat} {Q : Exit → Act → World → Prop} (Y g o ii : Nat) (A1 A2 : Array Value) (htab : ops.toList.map (fun o => (o.op, o.dst, o.guard)) = rzb4T) (hdep : deplB rzb4D ops = true) (hac : acB ops = true)
    (a0 : Act) (w : World) (hsz : 209 ≤ a0.tmps.size) (o8 : a0.tmps[8]? = some (.slice (some ⟨g, 0, none⟩) 3 3)) (o9 : a0.tmps[9]? = some (I (ii : Int))) (o26 : a0.tmps[26]? = some (.pointer (some ⟨Y, 0, none⟩)))
    (Wd : Unit → (Nat → Bool) → World → Prop) (h0 : ∃ c, Wd c (fun _ => false) w.drew) (hpure : ∀ i, i ∉ ([5] : List Nat) → ∀ c L W, Wd c L W → Wd c (upd L i) W)
    (r0 : ∀ c L W, Wd c L W → L 0 = false → (Instr.loadAt 40 (.pointer (some ⟨Y, 0, none⟩))).run Tryz.prog W = .ok (.agg A1) W)
    (r3 : ∀ W, (Instr.indexAt 41 (.slice (some ⟨g, 0, none⟩) 3 3) (I (ii : Int))).run Tryz.prog W = .ok (.pointer (some ⟨g, o, none⟩)) W)
    (r4 : ∀ c L W, Wd c L W → L 4 = false → L 3 = true → (Instr.loadAt 40 (.pointer (some ⟨g, o, none⟩))).run Tryz.prog W = .ok (.agg A2) W)
    (r5 : ∀ c L W, Wd c L W → L 5 = false → L 0 = true → L 4 = true → Calls Tryz.prog 27 #[(.agg A1), (.agg A2)] W fun eg w' => ∃ c', (∀ j, L j = true → vrzb4 Y g o ii A1 A2 c' j = vrzb4 Y g o ii A1 A2 c j) ∧ eg = .returned (vrzb4 Y g o ii A1 A2 c' 5) ∧ Wd c' (upd L 5) w')
    (hend : ∀ c L W, (∀ i, i < 7 → L i = true) → Wd c L W → Q .normal (((((((a0.put (some 203) (.agg A1)).put (some 204) (.slice (some ⟨g, 0, none⟩) 3 3)).put (some 205) (I (ii : Int))).put (some 206) (.pointer (some ⟨g, o, none⟩))).put (some 207) (.agg A2)).put (some 208) (.bool true)).put (some 31) (.bool true)) W) : (Code.region id ops true).wp Tryz.prog Q a0 w := by
  let val : Unit → Nat → Value := vrzb4 Y g o ii A1 A2
  have hosz : ops.size = 7 := by
    have := congrArg List.length htab
    simpa [rzb4T] using this
  have hds : ∀ i s, (rzb4T[i]?).bind (·.2.1) = some s → dstOf ops i = some s := fun i s hi => by rw [tab_dst htab, hi]
  have hdisB : disL rzb4T = true := by rfl
  have hdis := disL_of htab hdisB
  have hold : ∀ s, rzb4T.all (fun x => !(x.2.1 == some s)) = true → (List.range ops.size).all (fun j => !(dstOf ops j == some s)) = true := fun s h => holdL htab s h
  refine region_detX val Wd (hac_of hac) hdis h0 ?_ ?_
  rotate_left
  · intro c L W hall hW
    have := hend c L W (by rw [← hosz]; exact hall) hW
    have e : frm ops a0 (val c) (fun _ => true) ops.size = (((((((a0.put (some 203) (.agg A1)).put (some 204) (.slice (some ⟨g, 0, none⟩) 3 3)).put (some 205) (I (ii : Int))).put (some 206) (.pointer (some ⟨g, o, none⟩))).put (some 207) (.agg A2)).put (some 208) (.bool true)).put (some 31) (.bool true)) := by
      rw [hosz]
      simp only [frm, if_true]
      rw [tab_dst htab 0, tab_dst htab 1, tab_dst htab 2, tab_dst htab 3, tab_dst htab 4, tab_dst htab 5, tab_dst htab 6]
      rfl
    rw [e]
    exact this
  intro i o ho c L a w' hL hd ha hW
  have hi : i < 7 := by rw [← hosz]; exact (Array.getElem?_eq_some_iff.1 ho).1
  have G : ∀ j s : Nat, (rzb4T[j]?).bind (·.2.1) = some s → s < 209 → (i, j) ∈ rzb4D → a.tmps[s]? = some (val c j) := fun j s h1 h2 h3 => frm_at hdis ha j s (hds j s h1) (by omega) (depl_of hdep i j h3 ho hd)
  match i, ho, hL, hi, G with
  | 0, ho, hL, _, G =>
    obtain ⟨hop, hgd⟩ := tab3 htab ho rfl
    have h0 := frm_old ha 26 _ (hold 26 rfl) o26
    exact (dXr ho hgd (hpure 0 (by decide) c L w' hW) (g_load hop (eval_of h0) (r0 c L w' hW hL)))
  | 1, ho, hL, _, G =>
    obtain ⟨hop, hgd⟩ := tab3 htab ho rfl
    have h0 := frm_old ha 8 _ (hold 8 rfl) o8
    exact (dXr ho hgd (hpure 1 (by decide) c L w' hW) (g_mov hop (eval_of h0)))
  | 2, ho, hL, _, G =>
    obtain ⟨hop, hgd⟩ := tab3 htab ho rfl
    have h0 := frm_old ha 9 _ (hold 9 rfl) o9
    exact (dXr ho hgd (hpure 2 (by decide) c L w' hW) (g_mov hop (eval_of h0)))
  | 3, ho, hL, _, G =>
    obtain ⟨hop, hgd⟩ := tab3 htab ho rfl
    have h0 := G 1 204 rfl (by decide) (by decide)
    have h1 := G 2 205 rfl (by decide) (by decide)
    exact (dXr ho hgd (hpure 3 (by decide) c L w' hW) (g_ixa hop (eval_of h0) (eval_of h1) (r3 w')))
  | 4, ho, hL, _, G =>
    obtain ⟨hop, hgd⟩ := tab3 htab ho rfl
    have h0 := G 3 206 rfl (by decide) (by decide)
    exact (dXr ho hgd (hpure 4 (by decide) c L w' hW) (g_load hop (eval_of h0) (r4 c L w' hW hL (depl_of hdep 4 3 (by decide) ho hd))))
  | 5, ho, hL, _, G =>
    obtain ⟨hop, hgd⟩ := tab3 htab ho rfl
    have h0 := G 0 203 rfl (by decide) (by decide)
    have h1 := G 4 207 rfl (by decide) (by decide)
    refine doesX_call ho (wanted_none hgd) 27 #[(.agg A1), (.agg A2)] ?_ (r5 c L w' hW hL (depl_of hdep 5 0 (by decide) ho hd) (depl_of hdep 5 4 (by decide) ho hd))
    rw [run_calls Tryz.func27 (by kernel_rfl) rfl _ _ _ _ hop rfl]
    simp only [List.map_toArray, List.map_cons, List.map_nil, eval_of h0, eval_of h1]
    all_goals rfl
  | 6, ho, hL, _, G =>
    obtain ⟨hop, hgd⟩ := tab3 htab ho rfl
    have h0 := G 5 208 rfl (by decide) (by decide)
    exact (dXr ho hgd (hpure 6 (by decide) c L w' hW) (by rw [run_assign _ _ _ hop]; exact congrArg (fun v => Result.ok (Next.value v) w') (eval_of h0)))
  | (i + 7), ho, hL, hi, _ => exact absurd hi (by omega)
def vrzk21 (p9 m9 o9 : Nat) (ii : Int) (k9 v9 : Bs) (_c : Unit) (i : Nat) : Value := match i with
  | 0 => (.slice (some ⟨p9, 0, none⟩) 2 2)
  | 1 => (I ii)
  | 2 => (.pointer (some ⟨p9, o9, none⟩))
  | 3 => (.agg #[S k9, S v9])
  | 4 => (.slice (some ⟨m9, 0, none⟩) 2 2)
  | 5 => (I ii)
  | 6 => (.pointer (some ⟨m9, o9, none⟩))
  | 7 => (.agg #[S k9, S v9])
  | 8 => (.bool false)
  | _ => undef
def rzk21T : List (Op × Option Tmp × Option (Nat × Bool)) := [
  (.move (.tmp 16), some 124, none),
  (.move (.tmp 22), some 125, none),
  (.indexAddr 43 (.tmp 124) (.tmp 125), some 126, none),
  (.load 30 (.tmp 126), some 127, none),
  (.move (.tmp 18), some 128, none),
  (.move (.tmp 22), some 129, none),
  (.indexAddr 43 (.tmp 128) (.tmp 129), some 130, none),
  (.load 30 (.tmp 130), some 131, none),
  (.binOp .neq 30 (.tmp 127) (.tmp 131) 30, some 132, none)]
def rzk21D : List (Nat × Nat) := [(2, 0), (2, 1), (3, 2), (6, 4), (6, 5), (7, 6), (8, 3), (8, 7)]
set_option maxHeartbeats 4000000 in
theorem rzk21 {ops : Array Oper} {id : Nat} {Q : Exit → Act → World → Prop} (p9 m9 o9 : Nat) (ii : Int) (k9 v9 : Bs) (htab : ops.toList.map (fun o => (o.op, o.dst, o.guard)) = rzk21T) (hdep : deplB rzk21D ops = true) (hac : acB ops = true)
    (a0 : Act) (w : World) (hsz : 133 ≤ a0.tmps.size) (o16 : a0.tmps[16]? = some (.slice (some ⟨p9, 0, none⟩) 2 2)) (o18 : a0.tmps[18]? = some (.slice (some ⟨m9, 0, none⟩) 2 2)) (o22 : a0.tmps[22]? = some (I ii))
    (Wd : Unit → (Nat → Bool) → World → Prop) (h0 : ∃ c, Wd c (fun _ => false) w.drew) (hpure : ∀ i, i ∉ ([] : List Nat) → ∀ c L W, Wd c L W → Wd c (upd L i) W)
    (r2 : ∀ W, (Instr.indexAt 43 (.slice (some ⟨p9, 0, none⟩) 2 2) (I ii)).run Tryz.prog W = .ok (.pointer (some ⟨p9, o9, none⟩)) W)
    (r3 : ∀ c L W, Wd c L W → L 3 = false → L 2 = true → (Instr.loadAt 30 (.pointer (some ⟨p9, o9, none⟩))).run Tryz.prog W = .ok (.agg #[S k9, S v9]) W)
    (r6 : ∀ W, (Instr.indexAt 43 (.slice (some ⟨m9, 0, none⟩) 2 2) (I ii)).run Tryz.prog W = .ok (.pointer (some ⟨m9, o9, none⟩)) W)
    (r7 : ∀ c L W, Wd c L W → L 7 = false → L 6 = true → (Instr.loadAt 30 (.pointer (some ⟨m9, o9, none⟩))).run Tryz.prog W = .ok (.agg #[S k9, S v9]) W)
    (r8 : ∀ W, (do eqGuard .neq 30 (.tmp 127) (.tmp 131) (.agg #[S k9, S v9]) (.agg #[S k9, S v9]); binOp .neq 30 (.agg #[S k9, S v9]) (.agg #[S k9, S v9])).run Tryz.prog W = .ok (.bool false) W)
    (hend : ∀ c L W, (∀ i, i < 9 → L i = true) → Wd c L W → Q .normal (((((((((a0.put (some 124) (.slice (some ⟨p9, 0, none⟩) 2 2)).put (some 125) (I ii)).put (some 126) (.pointer (some ⟨p9, o9, none⟩))).put (some 127) (.agg #[S k9, S v9])).put (some 128) (.slice (some ⟨m9, 0, none⟩) 2 2)).put (some 129) (I ii)).put (some 130) (.pointer (some ⟨m9, o9, none⟩))).put (some 131) (.agg #[S k9, S v9])).put (some 132) (.bool false)) W) : (Code.region id ops true).wp Tryz.prog Q a0 w := by
  let val : Unit → Nat → Value := vrzk21 p9 m9 o9 ii k9 v9
  have hosz : ops.size = 9 := by
    have := congrArg List.length htab
    simpa [rzk21T] using this
  have hds : ∀ i s, (rzk21T[i]?).bind (·.2.1) = some s → dstOf ops i = some s := fun i s hi => by rw [tab_dst htab, hi]
  have hdisB : disL rzk21T = true := by rfl
  have hdis := disL_of htab hdisB
  have hold : ∀ s, rzk21T.all (fun x => !(x.2.1 == some s)) = true → (List.range ops.size).all (fun j => !(dstOf ops j == some s)) = true := fun s h => holdL htab s h
  refine region_detX val Wd (hac_of hac) hdis h0 ?_ ?_
  rotate_left
  · intro c L W hall hW
    have := hend c L W (by rw [← hosz]; exact hall) hW
    have e : frm ops a0 (val c) (fun _ => true) ops.size = (((((((((a0.put (some 124) (.slice (some ⟨p9, 0, none⟩) 2 2)).put (some 125) (I ii)).put (some 126) (.pointer (some ⟨p9, o9, none⟩))).put (some 127) (.agg #[S k9, S v9])).put (some 128) (.slice (some ⟨m9, 0, none⟩) 2 2)).put (some 129) (I ii)).put (some 130) (.pointer (some ⟨m9, o9, none⟩))).put (some 131) (.agg #[S k9, S v9])).put (some 132) (.bool false)) := by
      rw [hosz]
      simp only [frm, if_true]
      rw [tab_dst htab 0, tab_dst htab 1, tab_dst htab 2, tab_dst htab 3, tab_dst htab 4, tab_dst htab 5, tab_dst htab 6, tab_dst htab 7, tab_dst htab 8]
      rfl
    rw [e]
    exact this
  intro i o ho c L a w' hL hd ha hW
  have hi : i < 9 := by rw [← hosz]; exact (Array.getElem?_eq_some_iff.1 ho).1
  have G : ∀ j s : Nat, (rzk21T[j]?).bind (·.2.1) = some s → s < 133 → (i, j) ∈ rzk21D → a.tmps[s]? = some (val c j) := fun j s h1 h2 h3 => frm_at hdis ha j s (hds j s h1) (by omega) (depl_of hdep i j h3 ho hd)
  match i, ho, hL, hi, G with
  | 0, ho, hL, _, G =>
    obtain ⟨hop, hgd⟩ := tab3 htab ho rfl
    have h0 := frm_old ha 16 _ (hold 16 rfl) o16
    exact (dXr ho hgd (hpure 0 (by decide) c L w' hW) (g_mov hop (eval_of h0)))
  | 1, ho, hL, _, G =>
    obtain ⟨hop, hgd⟩ := tab3 htab ho rfl
    have h0 := frm_old ha 22 _ (hold 22 rfl) o22
    exact (dXr ho hgd (hpure 1 (by decide) c L w' hW) (g_mov hop (eval_of h0)))
  | 2, ho, hL, _, G =>
    obtain ⟨hop, hgd⟩ := tab3 htab ho rfl
    have h0 := G 0 124 rfl (by decide) (by decide)
    have h1 := G 1 125 rfl (by decide) (by decide)
    exact (dXr ho hgd (hpure 2 (by decide) c L w' hW) (g_ixa hop (eval_of h0) (eval_of h1) (r2 w')))
  | 3, ho, hL, _, G =>
    obtain ⟨hop, hgd⟩ := tab3 htab ho rfl
    have h0 := G 2 126 rfl (by decide) (by decide)
    exact (dXr ho hgd (hpure 3 (by decide) c L w' hW) (g_load hop (eval_of h0) (r3 c L w' hW hL (depl_of hdep 3 2 (by decide) ho hd))))
  | 4, ho, hL, _, G =>
    obtain ⟨hop, hgd⟩ := tab3 htab ho rfl
    have h0 := frm_old ha 18 _ (hold 18 rfl) o18
    exact (dXr ho hgd (hpure 4 (by decide) c L w' hW) (g_mov hop (eval_of h0)))
  | 5, ho, hL, _, G =>
    obtain ⟨hop, hgd⟩ := tab3 htab ho rfl
    have h0 := frm_old ha 22 _ (hold 22 rfl) o22
    exact (dXr ho hgd (hpure 5 (by decide) c L w' hW) (g_mov hop (eval_of h0)))
  | 6, ho, hL, _, G =>
    obtain ⟨hop, hgd⟩ := tab3 htab ho rfl
    have h0 := G 4 128 rfl (by decide) (by decide)
    have h1 := G 5 129 rfl (by decide) (by decide)
    exact (dXr ho hgd (hpure 6 (by decide) c L w' hW) (g_ixa hop (eval_of h0) (eval_of h1) (r6 w')))
  | 7, ho, hL, _, G =>
    obtain ⟨hop, hgd⟩ := tab3 htab ho rfl
    have h0 := G 6 130 rfl (by decide) (by decide)
    exact (dXr ho hgd (hpure 7 (by decide) c L w' hW) (g_load hop (eval_of h0) (r7 c L w' hW hL (depl_of hdep 7 6 (by decide) ho hd))))
  | 8, ho, hL, _, G =>
    obtain ⟨hop, hgd⟩ := tab3 htab ho rfl
    have h0 := G 3 127 rfl (by decide) (by decide)
    have h1 := G 7 131 rfl (by decide) (by decide)
    exact (dXr ho hgd (hpure 8 (by decide) c L w' hW) (g_bin hop (eval_of h0) (eval_of h1) (r8 w')))
  | (i + 9), ho, hL, hi, _ => exact absurd hi (by omega)
def vrzk31 (p9 m9 o9 : Nat) (ii : Int) (k9 v9 : Bs) (_c : Unit) (i : Nat) : Value := match i with
  | 0 => (.slice (some ⟨p9, 0, none⟩) 2 2)
  | 1 => (I ii)
  | 2 => (.pointer (some ⟨p9, o9, none⟩))
  | 3 => (.agg #[S k9, S v9])
  | 4 => (.slice (some ⟨m9, 0, none⟩) 2 2)
  | 5 => (I ii)
  | 6 => (.pointer (some ⟨m9, o9, none⟩))
  | 7 => (.agg #[S k9, S v9])
  | 8 => (.bool false)
  | _ => undef
def rzk31T : List (Op × Option Tmp × Option (Nat × Bool)) := [
  (.move (.tmp 23), some 172, none),
  (.move (.tmp 25), some 173, none),
  (.indexAddr 43 (.tmp 172) (.tmp 173), some 174, none),
  (.load 30 (.tmp 174), some 175, none),
  (.move (.tmp 18), some 176, none),
  (.move (.tmp 25), some 177, none),
  (.indexAddr 43 (.tmp 176) (.tmp 177), some 178, none),
  (.load 30 (.tmp 178), some 179, none),
  (.binOp .neq 30 (.tmp 175) (.tmp 179) 30, some 180, none)]
def rzk31D : List (Nat × Nat) := [(2, 0), (2, 1), (3, 2), (6, 4), (6, 5), (7, 6), (8, 3), (8, 7)]
set_option maxHeartbeats 4000000 in
theorem rzk31 {ops : Array Oper} {id : Nat} {Q : Exit → Act → World → Prop} (p9 m9 o9 : Nat) (ii : Int) (k9 v9 : Bs) (htab : ops.toList.map (fun o => (o.op, o.dst, o.guard)) = rzk31T) (hdep : deplB rzk31D ops = true) (hac : acB ops = true)
    (a0 : Act) (w : World) (hsz : 181 ≤ a0.tmps.size) (o18 : a0.tmps[18]? = some (.slice (some ⟨m9, 0, none⟩) 2 2)) (o23 : a0.tmps[23]? = some (.slice (some ⟨p9, 0, none⟩) 2 2)) (o25 : a0.tmps[25]? = some (I ii))
    (Wd : Unit → (Nat → Bool) → World → Prop) (h0 : ∃ c, Wd c (fun _ => false) w.drew) (hpure : ∀ i, i ∉ ([] : List Nat) → ∀ c L W, Wd c L W → Wd c (upd L i) W)
    (r2 : ∀ W, (Instr.indexAt 43 (.slice (some ⟨p9, 0, none⟩) 2 2) (I ii)).run Tryz.prog W = .ok (.pointer (some ⟨p9, o9, none⟩)) W)
    (r3 : ∀ c L W, Wd c L W → L 3 = false → L 2 = true → (Instr.loadAt 30 (.pointer (some ⟨p9, o9, none⟩))).run Tryz.prog W = .ok (.agg #[S k9, S v9]) W)
    (r6 : ∀ W, (Instr.indexAt 43 (.slice (some ⟨m9, 0, none⟩) 2 2) (I ii)).run Tryz.prog W = .ok (.pointer (some ⟨m9, o9, none⟩)) W)
    (r7 : ∀ c L W, Wd c L W → L 7 = false → L 6 = true → (Instr.loadAt 30 (.pointer (some ⟨m9, o9, none⟩))).run Tryz.prog W = .ok (.agg #[S k9, S v9]) W)
    (r8 : ∀ W, (do eqGuard .neq 30 (.tmp 175) (.tmp 179) (.agg #[S k9, S v9]) (.agg #[S k9, S v9]); binOp .neq 30 (.agg #[S k9, S v9]) (.agg #[S k9, S v9])).run Tryz.prog W = .ok (.bool false) W)
    (hend : ∀ c L W, (∀ i, i < 9 → L i = true) → Wd c L W → Q .normal (((((((((a0.put (some 172) (.slice (some ⟨p9, 0, none⟩) 2 2)).put (some 173) (I ii)).put (some 174) (.pointer (some ⟨p9, o9, none⟩))).put (some 175) (.agg #[S k9, S v9])).put (some 176) (.slice (some ⟨m9, 0, none⟩) 2 2)).put (some 177) (I ii)).put (some 178) (.pointer (some ⟨m9, o9, none⟩))).put (some 179) (.agg #[S k9, S v9])).put (some 180) (.bool false)) W) : (Code.region id ops true).wp Tryz.prog Q a0 w := by
  let val : Unit → Nat → Value := vrzk31 p9 m9 o9 ii k9 v9
  have hosz : ops.size = 9 := by
    have := congrArg List.length htab
    simpa [rzk31T] using this
  have hds : ∀ i s, (rzk31T[i]?).bind (·.2.1) = some s → dstOf ops i = some s := fun i s hi => by rw [tab_dst htab, hi]
  have hdisB : disL rzk31T = true := by rfl
  have hdis := disL_of htab hdisB
  have hold : ∀ s, rzk31T.all (fun x => !(x.2.1 == some s)) = true → (List.range ops.size).all (fun j => !(dstOf ops j == some s)) = true := fun s h => holdL htab s h
  refine region_detX val Wd (hac_of hac) hdis h0 ?_ ?_
  rotate_left
  · intro c L W hall hW
    have := hend c L W (by rw [← hosz]; exact hall) hW
    have e : frm ops a0 (val c) (fun _ => true) ops.size = (((((((((a0.put (some 172) (.slice (some ⟨p9, 0, none⟩) 2 2)).put (some 173) (I ii)).put (some 174) (.pointer (some ⟨p9, o9, none⟩))).put (some 175) (.agg #[S k9, S v9])).put (some 176) (.slice (some ⟨m9, 0, none⟩) 2 2)).put (some 177) (I ii)).put (some 178) (.pointer (some ⟨m9, o9, none⟩))).put (some 179) (.agg #[S k9, S v9])).put (some 180) (.bool false)) := by
      rw [hosz]
      simp only [frm, if_true]
      rw [tab_dst htab 0, tab_dst htab 1, tab_dst htab 2, tab_dst htab 3, tab_dst htab 4, tab_dst htab 5, tab_dst htab 6, tab_dst htab 7, tab_dst htab 8]
      rfl
    rw [e]
    exact this
  intro i o ho c L a w' hL hd ha hW
  have hi : i < 9 := by rw [← hosz]; exact (Array.getElem?_eq_some_iff.1 ho).1
  have G : ∀ j s : Nat, (rzk31T[j]?).bind (·.2.1) = some s → s < 181 → (i, j) ∈ rzk31D → a.tmps[s]? = some (val c j) := fun j s h1 h2 h3 => frm_at hdis ha j s (hds j s h1) (by omega) (depl_of hdep i j h3 ho hd)
  match i, ho, hL, hi, G with
  | 0, ho, hL, _, G =>
    obtain ⟨hop, hgd⟩ := tab3 htab ho rfl
    have h0 := frm_old ha 23 _ (hold 23 rfl) o23
    exact (dXr ho hgd (hpure 0 (by decide) c L w' hW) (g_mov hop (eval_of h0)))
  | 1, ho, hL, _, G =>
    obtain ⟨hop, hgd⟩ := tab3 htab ho rfl
    have h0 := frm_old ha 25 _ (hold 25 rfl) o25
    exact (dXr ho hgd (hpure 1 (by decide) c L w' hW) (g_mov hop (eval_of h0)))
  | 2, ho, hL, _, G =>
    obtain ⟨hop, hgd⟩ := tab3 htab ho rfl
    have h0 := G 0 172 rfl (by decide) (by decide)
    have h1 := G 1 173 rfl (by decide) (by decide)
    exact (dXr ho hgd (hpure 2 (by decide) c L w' hW) (g_ixa hop (eval_of h0) (eval_of h1) (r2 w')))
  | 3, ho, hL, _, G =>
    obtain ⟨hop, hgd⟩ := tab3 htab ho rfl
    have h0 := G 2 174 rfl (by decide) (by decide)
    exact (dXr ho hgd (hpure 3 (by decide) c L w' hW) (g_load hop (eval_of h0) (r3 c L w' hW hL (depl_of hdep 3 2 (by decide) ho hd))))
  | 4, ho, hL, _, G =>
    obtain ⟨hop, hgd⟩ := tab3 htab ho rfl
    have h0 := frm_old ha 18 _ (hold 18 rfl) o18
    exact (dXr ho hgd (hpure 4 (by decide) c L w' hW) (g_mov hop (eval_of h0)))
  | 5, ho, hL, _, G =>
    obtain ⟨hop, hgd⟩ := tab3 htab ho rfl
    have h0 := frm_old ha 25 _ (hold 25 rfl) o25
    exact (dXr ho hgd (hpure 5 (by decide) c L w' hW) (g_mov hop (eval_of h0)))
  | 6, ho, hL, _, G =>
    obtain ⟨hop, hgd⟩ := tab3 htab ho rfl
    have h0 := G 4 176 rfl (by decide) (by decide)
    have h1 := G 5 177 rfl (by decide) (by decide)
    exact (dXr ho hgd (hpure 6 (by decide) c L w' hW) (g_ixa hop (eval_of h0) (eval_of h1) (r6 w')))
  | 7, ho, hL, _, G =>
    obtain ⟨hop, hgd⟩ := tab3 htab ho rfl
    have h0 := G 6 178 rfl (by decide) (by decide)
    exact (dXr ho hgd (hpure 7 (by decide) c L w' hW) (g_load hop (eval_of h0) (r7 c L w' hW hL (depl_of hdep 7 6 (by decide) ho hd))))
  | 8, ho, hL, _, G =>
    obtain ⟨hop, hgd⟩ := tab3 htab ho rfl
    have h0 := G 3 175 rfl (by decide) (by decide)
    have h1 := G 7 179 rfl (by decide) (by decide)
    exact (dXr ho hgd (hpure 8 (by decide) c L w' hW) (g_bin hop (eval_of h0) (eval_of h1) (r8 w')))
  | (i + 9), ho, hL, hi, _ => exact absurd hi (by omega)
end Go.Proofs.YtpidmpefodnffaaGreatDoor
