import Derived.Test.YtpidmpefodnffaaGreatDoorZld
namespace Go.Proofs.YtpidmpefodnffaaGreatDoor
open Go.RowKit Go.Lib
set_option maxHeartbeats 4000000
set_option maxRecDepth 8000
def vrzb5 (_Y g o ii : Nat) (A1 A2 : Array Value) (_c : Unit) (i : Nat) : Value := match i with
  | 0 => (.agg A1)
  | 1 => (.slice (some ⟨g, 0, none⟩) 3 3)
  | 2 => (I (ii : Int))
  | 3 => (.pointer (some ⟨g, o, none⟩))
  | 4 => (.agg A2)
  | 5 => (.bool true)
  | 6 => (.bool true)
  | _ => undef
def rzb5T : List (Op × Option Tmp × Option (Nat × Bool)) := [
  (.load 51 (.tmp 17), some 95, none),
  (.move (.tmp 8), some 96, none),
  (.move (.tmp 9), some 97, none),
  (.indexAddr 52 (.tmp 96) (.tmp 97), some 98, none),
  (.load 51 (.tmp 98), some 99, none),
  (.call { callee := .value (.func 32), args := #[(.tmp 95), (.tmp 99)], argTypes := #[51, 51] }, some 100, none),
  (.assign (.tmp 100), some 22, none)]
def rzb5D : List (Nat × Nat) := [(3, 1), (3, 2), (4, 3), (5, 0), (5, 4), (6, 5)]
set_option maxHeartbeats 4000000 in
theorem rzb5 {ops : Array Oper} {id : Nat} {Q : Exit → Act → World → Prop} (Y g o ii : Nat) (A1 A2 : Array Value) (htab : ops.toList.map (fun o => (o.op, o.dst, o.guard)) = rzb5T) (hdep : deplB rzb5D ops = true) (hac : acB ops = true)
    (a0 : Act) (w : World) (hsz : 101 ≤ a0.tmps.size) (o8 : a0.tmps[8]? = some (.slice (some ⟨g, 0, none⟩) 3 3)) (o9 : a0.tmps[9]? = some (I (ii : Int))) (o17 : a0.tmps[17]? = some (.pointer (some ⟨Y, 0, none⟩)))
    (Wd : Unit → (Nat → Bool) → World → Prop) (h0 : ∃ c, Wd c (fun _ => false) w.drew) (hpure : ∀ i, i ∉ ([5] : List Nat) → ∀ c L W, Wd c L W → Wd c (upd L i) W)
    (r0 : ∀ c L W, Wd c L W → L 0 = false → (Instr.loadAt 51 (.pointer (some ⟨Y, 0, none⟩))).run Tryz.prog W = .ok (.agg A1) W)
    (r3 : ∀ W, (Instr.indexAt 52 (.slice (some ⟨g, 0, none⟩) 3 3) (I (ii : Int))).run Tryz.prog W = .ok (.pointer (some ⟨g, o, none⟩)) W)
    (r4 : ∀ c L W, Wd c L W → L 4 = false → L 3 = true → (Instr.loadAt 51 (.pointer (some ⟨g, o, none⟩))).run Tryz.prog W = .ok (.agg A2) W)
    (r5 : ∀ c L W, Wd c L W → L 5 = false → L 0 = true → L 4 = true → Calls Tryz.prog 32 #[(.agg A1), (.agg A2)] W fun eg w' => ∃ c', (∀ j, L j = true → vrzb5 Y g o ii A1 A2 c' j = vrzb5 Y g o ii A1 A2 c j) ∧ eg = .returned (vrzb5 Y g o ii A1 A2 c' 5) ∧ Wd c' (upd L 5) w')
    (hend : ∀ c L W, (∀ i, i < 7 → L i = true) → Wd c L W → Q .normal (((((((a0.put (some 95) (.agg A1)).put (some 96) (.slice (some ⟨g, 0, none⟩) 3 3)).put (some 97) (I (ii : Int))).put (some 98) (.pointer (some ⟨g, o, none⟩))).put (some 99) (.agg A2)).put (some 100) (.bool true)).put (some 22) (.bool true)) W) : (Code.region id ops true).wp Tryz.prog Q a0 w := by
  let val : Unit → Nat → Value := vrzb5 Y g o ii A1 A2
  have hosz : ops.size = 7 := by
    have := congrArg List.length htab
    simpa [rzb5T] using this
  have hds : ∀ i s, (rzb5T[i]?).bind (·.2.1) = some s → dstOf ops i = some s := fun i s hi => by rw [tab_dst htab, hi]
  have hdisB : disL rzb5T = true := by rfl
  have hdis := disL_of htab hdisB
  have hold : ∀ s, rzb5T.all (fun x => !(x.2.1 == some s)) = true → (List.range ops.size).all (fun j => !(dstOf ops j == some s)) = true := fun s h => holdL htab s h
  refine region_detX val Wd (hac_of hac) hdis h0 ?_ ?_
  rotate_left
  · intro c L W hall hW
    have := hend c L W (by rw [← hosz]; exact hall) hW
    have e : frm ops a0 (val c) (fun _ => true) ops.size = (((((((a0.put (some 95) (.agg A1)).put (some 96) (.slice (some ⟨g, 0, none⟩) 3 3)).put (some 97) (I (ii : Int))).put (some 98) (.pointer (some ⟨g, o, none⟩))).put (some 99) (.agg A2)).put (some 100) (.bool true)).put (some 22) (.bool true)) := by
      rw [hosz]
      simp only [frm, if_true]
      rw [tab_dst htab 0, tab_dst htab 1, tab_dst htab 2, tab_dst htab 3, tab_dst htab 4, tab_dst htab 5, tab_dst htab 6]
      rfl
    rw [e]
    exact this
  intro i o ho c L a w' hL hd ha hW
  have hi : i < 7 := by rw [← hosz]; exact (Array.getElem?_eq_some_iff.1 ho).1
  have G : ∀ j s : Nat, (rzb5T[j]?).bind (·.2.1) = some s → s < 101 → (i, j) ∈ rzb5D → a.tmps[s]? = some (val c j) := fun j s h1 h2 h3 => frm_at hdis ha j s (hds j s h1) (by omega) (depl_of hdep i j h3 ho hd)
  match i, ho, hL, hi, G with
  | 0, ho, hL, _, G =>
    obtain ⟨hop, hgd⟩ := tab3 htab ho rfl
    have h0 := frm_old ha 17 _ (hold 17 rfl) o17
    exact (dXr ho hgd (hpure 0 (by decide) c L w' hW) (g_load hop (eval_of h0) (r0 c L w' hW hL)))
  | 1, ho, hL, _, G =>
    obtain ⟨hop, hgd⟩ := tab3 htab ho rfl
    have h0 := frm_old ha 8 _ (hold 8 rfl) o8
    exact (dXr ho hgd (hpure 1 (by decide) c L w' hW) (g_mov hop (eval_of h0)))
  | 2, ho, hL, _, G =>
    obtain ⟨hop, hgd⟩ := tab3 htab ho rfl
    have h0 := frm_old ha 9 _ (hold 9 rfl) o9
    exact (dXr ho hgd (hpure 2 (by decide) c L w' hW) (g_mov hop (eval_of h0)))
  | 3, ho, hL, _, G =>
    obtain ⟨hop, hgd⟩ := tab3 htab ho rfl
    have h0 := G 1 96 rfl (by decide) (by decide)
    have h1 := G 2 97 rfl (by decide) (by decide)
    exact (dXr ho hgd (hpure 3 (by decide) c L w' hW) (g_ixa hop (eval_of h0) (eval_of h1) (r3 w')))
  | 4, ho, hL, _, G =>
    obtain ⟨hop, hgd⟩ := tab3 htab ho rfl
    have h0 := G 3 98 rfl (by decide) (by decide)
    exact (dXr ho hgd (hpure 4 (by decide) c L w' hW) (g_load hop (eval_of h0) (r4 c L w' hW hL (depl_of hdep 4 3 (by decide) ho hd))))
  | 5, ho, hL, _, G =>
    obtain ⟨hop, hgd⟩ := tab3 htab ho rfl
    have h0 := G 0 95 rfl (by decide) (by decide)
    have h1 := G 4 99 rfl (by decide) (by decide)
    refine doesX_call ho (wanted_none hgd) 32 #[(.agg A1), (.agg A2)] ?_ (r5 c L w' hW hL (depl_of hdep 5 0 (by decide) ho hd) (depl_of hdep 5 4 (by decide) ho hd))
    rw [run_calls Tryz.func32 (by kernel_rfl) rfl _ _ _ _ hop rfl]
    simp only [List.map_toArray, List.map_cons, List.map_nil, eval_of h0, eval_of h1]
    all_goals rfl
  | 6, ho, hL, _, G =>
    obtain ⟨hop, hgd⟩ := tab3 htab ho rfl
    have h0 := G 5 100 rfl (by decide) (by decide)
    exact (dXr ho hgd (hpure 6 (by decide) c L w' hW) (by rw [run_assign _ _ _ hop]; exact congrArg (fun v => Result.ok (Next.value v) w') (eval_of h0)))
  | (i + 7), ho, hL, hi, _ => exact absurd hi (by omega)
end Go.Proofs.YtpidmpefodnffaaGreatDoor
