import Derived.Test.YtmjaobddgaglhaaGreatDoorZdsa
import Derived.Test.YtmjaobddgaglhaaGreatDoorZfde
namespace Go.Proofs.YtmjaobddgaglhaaGreatDoor
open Go.RowKit
def vren3 (X : Nat) (cr us idl ab : Int) (c : Nat) (i : Nat) : Value := match i with
  | 0 => (.pointer (some ⟨X, 4, none⟩))
  | 1 => (I cr)
  | 2 => (.pointer (some ⟨X, 7, none⟩))
  | 3 => (I ab)
  | 4 => (I (nr ab))
  | 5 => (I (addv cr (nr ab)))
  | 6 => (.pointer (some ⟨X, 5, none⟩))
  | 7 => (I us)
  | 8 => (.pointer (some ⟨X, 6, none⟩))
  | 9 => (I idl)
  | 10 => (I (nr idl))
  | 11 => (I (addv us (nr idl)))
  | 12 => (.slice (some ⟨c, 0, none⟩) 2 2)
  | 13 => (I (firstv [addv cr (nr ab), addv us (nr idl)]))
  | 14 => (I (firstv [addv cr (nr ab), addv us (nr idl)]))
  | _ => undef
def ren3T : List (Op × Option Tmp × Option (Nat × Bool)) := [
  (.fieldAddr 24 (.tmp 1) 4, some 9, none),
  (.load 3 (.tmp 9), some 10, none),
  (.fieldAddr 24 (.tmp 1) 7, some 11, none),
  (.load 3 (.tmp 11), some 12, none),
  (.call { callee := .value (.func 63), args := #[(.tmp 12)], argTypes := #[3] }, some 13, none),
  (.call { callee := .value (.func 65), args := #[(.tmp 10), (.tmp 13)], argTypes := #[3, 3] }, some 14, none),
  (.fieldAddr 24 (.tmp 1) 5, some 15, none),
  (.load 3 (.tmp 15), some 16, none),
  (.fieldAddr 24 (.tmp 1) 6, some 17, none),
  (.load 3 (.tmp 17), some 18, none),
  (.call { callee := .value (.func 63), args := #[(.tmp 18)], argTypes := #[3] }, some 19, none),
  (.call { callee := .value (.func 65), args := #[(.tmp 16), (.tmp 19)], argTypes := #[3, 3] }, some 20, none),
  (.buildSlice 62 2 #[(0, (.tmp 14)), (1, (.tmp 20))], some 21, none),
  (.call { callee := .value (.func 64), args := #[(.tmp 21)], argTypes := #[62] }, some 22, none),
  (.assign (.tmp 22), some 2, none)]
def ren3D : List (Nat × Nat) := [(1, 0), (3, 2), (4, 3), (5, 1), (5, 4), (7, 6), (9, 8), (10, 9), (11, 7), (11, 10), (12, 5), (12, 11), (13, 12), (14, 13)]
set_option maxHeartbeats 4000000 in
theorem ren3 {ops : Array Oper} {id : Nat} {Q : Exit → Act → World → Prop} (X : Nat) (cr us idl ab : Int) (htab : ops.toList.map (fun o => (o.op, o.dst, o.guard)) = ren3T) (hdep : deplB ren3D ops = true) (hac : acB ops = true)
    (a0 : Act) (w : World) (hsz : 23 ≤ a0.tmps.size) (o1 : a0.tmps[1]? = some (.pointer (some ⟨X, 0, none⟩)))
    (Wd : Nat → (Nat → Bool) → World → Prop) (h0 : ∃ c, Wd c (fun _ => false) w.drew) (hpure : ∀ i, i ∉ ([4, 5, 10, 11, 12, 13] : List Nat) → ∀ c L W, Wd c L W → Wd c (upd L i) W)
    (r1 : ∀ c L W, Wd c L W → L 1 = false → L 0 = true → (Instr.loadAt 3 (.pointer (some ⟨X, 4, none⟩))).run Tryz.prog W = .ok (I cr) W)
    (r3 : ∀ c L W, Wd c L W → L 3 = false → L 2 = true → (Instr.loadAt 3 (.pointer (some ⟨X, 7, none⟩))).run Tryz.prog W = .ok (I ab) W)
    (r4 : ∀ c L W, Wd c L W → L 4 = false → L 3 = true → Calls Tryz.prog 63 #[(I ab)] W fun eg w' => ∃ c', (∀ j, L j = true → vren3 X cr us idl ab c' j = vren3 X cr us idl ab c j) ∧ eg = .returned (vren3 X cr us idl ab c' 4) ∧ Wd c' (upd L 4) w')
    (r5 : ∀ c L W, Wd c L W → L 5 = false → L 1 = true → L 4 = true → Calls Tryz.prog 65 #[(I cr), (I (nr ab))] W fun eg w' => ∃ c', (∀ j, L j = true → vren3 X cr us idl ab c' j = vren3 X cr us idl ab c j) ∧ eg = .returned (vren3 X cr us idl ab c' 5) ∧ Wd c' (upd L 5) w')
    (r7 : ∀ c L W, Wd c L W → L 7 = false → L 6 = true → (Instr.loadAt 3 (.pointer (some ⟨X, 5, none⟩))).run Tryz.prog W = .ok (I us) W)
    (r9 : ∀ c L W, Wd c L W → L 9 = false → L 8 = true → (Instr.loadAt 3 (.pointer (some ⟨X, 6, none⟩))).run Tryz.prog W = .ok (I idl) W)
    (r10 : ∀ c L W, Wd c L W → L 10 = false → L 9 = true → Calls Tryz.prog 63 #[(I idl)] W fun eg w' => ∃ c', (∀ j, L j = true → vren3 X cr us idl ab c' j = vren3 X cr us idl ab c j) ∧ eg = .returned (vren3 X cr us idl ab c' 10) ∧ Wd c' (upd L 10) w')
    (r11 : ∀ c L W, Wd c L W → L 11 = false → L 7 = true → L 10 = true → Calls Tryz.prog 65 #[(I us), (I (nr idl))] W fun eg w' => ∃ c', (∀ j, L j = true → vren3 X cr us idl ab c' j = vren3 X cr us idl ab c j) ∧ eg = .returned (vren3 X cr us idl ab c' 11) ∧ Wd c' (upd L 11) w')
    (r12 : ∀ c L W, Wd c L W → L 12 = false → L 5 = true → L 11 = true → ∃ c' W', (∀ j, L j = true → vren3 X cr us idl ab c' j = vren3 X cr us idl ab c j) ∧ (Instr.buildSlice 62 2 #[(0, (I (addv cr (nr ab)))), (1, (I (addv us (nr idl))))]).run Tryz.prog W = .ok (vren3 X cr us idl ab c' 12) W' ∧ Wd c' (upd L 12) W')
    (r13 : ∀ c L W, Wd c L W → L 13 = false → L 12 = true → Calls Tryz.prog 64 #[(.slice (some ⟨c, 0, none⟩) 2 2)] W fun eg w' => ∃ c', (∀ j, L j = true → vren3 X cr us idl ab c' j = vren3 X cr us idl ab c j) ∧ eg = .returned (vren3 X cr us idl ab c' 13) ∧ Wd c' (upd L 13) w')
    (hend : ∀ c L W, (∀ i, i < 15 → L i = true) → Wd c L W → Q .normal (((((((((((((((a0.put (some 9) (.pointer (some ⟨X, 4, none⟩))).put (some 10) (I cr)).put (some 11) (.pointer (some ⟨X, 7, none⟩))).put (some 12) (I ab)).put (some 13) (I (nr ab))).put (some 14) (I (addv cr (nr ab)))).put (some 15) (.pointer (some ⟨X, 5, none⟩))).put (some 16) (I us)).put (some 17) (.pointer (some ⟨X, 6, none⟩))).put (some 18) (I idl)).put (some 19) (I (nr idl))).put (some 20) (I (addv us (nr idl)))).put (some 21) (.slice (some ⟨c, 0, none⟩) 2 2)).put (some 22) (I (firstv [addv cr (nr ab), addv us (nr idl)]))).put (some 2) (I (firstv [addv cr (nr ab), addv us (nr idl)]))) W) : (Code.region id ops true).wp Tryz.prog Q a0 w := by
  let val : Nat → Nat → Value := vren3 X cr us idl ab
  have hosz : ops.size = 15 := by
    have := congrArg List.length htab
    simpa [ren3T] using this
  have hds : ∀ i s, (ren3T[i]?).bind (·.2.1) = some s → dstOf ops i = some s := fun i s hi => by rw [tab_dst htab, hi]
  have hdisB : disL ren3T = true := by rfl
  have hdis := disL_of htab hdisB
  have hold : ∀ s, ren3T.all (fun x => !(x.2.1 == some s)) = true → (List.range ops.size).all (fun j => !(dstOf ops j == some s)) = true := fun s h => holdL htab s h
  refine region_detX val Wd (hac_of hac) hdis h0 ?_ ?_
  rotate_left
  · intro c L W hall hW
    have := hend c L W (by rw [← hosz]; exact hall) hW
    have e : frm ops a0 (val c) (fun _ => true) ops.size = (((((((((((((((a0.put (some 9) (.pointer (some ⟨X, 4, none⟩))).put (some 10) (I cr)).put (some 11) (.pointer (some ⟨X, 7, none⟩))).put (some 12) (I ab)).put (some 13) (I (nr ab))).put (some 14) (I (addv cr (nr ab)))).put (some 15) (.pointer (some ⟨X, 5, none⟩))).put (some 16) (I us)).put (some 17) (.pointer (some ⟨X, 6, none⟩))).put (some 18) (I idl)).put (some 19) (I (nr idl))).put (some 20) (I (addv us (nr idl)))).put (some 21) (.slice (some ⟨c, 0, none⟩) 2 2)).put (some 22) (I (firstv [addv cr (nr ab), addv us (nr idl)]))).put (some 2) (I (firstv [addv cr (nr ab), addv us (nr idl)]))) := by
      rw [hosz]
      simp only [frm, if_true]
      rw [tab_dst htab 0, tab_dst htab 1, tab_dst htab 2, tab_dst htab 3, tab_dst htab 4, tab_dst htab 5, tab_dst htab 6, tab_dst htab 7, tab_dst htab 8, tab_dst htab 9, tab_dst htab 10, tab_dst htab 11, tab_dst htab 12, tab_dst htab 13, tab_dst htab 14]
      rfl
    rw [e]
    exact this
  intro i o ho c L a w' hL hd ha hW
  have hi : i < 15 := by rw [← hosz]; exact (Array.getElem?_eq_some_iff.1 ho).1
  have G : ∀ j s : Nat, (ren3T[j]?).bind (·.2.1) = some s → s < 23 → (i, j) ∈ ren3D → a.tmps[s]? = some (val c j) := fun j s h1 h2 h3 => frm_at hdis ha j s (hds j s h1) (by omega) (depl_of hdep i j h3 ho hd)
  match i, ho, hL, hi, G with
  | 0, ho, hL, _, G =>
    obtain ⟨hop, hgd⟩ := tab3 htab ho rfl
    have h0 := frm_old ha 1 _ (hold 1 rfl) o1
    exact (dXr ho hgd (hpure 0 (by decide) c L w' hW) (g_field hop (eval_of h0) (by kernel_rfl)))
  | 1, ho, hL, _, G =>
    obtain ⟨hop, hgd⟩ := tab3 htab ho rfl
    have h0 := G 0 9 rfl (by decide) (by decide)
    exact (dXr ho hgd (hpure 1 (by decide) c L w' hW) (g_load hop (eval_of h0) (r1 c L w' hW hL (depl_of hdep 1 0 (by decide) ho hd))))
  | 2, ho, hL, _, G =>
    obtain ⟨hop, hgd⟩ := tab3 htab ho rfl
    have h0 := frm_old ha 1 _ (hold 1 rfl) o1
    exact (dXr ho hgd (hpure 2 (by decide) c L w' hW) (g_field hop (eval_of h0) (by kernel_rfl)))
  | 3, ho, hL, _, G =>
    obtain ⟨hop, hgd⟩ := tab3 htab ho rfl
    have h0 := G 2 11 rfl (by decide) (by decide)
    exact (dXr ho hgd (hpure 3 (by decide) c L w' hW) (g_load hop (eval_of h0) (r3 c L w' hW hL (depl_of hdep 3 2 (by decide) ho hd))))
  | 4, ho, hL, _, G =>
    obtain ⟨hop, hgd⟩ := tab3 htab ho rfl
    have h0 := G 3 12 rfl (by decide) (by decide)
    refine doesX_call ho (wanted_none hgd) 63 #[(I ab)] ?_ (r4 c L w' hW hL (depl_of hdep 4 3 (by decide) ho hd))
    rw [run_calls Tryz.func63 (by kernel_rfl) rfl _ _ _ _ hop rfl]
    simp only [List.map_toArray, List.map_cons, List.map_nil, eval_of h0]
    all_goals rfl
  | 5, ho, hL, _, G =>
    obtain ⟨hop, hgd⟩ := tab3 htab ho rfl
    have h0 := G 1 10 rfl (by decide) (by decide)
    have h1 := G 4 13 rfl (by decide) (by decide)
    refine doesX_call ho (wanted_none hgd) 65 #[(I cr), (I (nr ab))] ?_ (r5 c L w' hW hL (depl_of hdep 5 1 (by decide) ho hd) (depl_of hdep 5 4 (by decide) ho hd))
    rw [run_calls Tryz.func65 (by kernel_rfl) rfl _ _ _ _ hop rfl]
    simp only [List.map_toArray, List.map_cons, List.map_nil, eval_of h0, eval_of h1]
    all_goals rfl
  | 6, ho, hL, _, G =>
    obtain ⟨hop, hgd⟩ := tab3 htab ho rfl
    have h0 := frm_old ha 1 _ (hold 1 rfl) o1
    exact (dXr ho hgd (hpure 6 (by decide) c L w' hW) (g_field hop (eval_of h0) (by kernel_rfl)))
  | 7, ho, hL, _, G =>
    obtain ⟨hop, hgd⟩ := tab3 htab ho rfl
    have h0 := G 6 15 rfl (by decide) (by decide)
    exact (dXr ho hgd (hpure 7 (by decide) c L w' hW) (g_load hop (eval_of h0) (r7 c L w' hW hL (depl_of hdep 7 6 (by decide) ho hd))))
  | 8, ho, hL, _, G =>
    obtain ⟨hop, hgd⟩ := tab3 htab ho rfl
    have h0 := frm_old ha 1 _ (hold 1 rfl) o1
    exact (dXr ho hgd (hpure 8 (by decide) c L w' hW) (g_field hop (eval_of h0) (by kernel_rfl)))
  | 9, ho, hL, _, G =>
    obtain ⟨hop, hgd⟩ := tab3 htab ho rfl
    have h0 := G 8 17 rfl (by decide) (by decide)
    exact (dXr ho hgd (hpure 9 (by decide) c L w' hW) (g_load hop (eval_of h0) (r9 c L w' hW hL (depl_of hdep 9 8 (by decide) ho hd))))
  | 10, ho, hL, _, G =>
    obtain ⟨hop, hgd⟩ := tab3 htab ho rfl
    have h0 := G 9 18 rfl (by decide) (by decide)
    refine doesX_call ho (wanted_none hgd) 63 #[(I idl)] ?_ (r10 c L w' hW hL (depl_of hdep 10 9 (by decide) ho hd))
    rw [run_calls Tryz.func63 (by kernel_rfl) rfl _ _ _ _ hop rfl]
    simp only [List.map_toArray, List.map_cons, List.map_nil, eval_of h0]
    all_goals rfl
  | 11, ho, hL, _, G =>
    obtain ⟨hop, hgd⟩ := tab3 htab ho rfl
    have h0 := G 7 16 rfl (by decide) (by decide)
    have h1 := G 10 19 rfl (by decide) (by decide)
    refine doesX_call ho (wanted_none hgd) 65 #[(I us), (I (nr idl))] ?_ (r11 c L w' hW hL (depl_of hdep 11 7 (by decide) ho hd) (depl_of hdep 11 10 (by decide) ho hd))
    rw [run_calls Tryz.func65 (by kernel_rfl) rfl _ _ _ _ hop rfl]
    simp only [List.map_toArray, List.map_cons, List.map_nil, eval_of h0, eval_of h1]
    all_goals rfl
  | 12, ho, hL, _, G =>
    obtain ⟨hop, hgd⟩ := tab3 htab ho rfl
    have h0 := G 5 14 rfl (by decide) (by decide)
    have h1 := G 11 20 rfl (by decide) (by decide)
    obtain ⟨c', W', q0, q1, q2⟩ := r12 c L w' hW hL (depl_of hdep 12 5 (by decide) ho hd) (depl_of hdep 12 11 (by decide) ho hd)
    exact doesX_runw ho (wanted_none hgd) c' q0 q2 (g_bs hop (by simp only [List.map_toArray, List.map_cons, List.map_nil, eval_of h0, eval_of h1]; first | done | rfl) q1)
  | 13, ho, hL, _, G =>
    obtain ⟨hop, hgd⟩ := tab3 htab ho rfl
    have h0 := G 12 21 rfl (by decide) (by decide)
    refine doesX_call ho (wanted_none hgd) 64 #[(.slice (some ⟨c, 0, none⟩) 2 2)] ?_ (r13 c L w' hW hL (depl_of hdep 13 12 (by decide) ho hd))
    rw [run_calls Tryz.func64 (by kernel_rfl) rfl _ _ _ _ hop rfl]
    simp only [List.map_toArray, List.map_cons, List.map_nil, eval_of h0]
    all_goals rfl
  | 14, ho, hL, _, G =>
    obtain ⟨hop, hgd⟩ := tab3 htab ho rfl
    have h0 := G 13 22 rfl (by decide) (by decide)
    exact (dXr ho hgd (hpure 14 (by decide) c L w' hW) (by rw [run_assign _ _ _ hop]; exact congrArg (fun v => Result.ok (Next.value v) w') (eval_of h0)))
  | (i + 15), ho, hL, hi, _ => exact absurd hi (by omega)
end Go.Proofs.YtmjaobddgaglhaaGreatDoor
