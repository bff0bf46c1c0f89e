import Derived.Test.YtpidmpefodnffaaGreatDoorEnda
import Derived.Test.YtpidmpefodnffaaGreatDoorZprc
namespace Go.Proofs.YtpidmpefodnffaaGreatDoor
open Go.RowKit
def vrof3 (X : Nat) (F : Value) (en ii : Int) (su k1 v1 k2 v2 : Bs) (c : (Nat → Nat)) (i : Nat) : Value := match i with
  | 0 => F
  | 1 => (I en)
  | 2 => (.pointer (some ⟨X, 0, none⟩))
  | 3 => (I ii)
  | 4 => (.agg #[I en, I ii])
  | 5 => (.pointer (some ⟨c 0, 0, none⟩))
  | 6 => (.agg #[.slice (some ⟨c 2, 0, none⟩) 3 3, .slice none 0 0])
  | 7 => (.agg #[S k1, S v1])
  | 8 => (.pointer (some ⟨X, 2, none⟩))
  | 9 => (S su)
  | 10 => (.pointer (some ⟨X, 0, none⟩))
  | 11 => (I ii)
  | 12 => (.agg #[S su, I ii])
  | 13 => (.pointer (some ⟨c 1, 0, none⟩))
  | 14 => (.agg #[.slice (some ⟨c 3, 0, none⟩) 4 4, .slice none 0 0])
  | 15 => (.agg #[S k2, S v2])
  | 16 => (.slice (some ⟨c 4, 0, none⟩) 2 2)
  | 17 => (.slice (some ⟨c 4, 0, none⟩) 2 2)
  | 18 => (.int .i64 0)
  | _ => undef
def rof3T : List (Op × Option Tmp × Option (Nat × Bool)) := [
  (.load 40 (.tmp 1), some 7, none),
  (.call { callee := .value (.func 23), args := #[(.tmp 7)], argTypes := #[40] }, some 8, none),
  (.fieldAddr 40 (.tmp 1) 0, some 9, none),
  (.load 3 (.tmp 9), some 10, none),
  (.build 115 #[(0, (.tmp 8)), (1, (.tmp 10))], some 11, none),
  (.box 115 (.tmp 11), some 12, none),
  (.call { callee := .value (.func 76), args := #[(.tmp 12)], argTypes := #[113] }, some 13, none),
  (.call { callee := .value (.func 77), args := #[(.tmp 13)], argTypes := #[111] }, some 14, none),
  (.fieldAddr 40 (.tmp 1) 2, some 15, none),
  (.load 9 (.tmp 15), some 16, none),
  (.fieldAddr 40 (.tmp 1) 0, some 17, none),
  (.load 3 (.tmp 17), some 18, none),
  (.build 120 #[(0, (.tmp 16)), (1, (.tmp 18))], some 19, none),
  (.box 120 (.tmp 19), some 20, none),
  (.call { callee := .value (.func 78), args := #[(.tmp 20)], argTypes := #[118] }, some 21, none),
  (.call { callee := .value (.func 77), args := #[(.tmp 21)], argTypes := #[111] }, some 22, none),
  (.buildSlice 43 2 #[(0, (.tmp 14)), (1, (.tmp 22))], some 23, none),
  (.assign (.tmp 23), some 2, none),
  (.assign (.const (.int .i64 0)), some 3, none)]
def rof3D : List (Nat × Nat) := [(1, 0), (3, 2), (4, 1), (4, 3), (5, 4), (6, 5), (7, 6), (9, 8), (11, 10), (12, 9), (12, 11), (13, 12), (14, 13), (15, 14), (16, 7), (16, 15), (17, 16)]
set_option maxHeartbeats 4000000 in
theorem rof3 {ops : Array Oper} {id : Nat} {Q : Exit → Act → World → Prop} (X : Nat) (F : Value) (en ii : Int) (su k1 v1 k2 v2 : Bs) (htab : ops.toList.map (fun o => (o.op, o.dst, o.guard)) = rof3T) (hdep : deplB rof3D ops = true) (hac : acB ops = true)
    (a0 : Act) (w : World) (hsz : 24 ≤ a0.tmps.size) (o1 : a0.tmps[1]? = some (.pointer (some ⟨X, 0, none⟩)))
    (Wd : (Nat → Nat) → (Nat → Bool) → World → Prop) (h0 : ∃ c, Wd c (fun _ => false) w.drew) (hpure : ∀ i, i ∉ ([1, 5, 6, 7, 13, 14, 15, 16, 17] : List Nat) → ∀ c L W, Wd c L W → Wd c (upd L i) W)
    (r0 : ∀ c L W, Wd c L W → L 0 = false → (Instr.loadAt 40 (.pointer (some ⟨X, 0, none⟩))).run Tryz.prog W = .ok F W)
    (r1 : ∀ c L W, Wd c L W → L 1 = false → L 0 = true → Calls Tryz.prog 23 #[F] W fun eg w' => ∃ c', (∀ j, L j = true → vrof3 X F en ii su k1 v1 k2 v2 c' j = vrof3 X F en ii su k1 v1 k2 v2 c j) ∧ eg = .returned (vrof3 X F en ii su k1 v1 k2 v2 c' 1) ∧ Wd c' (upd L 1) w')
    (r3 : ∀ c L W, Wd c L W → L 3 = false → L 2 = true → (Instr.loadAt 3 (.pointer (some ⟨X, 0, none⟩))).run Tryz.prog W = .ok (I ii) W)
    (r5 : ∀ c L W, Wd c L W → L 5 = false → L 4 = true → ∃ c' W', (∀ j, L j = true → vrof3 X F en ii su k1 v1 k2 v2 c' j = vrof3 X F en ii su k1 v1 k2 v2 c j) ∧ (Instr.box 115 (.agg #[I en, I ii])).run Tryz.prog W = .ok (vrof3 X F en ii su k1 v1 k2 v2 c' 5) W' ∧ Wd c' (upd L 5) W')
    (r6 : ∀ c L W, Wd c L W → L 6 = false → L 5 = true → Calls Tryz.prog 76 #[(.pointer (some ⟨c 0, 0, none⟩))] W fun eg w' => ∃ c', (∀ j, L j = true → vrof3 X F en ii su k1 v1 k2 v2 c' j = vrof3 X F en ii su k1 v1 k2 v2 c j) ∧ eg = .returned (vrof3 X F en ii su k1 v1 k2 v2 c' 6) ∧ Wd c' (upd L 6) w')
    (r7 : ∀ c L W, Wd c L W → L 7 = false → L 6 = true → Calls Tryz.prog 77 #[(.agg #[.slice (some ⟨c 2, 0, none⟩) 3 3, .slice none 0 0])] W fun eg w' => ∃ c', (∀ j, L j = true → vrof3 X F en ii su k1 v1 k2 v2 c' j = vrof3 X F en ii su k1 v1 k2 v2 c j) ∧ eg = .returned (vrof3 X F en ii su k1 v1 k2 v2 c' 7) ∧ Wd c' (upd L 7) w')
    (r9 : ∀ c L W, Wd c L W → L 9 = false → L 8 = true → (Instr.loadAt 9 (.pointer (some ⟨X, 2, none⟩))).run Tryz.prog W = .ok (S su) W)
    (r11 : ∀ c L W, Wd c L W → L 11 = false → L 10 = true → (Instr.loadAt 3 (.pointer (some ⟨X, 0, none⟩))).run Tryz.prog W = .ok (I ii) W)
    (r13 : ∀ c L W, Wd c L W → L 13 = false → L 12 = true → ∃ c' W', (∀ j, L j = true → vrof3 X F en ii su k1 v1 k2 v2 c' j = vrof3 X F en ii su k1 v1 k2 v2 c j) ∧ (Instr.box 120 (.agg #[S su, I ii])).run Tryz.prog W = .ok (vrof3 X F en ii su k1 v1 k2 v2 c' 13) W' ∧ Wd c' (upd L 13) W')
    (r14 : ∀ c L W, Wd c L W → L 14 = false → L 13 = true → Calls Tryz.prog 78 #[(.pointer (some ⟨c 1, 0, none⟩))] W fun eg w' => ∃ c', (∀ j, L j = true → vrof3 X F en ii su k1 v1 k2 v2 c' j = vrof3 X F en ii su k1 v1 k2 v2 c j) ∧ eg = .returned (vrof3 X F en ii su k1 v1 k2 v2 c' 14) ∧ Wd c' (upd L 14) w')
    (r15 : ∀ c L W, Wd c L W → L 15 = false → L 14 = true → Calls Tryz.prog 77 #[(.agg #[.slice (some ⟨c 3, 0, none⟩) 4 4, .slice none 0 0])] W fun eg w' => ∃ c', (∀ j, L j = true → vrof3 X F en ii su k1 v1 k2 v2 c' j = vrof3 X F en ii su k1 v1 k2 v2 c j) ∧ eg = .returned (vrof3 X F en ii su k1 v1 k2 v2 c' 15) ∧ Wd c' (upd L 15) w')
    (r16 : ∀ c L W, Wd c L W → L 16 = false → L 7 = true → L 15 = true → ∃ c' W', (∀ j, L j = true → vrof3 X F en ii su k1 v1 k2 v2 c' j = vrof3 X F en ii su k1 v1 k2 v2 c j) ∧ (Instr.buildSlice 43 2 #[(0, (.agg #[S k1, S v1])), (1, (.agg #[S k2, S v2]))]).run Tryz.prog W = .ok (vrof3 X F en ii su k1 v1 k2 v2 c' 16) W' ∧ Wd c' (upd L 16) W')
    (r17 : ∀ c L W, Wd c L W → L 17 = false → L 16 = true → Wd c (upd L 17) W)
    (hend : ∀ c L W, (∀ i, i < 19 → L i = true) → Wd c L W → Q .normal (((((((((((((((((((a0.put (some 7) F).put (some 8) (I en)).put (some 9) (.pointer (some ⟨X, 0, none⟩))).put (some 10) (I ii)).put (some 11) (.agg #[I en, I ii])).put (some 12) (.pointer (some ⟨c 0, 0, none⟩))).put (some 13) (.agg #[.slice (some ⟨c 2, 0, none⟩) 3 3, .slice none 0 0])).put (some 14) (.agg #[S k1, S v1])).put (some 15) (.pointer (some ⟨X, 2, none⟩))).put (some 16) (S su)).put (some 17) (.pointer (some ⟨X, 0, none⟩))).put (some 18) (I ii)).put (some 19) (.agg #[S su, I ii])).put (some 20) (.pointer (some ⟨c 1, 0, none⟩))).put (some 21) (.agg #[.slice (some ⟨c 3, 0, none⟩) 4 4, .slice none 0 0])).put (some 22) (.agg #[S k2, S v2])).put (some 23) (.slice (some ⟨c 4, 0, none⟩) 2 2)).put (some 2) (.slice (some ⟨c 4, 0, none⟩) 2 2)).put (some 3) (.int .i64 0)) W) : (Code.region id ops true).wp Tryz.prog Q a0 w := by
  let val : (Nat → Nat) → Nat → Value := vrof3 X F en ii su k1 v1 k2 v2
  have hosz : ops.size = 19 := by
    have := congrArg List.length htab
    simpa [rof3T] using this
  have hds : ∀ i s, (rof3T[i]?).bind (·.2.1) = some s → dstOf ops i = some s := fun i s hi => by rw [tab_dst htab, hi]
  have hdisB : disL rof3T = true := by rfl
  have hdis := disL_of htab hdisB
  have hold : ∀ s, rof3T.all (fun x => !(x.2.1 == some s)) = true → (List.range ops.size).all (fun j => !(dstOf ops j == some s)) = true := fun s h => holdL htab s h
  refine region_detX val Wd (hac_of hac) hdis h0 ?_ ?_
  rotate_left
  · intro c L W hall hW
    have := hend c L W (by rw [← hosz]; exact hall) hW
    have e : frm ops a0 (val c) (fun _ => true) ops.size = (((((((((((((((((((a0.put (some 7) F).put (some 8) (I en)).put (some 9) (.pointer (some ⟨X, 0, none⟩))).put (some 10) (I ii)).put (some 11) (.agg #[I en, I ii])).put (some 12) (.pointer (some ⟨c 0, 0, none⟩))).put (some 13) (.agg #[.slice (some ⟨c 2, 0, none⟩) 3 3, .slice none 0 0])).put (some 14) (.agg #[S k1, S v1])).put (some 15) (.pointer (some ⟨X, 2, none⟩))).put (some 16) (S su)).put (some 17) (.pointer (some ⟨X, 0, none⟩))).put (some 18) (I ii)).put (some 19) (.agg #[S su, I ii])).put (some 20) (.pointer (some ⟨c 1, 0, none⟩))).put (some 21) (.agg #[.slice (some ⟨c 3, 0, none⟩) 4 4, .slice none 0 0])).put (some 22) (.agg #[S k2, S v2])).put (some 23) (.slice (some ⟨c 4, 0, none⟩) 2 2)).put (some 2) (.slice (some ⟨c 4, 0, none⟩) 2 2)).put (some 3) (.int .i64 0)) := by
      rw [hosz]
      simp only [frm, if_true]
      rw [tab_dst htab 0, tab_dst htab 1, tab_dst htab 2, tab_dst htab 3, tab_dst htab 4, tab_dst htab 5, tab_dst htab 6, tab_dst htab 7, tab_dst htab 8, tab_dst htab 9, tab_dst htab 10, tab_dst htab 11, tab_dst htab 12, tab_dst htab 13, tab_dst htab 14, tab_dst htab 15, tab_dst htab 16, tab_dst htab 17, tab_dst htab 18]
      rfl
    rw [e]
    exact this
  intro i o ho c L a w' hL hd ha hW
  have hi : i < 19 := by rw [← hosz]; exact (Array.getElem?_eq_some_iff.1 ho).1
  have G : ∀ j s : Nat, (rof3T[j]?).bind (·.2.1) = some s → s < 24 → (i, j) ∈ rof3D → a.tmps[s]? = some (val c j) := fun j s h1 h2 h3 => frm_at hdis ha j s (hds j s h1) (by omega) (depl_of hdep i j h3 ho hd)
  match i, ho, hL, hi, G with
  | 0, ho, hL, _, G =>
    obtain ⟨hop, hgd⟩ := tab3 htab ho rfl
    have h0 := frm_old ha 1 _ (hold 1 rfl) o1
    exact (dXr ho hgd (hpure 0 (by decide) c L w' hW) (g_load hop (eval_of h0) (r0 c L w' hW hL)))
  | 1, ho, hL, _, G =>
    obtain ⟨hop, hgd⟩ := tab3 htab ho rfl
    have h0 := G 0 7 rfl (by decide) (by decide)
    refine doesX_call ho (wanted_none hgd) 23 #[F] ?_ (r1 c L w' hW hL (depl_of hdep 1 0 (by decide) ho hd))
    rw [run_calls Tryz.func23 (by kernel_rfl) rfl _ _ _ _ hop rfl]
    simp only [List.map_toArray, List.map_cons, List.map_nil, eval_of h0]
    all_goals rfl
  | 2, ho, hL, _, G =>
    obtain ⟨hop, hgd⟩ := tab3 htab ho rfl
    have h0 := frm_old ha 1 _ (hold 1 rfl) o1
    exact (dXr ho hgd (hpure 2 (by decide) c L w' hW) (g_field hop (eval_of h0) (by kernel_rfl)))
  | 3, ho, hL, _, G =>
    obtain ⟨hop, hgd⟩ := tab3 htab ho rfl
    have h0 := G 2 9 rfl (by decide) (by decide)
    exact (dXr ho hgd (hpure 3 (by decide) c L w' hW) (g_load hop (eval_of h0) (r3 c L w' hW hL (depl_of hdep 3 2 (by decide) ho hd))))
  | 4, ho, hL, _, G =>
    obtain ⟨hop, hgd⟩ := tab3 htab ho rfl
    have h0 := G 1 8 rfl (by decide) (by decide)
    have h1 := G 3 10 rfl (by decide) (by decide)
    exact (dXr ho hgd (hpure 4 (by decide) c L w' hW) (g_build hop (by simp only [List.map_toArray, List.map_cons, List.map_nil, eval_of h0, eval_of h1]; first | done | rfl) (by kernel_rfl)))
  | 5, ho, hL, _, G =>
    obtain ⟨hop, hgd⟩ := tab3 htab ho rfl
    have h0 := G 4 11 rfl (by decide) (by decide)
    obtain ⟨c', W', q0, q1, q2⟩ := r5 c L w' hW hL (depl_of hdep 5 4 (by decide) ho hd)
    exact doesX_runw ho (wanted_none hgd) c' q0 q2 (g_box hop (eval_of h0) q1)
  | 6, ho, hL, _, G =>
    obtain ⟨hop, hgd⟩ := tab3 htab ho rfl
    have h0 := G 5 12 rfl (by decide) (by decide)
    refine doesX_call ho (wanted_none hgd) 76 #[(.pointer (some ⟨c 0, 0, none⟩))] ?_ (r6 c L w' hW hL (depl_of hdep 6 5 (by decide) ho hd))
    rw [run_calls Tryz.func76 (by kernel_rfl) rfl _ _ _ _ hop rfl]
    simp only [List.map_toArray, List.map_cons, List.map_nil, eval_of h0]
    all_goals rfl
  | 7, ho, hL, _, G =>
    obtain ⟨hop, hgd⟩ := tab3 htab ho rfl
    have h0 := G 6 13 rfl (by decide) (by decide)
    refine doesX_call ho (wanted_none hgd) 77 #[(.agg #[.slice (some ⟨c 2, 0, none⟩) 3 3, .slice none 0 0])] ?_ (r7 c L w' hW hL (depl_of hdep 7 6 (by decide) ho hd))
    rw [run_calls Tryz.func77 (by kernel_rfl) rfl _ _ _ _ hop rfl]
    simp only [List.map_toArray, List.map_cons, List.map_nil, eval_of h0]
    all_goals rfl
  | 8, ho, hL, _, G =>
    obtain ⟨hop, hgd⟩ := tab3 htab ho rfl
    have h0 := frm_old ha 1 _ (hold 1 rfl) o1
    exact (dXr ho hgd (hpure 8 (by decide) c L w' hW) (g_field hop (eval_of h0) (by kernel_rfl)))
  | 9, ho, hL, _, G =>
    obtain ⟨hop, hgd⟩ := tab3 htab ho rfl
    have h0 := G 8 15 rfl (by decide) (by decide)
    exact (dXr ho hgd (hpure 9 (by decide) c L w' hW) (g_load hop (eval_of h0) (r9 c L w' hW hL (depl_of hdep 9 8 (by decide) ho hd))))
  | 10, ho, hL, _, G =>
    obtain ⟨hop, hgd⟩ := tab3 htab ho rfl
    have h0 := frm_old ha 1 _ (hold 1 rfl) o1
    exact (dXr ho hgd (hpure 10 (by decide) c L w' hW) (g_field hop (eval_of h0) (by kernel_rfl)))
  | 11, ho, hL, _, G =>
    obtain ⟨hop, hgd⟩ := tab3 htab ho rfl
    have h0 := G 10 17 rfl (by decide) (by decide)
    exact (dXr ho hgd (hpure 11 (by decide) c L w' hW) (g_load hop (eval_of h0) (r11 c L w' hW hL (depl_of hdep 11 10 (by decide) ho hd))))
  | 12, ho, hL, _, G =>
    obtain ⟨hop, hgd⟩ := tab3 htab ho rfl
    have h0 := G 9 16 rfl (by decide) (by decide)
    have h1 := G 11 18 rfl (by decide) (by decide)
    exact (dXr ho hgd (hpure 12 (by decide) c L w' hW) (g_build hop (by simp only [List.map_toArray, List.map_cons, List.map_nil, eval_of h0, eval_of h1]; first | done | rfl) (by kernel_rfl)))
  | 13, ho, hL, _, G =>
    obtain ⟨hop, hgd⟩ := tab3 htab ho rfl
    have h0 := G 12 19 rfl (by decide) (by decide)
    obtain ⟨c', W', q0, q1, q2⟩ := r13 c L w' hW hL (depl_of hdep 13 12 (by decide) ho hd)
    exact doesX_runw ho (wanted_none hgd) c' q0 q2 (g_box hop (eval_of h0) q1)
  | 14, ho, hL, _, G =>
    obtain ⟨hop, hgd⟩ := tab3 htab ho rfl
    have h0 := G 13 20 rfl (by decide) (by decide)
    refine doesX_call ho (wanted_none hgd) 78 #[(.pointer (some ⟨c 1, 0, none⟩))] ?_ (r14 c L w' hW hL (depl_of hdep 14 13 (by decide) ho hd))
    rw [run_calls Tryz.func78 (by kernel_rfl) rfl _ _ _ _ hop rfl]
    simp only [List.map_toArray, List.map_cons, List.map_nil, eval_of h0]
    all_goals rfl
  | 15, ho, hL, _, G =>
    obtain ⟨hop, hgd⟩ := tab3 htab ho rfl
    have h0 := G 14 21 rfl (by decide) (by decide)
    refine doesX_call ho (wanted_none hgd) 77 #[(.agg #[.slice (some ⟨c 3, 0, none⟩) 4 4, .slice none 0 0])] ?_ (r15 c L w' hW hL (depl_of hdep 15 14 (by decide) ho hd))
    rw [run_calls Tryz.func77 (by kernel_rfl) rfl _ _ _ _ hop rfl]
    simp only [List.map_toArray, List.map_cons, List.map_nil, eval_of h0]
    all_goals rfl
  | 16, ho, hL, _, G =>
    obtain ⟨hop, hgd⟩ := tab3 htab ho rfl
    have h0 := G 7 14 rfl (by decide) (by decide)
    have h1 := G 15 22 rfl (by decide) (by decide)
    obtain ⟨c', W', q0, q1, q2⟩ := r16 c L w' hW hL (depl_of hdep 16 7 (by decide) ho hd) (depl_of hdep 16 15 (by decide) ho hd)
    exact doesX_runw ho (wanted_none hgd) c' q0 q2 (g_bs hop (by simp only [List.map_toArray, List.map_cons, List.map_nil, eval_of h0, eval_of h1]; first | done | rfl) q1)
  | 17, ho, hL, _, G =>
    obtain ⟨hop, hgd⟩ := tab3 htab ho rfl
    have h0 := G 16 23 rfl (by decide) (by decide)
    exact (dXr ho hgd (r17 c L w' hW hL (depl_of hdep 17 16 (by decide) ho hd)) (by rw [run_assign _ _ _ hop]; exact congrArg (fun v => Result.ok (Next.value v) w') (eval_of h0)))
  | 18, ho, hL, _, G =>
    obtain ⟨hop, hgd⟩ := tab3 htab ho rfl
    exact (dXr ho hgd (hpure 18 (by decide) c L w' hW) (by rw [run_assign _ _ _ hop]; exact congrArg (fun v => Result.ok (Next.value v) w') rfl))
  | (i + 19), ho, hL, hi, _ => exact absurd hi (by omega)
end Go.Proofs.YtpidmpefodnffaaGreatDoor
namespace Go.Proofs.YtpidmpefodnffaaGreatDoor
open Go.RowKit
set_option maxHeartbeats 4000000
set_option maxRecDepth 8000
/-- The choice with one part new. -/
def nwc (c : Nat → Nat) (k v : Nat) : Nat → Nat := fun j => if j = k then v else c j
theorem same0 (X : Nat) (F : Value) (en ii : Int) (su k1 v1 k2 v2 : Bs) (c : Nat → Nat) (z : Nat) (L : Nat → Bool) (h : L 5 = false) : ∀ j, L j = true → vrof3 X F en ii su k1 v1 k2 v2 (nwc c 0 z) j = vrof3 X F en ii su k1 v1 k2 v2 c j := fun j hj => by
  match j, hj with
  | 0, hj => rfl
  | 1, hj => rfl
  | 2, hj => rfl
  | 3, hj => rfl
  | 4, hj => rfl
  | 5, hj => rw [h] at hj; cases hj
  | 6, hj => rfl
  | 7, hj => rfl
  | 8, hj => rfl
  | 9, hj => rfl
  | 10, hj => rfl
  | 11, hj => rfl
  | 12, hj => rfl
  | 13, hj => rfl
  | 14, hj => rfl
  | 15, hj => rfl
  | 16, hj => rfl
  | 17, hj => rfl
  | 18, hj => rfl
  | (q + 19), hj => rfl
theorem same1 (X : Nat) (F : Value) (en ii : Int) (su k1 v1 k2 v2 : Bs) (c : Nat → Nat) (z : Nat) (L : Nat → Bool) (h : L 13 = false) : ∀ j, L j = true → vrof3 X F en ii su k1 v1 k2 v2 (nwc c 1 z) j = vrof3 X F en ii su k1 v1 k2 v2 c j := fun j hj => by
  match j, hj with
  | 0, hj => rfl
  | 1, hj => rfl
  | 2, hj => rfl
  | 3, hj => rfl
  | 4, hj => rfl
  | 5, hj => rfl
  | 6, hj => rfl
  | 7, hj => rfl
  | 8, hj => rfl
  | 9, hj => rfl
  | 10, hj => rfl
  | 11, hj => rfl
  | 12, hj => rfl
  | 13, hj => rw [h] at hj; cases hj
  | 14, hj => rfl
  | 15, hj => rfl
  | 16, hj => rfl
  | 17, hj => rfl
  | 18, hj => rfl
  | (q + 19), hj => rfl
theorem same2 (X : Nat) (F : Value) (en ii : Int) (su k1 v1 k2 v2 : Bs) (c : Nat → Nat) (z : Nat) (L : Nat → Bool) (h : L 6 = false) : ∀ j, L j = true → vrof3 X F en ii su k1 v1 k2 v2 (nwc c 2 z) j = vrof3 X F en ii su k1 v1 k2 v2 c j := fun j hj => by
  match j, hj with
  | 0, hj => rfl
  | 1, hj => rfl
  | 2, hj => rfl
  | 3, hj => rfl
  | 4, hj => rfl
  | 5, hj => rfl
  | 6, hj => rw [h] at hj; cases hj
  | 7, hj => rfl
  | 8, hj => rfl
  | 9, hj => rfl
  | 10, hj => rfl
  | 11, hj => rfl
  | 12, hj => rfl
  | 13, hj => rfl
  | 14, hj => rfl
  | 15, hj => rfl
  | 16, hj => rfl
  | 17, hj => rfl
  | 18, hj => rfl
  | (q + 19), hj => rfl
theorem same3 (X : Nat) (F : Value) (en ii : Int) (su k1 v1 k2 v2 : Bs) (c : Nat → Nat) (z : Nat) (L : Nat → Bool) (h : L 14 = false) : ∀ j, L j = true → vrof3 X F en ii su k1 v1 k2 v2 (nwc c 3 z) j = vrof3 X F en ii su k1 v1 k2 v2 c j := fun j hj => by
  match j, hj with
  | 0, hj => rfl
  | 1, hj => rfl
  | 2, hj => rfl
  | 3, hj => rfl
  | 4, hj => rfl
  | 5, hj => rfl
  | 6, hj => rfl
  | 7, hj => rfl
  | 8, hj => rfl
  | 9, hj => rfl
  | 10, hj => rfl
  | 11, hj => rfl
  | 12, hj => rfl
  | 13, hj => rfl
  | 14, hj => rw [h] at hj; cases hj
  | 15, hj => rfl
  | 16, hj => rfl
  | 17, hj => rfl
  | 18, hj => rfl
  | (q + 19), hj => rfl
theorem same4 (X : Nat) (F : Value) (en ii : Int) (su k1 v1 k2 v2 : Bs) (c : Nat → Nat) (z : Nat) (L : Nat → Bool) (h : L 16 = false) (hp : L 17 = true → L 16 = true) : ∀ j, L j = true → vrof3 X F en ii su k1 v1 k2 v2 (nwc c 4 z) j = vrof3 X F en ii su k1 v1 k2 v2 c j := fun j hj => by
  match j, hj with
  | 0, hj => rfl
  | 1, hj => rfl
  | 2, hj => rfl
  | 3, hj => rfl
  | 4, hj => rfl
  | 5, hj => rfl
  | 6, hj => rfl
  | 7, hj => rfl
  | 8, hj => rfl
  | 9, hj => rfl
  | 10, hj => rfl
  | 11, hj => rfl
  | 12, hj => rfl
  | 13, hj => rfl
  | 14, hj => rfl
  | 15, hj => rfl
  | 16, hj => rw [h] at hj; cases hj
  | 17, hj => have := hp hj; rw [h] at this; cases this
  | 18, hj => rfl
  | (q + 19), hj => rfl
theorem endV_b (cr us idl ab st en : Int) : 0 ≤ endV cr us idl ab st en ∧ endV cr us idl ab st en ≤ 1099511627776 := by
  unfold endV
  split
  · have h1 := nr_b (addv cr (nr ab))
    have h2 := nr_b (addv us (nr idl))
    simp only [firstv, List.foldl_cons, List.foldl_nil, mn]
    split <;> split <;> omega
  · exact nr_b en
theorem fam_end {id : Int} {cl su : Bs} {sc : List Bs} {cr us idl ab gr ge to st en co : Int} (h : famOK id cl su sc cr us idl ab gr ge to st en co = true) : endOK (endV cr us idl ab st en) id = true := by
  simp only [famOK, Bool.and_eq_true] at h
  have hb := endV_b cr us idl ab st en
  simp only [endOK, tim, Bool.and_eq_true, decide_eq_true_eq]
  exact ⟨hb, h.1⟩
theorem fam_sub {id : Int} {cl su : Bs} {sc : List Bs} {cr us idl ab gr ge to st en co : Int} (h : famOK id cl su sc cr us idl ab gr ge to st en co = true) : subOK su id = true := by
  simp only [famOK, Bool.and_eq_true] at h
  simp only [subOK, Bool.and_eq_true]
  exact ⟨h.2.2.2.2.1, h.1⟩
end Go.Proofs.YtpidmpefodnffaaGreatDoor
namespace Go.Proofs.YtpidmpefodnffaaGreatDoor.ofz
open Go.RowKit
set_option maxHeartbeats 4000000
set_option maxRecDepth 8000
/-- What holds between two operations of OfFamily's drawn region. -/
structure Kf (W1 : World) (e id : Int) (su k1 v1 k2 v2 : Bs) (c : Nat → Nat) (L : Nat → Bool) (W : World) : Prop where
  b : Below W1.heap.size W1 W
  x : L 5 = true → W.heap[c 0]? = some (.cells #[I e, I id] 115 (0, 0))
  y : L 13 = true → W.heap[c 1]? = some (.cells #[S su, I id] 120 (0, 0))
  l1 : L 6 = true → ∀ W', Below W.heap.size W W' → Calls Tryz.prog 77 #[.agg #[.slice (some ⟨c 2, 0, none⟩) 3 3, .slice none 0 0]] W' fun e w' => e = .returned (.agg #[S k1, S v1]) ∧ Below W'.heap.size W' w'
  l2 : L 14 = true → ∀ W', Below W.heap.size W W' → Calls Tryz.prog 77 #[.agg #[.slice (some ⟨c 3, 0, none⟩) 4 4, .slice none 0 0]] W' fun e w' => e = .returned (.agg #[S k2, S v2]) ∧ Below W'.heap.size W' w'
  s : L 16 = true → W1.heap.size ≤ c 4 ∧ W.heap[c 4]? = some (.cells #[S k1, S v1, S k2, S v2] 30 (0, 0))
  p : L 17 = true → L 16 = true
theorem Kf.step {W1 : World} {e id : Int} {su k1 v1 k2 v2 : Bs} {c : Nat → Nat} {L : Nat → Bool} {W W2 : World} (h : Kf W1 e id su k1 v1 k2 v2 c L W) (hb : Below W.heap.size W W2) (i : Nat) (hi : i ∉ ([5, 6, 13, 14, 16, 17] : List Nat)) : Kf W1 e id su k1 v1 k2 v2 c (upd L i) W2 := by
  have u : ∀ k, k ∈ ([5, 6, 13, 14, 16, 17] : List Nat) → upd L i k = L k := fun k hk => upd_ne (fun q => hi (q ▸ hk))
  refine ⟨h.b.trans (hb.mono h.b.size), fun q => ?_, fun q => ?_, fun q W' hW' => ?_, fun q W' hW' => ?_, fun q => ?_, fun q => ?_⟩
  · rw [u 5 (by decide)] at q; exact (hb.block _ (lt_of_row (h.x q))).trans (h.x q)
  · rw [u 13 (by decide)] at q; exact (hb.block _ (lt_of_row (h.y q))).trans (h.y q)
  · rw [u 6 (by decide)] at q; exact h.l1 q W' (hb.trans (hW'.mono hb.size))
  · rw [u 14 (by decide)] at q; exact h.l2 q W' (hb.trans (hW'.mono hb.size))
  · rw [u 16 (by decide)] at q; exact ⟨(h.s q).1, (hb.block _ (lt_of_row (h.s q).2)).trans (h.s q).2⟩
  · rw [u 17 (by decide)] at q; rw [u 16 (by decide)]; exact h.p q
theorem Kf.box1 {W1 : World} {e id : Int} {su k1 v1 k2 v2 : Bs} {c : Nat → Nat} {L : Nat → Bool} {W W2 : World} (h : Kf W1 e id su k1 v1 k2 v2 c L W) (hb : Below W.heap.size W W2) (z : Nat) (hz : W2.heap[z]? = some (.cells #[I e, I id] 115 (0, 0))) : Kf W1 e id su k1 v1 k2 v2 (nwc c 0 z) (upd L 5) W2 := by
  refine ⟨h.b.trans (hb.mono h.b.size), fun q => ?_, fun q => ?_, fun q W' hW' => ?_, fun q W' hW' => ?_, fun q => ?_, fun q => ?_⟩
  · exact hz
  · rw [upd_ne (by decide)] at q; exact (hb.block _ (lt_of_row (h.y q))).trans (h.y q)
  · rw [upd_ne (by decide)] at q; exact h.l1 q W' (hb.trans (hW'.mono hb.size))
  · rw [upd_ne (by decide)] at q; exact h.l2 q W' (hb.trans (hW'.mono hb.size))
  · rw [upd_ne (by decide)] at q; exact ⟨(h.s q).1, (hb.block _ (lt_of_row (h.s q).2)).trans (h.s q).2⟩
  · rw [upd_ne (by decide)] at q ⊢; exact h.p q
theorem Kf.box2 {W1 : World} {e id : Int} {su k1 v1 k2 v2 : Bs} {c : Nat → Nat} {L : Nat → Bool} {W W2 : World} (h : Kf W1 e id su k1 v1 k2 v2 c L W) (hb : Below W.heap.size W W2) (z : Nat) (hz : W2.heap[z]? = some (.cells #[S su, I id] 120 (0, 0))) : Kf W1 e id su k1 v1 k2 v2 (nwc c 1 z) (upd L 13) W2 := by
  refine ⟨h.b.trans (hb.mono h.b.size), fun q => ?_, fun q => ?_, fun q W' hW' => ?_, fun q W' hW' => ?_, fun q => ?_, fun q => ?_⟩
  · rw [upd_ne (by decide)] at q; exact (hb.block _ (lt_of_row (h.x q))).trans (h.x q)
  · exact hz
  · rw [upd_ne (by decide)] at q; exact h.l1 q W' (hb.trans (hW'.mono hb.size))
  · rw [upd_ne (by decide)] at q; exact h.l2 q W' (hb.trans (hW'.mono hb.size))
  · rw [upd_ne (by decide)] at q; exact ⟨(h.s q).1, (hb.block _ (lt_of_row (h.s q).2)).trans (h.s q).2⟩
  · rw [upd_ne (by decide)] at q ⊢; exact h.p q
theorem Kf.lay1 {W1 : World} {e id : Int} {su k1 v1 k2 v2 : Bs} {c : Nat → Nat} {L : Nat → Bool} {W W2 : World} (h : Kf W1 e id su k1 v1 k2 v2 c L W) (hb : Below W.heap.size W W2) (z : Nat) (hz : ∀ W', Below W2.heap.size W2 W' → Calls Tryz.prog 77 #[.agg #[.slice (some ⟨z, 0, none⟩) 3 3, .slice none 0 0]] W' fun e w' => e = .returned (.agg #[S k1, S v1]) ∧ Below W'.heap.size W' w') : Kf W1 e id su k1 v1 k2 v2 (nwc c 2 z) (upd L 6) W2 := by
  refine ⟨h.b.trans (hb.mono h.b.size), fun q => ?_, fun q => ?_, fun q W' hW' => ?_, fun q W' hW' => ?_, fun q => ?_, fun q => ?_⟩
  · rw [upd_ne (by decide)] at q; exact (hb.block _ (lt_of_row (h.x q))).trans (h.x q)
  · rw [upd_ne (by decide)] at q; exact (hb.block _ (lt_of_row (h.y q))).trans (h.y q)
  · exact hz W' hW'
  · rw [upd_ne (by decide)] at q; exact h.l2 q W' (hb.trans (hW'.mono hb.size))
  · rw [upd_ne (by decide)] at q; exact ⟨(h.s q).1, (hb.block _ (lt_of_row (h.s q).2)).trans (h.s q).2⟩
  · rw [upd_ne (by decide)] at q ⊢; exact h.p q
theorem Kf.lay2 {W1 : World} {e id : Int} {su k1 v1 k2 v2 : Bs} {c : Nat → Nat} {L : Nat → Bool} {W W2 : World} (h : Kf W1 e id su k1 v1 k2 v2 c L W) (hb : Below W.heap.size W W2) (z : Nat) (hz : ∀ W', Below W2.heap.size W2 W' → Calls Tryz.prog 77 #[.agg #[.slice (some ⟨z, 0, none⟩) 4 4, .slice none 0 0]] W' fun e w' => e = .returned (.agg #[S k2, S v2]) ∧ Below W'.heap.size W' w') : Kf W1 e id su k1 v1 k2 v2 (nwc c 3 z) (upd L 14) W2 := by
  refine ⟨h.b.trans (hb.mono h.b.size), fun q => ?_, fun q => ?_, fun q W' hW' => ?_, fun q W' hW' => ?_, fun q => ?_, fun q => ?_⟩
  · rw [upd_ne (by decide)] at q; exact (hb.block _ (lt_of_row (h.x q))).trans (h.x q)
  · rw [upd_ne (by decide)] at q; exact (hb.block _ (lt_of_row (h.y q))).trans (h.y q)
  · rw [upd_ne (by decide)] at q; exact h.l1 q W' (hb.trans (hW'.mono hb.size))
  · exact hz W' hW'
  · rw [upd_ne (by decide)] at q; exact ⟨(h.s q).1, (hb.block _ (lt_of_row (h.s q).2)).trans (h.s q).2⟩
  · rw [upd_ne (by decide)] at q ⊢; exact h.p q
theorem Kf.sl {W1 : World} {e id : Int} {su k1 v1 k2 v2 : Bs} {c : Nat → Nat} {L : Nat → Bool} {W W2 : World} (h : Kf W1 e id su k1 v1 k2 v2 c L W) (hb : Below W.heap.size W W2) (z : Nat) (hzl : W1.heap.size ≤ z) (hz : W2.heap[z]? = some (.cells #[S k1, S v1, S k2, S v2] 30 (0, 0))) : Kf W1 e id su k1 v1 k2 v2 (nwc c 4 z) (upd L 16) W2 := by
  refine ⟨h.b.trans (hb.mono h.b.size), fun q => ?_, fun q => ?_, fun q W' hW' => ?_, fun q W' hW' => ?_, fun q => ?_, fun q => ?_⟩
  · rw [upd_ne (by decide)] at q; exact (hb.block _ (lt_of_row (h.x q))).trans (h.x q)
  · rw [upd_ne (by decide)] at q; exact (hb.block _ (lt_of_row (h.y q))).trans (h.y q)
  · rw [upd_ne (by decide)] at q; exact h.l1 q W' (hb.trans (hW'.mono hb.size))
  · rw [upd_ne (by decide)] at q; exact h.l2 q W' (hb.trans (hW'.mono hb.size))
  · exact ⟨hzl, hz⟩
  · simp [upd]
def OfF (B : Nat) (fa : Bool) (k1 v1 k2 v2 : Bs) (e : Ending) (w' : World) : Prop := if fa then ∃ p, B ≤ p ∧ e = .returned (.tuple #[.slice (some ⟨p, 0, none⟩) 2 2, I 0]) ∧ w'.heap[p]? = some (.cells #[S k1, S v1, S k2, S v2] 30 (0, 0)) else e = .returned (.tuple #[.slice none 0 0, I 140])
theorem OfFamily_any (id : Int) (cl su : Bs) (va : Option Addr) (vc : Nat) (sc : List Bs) (cr us idl ab gr ge to st en co : Int) (w : World) (h_cl : cl.length ≤ 9223372036854775807) (h_su : su.length ≤ 9223372036854775807) (hsc : Sts w va sc.length sc) (hsl : sc.length ≤ 140737488355000) (hln : Lns sc) : Calls Tryz.prog 21 #[.agg #[I id, S cl, S su, .slice va sc.length vc, I cr, I us, I idl, I ab, I gr, I ge, I to, I st, I en, I co]] w fun e w' => OfF w.heap.size (famOK id cl su sc cr us idl ab gr ge to st en co) (cat (lx (endKl (endV cr us idl ab st en) id)) 3) (cat (lx (endVl (endV cr us idl ab st en) id)) 0) (cat (lx (subKl su id)) 4) (cat (lx (subVl su id)) 0) e w' ∧ Below w.heap.size w w' := by
  have hb0 : Below w.heap.size w (w.alloc (.cells #[I id, S cl, S su, .slice va sc.length vc, I cr, I us, I idl, I ab, I gr, I ge, I to, I st, I en, I co] 40)) := (Below.refl _ w).alloc (Nat.le_refl _) _
  have hT := heap_alloc_new w (.cells #[I id, S cl, S su, .slice va sc.length vc, I cr, I us, I idl, I ab, I gr, I ge, I to, I st, I en, I co] 40)
  have HRt := hide (rightFamily_any id cl su va vc sc cr us idl ab gr ge to st en co (w.alloc (.cells #[I id, S cl, S su, .slice va sc.length vc, I cr, I us, I idl, I ab, I gr, I ge, I to, I st, I en, I co] 40)) h_cl h_su (Sts.bel hsc hb0) hsl hln)
  generalize hW1 : w.alloc (.cells #[I id, S cl, S su, .slice va sc.length vc, I cr, I us, I idl, I ab, I gr, I ge, I to, I st, I en, I co] 40) = W1 at *
  have c0 : W1.cell? ⟨w.heap.size, 0, none⟩ = some (I id) := by unfold World.cell?; rw [hT]; rfl
  have c1 : W1.cell? ⟨w.heap.size, 1, none⟩ = some (S cl) := by unfold World.cell?; rw [hT]; rfl
  have c2 : W1.cell? ⟨w.heap.size, 2, none⟩ = some (S su) := by unfold World.cell?; rw [hT]; rfl
  have c3 : W1.cell? ⟨w.heap.size, 3, none⟩ = some (.slice va sc.length vc) := by unfold World.cell?; rw [hT]; rfl
  have c4 : W1.cell? ⟨w.heap.size, 4, none⟩ = some (I cr) := by unfold World.cell?; rw [hT]; rfl
  have c5 : W1.cell? ⟨w.heap.size, 5, none⟩ = some (I us) := by unfold World.cell?; rw [hT]; rfl
  have c6 : W1.cell? ⟨w.heap.size, 6, none⟩ = some (I idl) := by unfold World.cell?; rw [hT]; rfl
  have c7 : W1.cell? ⟨w.heap.size, 7, none⟩ = some (I ab) := by unfold World.cell?; rw [hT]; rfl
  have c8 : W1.cell? ⟨w.heap.size, 8, none⟩ = some (I gr) := by unfold World.cell?; rw [hT]; rfl
  have c9 : W1.cell? ⟨w.heap.size, 9, none⟩ = some (I ge) := by unfold World.cell?; rw [hT]; rfl
  have c10 : W1.cell? ⟨w.heap.size, 10, none⟩ = some (I to) := by unfold World.cell?; rw [hT]; rfl
  have c11 : W1.cell? ⟨w.heap.size, 11, none⟩ = some (I st) := by unfold World.cell?; rw [hT]; rfl
  have c12 : W1.cell? ⟨w.heap.size, 12, none⟩ = some (I en) := by unfold World.cell?; rw [hT]; rfl
  have c13 : W1.cell? ⟨w.heap.size, 13, none⟩ = some (I co) := by unfold World.cell?; rw [hT]; rfl
  have HT := hide hT
  have HB := hide hb0
  clear hT hb0
  go_enter Tryz.func21, Tryz.ntmps21
  go_wp2_with fail
  refine (unhide HRt).mono ?_
  rintro e w2 ⟨rfl, hw2⟩
  have HB2 := hide ((unhide HB).trans (hw2.mono (unhide HB).size))
  have hT2 := (hw2.block _ (lt_of_row (unhide HT))).trans (unhide HT)
  clear hw2 HRt HB HT c0 c1 c2 c3 c4 c5 c6 c7 c8 c9 c10 c11 c12 c13 hW1
  cases hok : famOK id cl su sc cr us idl ab gr ge to st en co
  · clear hT2
    go_wp2
    go_ret2
    exact ⟨by rw [hok]; rfl, unhide HB2⟩
  · have h1 := fam_end hok
    have h2 := fam_sub hok
    have hc := fun (W : World) (hW : Below w2.heap.size w2 W) => (hW.block _ (lt_of_row hT2)).trans hT2
    go_wp2_with fail
    refine rof3 w.heap.size (.agg #[I id, S cl, S su, .slice va sc.length vc, I cr, I us, I idl, I ab, I gr, I ge, I to, I st, I en, I co]) (endV cr us idl ab st en) id su (cat (lx (endKl (endV cr us idl ab st en) id)) 3) (cat (lx (endVl (endV cr us idl ab st en) id)) 0) (cat (lx (subKl su id)) 4) (cat (lx (subVl su id)) 0) rfl (by rfl) (by rfl) _ w2 (by simp) rfl (Kf w2 (endV cr us idl ab st en) id su (cat (lx (endKl (endV cr us idl ab st en) id)) 3) (cat (lx (endVl (endV cr us idl ab st en) id)) 0) (cat (lx (subKl su id)) 4) (cat (lx (subVl su id)) 0)) ⟨fun _ => 0, (Below.refl _ _).drew, (fun e => by cases e), (fun e => by cases e), (fun e => by cases e), (fun e => by cases e), (fun e => by cases e), (fun e => by cases e)⟩ (fun i hi c L W hW => hW.step (Below.refl _ _) i (fun q => hi (by simp at q ⊢; omega)))
      (fun c L W hW _ => s_ldr (T := 40) (n := 14) (fun _ => by kernel_rfl) (fun _ => by kernel_rfl) (hc W hW.b) _ rfl rfl)
      (fun c L W hW _ _ => (End_any id cl su va vc sc cr us idl ab gr ge to st en co W).mono fun e w' q => ⟨c, fun _ _ => rfl, q.1, hW.step q.2 1 (by decide)⟩)
      (fun c L W hW _ _ => s_ld (T := 3) (fun _ => by kernel_rfl) (by unfold World.cell?; rw [hc W hW.b]; rfl))
      (fun c L W hW hL _ => ⟨nwc c 0 W.heap.size, W.alloc (.cells #[I (endV cr us idl ab st en), I id] 115), same0 _ _ _ _ _ _ _ _ _ c _ L hL, by kernel_rfl, hW.box1 ((Below.refl _ _).alloc (Nat.le_refl _) _) _ (heap_alloc_new _ _)⟩)
      (fun c L W hW hL h5 => (lp76 _ _ (c 0) W (hW.x h5) h1).mono fun e w' q => ?_)
      (fun c L W hW hL h6 => (hW.l1 h6 W (Below.refl _ _)).mono fun e w' q => ⟨c, fun _ _ => rfl, q.1, hW.step q.2 7 (by decide)⟩)
      (fun c L W hW _ _ => s_ld (T := 9) (fun _ => by kernel_rfl) (by unfold World.cell?; rw [hc W hW.b]; rfl))
      (fun c L W hW _ _ => s_ld (T := 3) (fun _ => by kernel_rfl) (by unfold World.cell?; rw [hc W hW.b]; rfl))
      (fun c L W hW hL _ => ⟨nwc c 1 W.heap.size, W.alloc (.cells #[S su, I id] 120), same1 _ _ _ _ _ _ _ _ _ c _ L hL, by kernel_rfl, hW.box2 ((Below.refl _ _).alloc (Nat.le_refl _) _) _ (heap_alloc_new _ _)⟩)
      (fun c L W hW hL h13 => (lp78 _ _ (c 1) W (hW.y h13) h2).mono fun e w' q => ?_)
      (fun c L W hW hL h14 => (hW.l2 h14 W (Below.refl _ _)).mono fun e w' q => ⟨c, fun _ _ => rfl, q.1, hW.step q.2 15 (by decide)⟩)
      (fun c L W hW hL _ _ => ⟨nwc c 4 W.heap.size, W.alloc (.cells #[S (cat (lx (endKl (endV cr us idl ab st en) id)) 3), S (cat (lx (endVl (endV cr us idl ab st en) id)) 0), S (cat (lx (subKl su id)) 4), S (cat (lx (subVl su id)) 0)] 30), same4 _ _ _ _ _ _ _ _ _ c _ L hL hW.p, by kernel_rfl, hW.sl ((Below.refl _ _).alloc (Nat.le_refl _) _) _ hW.b.size (heap_alloc_new _ _)⟩)
      (fun c L W hW hL h16 => ⟨hW.b, fun q => hW.x (by rwa [upd_ne (by decide)] at q), fun q => hW.y (by rwa [upd_ne (by decide)] at q), fun q => hW.l1 (by rwa [upd_ne (by decide)] at q), fun q => hW.l2 (by rwa [upd_ne (by decide)] at q), fun q => hW.s h16, fun _ => by rwa [upd_ne (by decide)]⟩) ?_
    · obtain ⟨d, q1, q2, q3⟩ := q
      exact ⟨nwc c 2 (d 0), same2 _ _ _ _ _ _ _ _ _ c _ L hL, q1, hW.lay1 q2 (d 0) q3⟩
    · obtain ⟨d, q1, q2, q3⟩ := q
      exact ⟨nwc c 3 (d 0), same3 _ _ _ _ _ _ _ _ _ c _ L hL, q1, hW.lay2 q2 (d 0) q3⟩
    · intro c L W hall hW
      have hs := hW.s (hall 16 (by decide))
      have hs1 : w.heap.size ≤ c 4 := Nat.le_trans (unhide HB2).size hs.1
      have HW := hide ((unhide HB2).trans (hW.b.mono (unhide HB2).size))
      simp only [Act.put, List.setIfInBounds_toArray, List.set_cons_succ, List.set_cons_zero]
      clear hW hall hc hT2 HB2 h1 h2
      go_wp2
      go_ret2
      exact ⟨by rw [hok]; exact ⟨c 4, hs1, rfl, hs.2⟩, unhide HW⟩
end Go.Proofs.YtpidmpefodnffaaGreatDoor.ofz
