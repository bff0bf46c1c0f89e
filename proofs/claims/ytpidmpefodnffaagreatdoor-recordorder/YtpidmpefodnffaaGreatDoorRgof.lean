import Derived.Test.YtpidmpefodnffaaGreatDoorEnda
import Derived.Test.YtpidmpefodnffaaGreatDoorLpa
namespace Go.Proofs.YtpidmpefodnffaaGreatDoor
open Go.RowKit
def vrof3 (X : Nat) (F : Value) (en ii : Int) (su k1 v1 k2 v2 : Bs) (c : (Nat → Nat)) (i : Nat) : Value := match i with
  | 0 => F
  | 1 => (I en)
  | 2 => (.pointer (some ⟨X, 0, none⟩))
  | 3 => (I ii)
  | 4 => (.agg #[I en, I ii])
  | 5 => (.pointer (some ⟨c 0, 0, none⟩))
  | 6 => (.agg #[.slice (some ⟨c 2, 0, none⟩) 3 3, .slice none 0 0])
  | 7 => (.agg #[S k1, S v1])
  | 8 => (.pointer (some ⟨X, 2, none⟩))
  | 9 => (S su)
  | 10 => (.pointer (some ⟨X, 0, none⟩))
  | 11 => (I ii)
  | 12 => (.agg #[S su, I ii])
  | 13 => (.pointer (some ⟨c 1, 0, none⟩))
  | 14 => (.agg #[.slice (some ⟨c 3, 0, none⟩) 4 4, .slice none 0 0])
  | 15 => (.agg #[S k2, S v2])
  | 16 => (.slice (some ⟨c 4, 0, none⟩) 2 2)
  | 17 => (.slice (some ⟨c 4, 0, none⟩) 2 2)
  | 18 => (.int .i64 0)
  | _ => undef
def rof3T : List (Op × Option Tmp × Option (Nat × Bool)) := [
  (.load 40 (.tmp 1), some 7, none),
  (.call { callee := .value (.func 23), args := #[(.tmp 7)], argTypes := #[40] }, some 8, none),
  (.fieldAddr 40 (.tmp 1) 0, some 9, none),
  (.load 3 (.tmp 9), some 10, none),
  (.build 115 #[(0, (.tmp 8)), (1, (.tmp 10))], some 11, none),
  (.box 115 (.tmp 11), some 12, none),
  (.call { callee := .value (.func 76), args := #[(.tmp 12)], argTypes := #[113] }, some 13, none),
  (.call { callee := .value (.func 77), args := #[(.tmp 13)], argTypes := #[111] }, some 14, none),
  (.fieldAddr 40 (.tmp 1) 2, some 15, none),
  (.load 9 (.tmp 15), some 16, none),
  (.fieldAddr 40 (.tmp 1) 0, some 17, none),
  (.load 3 (.tmp 17), some 18, none),
  (.build 120 #[(0, (.tmp 16)), (1, (.tmp 18))], some 19, none),
  (.box 120 (.tmp 19), some 20, none),
  (.call { callee := .value (.func 78), args := #[(.tmp 20)], argTypes := #[118] }, some 21, none),
  (.call { callee := .value (.func 77), args := #[(.tmp 21)], argTypes := #[111] }, some 22, none),
  (.buildSlice 43 2 #[(0, (.tmp 14)), (1, (.tmp 22))], some 23, none),
  (.assign (.tmp 23), some 2, none),
  (.assign (.const (.int .i64 0)), some 3, none)]
def rof3D : List (Nat × Nat) := [(1, 0), (3, 2), (4, 1), (4, 3), (5, 4), (6, 5), (7, 6), (9, 8), (11, 10), (12, 9), (12, 11), (13, 12), (14, 13), (15, 14), (16, 7), (16, 15), (17, 16)]
set_option maxHeartbeats 4000000 in
theorem rof3 {ops : Array Oper} {id : Nat} {Q : Exit → Act → World → Prop} (X : Nat) (F : Value) (en ii : Int) (su k1 v1 k2 v2 : Bs) (htab : ops.toList.map (fun o => (o.op, o.dst, o.guard)) = rof3T) (hdep : deplB rof3D ops = true) (hac : acB ops = true)
    (a0 : Act) (w : World) (hsz : 24 ≤ a0.tmps.size) (o1 : a0.tmps[1]? = some (.pointer (some ⟨X, 0, none⟩)))
    (Wd : (Nat → Nat) → (Nat → Bool) → World → Prop) (h0 : ∃ c, Wd c (fun _ => false) w.drew) (hpure : ∀ i, i ∉ ([1, 5, 6, 7, 13, 14, 15, 16, 17] : List Nat) → ∀ c L W, Wd c L W → Wd c (upd L i) W)
    (r0 : ∀ c L W, Wd c L W → L 0 = false → (Instr.loadAt 40 (.pointer (some ⟨X, 0, none⟩))).run Tryz.prog W = .ok F W)
    (r1 : ∀ c L W, Wd c L W → L 1 = false → L 0 = true → Calls Tryz.prog 23 #[F] W fun eg w' => ∃ c', (∀ j, L j = true → vrof3 X F en ii su k1 v1 k2 v2 c' j = vrof3 X F en ii su k1 v1 k2 v2 c j) ∧ eg = .returned (vrof3 X F en ii su k1 v1 k2 v2 c' 1) ∧ Wd c' (upd L 1) w')
    (r3 : ∀ c L W, Wd c L W → L 3 = false → L 2 = true → (Instr.loadAt 3 (.pointer (some ⟨X, 0, none⟩))).run Tryz.prog W = .ok (I ii) W)
    (r5 : ∀ c L W, Wd c L W → L 5 = false → L 4 = true → ∃ c' W', (∀ j, L j = true → vrof3 X F en ii su k1 v1 k2 v2 c' j = vrof3 X F en ii su k1 v1 k2 v2 c j) ∧ (Instr.box 115 (.agg #[I en, I ii])).run Tryz.prog W = .ok (vrof3 X F en ii su k1 v1 k2 v2 c' 5) W' ∧ Wd c' (upd L 5) W')
    (r6 : ∀ c L W, Wd c L W → L 6 = false → L 5 = true → Calls Tryz.prog 76 #[(.pointer (some ⟨c 0, 0, none⟩))] W fun eg w' => ∃ c', (∀ j, L j = true → vrof3 X F en ii su k1 v1 k2 v2 c' j = vrof3 X F en ii su k1 v1 k2 v2 c j) ∧ eg = .returned (vrof3 X F en ii su k1 v1 k2 v2 c' 6) ∧ Wd c' (upd L 6) w')
    (r7 : ∀ c L W, Wd c L W → L 7 = false → L 6 = true → Calls Tryz.prog 77 #[(.agg #[.slice (some ⟨c 2, 0, none⟩) 3 3, .slice none 0 0])] W fun eg w' => ∃ c', (∀ j, L j = true → vrof3 X F en ii su k1 v1 k2 v2 c' j = vrof3 X F en ii su k1 v1 k2 v2 c j) ∧ eg = .returned (vrof3 X F en ii su k1 v1 k2 v2 c' 7) ∧ Wd c' (upd L 7) w')
    (r9 : ∀ c L W, Wd c L W → L 9 = false → L 8 = true → (Instr.loadAt 9 (.pointer (some ⟨X, 2, none⟩))).run Tryz.prog W = .ok (S su) W)
    (r11 : ∀ c L W, Wd c L W → L 11 = false → L 10 = true → (Instr.loadAt 3 (.pointer (some ⟨X, 0, none⟩))).run Tryz.prog W = .ok (I ii) W)
    (r13 : ∀ c L W, Wd c L W → L 13 = false → L 12 = true → ∃ c' W', (∀ j, L j = true → vrof3 X F en ii su k1 v1 k2 v2 c' j = vrof3 X F en ii su k1 v1 k2 v2 c j) ∧ (Instr.box 120 (.agg #[S su, I ii])).run Tryz.prog W = .ok (vrof3 X F en ii su k1 v1 k2 v2 c' 13) W' ∧ Wd c' (upd L 13) W')
    (r14 : ∀ c L W, Wd c L W → L 14 = false → L 13 = true → Calls Tryz.prog 78 #[(.pointer (some ⟨c 1, 0, none⟩))] W fun eg w' => ∃ c', (∀ j, L j = true → vrof3 X F en ii su k1 v1 k2 v2 c' j = vrof3 X F en ii su k1 v1 k2 v2 c j) ∧ eg = .returned (vrof3 X F en ii su k1 v1 k2 v2 c' 14) ∧ Wd c' (upd L 14) w')
    (r15 : ∀ c L W, Wd c L W → L 15 = false → L 14 = true → Calls Tryz.prog 77 #[(.agg #[.slice (some ⟨c 3, 0, none⟩) 4 4, .slice none 0 0])] W fun eg w' => ∃ c', (∀ j, L j = true → vrof3 X F en ii su k1 v1 k2 v2 c' j = vrof3 X F en ii su k1 v1 k2 v2 c j) ∧ eg = .returned (vrof3 X F en ii su k1 v1 k2 v2 c' 15) ∧ Wd c' (upd L 15) w')
    (r16 : ∀ c L W, Wd c L W → L 16 = false → L 7 = true → L 15 = true → ∃ c' W', (∀ j, L j = true → vrof3 X F en ii su k1 v1 k2 v2 c' j = vrof3 X F en ii su k1 v1 k2 v2 c j) ∧ (Instr.buildSlice 43 2 #[(0, (.agg #[S k1, S v1])), (1, (.agg #[S k2, S v2]))]).run Tryz.prog W = .ok (vrof3 X F en ii su k1 v1 k2 v2 c' 16) W' ∧ Wd c' (upd L 16) W')
    (r17 : ∀ c L W, Wd c L W → L 17 = false → L 16 = true → Wd c (upd L 17) W)
    (hend : ∀ c L W, (∀ i, i < 19 → L i = true) → Wd c L W → Q .normal (((((((((((((((((((a0.put (some 7) F).put (some 8) (I en)).put (some 9) (.pointer (some ⟨X, 0, none⟩))).put (some 10) (I ii)).put (some 11) (.agg #[I en, I ii])).put (some 12) (.pointer (some ⟨c 0, 0, none⟩))).put (some 13) (.agg #[.slice (some ⟨c 2, 0, none⟩) 3 3, .slice none 0 0])).put (some 14) (.agg #[S k1, S v1])).put (some 15) (.pointer (some ⟨X, 2, none⟩))).put (some 16) (S su)).put (some 17) (.pointer (some ⟨X, 0, none⟩))).put (some 18) (I ii)).put (some 19) (.agg #[S su, I ii])).put (some 20) (.pointer (some ⟨c 1, 0, none⟩))).put (some 21) (.agg #[.slice (some ⟨c 3, 0, none⟩) 4 4, .slice none 0 0])).put (some 22) (.agg #[S k2, S v2])).put (some 23) (.slice (some ⟨c 4, 0, none⟩) 2 2)).put (some 2) (.slice (some ⟨c 4, 0, none⟩) 2 2)).put (some 3) (.int .i64 0)) W) : (Code.region id ops true).wp Tryz.prog Q a0 w := by
  let val : (Nat → Nat) → Nat → Value := vrof3 X F en ii su k1 v1 k2 v2
  have hosz : ops.size = 19 := by
    have := congrArg List.length htab
    simpa [rof3T] using this
  have hds : ∀ i s, (rof3T[i]?).bind (·.2.1) = some s → dstOf ops i = some s := fun i s hi => by rw [tab_dst htab, hi]
  have hdisB : disL rof3T = true := by rfl
  have hdis := disL_of htab hdisB
  have hold : ∀ s, rof3T.all (fun x => !(x.2.1 == some s)) = true → (List.range ops.size).all (fun j => !(dstOf ops j == some s)) = true := fun s h => holdL htab s h
  refine region_detX val Wd (hac_of hac) hdis h0 ?_ ?_
  rotate_left
  · intro c L W hall hW
    have := hend c L W (by rw [← hosz]; exact hall) hW
    have e : frm ops a0 (val c) (fun _ => true) ops.size = (((((((((((((((((((a0.put (some 7) F).put (some 8) (I en)).put (some 9) (.pointer (some ⟨X, 0, none⟩))).put (some 10) (I ii)).put (some 11) (.agg #[I en, I ii])).put (some 12) (.pointer (some ⟨c 0, 0, none⟩))).put (some 13) (.agg #[.slice (some ⟨c 2, 0, none⟩) 3 3, .slice none 0 0])).put (some 14) (.agg #[S k1, S v1])).put (some 15) (.pointer (some ⟨X, 2, none⟩))).put (some 16) (S su)).put (some 17) (.pointer (some ⟨X, 0, none⟩))).put (some 18) (I ii)).put (some 19) (.agg #[S su, I ii])).put (some 20) (.pointer (some ⟨c 1, 0, none⟩))).put (some 21) (.agg #[.slice (some ⟨c 3, 0, none⟩) 4 4, .slice none 0 0])).put (some 22) (.agg #[S k2, S v2])).put (some 23) (.slice (some ⟨c 4, 0, none⟩) 2 2)).put (some 2) (.slice (some ⟨c 4, 0, none⟩) 2 2)).put (some 3) (.int .i64 0)) := by
      rw [hosz]
      simp only [frm, if_true]
      rw [tab_dst htab 0, tab_dst htab 1, tab_dst htab 2, tab_dst htab 3, tab_dst htab 4, tab_dst htab 5, tab_dst htab 6, tab_dst htab 7, tab_dst htab 8, tab_dst htab 9, tab_dst htab 10, tab_dst htab 11, tab_dst htab 12, tab_dst htab 13, tab_dst htab 14, tab_dst htab 15, tab_dst htab 16, tab_dst htab 17, tab_dst htab 18]
      rfl
    rw [e]
    exact this
  intro i o ho c L a w' hL hd ha hW
  have hi : i < 19 := by rw [← hosz]; exact (Array.getElem?_eq_some_iff.1 ho).1
  have G : ∀ j s : Nat, (rof3T[j]?).bind (·.2.1) = some s → s < 24 → (i, j) ∈ rof3D → a.tmps[s]? = some (val c j) := fun j s h1 h2 h3 => frm_at hdis ha j s (hds j s h1) (by omega) (depl_of hdep i j h3 ho hd)
  match i, ho, hL, hi, G with
  | 0, ho, hL, _, G =>
    obtain ⟨hop, hgd⟩ := tab3 htab ho rfl
    have h0 := frm_old ha 1 _ (hold 1 rfl) o1
    exact (dXr ho hgd (hpure 0 (by decide) c L w' hW) (g_load hop (eval_of h0) (r0 c L w' hW hL)))
  | 1, ho, hL, _, G =>
    obtain ⟨hop, hgd⟩ := tab3 htab ho rfl
    have h0 := G 0 7 rfl (by decide) (by decide)
    refine doesX_call ho (wanted_none hgd) 23 #[F] ?_ (r1 c L w' hW hL (depl_of hdep 1 0 (by decide) ho hd))
    rw [run_calls Tryz.func23 (by kernel_rfl) rfl _ _ _ _ hop rfl]
    simp only [List.map_toArray, List.map_cons, List.map_nil, eval_of h0]
    all_goals rfl
  | 2, ho, hL, _, G =>
    obtain ⟨hop, hgd⟩ := tab3 htab ho rfl
    have h0 := frm_old ha 1 _ (hold 1 rfl) o1
    exact (dXr ho hgd (hpure 2 (by decide) c L w' hW) (g_field hop (eval_of h0) (by kernel_rfl)))
  | 3, ho, hL, _, G =>
    obtain ⟨hop, hgd⟩ := tab3 htab ho rfl
    have h0 := G 2 9 rfl (by decide) (by decide)
    exact (dXr ho hgd (hpure 3 (by decide) c L w' hW) (g_load hop (eval_of h0) (r3 c L w' hW hL (depl_of hdep 3 2 (by decide) ho hd))))
  | 4, ho, hL, _, G =>
    obtain ⟨hop, hgd⟩ := tab3 htab ho rfl
    have h0 := G 1 8 rfl (by decide) (by decide)
    have h1 := G 3 10 rfl (by decide) (by decide)
    exact (dXr ho hgd (hpure 4 (by decide) c L w' hW) (g_build hop (by simp only [List.map_toArray, List.map_cons, List.map_nil, eval_of h0, eval_of h1]; first | done | rfl) (by kernel_rfl)))
  | 5, ho, hL, _, G =>
    obtain ⟨hop, hgd⟩ := tab3 htab ho rfl
    have h0 := G 4 11 rfl (by decide) (by decide)
    obtain ⟨c', W', q0, q1, q2⟩ := r5 c L w' hW hL (depl_of hdep 5 4 (by decide) ho hd)
    exact doesX_runw ho (wanted_none hgd) c' q0 q2 (g_box hop (eval_of h0) q1)
  | 6, ho, hL, _, G =>
    obtain ⟨hop, hgd⟩ := tab3 htab ho rfl
    have h0 := G 5 12 rfl (by decide) (by decide)
    refine doesX_call ho (wanted_none hgd) 76 #[(.pointer (some ⟨c 0, 0, none⟩))] ?_ (r6 c L w' hW hL (depl_of hdep 6 5 (by decide) ho hd))
    rw [run_calls Tryz.func76 (by kernel_rfl) rfl _ _ _ _ hop rfl]
    simp only [List.map_toArray, List.map_cons, List.map_nil, eval_of h0]
    all_goals rfl
  | 7, ho, hL, _, G =>
    obtain ⟨hop, hgd⟩ := tab3 htab ho rfl
    have h0 := G 6 13 rfl (by decide) (by decide)
    refine doesX_call ho (wanted_none hgd) 77 #[(.agg #[.slice (some ⟨c 2, 0, none⟩) 3 3, .slice none 0 0])] ?_ (r7 c L w' hW hL (depl_of hdep 7 6 (by decide) ho hd))
    rw [run_calls Tryz.func77 (by kernel_rfl) rfl _ _ _ _ hop rfl]
    simp only [List.map_toArray, List.map_cons, List.map_nil, eval_of h0]
    all_goals rfl
  | 8, ho, hL, _, G =>
    obtain ⟨hop, hgd⟩ := tab3 htab ho rfl
    have h0 := frm_old ha 1 _ (hold 1 rfl) o1
    exact (dXr ho hgd (hpure 8 (by decide) c L w' hW) (g_field hop (eval_of h0) (by kernel_rfl)))
  | 9, ho, hL, _, G =>
    obtain ⟨hop, hgd⟩ := tab3 htab ho rfl
    have h0 := G 8 15 rfl (by decide) (by decide)
    exact (dXr ho hgd (hpure 9 (by decide) c L w' hW) (g_load hop (eval_of h0) (r9 c L w' hW hL (depl_of hdep 9 8 (by decide) ho hd))))
  | 10, ho, hL, _, G =>
    obtain ⟨hop, hgd⟩ := tab3 htab ho rfl
    have h0 := frm_old ha 1 _ (hold 1 rfl) o1
    exact (dXr ho hgd (hpure 10 (by decide) c L w' hW) (g_field hop (eval_of h0) (by kernel_rfl)))
  | 11, ho, hL, _, G =>
    obtain ⟨hop, hgd⟩ := tab3 htab ho rfl
    have h0 := G 10 17 rfl (by decide) (by decide)
    exact (dXr ho hgd (hpure 11 (by decide) c L w' hW) (g_load hop (eval_of h0) (r11 c L w' hW hL (depl_of hdep 11 10 (by decide) ho hd))))
  | 12, ho, hL, _, G =>
    obtain ⟨hop, hgd⟩ := tab3 htab ho rfl
    have h0 := G 9 16 rfl (by decide) (by decide)
    have h1 := G 11 18 rfl (by decide) (by decide)
    exact (dXr ho hgd (hpure 12 (by decide) c L w' hW) (g_build hop (by simp only [List.map_toArray, List.map_cons, List.map_nil, eval_of h0, eval_of h1]; first | done | rfl) (by kernel_rfl)))
  | 13, ho, hL, _, G =>
    obtain ⟨hop, hgd⟩ := tab3 htab ho rfl
    have h0 := G 12 19 rfl (by decide) (by decide)
    obtain ⟨c', W', q0, q1, q2⟩ := r13 c L w' hW hL (depl_of hdep 13 12 (by decide) ho hd)
    exact doesX_runw ho (wanted_none hgd) c' q0 q2 (g_box hop (eval_of h0) q1)
  | 14, ho, hL, _, G =>
    obtain ⟨hop, hgd⟩ := tab3 htab ho rfl
    have h0 := G 13 20 rfl (by decide) (by decide)
    refine doesX_call ho (wanted_none hgd) 78 #[(.pointer (some ⟨c 1, 0, none⟩))] ?_ (r14 c L w' hW hL (depl_of hdep 14 13 (by decide) ho hd))
    rw [run_calls Tryz.func78 (by kernel_rfl) rfl _ _ _ _ hop rfl]
    simp only [List.map_toArray, List.map_cons, List.map_nil, eval_of h0]
    all_goals rfl
  | 15, ho, hL, _, G =>
    obtain ⟨hop, hgd⟩ := tab3 htab ho rfl
    have h0 := G 14 21 rfl (by decide) (by decide)
    refine doesX_call ho (wanted_none hgd) 77 #[(.agg #[.slice (some ⟨c 3, 0, none⟩) 4 4, .slice none 0 0])] ?_ (r15 c L w' hW hL (depl_of hdep 15 14 (by decide) ho hd))
    rw [run_calls Tryz.func77 (by kernel_rfl) rfl _ _ _ _ hop rfl]
    simp only [List.map_toArray, List.map_cons, List.map_nil, eval_of h0]
    all_goals rfl
  | 16, ho, hL, _, G =>
    obtain ⟨hop, hgd⟩ := tab3 htab ho rfl
    have h0 := G 7 14 rfl (by decide) (by decide)
    have h1 := G 15 22 rfl (by decide) (by decide)
    obtain ⟨c', W', q0, q1, q2⟩ := r16 c L w' hW hL (depl_of hdep 16 7 (by decide) ho hd) (depl_of hdep 16 15 (by decide) ho hd)
    exact doesX_runw ho (wanted_none hgd) c' q0 q2 (g_bs hop (by simp only [List.map_toArray, List.map_cons, List.map_nil, eval_of h0, eval_of h1]; first | done | rfl) q1)
  | 17, ho, hL, _, G =>
    obtain ⟨hop, hgd⟩ := tab3 htab ho rfl
    have h0 := G 16 23 rfl (by decide) (by decide)
    exact (dXr ho hgd (r17 c L w' hW hL (depl_of hdep 17 16 (by decide) ho hd)) (by rw [run_assign _ _ _ hop]; exact congrArg (fun v => Result.ok (Next.value v) w') (eval_of h0)))
  | 18, ho, hL, _, G =>
    obtain ⟨hop, hgd⟩ := tab3 htab ho rfl
    exact (dXr ho hgd (hpure 18 (by decide) c L w' hW) (by rw [run_assign _ _ _ hop]; exact congrArg (fun v => Result.ok (Next.value v) w') rfl))
  | (i + 19), ho, hL, hi, _ => exact absurd hi (by omega)
end Go.Proofs.YtpidmpefodnffaaGreatDoor
