import Derived.Test.YtpidmpefodnffaaGreatDoorZfde
namespace Go.Proofs.YtpidmpefodnffaaGreatDoor
open Go.RowKit
def vrpr77 (X _R : Nat) (a1 a2 : Option Addr) (n1 n2 : Nat) (k v : Bs) (_c : Unit) (i : Nat) : Value := match i with
  | 0 => (.pointer (some ⟨X, 0, none⟩))
  | 1 => (.slice a1 n1 n1)
  | 2 => (S k)
  | 3 => (.pointer (some ⟨X, 1, none⟩))
  | 4 => (.slice a2 n2 n2)
  | 5 => (S v)
  | 6 => (.agg #[S k, S v])
  | 7 => undef
  | _ => undef
def rpr77T : List (Op × Option Tmp × Option (Nat × Bool)) := [
  (.fieldAddr 111 (.tmp 1) 0, some 3, none),
  (.load 109 (.tmp 3), some 4, none),
  (.call { callee := .value (.func 117), args := #[(.tmp 4)], argTypes := #[109] }, some 5, none),
  (.fieldAddr 111 (.tmp 1) 1, some 6, none),
  (.load 109 (.tmp 6), some 7, none),
  (.call { callee := .value (.func 117), args := #[(.tmp 7)], argTypes := #[109] }, some 8, none),
  (.build 30 #[(0, (.tmp 5)), (1, (.tmp 8))], some 9, none),
  (.store 30 (.tmp 2) (.tmp 9), none, none)]
def rpr77D : List (Nat × Nat) := [(1, 0), (2, 1), (4, 3), (5, 4), (6, 2), (6, 5), (7, 6)]
set_option maxHeartbeats 4000000 in
theorem rpr77 {ops : Array Oper} {id : Nat} {Q : Exit → Act → World → Prop} (X R : Nat) (a1 a2 : Option Addr) (n1 n2 : Nat) (k v : Bs) (htab : ops.toList.map (fun o => (o.op, o.dst, o.guard)) = rpr77T) (hdep : deplB rpr77D ops = true) (hac : acB ops = true)
    (a0 : Act) (w : World) (hsz : 10 ≤ a0.tmps.size) (o1 : a0.tmps[1]? = some (.pointer (some ⟨X, 0, none⟩))) (o2 : a0.tmps[2]? = some (.pointer (some ⟨R, 0, none⟩)))
    (Wd : Unit → (Nat → Bool) → World → Prop) (h0 : ∃ c, Wd c (fun _ => false) w.drew) (hpure : ∀ i, i ∉ ([2, 5, 7] : List Nat) → ∀ c L W, Wd c L W → Wd c (upd L i) W)
    (r1 : ∀ c L W, Wd c L W → L 1 = false → L 0 = true → (Instr.loadAt 109 (.pointer (some ⟨X, 0, none⟩))).run Tryz.prog W = .ok (.slice a1 n1 n1) W)
    (r2 : ∀ c L W, Wd c L W → L 2 = false → L 1 = true → Calls Tryz.prog 117 #[(.slice a1 n1 n1)] W fun eg w' => ∃ c', (∀ j, L j = true → vrpr77 X R a1 a2 n1 n2 k v c' j = vrpr77 X R a1 a2 n1 n2 k v c j) ∧ eg = .returned (vrpr77 X R a1 a2 n1 n2 k v c' 2) ∧ Wd c' (upd L 2) w')
    (r4 : ∀ c L W, Wd c L W → L 4 = false → L 3 = true → (Instr.loadAt 109 (.pointer (some ⟨X, 1, none⟩))).run Tryz.prog W = .ok (.slice a2 n2 n2) W)
    (r5 : ∀ c L W, Wd c L W → L 5 = false → L 4 = true → Calls Tryz.prog 117 #[(.slice a2 n2 n2)] W fun eg w' => ∃ c', (∀ j, L j = true → vrpr77 X R a1 a2 n1 n2 k v c' j = vrpr77 X R a1 a2 n1 n2 k v c j) ∧ eg = .returned (vrpr77 X R a1 a2 n1 n2 k v c' 5) ∧ Wd c' (upd L 5) w')
    (r7 : ∀ c L W, Wd c L W → L 7 = false → L 6 = true → ∃ W', (Instr.storeAt 30 (.pointer (some ⟨R, 0, none⟩)) (.agg #[S k, S v])).run Tryz.prog W = .ok () W' ∧ Wd c (upd L 7) W')
    (hend : ∀ c L W, (∀ i, i < 8 → L i = true) → Wd c L W → Q .normal (((((((a0.put (some 3) (.pointer (some ⟨X, 0, none⟩))).put (some 4) (.slice a1 n1 n1)).put (some 5) (S k)).put (some 6) (.pointer (some ⟨X, 1, none⟩))).put (some 7) (.slice a2 n2 n2)).put (some 8) (S v)).put (some 9) (.agg #[S k, S v])) W) : (Code.region id ops true).wp Tryz.prog Q a0 w := by
  let val : Unit → Nat → Value := vrpr77 X R a1 a2 n1 n2 k v
  have hosz : ops.size = 8 := by
    have := congrArg List.length htab
    simpa [rpr77T] using this
  have hds : ∀ i s, (rpr77T[i]?).bind (·.2.1) = some s → dstOf ops i = some s := fun i s hi => by rw [tab_dst htab, hi]
  have hdisB : disL rpr77T = true := by rfl
  have hdis := disL_of htab hdisB
  have hold : ∀ s, rpr77T.all (fun x => !(x.2.1 == some s)) = true → (List.range ops.size).all (fun j => !(dstOf ops j == some s)) = true := fun s h => holdL htab s h
  refine region_detX val Wd (hac_of hac) hdis h0 ?_ ?_
  rotate_left
  · intro c L W hall hW
    have := hend c L W (by rw [← hosz]; exact hall) hW
    have e : frm ops a0 (val c) (fun _ => true) ops.size = (((((((a0.put (some 3) (.pointer (some ⟨X, 0, none⟩))).put (some 4) (.slice a1 n1 n1)).put (some 5) (S k)).put (some 6) (.pointer (some ⟨X, 1, none⟩))).put (some 7) (.slice a2 n2 n2)).put (some 8) (S v)).put (some 9) (.agg #[S k, S v])) := by
      rw [hosz]
      simp only [frm, if_true]
      rw [tab_dst htab 0, tab_dst htab 1, tab_dst htab 2, tab_dst htab 3, tab_dst htab 4, tab_dst htab 5, tab_dst htab 6, (show dstOf ops 7 = none from (tab_dst htab 7).trans rfl), put_none]
      rfl
    rw [e]
    exact this
  intro i o ho c L a w' hL hd ha hW
  have hi : i < 8 := by rw [← hosz]; exact (Array.getElem?_eq_some_iff.1 ho).1
  have G : ∀ j s : Nat, (rpr77T[j]?).bind (·.2.1) = some s → s < 10 → (i, j) ∈ rpr77D → a.tmps[s]? = some (val c j) := fun j s h1 h2 h3 => frm_at hdis ha j s (hds j s h1) (by omega) (depl_of hdep i j h3 ho hd)
  match i, ho, hL, hi, G with
  | 0, ho, hL, _, G =>
    obtain ⟨hop, hgd⟩ := tab3 htab ho rfl
    have h0 := frm_old ha 1 _ (hold 1 rfl) o1
    exact (dXr ho hgd (hpure 0 (by decide) c L w' hW) (g_field hop (eval_of h0) (by kernel_rfl)))
  | 1, ho, hL, _, G =>
    obtain ⟨hop, hgd⟩ := tab3 htab ho rfl
    have h0 := G 0 3 rfl (by decide) (by decide)
    exact (dXr ho hgd (hpure 1 (by decide) c L w' hW) (g_load hop (eval_of h0) (r1 c L w' hW hL (depl_of hdep 1 0 (by decide) ho hd))))
  | 2, ho, hL, _, G =>
    obtain ⟨hop, hgd⟩ := tab3 htab ho rfl
    have h0 := G 1 4 rfl (by decide) (by decide)
    refine doesX_call ho (wanted_none hgd) 117 #[(.slice a1 n1 n1)] ?_ (r2 c L w' hW hL (depl_of hdep 2 1 (by decide) ho hd))
    rw [run_calls Tryz.func117 (by kernel_rfl) rfl _ _ _ _ hop rfl]
    simp only [List.map_toArray, List.map_cons, List.map_nil, eval_of h0]
    all_goals rfl
  | 3, ho, hL, _, G =>
    obtain ⟨hop, hgd⟩ := tab3 htab ho rfl
    have h0 := frm_old ha 1 _ (hold 1 rfl) o1
    exact (dXr ho hgd (hpure 3 (by decide) c L w' hW) (g_field hop (eval_of h0) (by kernel_rfl)))
  | 4, ho, hL, _, G =>
    obtain ⟨hop, hgd⟩ := tab3 htab ho rfl
    have h0 := G 3 6 rfl (by decide) (by decide)
    exact (dXr ho hgd (hpure 4 (by decide) c L w' hW) (g_load hop (eval_of h0) (r4 c L w' hW hL (depl_of hdep 4 3 (by decide) ho hd))))
  | 5, ho, hL, _, G =>
    obtain ⟨hop, hgd⟩ := tab3 htab ho rfl
    have h0 := G 4 7 rfl (by decide) (by decide)
    refine doesX_call ho (wanted_none hgd) 117 #[(.slice a2 n2 n2)] ?_ (r5 c L w' hW hL (depl_of hdep 5 4 (by decide) ho hd))
    rw [run_calls Tryz.func117 (by kernel_rfl) rfl _ _ _ _ hop rfl]
    simp only [List.map_toArray, List.map_cons, List.map_nil, eval_of h0]
    all_goals rfl
  | 6, ho, hL, _, G =>
    obtain ⟨hop, hgd⟩ := tab3 htab ho rfl
    have h0 := G 2 5 rfl (by decide) (by decide)
    have h1 := G 5 8 rfl (by decide) (by decide)
    exact (dXr ho hgd (hpure 6 (by decide) c L w' hW) (g_build hop (by simp only [List.map_toArray, List.map_cons, List.map_nil, eval_of h0, eval_of h1]; first | done | rfl) (by kernel_rfl)))
  | 7, ho, hL, _, G =>
    obtain ⟨hop, hgd⟩ := tab3 htab ho rfl
    have h0 := frm_old ha 2 _ (hold 2 rfl) o2
    have h1 := G 6 9 rfl (by decide) (by decide)
    obtain ⟨W', q1, q2⟩ := r7 c L w' hW hL (depl_of hdep 7 6 (by decide) ho hd)
    exact doesX_of (doesL_skp ho (wanted_none hgd) rfl q2 (g_store hop (eval_of h0) (eval_of h1) q1))
  | (i + 8), ho, hL, hi, _ => exact absurd hi (by omega)
end Go.Proofs.YtpidmpefodnffaaGreatDoor
