import Derived.Test.YtpidmpefodnffaaGreatDoorZfde
namespace Go.Proofs.YtpidmpefodnffaaGreatDoor
open Go.RowKit
set_option maxHeartbeats 4000000
set_option maxRecDepth 8000
def vrly103 (T _R L1 : Nat) (c : (Nat → Nat)) (i : Nat) : Value := match i with
  | 0 => (S [107])
  | 1 => (I 1)
  | 2 => (.agg #[(ptr L1), (I 1), (FN 132), (FN 133)])
  | 3 => (vW ⟨L1, 0, none⟩ 1)
  | 4 => (ptr T)
  | 5 => (ptr T)
  | 6 => (.pointer (some ⟨T, 0, none⟩))
  | 7 => (.agg #[(.pointer (some ⟨T, 0, none⟩)), (I 4), (FN 135), (FN 136)])
  | 8 => (vI ⟨T, 0, none⟩ 4)
  | 9 => (.slice (some ⟨c 0, 0, none⟩) 2 2)
  | 10 => (ptr T)
  | 11 => (ptr T)
  | 12 => (.pointer (some ⟨T, 1, none⟩))
  | 13 => (.agg #[(.pointer (some ⟨T, 1, none⟩)), (I 24), (FN 132), (FN 133)])
  | 14 => (vW ⟨T, 1, none⟩ 24)
  | 15 => (ptr T)
  | 16 => (ptr T)
  | 17 => (.pointer (some ⟨T, 2, none⟩))
  | 18 => (.agg #[(.pointer (some ⟨T, 2, none⟩)), (I 6), (FN 135), (FN 136)])
  | 19 => (vI ⟨T, 2, none⟩ 6)
  | 20 => (ptr T)
  | 21 => (ptr T)
  | 22 => (.pointer (some ⟨T, 3, none⟩))
  | 23 => (.agg #[(.pointer (some ⟨T, 3, none⟩)), (I 6), (FN 135), (FN 136)])
  | 24 => (vI ⟨T, 3, none⟩ 6)
  | 25 => (.slice (some ⟨c 1, 0, none⟩) 3 3)
  | 26 => (.agg #[(.slice (some ⟨c 0, 0, none⟩) 2 2), (.slice (some ⟨c 1, 0, none⟩) 3 3)])
  | 27 => undef
  | _ => undef
def rly103T : List (Op × Option Tmp × Option (Nat × Bool)) := [
  (.load 9 (.tmp 3), some 4, none),
  (.call { callee := .builtin .len, args := #[(.tmp 4)], argTypes := #[9] }, some 5, none),
  (.build 179 #[(0, (.tmp 3)), (1, (.tmp 5)), (2, (.func 132)), (3, (.func 133))], some 6, none),
  (.makeInterface 179 (.tmp 6), some 7, none),
  (.move (.tmp 0), some 8, none),
  (.nilCheck (.tmp 8), some 9, none),
  (.fieldAddr 60 (.tmp 9) 0, some 10, none),
  (.build 197 #[(0, (.tmp 10)), (1, (.const (I 4))), (2, (.func 135)), (3, (.func 136))], some 11, none),
  (.makeInterface 197 (.tmp 11), some 12, none),
  (.buildSlice 109 2 #[(0, (.tmp 7)), (1, (.tmp 12))], some 13, none),
  (.move (.tmp 0), some 14, none),
  (.nilCheck (.tmp 14), some 15, none),
  (.fieldAddr 60 (.tmp 15) 1, some 16, none),
  (.build 179 #[(0, (.tmp 16)), (1, (.const (I 24))), (2, (.func 132)), (3, (.func 133))], some 17, none),
  (.makeInterface 179 (.tmp 17), some 18, none),
  (.move (.tmp 0), some 19, none),
  (.nilCheck (.tmp 19), some 20, none),
  (.fieldAddr 60 (.tmp 20) 2, some 21, none),
  (.build 197 #[(0, (.tmp 21)), (1, (.const (I 6))), (2, (.func 135)), (3, (.func 136))], some 22, none),
  (.makeInterface 197 (.tmp 22), some 23, none),
  (.move (.tmp 0), some 24, none),
  (.nilCheck (.tmp 24), some 25, none),
  (.fieldAddr 60 (.tmp 25) 3, some 26, none),
  (.build 197 #[(0, (.tmp 26)), (1, (.const (I 6))), (2, (.func 135)), (3, (.func 136))], some 27, none),
  (.makeInterface 197 (.tmp 27), some 28, none),
  (.buildSlice 109 3 #[(0, (.tmp 18)), (1, (.tmp 23)), (2, (.tmp 28))], some 29, none),
  (.build 111 #[(0, (.tmp 13)), (1, (.tmp 29))], some 30, none),
  (.store 111 (.tmp 2) (.tmp 30), none, none)]
def crly103 (a0 : Act) (T _R L1 : Nat) (c : (Nat → Nat)) : Act := (((((((((((((((((((((((((((a0.put (some 4) (S [107])).put (some 5) (I 1)).put (some 6) (.agg #[(ptr L1), (I 1), (FN 132), (FN 133)])).put (some 7) (vW ⟨L1, 0, none⟩ 1)).put (some 8) (ptr T)).put (some 9) (ptr T)).put (some 10) (.pointer (some ⟨T, 0, none⟩))).put (some 11) (.agg #[(.pointer (some ⟨T, 0, none⟩)), (I 4), (FN 135), (FN 136)])).put (some 12) (vI ⟨T, 0, none⟩ 4)).put (some 13) (.slice (some ⟨c 0, 0, none⟩) 2 2)).put (some 14) (ptr T)).put (some 15) (ptr T)).put (some 16) (.pointer (some ⟨T, 1, none⟩))).put (some 17) (.agg #[(.pointer (some ⟨T, 1, none⟩)), (I 24), (FN 132), (FN 133)])).put (some 18) (vW ⟨T, 1, none⟩ 24)).put (some 19) (ptr T)).put (some 20) (ptr T)).put (some 21) (.pointer (some ⟨T, 2, none⟩))).put (some 22) (.agg #[(.pointer (some ⟨T, 2, none⟩)), (I 6), (FN 135), (FN 136)])).put (some 23) (vI ⟨T, 2, none⟩ 6)).put (some 24) (ptr T)).put (some 25) (ptr T)).put (some 26) (.pointer (some ⟨T, 3, none⟩))).put (some 27) (.agg #[(.pointer (some ⟨T, 3, none⟩)), (I 6), (FN 135), (FN 136)])).put (some 28) (vI ⟨T, 3, none⟩ 6)).put (some 29) (.slice (some ⟨c 1, 0, none⟩) 3 3)).put (some 30) (.agg #[(.slice (some ⟨c 0, 0, none⟩) 2 2), (.slice (some ⟨c 1, 0, none⟩) 3 3)]))
def rly103D : List (Nat × Nat) := [(1, 0), (2, 1), (3, 2), (5, 4), (6, 5), (7, 6), (8, 7), (9, 3), (9, 8), (11, 10), (12, 11), (13, 12), (14, 13), (16, 15), (17, 16), (18, 17), (19, 18), (21, 20), (22, 21), (23, 22), (24, 23), (25, 14), (25, 19), (25, 24), (26, 9), (26, 25), (27, 26)]
set_option maxHeartbeats 4000000 in
theorem rly103 {ops : Array Oper} {id : Nat} {Q : Exit → Act → World → Prop} (T R L1 : Nat) (htab : ops.toList.map (fun o => (o.op, o.dst, o.guard)) = rly103T) (hdep : deplB rly103D ops = true) (hac : acB ops = true)
    (a0 : Act) (w : World) (hsz : 31 ≤ a0.tmps.size) (o0 : a0.tmps[0]? = some (ptr T)) (o2 : a0.tmps[2]? = some (ptr R)) (o3 : a0.tmps[3]? = some (ptr L1))
    (Wd : (Nat → Nat) → (Nat → Bool) → World → Prop) (h0 : ∃ c, Wd c (fun _ => false) w.drew) (hpure : ∀ i, i ∉ ([9, 25, 26, 27] : List Nat) → ∀ c L W, Wd c L W → Wd c (upd L i) W)
    (r0 : ∀ c L W, Wd c L W → L 0 = false → (Instr.loadAt 9 (ptr L1)).run Tryz.prog W = .ok (S [107]) W)
    (r9 : ∀ c L W, Wd c L W → L 9 = false → L 3 = true → L 8 = true → ∃ c' W', (∀ j, L j = true → vrly103 T R L1 c' j = vrly103 T R L1 c j) ∧ (Instr.buildSlice 109 2 #[(0, (vW ⟨L1, 0, none⟩ 1)), (1, (vI ⟨T, 0, none⟩ 4))]).run Tryz.prog W = .ok (vrly103 T R L1 c' 9) W' ∧ Wd c' (upd L 9) W')
    (r25 : ∀ c L W, Wd c L W → L 25 = false → L 14 = true → L 19 = true → L 24 = true → ∃ c' W', (∀ j, L j = true → vrly103 T R L1 c' j = vrly103 T R L1 c j) ∧ (Instr.buildSlice 109 3 #[(0, (vW ⟨T, 1, none⟩ 24)), (1, (vI ⟨T, 2, none⟩ 6)), (2, (vI ⟨T, 3, none⟩ 6))]).run Tryz.prog W = .ok (vrly103 T R L1 c' 25) W' ∧ Wd c' (upd L 25) W')
    (e26 : ∀ c L W, Wd c L W → L 26 = false → L 9 = true → L 25 = true → Wd c (upd L 26) W)
    (r27 : ∀ c L W, Wd c L W → L 27 = false → L 26 = true → ∃ W', (Instr.storeAt 111 (ptr R) (.agg #[(.slice (some ⟨c 0, 0, none⟩) 2 2), (.slice (some ⟨c 1, 0, none⟩) 3 3)])).run Tryz.prog W = .ok () W' ∧ Wd c (upd L 27) W')
    (hend : ∀ c L W, (∀ i, i < 28 → L i = true) → Wd c L W → Q .normal (crly103 a0 T R L1 c) W) : (Code.region id ops true).wp Tryz.prog Q a0 w := by
  let val : (Nat → Nat) → Nat → Value := vrly103 T R L1
  have hosz : ops.size = 28 := by
    have := congrArg List.length htab
    simpa [rly103T] using this
  have hds : ∀ i s, (rly103T[i]?).bind (·.2.1) = some s → dstOf ops i = some s := fun i s hi => by rw [tab_dst htab, hi]
  have hdisB : disL rly103T = true := by rfl
  have hdis := disL_of htab hdisB
  have hold : ∀ s, rly103T.all (fun x => !(x.2.1 == some s)) = true → (List.range ops.size).all (fun j => !(dstOf ops j == some s)) = true := fun s h => holdL htab s h
  refine region_detX val Wd (hac_of hac) hdis h0 ?_ ?_
  rotate_left
  · intro c L W hall hW
    have := hend c L W (by rw [← hosz]; exact hall) hW
    have e : frm ops a0 (val c) (fun _ => true) ops.size = (crly103 a0 T R L1 c) := by
      rw [hosz]
      simp only [crly103, frm, if_true]
      rw [tab_dst htab 0, tab_dst htab 1, tab_dst htab 2, tab_dst htab 3, tab_dst htab 4, tab_dst htab 5, tab_dst htab 6, tab_dst htab 7, tab_dst htab 8, tab_dst htab 9, tab_dst htab 10, tab_dst htab 11, tab_dst htab 12, tab_dst htab 13, tab_dst htab 14, tab_dst htab 15, tab_dst htab 16, tab_dst htab 17, tab_dst htab 18, tab_dst htab 19, tab_dst htab 20, tab_dst htab 21, tab_dst htab 22, tab_dst htab 23, tab_dst htab 24, tab_dst htab 25, tab_dst htab 26, (show dstOf ops 27 = none from (tab_dst htab 27).trans rfl), put_none]
      rfl
    rw [e]
    exact this
  intro i o ho c L a w' hL hd ha hW
  have hi : i < 28 := by rw [← hosz]; exact (Array.getElem?_eq_some_iff.1 ho).1
  have G : ∀ j s : Nat, (rly103T[j]?).bind (·.2.1) = some s → s < 31 → (i, j) ∈ rly103D → a.tmps[s]? = some (val c j) := fun j s h1 h2 h3 => frm_at hdis ha j s (hds j s h1) (by omega) (depl_of hdep i j h3 ho hd)
  match i, ho, hL, hi, G with
  | 0, ho, hL, _, G =>
    obtain ⟨hop, hgd⟩ := tab3 htab ho rfl
    have h0 := frm_old ha 3 _ (hold 3 rfl) o3
    exact (dXr ho hgd (hpure 0 (by decide) c L w' hW) (g_load hop (eval_of h0) (r0 c L w' hW hL)))
  | 1, ho, hL, _, G =>
    obtain ⟨hop, hgd⟩ := tab3 htab ho rfl
    have h0 := G 0 4 rfl (by decide) (by decide)
    exact (dXr ho hgd (hpure 1 (by decide) c L w' hW) (run_len _ _ _ hop _ (eval_of h0) _))
  | 2, ho, hL, _, G =>
    obtain ⟨hop, hgd⟩ := tab3 htab ho rfl
    have h0 := frm_old ha 3 _ (hold 3 rfl) o3
    have h1 := G 1 5 rfl (by decide) (by decide)
    exact (dXr ho hgd (hpure 2 (by decide) c L w' hW) (g_build hop (map4 (eval_of h0) (eval_of h1) rfl rfl) (by kernel_rfl)))
  | 3, ho, hL, _, G =>
    obtain ⟨hop, hgd⟩ := tab3 htab ho rfl
    have h0 := G 2 6 rfl (by decide) (by decide)
    exact (dXr ho hgd (hpure 3 (by decide) c L w' hW) (g_mki hop (eval_of h0) (by kernel_rfl)))
  | 4, ho, hL, _, G =>
    obtain ⟨hop, hgd⟩ := tab3 htab ho rfl
    have h0 := frm_old ha 0 _ (hold 0 rfl) o0
    exact (dXr ho hgd (hpure 4 (by decide) c L w' hW) (g_mov hop (eval_of h0)))
  | 5, ho, hL, _, G =>
    obtain ⟨hop, hgd⟩ := tab3 htab ho rfl
    have h0 := G 4 8 rfl (by decide) (by decide)
    exact (dXr ho hgd (hpure 5 (by decide) c L w' hW) (run_nil _ _ _ hop _ (eval_of h0) _))
  | 6, ho, hL, _, G =>
    obtain ⟨hop, hgd⟩ := tab3 htab ho rfl
    have h0 := G 5 9 rfl (by decide) (by decide)
    exact (dXr ho hgd (hpure 6 (by decide) c L w' hW) (g_field hop (eval_of h0) (by kernel_rfl)))
  | 7, ho, hL, _, G =>
    obtain ⟨hop, hgd⟩ := tab3 htab ho rfl
    have h0 := G 6 10 rfl (by decide) (by decide)
    exact (dXr ho hgd (hpure 7 (by decide) c L w' hW) (g_build hop (map4 (eval_of h0) rfl rfl rfl) (by kernel_rfl)))
  | 8, ho, hL, _, G =>
    obtain ⟨hop, hgd⟩ := tab3 htab ho rfl
    have h0 := G 7 11 rfl (by decide) (by decide)
    exact (dXr ho hgd (hpure 8 (by decide) c L w' hW) (g_mki hop (eval_of h0) (by kernel_rfl)))
  | 9, ho, hL, _, G =>
    obtain ⟨hop, hgd⟩ := tab3 htab ho rfl
    have h0 := G 3 7 rfl (by decide) (by decide)
    have h1 := G 8 12 rfl (by decide) (by decide)
    obtain ⟨c', W', q0, q1, q2⟩ := r9 c L w' hW hL (depl_of hdep 9 3 (by decide) ho hd) (depl_of hdep 9 8 (by decide) ho hd)
    exact doesX_runw ho (wanted_none hgd) c' q0 q2 (g_bs hop (by simp only [List.map_toArray, List.map_cons, List.map_nil, eval_of h0, eval_of h1]; first | done | rfl) q1)
  | 10, ho, hL, _, G =>
    obtain ⟨hop, hgd⟩ := tab3 htab ho rfl
    have h0 := frm_old ha 0 _ (hold 0 rfl) o0
    exact (dXr ho hgd (hpure 10 (by decide) c L w' hW) (g_mov hop (eval_of h0)))
  | 11, ho, hL, _, G =>
    obtain ⟨hop, hgd⟩ := tab3 htab ho rfl
    have h0 := G 10 14 rfl (by decide) (by decide)
    exact (dXr ho hgd (hpure 11 (by decide) c L w' hW) (run_nil _ _ _ hop _ (eval_of h0) _))
  | 12, ho, hL, _, G =>
    obtain ⟨hop, hgd⟩ := tab3 htab ho rfl
    have h0 := G 11 15 rfl (by decide) (by decide)
    exact (dXr ho hgd (hpure 12 (by decide) c L w' hW) (g_field hop (eval_of h0) (by kernel_rfl)))
  | 13, ho, hL, _, G =>
    obtain ⟨hop, hgd⟩ := tab3 htab ho rfl
    have h0 := G 12 16 rfl (by decide) (by decide)
    exact (dXr ho hgd (hpure 13 (by decide) c L w' hW) (g_build hop (map4 (eval_of h0) rfl rfl rfl) (by kernel_rfl)))
  | 14, ho, hL, _, G =>
    obtain ⟨hop, hgd⟩ := tab3 htab ho rfl
    have h0 := G 13 17 rfl (by decide) (by decide)
    exact (dXr ho hgd (hpure 14 (by decide) c L w' hW) (g_mki hop (eval_of h0) (by kernel_rfl)))
  | 15, ho, hL, _, G =>
    obtain ⟨hop, hgd⟩ := tab3 htab ho rfl
    have h0 := frm_old ha 0 _ (hold 0 rfl) o0
    exact (dXr ho hgd (hpure 15 (by decide) c L w' hW) (g_mov hop (eval_of h0)))
  | 16, ho, hL, _, G =>
    obtain ⟨hop, hgd⟩ := tab3 htab ho rfl
    have h0 := G 15 19 rfl (by decide) (by decide)
    exact (dXr ho hgd (hpure 16 (by decide) c L w' hW) (run_nil _ _ _ hop _ (eval_of h0) _))
  | 17, ho, hL, _, G =>
    obtain ⟨hop, hgd⟩ := tab3 htab ho rfl
    have h0 := G 16 20 rfl (by decide) (by decide)
    exact (dXr ho hgd (hpure 17 (by decide) c L w' hW) (g_field hop (eval_of h0) (by kernel_rfl)))
  | 18, ho, hL, _, G =>
    obtain ⟨hop, hgd⟩ := tab3 htab ho rfl
    have h0 := G 17 21 rfl (by decide) (by decide)
    exact (dXr ho hgd (hpure 18 (by decide) c L w' hW) (g_build hop (map4 (eval_of h0) rfl rfl rfl) (by kernel_rfl)))
  | 19, ho, hL, _, G =>
    obtain ⟨hop, hgd⟩ := tab3 htab ho rfl
    have h0 := G 18 22 rfl (by decide) (by decide)
    exact (dXr ho hgd (hpure 19 (by decide) c L w' hW) (g_mki hop (eval_of h0) (by kernel_rfl)))
  | 20, ho, hL, _, G =>
    obtain ⟨hop, hgd⟩ := tab3 htab ho rfl
    have h0 := frm_old ha 0 _ (hold 0 rfl) o0
    exact (dXr ho hgd (hpure 20 (by decide) c L w' hW) (g_mov hop (eval_of h0)))
  | 21, ho, hL, _, G =>
    obtain ⟨hop, hgd⟩ := tab3 htab ho rfl
    have h0 := G 20 24 rfl (by decide) (by decide)
    exact (dXr ho hgd (hpure 21 (by decide) c L w' hW) (run_nil _ _ _ hop _ (eval_of h0) _))
  | 22, ho, hL, _, G =>
    obtain ⟨hop, hgd⟩ := tab3 htab ho rfl
    have h0 := G 21 25 rfl (by decide) (by decide)
    exact (dXr ho hgd (hpure 22 (by decide) c L w' hW) (g_field hop (eval_of h0) (by kernel_rfl)))
  | 23, ho, hL, _, G =>
    obtain ⟨hop, hgd⟩ := tab3 htab ho rfl
    have h0 := G 22 26 rfl (by decide) (by decide)
    exact (dXr ho hgd (hpure 23 (by decide) c L w' hW) (g_build hop (map4 (eval_of h0) rfl rfl rfl) (by kernel_rfl)))
  | 24, ho, hL, _, G =>
    obtain ⟨hop, hgd⟩ := tab3 htab ho rfl
    have h0 := G 23 27 rfl (by decide) (by decide)
    exact (dXr ho hgd (hpure 24 (by decide) c L w' hW) (g_mki hop (eval_of h0) (by kernel_rfl)))
  | 25, ho, hL, _, G =>
    obtain ⟨hop, hgd⟩ := tab3 htab ho rfl
    have h0 := G 14 18 rfl (by decide) (by decide)
    have h1 := G 19 23 rfl (by decide) (by decide)
    have h2 := G 24 28 rfl (by decide) (by decide)
    obtain ⟨c', W', q0, q1, q2⟩ := r25 c L w' hW hL (depl_of hdep 25 14 (by decide) ho hd) (depl_of hdep 25 19 (by decide) ho hd) (depl_of hdep 25 24 (by decide) ho hd)
    exact doesX_runw ho (wanted_none hgd) c' q0 q2 (g_bs hop (by simp only [List.map_toArray, List.map_cons, List.map_nil, eval_of h0, eval_of h1, eval_of h2]; first | done | rfl) q1)
  | 26, ho, hL, _, G =>
    obtain ⟨hop, hgd⟩ := tab3 htab ho rfl
    have h0 := G 9 13 rfl (by decide) (by decide)
    have h1 := G 25 29 rfl (by decide) (by decide)
    exact (dXr ho hgd (e26 c L w' hW hL (depl_of hdep 26 9 (by decide) ho hd) (depl_of hdep 26 25 (by decide) ho hd)) (g_build hop (by simp only [List.map_toArray, List.map_cons, List.map_nil, eval_of h0, eval_of h1]; first | done | rfl) (by kernel_rfl)))
  | 27, ho, hL, _, G =>
    obtain ⟨hop, hgd⟩ := tab3 htab ho rfl
    have h0 := frm_old ha 2 _ (hold 2 rfl) o2
    have h1 := G 26 30 rfl (by decide) (by decide)
    obtain ⟨W', q1, q2⟩ := r27 c L w' hW hL (depl_of hdep 27 26 (by decide) ho hd)
    exact doesX_of (doesL_skp ho (wanted_none hgd) rfl q2 (g_store hop (eval_of h0) (eval_of h1) q1))
  | (i + 28), ho, hL, hi, _ => exact absurd hi (by omega)
def sly103 (T : Nat) (L1 : Nat) : List Sl := [⟨9, 0, fun _ => #[(vW ⟨L1, 0, none⟩ 1), (vI ⟨T, 0, none⟩ 4)], 213⟩, ⟨25, 1, fun _ => #[(vW ⟨T, 1, none⟩ 24), (vI ⟨T, 2, none⟩ 6), (vI ⟨T, 3, none⟩ 6)], 213⟩]
def dly103 : List (Nat × Nat) := [(26, 9), (26, 25), (27, 26), (27, 9), (27, 25)]
theorem lay103 (T : Nat) (w : World) : Calls Tryz.prog 103 #[ptr T] w fun e w' => ∃ c : Nat → Nat, e = .returned (.agg (#[(.slice (some ⟨c 0, 0, none⟩) 2 2), (.slice (some ⟨c 1, 0, none⟩) 3 3)])) ∧ Below w.heap.size w w' ∧ w'.heap[w.heap.size + 1]? = some (.cells #[S [107]] 9 (0, 0)) ∧ (w.heap.size + 2 ≤ c 0 ∧ w'.heap[c 0]? = some (.cells #[(vW ⟨w.heap.size + 1, 0, none⟩ 1), (vI ⟨T, 0, none⟩ 4)] 213 (0, 0))) ∧ (w.heap.size + 2 ≤ c 1 ∧ w'.heap[c 1]? = some (.cells #[(vW ⟨T, 1, none⟩ 24), (vI ⟨T, 2, none⟩ 6), (vI ⟨T, 3, none⟩ 6)] 213 (0, 0))) := by
  have hb0 : Below w.heap.size w ((w.alloc (.cells #[.slice none 0 0, .slice none 0 0] 111)).alloc (.cells #[S [107]] 9)) := by
    refine (((Below.refl _ w).alloc (Nat.le_refl _) _)).alloc (by first | (simp; done) | (simp; omega)) _
  have hR : ((w.alloc (.cells #[.slice none 0 0, .slice none 0 0] 111)).alloc (.cells #[S [107]] 9)).heap[w.heap.size]? = some (.cells #[.slice none 0 0, .slice none 0 0] 111 (0, 0)) := by
    rw [heap_alloc_old _ _ (by first | (simp; done) | (simp; omega))]; exact heap_alloc_new _ _
  have hL1 : ((w.alloc (.cells #[.slice none 0 0, .slice none 0 0] 111)).alloc (.cells #[S [107]] 9)).heap[w.heap.size + 1]? = some (.cells #[S [107]] 9 (0, 0)) := by
    have e := heap_alloc_new ((w.alloc (.cells #[.slice none 0 0, .slice none 0 0] 111))) (.cells #[S [107]] 9)
    simpa using e
  have hsz : ((w.alloc (.cells #[.slice none 0 0, .slice none 0 0] 111)).alloc (.cells #[S [107]] 9)).heap.size = w.heap.size + 2 := by simp
  go_enter Tryz.func103, Tryz.ntmps103
  go_wp2_with fail
  generalize ((w.alloc (.cells #[.slice none 0 0, .slice none 0 0] 111)).alloc (.cells #[S [107]] 9)) = W1 at *
  generalize hL1e : w.heap.size + 1 = L1 at *
  generalize hRe : w.heap.size = R at *
  have hw1 : ∃ w1s, w1s = W1.heap.size := ⟨_, rfl⟩
  obtain ⟨w1s, hw1⟩ := hw1
  rw [← hw1] at hsz
  refine rly103 T R L1 rfl (by rfl) (by rfl) _ W1 (by simp) rfl rfl rfl (Ly W1 R (fun _ => #[.slice none 0 0, .slice none 0 0]) (fun c => #[(.slice (some ⟨c 0, 0, none⟩) 2 2), (.slice (some ⟨c 1, 0, none⟩) 3 3)]) 27 (sly103 T L1) dly103) ⟨fun _ => 0, (Only.drew _ W1), (fun _ _ e => by cases e), (fun _ _ e => by cases e), hR⟩ (fun i hi c L W hW => hW.pure i ?hp1 ?hp2 (fun e => hi (by simp [e])))
    (fun c L W hW _ => s_ld (T := 9) (fun _ => by kernel_rfl) (cellr ((hW.only.block L1 (by omega) (by omega)).trans hL1) rfl))
    (fun c L W hW hL h3 h8 => by
      refine ⟨cset c 0 W.heap.size, W.alloc (.cells #[(vW ⟨L1, 0, none⟩ 1), (vI ⟨T, 0, none⟩ 4)] 213), fun j hj => ?_, by kernel_rfl, hW.slice ⟨9, 0, fun _ => #[(vW ⟨L1, 0, none⟩ 1), (vI ⟨T, 0, none⟩ 4)], 213⟩ (no_of (hW.dep (27, 9) (by decide)) hL) (by simp) (fun _ => rfl) (fun d hd hi => ?_) (fun q hq e => ?_) (fun q hq e => ?_) (fun m => rfl)⟩
      · match j, hj with
        | 0, _ => rfl
        | 1, _ => rfl
        | 2, _ => rfl
        | 3, _ => rfl
        | 4, _ => rfl
        | 5, _ => rfl
        | 6, _ => rfl
        | 7, _ => rfl
        | 8, _ => rfl
        | 9, hj => rw [hL] at hj; cases hj
        | 10, _ => rfl
        | 11, _ => rfl
        | 12, _ => rfl
        | 13, _ => rfl
        | 14, _ => rfl
        | 15, _ => rfl
        | 16, _ => rfl
        | 17, _ => rfl
        | 18, _ => rfl
        | 19, _ => rfl
        | 20, _ => rfl
        | 21, _ => rfl
        | 22, _ => rfl
        | 23, _ => rfl
        | 24, _ => rfl
        | 25, _ => rfl
        | 26, hj => rw [hW.dep (26, 9) (by decide) hj] at hL; cases hL
        | 27, _ => rfl
        | (k + 28), _ => rfl
      · simp only [dly103, List.mem_cons, List.not_mem_nil, or_false] at hd
        rcases hd with rfl | rfl | rfl | rfl | rfl
        · exact absurd hi (by simp)
        · exact absurd hi (by simp)
        · exact absurd hi (by simp)
        · exact absurd hi (by simp)
        · exact absurd hi (by simp)
      · simp only [sly103, List.mem_cons, List.not_mem_nil, or_false] at hq
        rcases hq with rfl | rfl
        · rw [hL] at e; cases e
        · exact ⟨(by simp), fun m => rfl⟩
      · simp only [sly103, List.mem_cons, List.not_mem_nil, or_false] at hq
        rcases hq with rfl | rfl
        · rfl
        · exact absurd e (by simp))
    (fun c L W hW hL h14 h19 h24 => by
      refine ⟨cset c 1 W.heap.size, W.alloc (.cells #[(vW ⟨T, 1, none⟩ 24), (vI ⟨T, 2, none⟩ 6), (vI ⟨T, 3, none⟩ 6)] 213), fun j hj => ?_, by kernel_rfl, hW.slice ⟨25, 1, fun _ => #[(vW ⟨T, 1, none⟩ 24), (vI ⟨T, 2, none⟩ 6), (vI ⟨T, 3, none⟩ 6)], 213⟩ (no_of (hW.dep (27, 25) (by decide)) hL) (by simp) (fun _ => rfl) (fun d hd hi => ?_) (fun q hq e => ?_) (fun q hq e => ?_) (fun m => rfl)⟩
      · match j, hj with
        | 0, _ => rfl
        | 1, _ => rfl
        | 2, _ => rfl
        | 3, _ => rfl
        | 4, _ => rfl
        | 5, _ => rfl
        | 6, _ => rfl
        | 7, _ => rfl
        | 8, _ => rfl
        | 9, _ => rfl
        | 10, _ => rfl
        | 11, _ => rfl
        | 12, _ => rfl
        | 13, _ => rfl
        | 14, _ => rfl
        | 15, _ => rfl
        | 16, _ => rfl
        | 17, _ => rfl
        | 18, _ => rfl
        | 19, _ => rfl
        | 20, _ => rfl
        | 21, _ => rfl
        | 22, _ => rfl
        | 23, _ => rfl
        | 24, _ => rfl
        | 25, hj => rw [hL] at hj; cases hj
        | 26, hj => rw [hW.dep (26, 25) (by decide) hj] at hL; cases hL
        | 27, _ => rfl
        | (k + 28), _ => rfl
      · simp only [dly103, List.mem_cons, List.not_mem_nil, or_false] at hd
        rcases hd with rfl | rfl | rfl | rfl | rfl
        · exact absurd hi (by simp)
        · exact absurd hi (by simp)
        · exact absurd hi (by simp)
        · exact absurd hi (by simp)
        · exact absurd hi (by simp)
      · simp only [sly103, List.mem_cons, List.not_mem_nil, or_false] at hq
        rcases hq with rfl | rfl
        · exact ⟨(by simp), fun m => rfl⟩
        · rw [hL] at e; cases e
      · simp only [sly103, List.mem_cons, List.not_mem_nil, or_false] at hq
        rcases hq with rfl | rfl
        · exact absurd e (by simp)
        · rfl)
    (fun c L W hW _ h9 h25 => hW.pure 26 (fun s hs => by simp only [sly103, List.mem_cons, List.not_mem_nil, or_false] at hs; rcases hs with rfl | rfl <;> simp) (fun d hd hi => by
      simp only [dly103, List.mem_cons, List.not_mem_nil, or_false] at hd
      rcases hd with rfl | rfl | rfl | rfl | rfl
      · exact h9
      · exact h25
      · exact absurd hi (by simp)
      · exact absurd hi (by simp)
      · exact absurd hi (by simp)) (by decide))
    (fun c L W hW hL h26 => by
      have hbx := hW.box
      rw [hL, if_neg (by decide)] at hbx
      have e := s_sta (T := 111) (n := 2) (fun _ => by kernel_rfl) (o := 0) hbx (.agg #[(.slice (some ⟨c 0, 0, none⟩) 2 2), (.slice (some ⟨c 1, 0, none⟩) 3 3)]) rfl (by decide) (by intro x hx; simp only [Value.cells, List.mem_cons, List.not_mem_nil, or_false] at hx; rcases hx with rfl | rfl <;> rfl)
      refine ⟨_, e, ?_⟩
      refine hW.store (v := fun c => #[(.slice (some ⟨c 0, 0, none⟩) 2 2), (.slice (some ⟨c 1, 0, none⟩) 3 3)]) (fun q hq => ?_) (fun d hd hi => ?_)
      · simp only [sly103, List.mem_cons, List.not_mem_nil, or_false] at hq
        rcases hq with rfl | rfl
        · exact ⟨(by simp), fun e => by have h5 := (hW.sl ⟨9, 0, fun _ => #[(vW ⟨L1, 0, none⟩ 1), (vI ⟨T, 0, none⟩ 4)], 213⟩ (by simp [sly103]) e).1; have h6 : W1.heap.size ≤ c 0 := h5; show c 0 ≠ R; omega⟩
        · exact ⟨(by simp), fun e => by have h5 := (hW.sl ⟨25, 1, fun _ => #[(vW ⟨T, 1, none⟩ 24), (vI ⟨T, 2, none⟩ 6), (vI ⟨T, 3, none⟩ 6)], 213⟩ (by simp [sly103]) e).1; have h6 : W1.heap.size ≤ c 1 := h5; show c 1 ≠ R; omega⟩
      · simp only [dly103, List.mem_cons, List.not_mem_nil, or_false] at hd
        rcases hd with rfl | rfl | rfl | rfl | rfl
        · exact absurd hi (by simp)
        · exact absurd hi (by simp)
        · exact h26
        · exact hW.dep (26, 9) (by decide) h26
        · exact hW.dep (26, 25) (by decide) h26) ?hend
  case hp1 =>
    intro q hq e
    simp only [sly103, List.mem_cons, List.not_mem_nil, or_false] at hq
    rcases hq with rfl | rfl <;> exact hi (by simp at e; simp [← e])
  case hp2 =>
    intro d hd e
    simp only [dly103, List.mem_cons, List.not_mem_nil, or_false] at hd
    rcases hd with rfl | rfl | rfl | rfl | rfl <;> exact absurd (by simp at e; simp [← e]) hi
  case hend =>
    intro c L W hall hW
    simp only [crly103, Act.put, List.setIfInBounds_toArray, List.set_cons_succ, List.set_cons_zero]
    have hbx := hW.box
    rw [hall 27 (by decide), if_pos rfl] at hbx
    have hO := hW.only
    have hs0 := hW.sl ⟨9, 0, fun _ => #[(vW ⟨L1, 0, none⟩ 1), (vI ⟨T, 0, none⟩ 4)], 213⟩ (by simp [sly103]) (hall 9 (by decide))
    have hs1 := hW.sl ⟨25, 1, fun _ => #[(vW ⟨T, 1, none⟩ 24), (vI ⟨T, 2, none⟩ 6), (vI ⟨T, 3, none⟩ 6)], 213⟩ (by simp [sly103]) (hall 25 (by decide))
    have HP : Hid (W.heap[R]? = some (.cells #[(.slice (some ⟨c 0, 0, none⟩) 2 2), (.slice (some ⟨c 1, 0, none⟩) 3 3)] 111 (0, 0)) ∧ Below R w W ∧ W.heap[L1]? = some (.cells #[S [107]] 9 (0, 0)) ∧ (R + 2 ≤ c 0 ∧ W.heap[c 0]? = some (.cells #[(vW ⟨L1, 0, none⟩ 1), (vI ⟨T, 0, none⟩ 4)] 213 (0, 0))) ∧ (R + 2 ≤ c 1 ∧ W.heap[c 1]? = some (.cells #[(vW ⟨T, 1, none⟩ 24), (vI ⟨T, 2, none⟩ 6), (vI ⟨T, 3, none⟩ 6)] 213 (0, 0)))) := hide (⟨hbx, hO.below hb0 (by omega) (fun k e => by omega), (hO.block L1 (by omega) (by omega)).trans hL1, ⟨by have h5 : W1.heap.size ≤ c 0 := hs0.1; omega, hs0.2⟩, ⟨by have h5 : W1.heap.size ≤ c 1 := hs1.1; omega, hs1.2⟩⟩)
    clear hbx hO hW hall hs0 hs1
    go_wp2
    obtain ⟨hbx, hpp⟩ := unhide HP
    refine out1c (T := 111) (n := 2) (fun _ => by kernel_rfl) (fun _ => by kernel_rfl) (Z := R) rfl rfl rfl hbx rfl ?_
    subst hL1e; subst hRe
    exact ⟨c, rfl, hpp⟩
def vrly114 (T _R L1 : Nat) (c : (Nat → Nat)) (i : Nat) : Value := match i with
  | 0 => (S [104])
  | 1 => (I 1)
  | 2 => (.agg #[(ptr L1), (I 1), (FN 132), (FN 133)])
  | 3 => (vW ⟨L1, 0, none⟩ 1)
  | 4 => (.slice (some ⟨c 0, 0, none⟩) 1 1)
  | 5 => (ptr T)
  | 6 => (ptr T)
  | 7 => (.pointer (some ⟨T, 0, none⟩))
  | 8 => (.agg #[(.pointer (some ⟨T, 0, none⟩)), (I 8), (FN 135), (FN 136)])
  | 9 => (vI ⟨T, 0, none⟩ 8)
  | 10 => (ptr T)
  | 11 => (ptr T)
  | 12 => (.pointer (some ⟨T, 1, none⟩))
  | 13 => (.agg #[(.pointer (some ⟨T, 1, none⟩)), (I 8), (FN 135), (FN 136)])
  | 14 => (vI ⟨T, 1, none⟩ 8)
  | 15 => (ptr T)
  | 16 => (ptr T)
  | 17 => (.pointer (some ⟨T, 2, none⟩))
  | 18 => (.agg #[(.pointer (some ⟨T, 2, none⟩)), (I 32), (FN 132), (FN 133)])
  | 19 => (vW ⟨T, 2, none⟩ 32)
  | 20 => (ptr T)
  | 21 => (ptr T)
  | 22 => (.pointer (some ⟨T, 3, none⟩))
  | 23 => (.agg #[(.pointer (some ⟨T, 3, none⟩)), (I 32), (FN 132), (FN 133)])
  | 24 => (vW ⟨T, 3, none⟩ 32)
  | 25 => (.slice (some ⟨c 1, 0, none⟩) 4 4)
  | 26 => (.agg #[(.slice (some ⟨c 0, 0, none⟩) 1 1), (.slice (some ⟨c 1, 0, none⟩) 4 4)])
  | 27 => undef
  | _ => undef
def rly114T : List (Op × Option Tmp × Option (Nat × Bool)) := [
  (.load 9 (.tmp 3), some 4, none),
  (.call { callee := .builtin .len, args := #[(.tmp 4)], argTypes := #[9] }, some 5, none),
  (.build 179 #[(0, (.tmp 3)), (1, (.tmp 5)), (2, (.func 132)), (3, (.func 133))], some 6, none),
  (.makeInterface 179 (.tmp 6), some 7, none),
  (.buildSlice 109 1 #[(0, (.tmp 7))], some 8, none),
  (.move (.tmp 0), some 9, none),
  (.nilCheck (.tmp 9), some 10, none),
  (.fieldAddr 64 (.tmp 10) 0, some 11, none),
  (.build 197 #[(0, (.tmp 11)), (1, (.const (I 8))), (2, (.func 135)), (3, (.func 136))], some 12, none),
  (.makeInterface 197 (.tmp 12), some 13, none),
  (.move (.tmp 0), some 14, none),
  (.nilCheck (.tmp 14), some 15, none),
  (.fieldAddr 64 (.tmp 15) 1, some 16, none),
  (.build 197 #[(0, (.tmp 16)), (1, (.const (I 8))), (2, (.func 135)), (3, (.func 136))], some 17, none),
  (.makeInterface 197 (.tmp 17), some 18, none),
  (.move (.tmp 0), some 19, none),
  (.nilCheck (.tmp 19), some 20, none),
  (.fieldAddr 64 (.tmp 20) 2, some 21, none),
  (.build 179 #[(0, (.tmp 21)), (1, (.const (I 32))), (2, (.func 132)), (3, (.func 133))], some 22, none),
  (.makeInterface 179 (.tmp 22), some 23, none),
  (.move (.tmp 0), some 24, none),
  (.nilCheck (.tmp 24), some 25, none),
  (.fieldAddr 64 (.tmp 25) 3, some 26, none),
  (.build 179 #[(0, (.tmp 26)), (1, (.const (I 32))), (2, (.func 132)), (3, (.func 133))], some 27, none),
  (.makeInterface 179 (.tmp 27), some 28, none),
  (.buildSlice 109 4 #[(0, (.tmp 13)), (1, (.tmp 18)), (2, (.tmp 23)), (3, (.tmp 28))], some 29, none),
  (.build 111 #[(0, (.tmp 8)), (1, (.tmp 29))], some 30, none),
  (.store 111 (.tmp 2) (.tmp 30), none, none)]
def crly114 (a0 : Act) (T _R L1 : Nat) (c : (Nat → Nat)) : Act := (((((((((((((((((((((((((((a0.put (some 4) (S [104])).put (some 5) (I 1)).put (some 6) (.agg #[(ptr L1), (I 1), (FN 132), (FN 133)])).put (some 7) (vW ⟨L1, 0, none⟩ 1)).put (some 8) (.slice (some ⟨c 0, 0, none⟩) 1 1)).put (some 9) (ptr T)).put (some 10) (ptr T)).put (some 11) (.pointer (some ⟨T, 0, none⟩))).put (some 12) (.agg #[(.pointer (some ⟨T, 0, none⟩)), (I 8), (FN 135), (FN 136)])).put (some 13) (vI ⟨T, 0, none⟩ 8)).put (some 14) (ptr T)).put (some 15) (ptr T)).put (some 16) (.pointer (some ⟨T, 1, none⟩))).put (some 17) (.agg #[(.pointer (some ⟨T, 1, none⟩)), (I 8), (FN 135), (FN 136)])).put (some 18) (vI ⟨T, 1, none⟩ 8)).put (some 19) (ptr T)).put (some 20) (ptr T)).put (some 21) (.pointer (some ⟨T, 2, none⟩))).put (some 22) (.agg #[(.pointer (some ⟨T, 2, none⟩)), (I 32), (FN 132), (FN 133)])).put (some 23) (vW ⟨T, 2, none⟩ 32)).put (some 24) (ptr T)).put (some 25) (ptr T)).put (some 26) (.pointer (some ⟨T, 3, none⟩))).put (some 27) (.agg #[(.pointer (some ⟨T, 3, none⟩)), (I 32), (FN 132), (FN 133)])).put (some 28) (vW ⟨T, 3, none⟩ 32)).put (some 29) (.slice (some ⟨c 1, 0, none⟩) 4 4)).put (some 30) (.agg #[(.slice (some ⟨c 0, 0, none⟩) 1 1), (.slice (some ⟨c 1, 0, none⟩) 4 4)]))
def rly114D : List (Nat × Nat) := [(1, 0), (2, 1), (3, 2), (4, 3), (6, 5), (7, 6), (8, 7), (9, 8), (11, 10), (12, 11), (13, 12), (14, 13), (16, 15), (17, 16), (18, 17), (19, 18), (21, 20), (22, 21), (23, 22), (24, 23), (25, 9), (25, 14), (25, 19), (25, 24), (26, 4), (26, 25), (27, 26)]
set_option maxHeartbeats 4000000 in
theorem rly114 {ops : Array Oper} {id : Nat} {Q : Exit → Act → World → Prop} (T R L1 : Nat) (htab : ops.toList.map (fun o => (o.op, o.dst, o.guard)) = rly114T) (hdep : deplB rly114D ops = true) (hac : acB ops = true)
    (a0 : Act) (w : World) (hsz : 31 ≤ a0.tmps.size) (o0 : a0.tmps[0]? = some (ptr T)) (o2 : a0.tmps[2]? = some (ptr R)) (o3 : a0.tmps[3]? = some (ptr L1))
    (Wd : (Nat → Nat) → (Nat → Bool) → World → Prop) (h0 : ∃ c, Wd c (fun _ => false) w.drew) (hpure : ∀ i, i ∉ ([4, 25, 26, 27] : List Nat) → ∀ c L W, Wd c L W → Wd c (upd L i) W)
    (r0 : ∀ c L W, Wd c L W → L 0 = false → (Instr.loadAt 9 (ptr L1)).run Tryz.prog W = .ok (S [104]) W)
    (r4 : ∀ c L W, Wd c L W → L 4 = false → L 3 = true → ∃ c' W', (∀ j, L j = true → vrly114 T R L1 c' j = vrly114 T R L1 c j) ∧ (Instr.buildSlice 109 1 #[(0, (vW ⟨L1, 0, none⟩ 1))]).run Tryz.prog W = .ok (vrly114 T R L1 c' 4) W' ∧ Wd c' (upd L 4) W')
    (r25 : ∀ c L W, Wd c L W → L 25 = false → L 9 = true → L 14 = true → L 19 = true → L 24 = true → ∃ c' W', (∀ j, L j = true → vrly114 T R L1 c' j = vrly114 T R L1 c j) ∧ (Instr.buildSlice 109 4 #[(0, (vI ⟨T, 0, none⟩ 8)), (1, (vI ⟨T, 1, none⟩ 8)), (2, (vW ⟨T, 2, none⟩ 32)), (3, (vW ⟨T, 3, none⟩ 32))]).run Tryz.prog W = .ok (vrly114 T R L1 c' 25) W' ∧ Wd c' (upd L 25) W')
    (e26 : ∀ c L W, Wd c L W → L 26 = false → L 4 = true → L 25 = true → Wd c (upd L 26) W)
    (r27 : ∀ c L W, Wd c L W → L 27 = false → L 26 = true → ∃ W', (Instr.storeAt 111 (ptr R) (.agg #[(.slice (some ⟨c 0, 0, none⟩) 1 1), (.slice (some ⟨c 1, 0, none⟩) 4 4)])).run Tryz.prog W = .ok () W' ∧ Wd c (upd L 27) W')
    (hend : ∀ c L W, (∀ i, i < 28 → L i = true) → Wd c L W → Q .normal (crly114 a0 T R L1 c) W) : (Code.region id ops true).wp Tryz.prog Q a0 w := by
  let val : (Nat → Nat) → Nat → Value := vrly114 T R L1
  have hosz : ops.size = 28 := by
    have := congrArg List.length htab
    simpa [rly114T] using this
  have hds : ∀ i s, (rly114T[i]?).bind (·.2.1) = some s → dstOf ops i = some s := fun i s hi => by rw [tab_dst htab, hi]
  have hdisB : disL rly114T = true := by rfl
  have hdis := disL_of htab hdisB
  have hold : ∀ s, rly114T.all (fun x => !(x.2.1 == some s)) = true → (List.range ops.size).all (fun j => !(dstOf ops j == some s)) = true := fun s h => holdL htab s h
  refine region_detX val Wd (hac_of hac) hdis h0 ?_ ?_
  rotate_left
  · intro c L W hall hW
    have := hend c L W (by rw [← hosz]; exact hall) hW
    have e : frm ops a0 (val c) (fun _ => true) ops.size = (crly114 a0 T R L1 c) := by
      rw [hosz]
      simp only [crly114, frm, if_true]
      rw [tab_dst htab 0, tab_dst htab 1, tab_dst htab 2, tab_dst htab 3, tab_dst htab 4, tab_dst htab 5, tab_dst htab 6, tab_dst htab 7, tab_dst htab 8, tab_dst htab 9, tab_dst htab 10, tab_dst htab 11, tab_dst htab 12, tab_dst htab 13, tab_dst htab 14, tab_dst htab 15, tab_dst htab 16, tab_dst htab 17, tab_dst htab 18, tab_dst htab 19, tab_dst htab 20, tab_dst htab 21, tab_dst htab 22, tab_dst htab 23, tab_dst htab 24, tab_dst htab 25, tab_dst htab 26, (show dstOf ops 27 = none from (tab_dst htab 27).trans rfl), put_none]
      rfl
    rw [e]
    exact this
  intro i o ho c L a w' hL hd ha hW
  have hi : i < 28 := by rw [← hosz]; exact (Array.getElem?_eq_some_iff.1 ho).1
  have G : ∀ j s : Nat, (rly114T[j]?).bind (·.2.1) = some s → s < 31 → (i, j) ∈ rly114D → a.tmps[s]? = some (val c j) := fun j s h1 h2 h3 => frm_at hdis ha j s (hds j s h1) (by omega) (depl_of hdep i j h3 ho hd)
  match i, ho, hL, hi, G with
  | 0, ho, hL, _, G =>
    obtain ⟨hop, hgd⟩ := tab3 htab ho rfl
    have h0 := frm_old ha 3 _ (hold 3 rfl) o3
    exact (dXr ho hgd (hpure 0 (by decide) c L w' hW) (g_load hop (eval_of h0) (r0 c L w' hW hL)))
  | 1, ho, hL, _, G =>
    obtain ⟨hop, hgd⟩ := tab3 htab ho rfl
    have h0 := G 0 4 rfl (by decide) (by decide)
    exact (dXr ho hgd (hpure 1 (by decide) c L w' hW) (run_len _ _ _ hop _ (eval_of h0) _))
  | 2, ho, hL, _, G =>
    obtain ⟨hop, hgd⟩ := tab3 htab ho rfl
    have h0 := frm_old ha 3 _ (hold 3 rfl) o3
    have h1 := G 1 5 rfl (by decide) (by decide)
    exact (dXr ho hgd (hpure 2 (by decide) c L w' hW) (g_build hop (map4 (eval_of h0) (eval_of h1) rfl rfl) (by kernel_rfl)))
  | 3, ho, hL, _, G =>
    obtain ⟨hop, hgd⟩ := tab3 htab ho rfl
    have h0 := G 2 6 rfl (by decide) (by decide)
    exact (dXr ho hgd (hpure 3 (by decide) c L w' hW) (g_mki hop (eval_of h0) (by kernel_rfl)))
  | 4, ho, hL, _, G =>
    obtain ⟨hop, hgd⟩ := tab3 htab ho rfl
    have h0 := G 3 7 rfl (by decide) (by decide)
    obtain ⟨c', W', q0, q1, q2⟩ := r4 c L w' hW hL (depl_of hdep 4 3 (by decide) ho hd)
    exact doesX_runw ho (wanted_none hgd) c' q0 q2 (g_bs hop (by simp only [List.map_toArray, List.map_cons, List.map_nil, eval_of h0]; first | done | rfl) q1)
  | 5, ho, hL, _, G =>
    obtain ⟨hop, hgd⟩ := tab3 htab ho rfl
    have h0 := frm_old ha 0 _ (hold 0 rfl) o0
    exact (dXr ho hgd (hpure 5 (by decide) c L w' hW) (g_mov hop (eval_of h0)))
  | 6, ho, hL, _, G =>
    obtain ⟨hop, hgd⟩ := tab3 htab ho rfl
    have h0 := G 5 9 rfl (by decide) (by decide)
    exact (dXr ho hgd (hpure 6 (by decide) c L w' hW) (run_nil _ _ _ hop _ (eval_of h0) _))
  | 7, ho, hL, _, G =>
    obtain ⟨hop, hgd⟩ := tab3 htab ho rfl
    have h0 := G 6 10 rfl (by decide) (by decide)
    exact (dXr ho hgd (hpure 7 (by decide) c L w' hW) (g_field hop (eval_of h0) (by kernel_rfl)))
  | 8, ho, hL, _, G =>
    obtain ⟨hop, hgd⟩ := tab3 htab ho rfl
    have h0 := G 7 11 rfl (by decide) (by decide)
    exact (dXr ho hgd (hpure 8 (by decide) c L w' hW) (g_build hop (map4 (eval_of h0) rfl rfl rfl) (by kernel_rfl)))
  | 9, ho, hL, _, G =>
    obtain ⟨hop, hgd⟩ := tab3 htab ho rfl
    have h0 := G 8 12 rfl (by decide) (by decide)
    exact (dXr ho hgd (hpure 9 (by decide) c L w' hW) (g_mki hop (eval_of h0) (by kernel_rfl)))
  | 10, ho, hL, _, G =>
    obtain ⟨hop, hgd⟩ := tab3 htab ho rfl
    have h0 := frm_old ha 0 _ (hold 0 rfl) o0
    exact (dXr ho hgd (hpure 10 (by decide) c L w' hW) (g_mov hop (eval_of h0)))
  | 11, ho, hL, _, G =>
    obtain ⟨hop, hgd⟩ := tab3 htab ho rfl
    have h0 := G 10 14 rfl (by decide) (by decide)
    exact (dXr ho hgd (hpure 11 (by decide) c L w' hW) (run_nil _ _ _ hop _ (eval_of h0) _))
  | 12, ho, hL, _, G =>
    obtain ⟨hop, hgd⟩ := tab3 htab ho rfl
    have h0 := G 11 15 rfl (by decide) (by decide)
    exact (dXr ho hgd (hpure 12 (by decide) c L w' hW) (g_field hop (eval_of h0) (by kernel_rfl)))
  | 13, ho, hL, _, G =>
    obtain ⟨hop, hgd⟩ := tab3 htab ho rfl
    have h0 := G 12 16 rfl (by decide) (by decide)
    exact (dXr ho hgd (hpure 13 (by decide) c L w' hW) (g_build hop (map4 (eval_of h0) rfl rfl rfl) (by kernel_rfl)))
  | 14, ho, hL, _, G =>
    obtain ⟨hop, hgd⟩ := tab3 htab ho rfl
    have h0 := G 13 17 rfl (by decide) (by decide)
    exact (dXr ho hgd (hpure 14 (by decide) c L w' hW) (g_mki hop (eval_of h0) (by kernel_rfl)))
  | 15, ho, hL, _, G =>
    obtain ⟨hop, hgd⟩ := tab3 htab ho rfl
    have h0 := frm_old ha 0 _ (hold 0 rfl) o0
    exact (dXr ho hgd (hpure 15 (by decide) c L w' hW) (g_mov hop (eval_of h0)))
  | 16, ho, hL, _, G =>
    obtain ⟨hop, hgd⟩ := tab3 htab ho rfl
    have h0 := G 15 19 rfl (by decide) (by decide)
    exact (dXr ho hgd (hpure 16 (by decide) c L w' hW) (run_nil _ _ _ hop _ (eval_of h0) _))
  | 17, ho, hL, _, G =>
    obtain ⟨hop, hgd⟩ := tab3 htab ho rfl
    have h0 := G 16 20 rfl (by decide) (by decide)
    exact (dXr ho hgd (hpure 17 (by decide) c L w' hW) (g_field hop (eval_of h0) (by kernel_rfl)))
  | 18, ho, hL, _, G =>
    obtain ⟨hop, hgd⟩ := tab3 htab ho rfl
    have h0 := G 17 21 rfl (by decide) (by decide)
    exact (dXr ho hgd (hpure 18 (by decide) c L w' hW) (g_build hop (map4 (eval_of h0) rfl rfl rfl) (by kernel_rfl)))
  | 19, ho, hL, _, G =>
    obtain ⟨hop, hgd⟩ := tab3 htab ho rfl
    have h0 := G 18 22 rfl (by decide) (by decide)
    exact (dXr ho hgd (hpure 19 (by decide) c L w' hW) (g_mki hop (eval_of h0) (by kernel_rfl)))
  | 20, ho, hL, _, G =>
    obtain ⟨hop, hgd⟩ := tab3 htab ho rfl
    have h0 := frm_old ha 0 _ (hold 0 rfl) o0
    exact (dXr ho hgd (hpure 20 (by decide) c L w' hW) (g_mov hop (eval_of h0)))
  | 21, ho, hL, _, G =>
    obtain ⟨hop, hgd⟩ := tab3 htab ho rfl
    have h0 := G 20 24 rfl (by decide) (by decide)
    exact (dXr ho hgd (hpure 21 (by decide) c L w' hW) (run_nil _ _ _ hop _ (eval_of h0) _))
  | 22, ho, hL, _, G =>
    obtain ⟨hop, hgd⟩ := tab3 htab ho rfl
    have h0 := G 21 25 rfl (by decide) (by decide)
    exact (dXr ho hgd (hpure 22 (by decide) c L w' hW) (g_field hop (eval_of h0) (by kernel_rfl)))
  | 23, ho, hL, _, G =>
    obtain ⟨hop, hgd⟩ := tab3 htab ho rfl
    have h0 := G 22 26 rfl (by decide) (by decide)
    exact (dXr ho hgd (hpure 23 (by decide) c L w' hW) (g_build hop (map4 (eval_of h0) rfl rfl rfl) (by kernel_rfl)))
  | 24, ho, hL, _, G =>
    obtain ⟨hop, hgd⟩ := tab3 htab ho rfl
    have h0 := G 23 27 rfl (by decide) (by decide)
    exact (dXr ho hgd (hpure 24 (by decide) c L w' hW) (g_mki hop (eval_of h0) (by kernel_rfl)))
  | 25, ho, hL, _, G =>
    obtain ⟨hop, hgd⟩ := tab3 htab ho rfl
    have h0 := G 9 13 rfl (by decide) (by decide)
    have h1 := G 14 18 rfl (by decide) (by decide)
    have h2 := G 19 23 rfl (by decide) (by decide)
    have h3 := G 24 28 rfl (by decide) (by decide)
    obtain ⟨c', W', q0, q1, q2⟩ := r25 c L w' hW hL (depl_of hdep 25 9 (by decide) ho hd) (depl_of hdep 25 14 (by decide) ho hd) (depl_of hdep 25 19 (by decide) ho hd) (depl_of hdep 25 24 (by decide) ho hd)
    exact doesX_runw ho (wanted_none hgd) c' q0 q2 (g_bs hop (by simp only [List.map_toArray, List.map_cons, List.map_nil, eval_of h0, eval_of h1, eval_of h2, eval_of h3]; first | done | rfl) q1)
  | 26, ho, hL, _, G =>
    obtain ⟨hop, hgd⟩ := tab3 htab ho rfl
    have h0 := G 4 8 rfl (by decide) (by decide)
    have h1 := G 25 29 rfl (by decide) (by decide)
    exact (dXr ho hgd (e26 c L w' hW hL (depl_of hdep 26 4 (by decide) ho hd) (depl_of hdep 26 25 (by decide) ho hd)) (g_build hop (by simp only [List.map_toArray, List.map_cons, List.map_nil, eval_of h0, eval_of h1]; first | done | rfl) (by kernel_rfl)))
  | 27, ho, hL, _, G =>
    obtain ⟨hop, hgd⟩ := tab3 htab ho rfl
    have h0 := frm_old ha 2 _ (hold 2 rfl) o2
    have h1 := G 26 30 rfl (by decide) (by decide)
    obtain ⟨W', q1, q2⟩ := r27 c L w' hW hL (depl_of hdep 27 26 (by decide) ho hd)
    exact doesX_of (doesL_skp ho (wanted_none hgd) rfl q2 (g_store hop (eval_of h0) (eval_of h1) q1))
  | (i + 28), ho, hL, hi, _ => exact absurd hi (by omega)
def sly114 (T : Nat) (L1 : Nat) : List Sl := [⟨4, 0, fun _ => #[(vW ⟨L1, 0, none⟩ 1)], 213⟩, ⟨25, 1, fun _ => #[(vI ⟨T, 0, none⟩ 8), (vI ⟨T, 1, none⟩ 8), (vW ⟨T, 2, none⟩ 32), (vW ⟨T, 3, none⟩ 32)], 213⟩]
def dly114 : List (Nat × Nat) := [(26, 4), (26, 25), (27, 26), (27, 4), (27, 25)]
theorem lay114 (T : Nat) (w : World) : Calls Tryz.prog 114 #[ptr T] w fun e w' => ∃ c : Nat → Nat, e = .returned (.agg (#[(.slice (some ⟨c 0, 0, none⟩) 1 1), (.slice (some ⟨c 1, 0, none⟩) 4 4)])) ∧ Below w.heap.size w w' ∧ w'.heap[w.heap.size + 1]? = some (.cells #[S [104]] 9 (0, 0)) ∧ (w.heap.size + 2 ≤ c 0 ∧ w'.heap[c 0]? = some (.cells #[(vW ⟨w.heap.size + 1, 0, none⟩ 1)] 213 (0, 0))) ∧ (w.heap.size + 2 ≤ c 1 ∧ w'.heap[c 1]? = some (.cells #[(vI ⟨T, 0, none⟩ 8), (vI ⟨T, 1, none⟩ 8), (vW ⟨T, 2, none⟩ 32), (vW ⟨T, 3, none⟩ 32)] 213 (0, 0))) := by
  have hb0 : Below w.heap.size w ((w.alloc (.cells #[.slice none 0 0, .slice none 0 0] 111)).alloc (.cells #[S [104]] 9)) := by
    refine (((Below.refl _ w).alloc (Nat.le_refl _) _)).alloc (by first | (simp; done) | (simp; omega)) _
  have hR : ((w.alloc (.cells #[.slice none 0 0, .slice none 0 0] 111)).alloc (.cells #[S [104]] 9)).heap[w.heap.size]? = some (.cells #[.slice none 0 0, .slice none 0 0] 111 (0, 0)) := by
    rw [heap_alloc_old _ _ (by first | (simp; done) | (simp; omega))]; exact heap_alloc_new _ _
  have hL1 : ((w.alloc (.cells #[.slice none 0 0, .slice none 0 0] 111)).alloc (.cells #[S [104]] 9)).heap[w.heap.size + 1]? = some (.cells #[S [104]] 9 (0, 0)) := by
    have e := heap_alloc_new ((w.alloc (.cells #[.slice none 0 0, .slice none 0 0] 111))) (.cells #[S [104]] 9)
    simpa using e
  have hsz : ((w.alloc (.cells #[.slice none 0 0, .slice none 0 0] 111)).alloc (.cells #[S [104]] 9)).heap.size = w.heap.size + 2 := by simp
  go_enter Tryz.func114, Tryz.ntmps114
  go_wp2_with fail
  generalize ((w.alloc (.cells #[.slice none 0 0, .slice none 0 0] 111)).alloc (.cells #[S [104]] 9)) = W1 at *
  generalize hL1e : w.heap.size + 1 = L1 at *
  generalize hRe : w.heap.size = R at *
  have hw1 : ∃ w1s, w1s = W1.heap.size := ⟨_, rfl⟩
  obtain ⟨w1s, hw1⟩ := hw1
  rw [← hw1] at hsz
  refine rly114 T R L1 rfl (by rfl) (by rfl) _ W1 (by simp) rfl rfl rfl (Ly W1 R (fun _ => #[.slice none 0 0, .slice none 0 0]) (fun c => #[(.slice (some ⟨c 0, 0, none⟩) 1 1), (.slice (some ⟨c 1, 0, none⟩) 4 4)]) 27 (sly114 T L1) dly114) ⟨fun _ => 0, (Only.drew _ W1), (fun _ _ e => by cases e), (fun _ _ e => by cases e), hR⟩ (fun i hi c L W hW => hW.pure i ?hp1 ?hp2 (fun e => hi (by simp [e])))
    (fun c L W hW _ => s_ld (T := 9) (fun _ => by kernel_rfl) (cellr ((hW.only.block L1 (by omega) (by omega)).trans hL1) rfl))
    (fun c L W hW hL h3 => by
      refine ⟨cset c 0 W.heap.size, W.alloc (.cells #[(vW ⟨L1, 0, none⟩ 1)] 213), fun j hj => ?_, by kernel_rfl, hW.slice ⟨4, 0, fun _ => #[(vW ⟨L1, 0, none⟩ 1)], 213⟩ (no_of (hW.dep (27, 4) (by decide)) hL) (by simp) (fun _ => rfl) (fun d hd hi => ?_) (fun q hq e => ?_) (fun q hq e => ?_) (fun m => rfl)⟩
      · match j, hj with
        | 0, _ => rfl
        | 1, _ => rfl
        | 2, _ => rfl
        | 3, _ => rfl
        | 4, hj => rw [hL] at hj; cases hj
        | 5, _ => rfl
        | 6, _ => rfl
        | 7, _ => rfl
        | 8, _ => rfl
        | 9, _ => rfl
        | 10, _ => rfl
        | 11, _ => rfl
        | 12, _ => rfl
        | 13, _ => rfl
        | 14, _ => rfl
        | 15, _ => rfl
        | 16, _ => rfl
        | 17, _ => rfl
        | 18, _ => rfl
        | 19, _ => rfl
        | 20, _ => rfl
        | 21, _ => rfl
        | 22, _ => rfl
        | 23, _ => rfl
        | 24, _ => rfl
        | 25, _ => rfl
        | 26, hj => rw [hW.dep (26, 4) (by decide) hj] at hL; cases hL
        | 27, _ => rfl
        | (k + 28), _ => rfl
      · simp only [dly114, List.mem_cons, List.not_mem_nil, or_false] at hd
        rcases hd with rfl | rfl | rfl | rfl | rfl
        · exact absurd hi (by simp)
        · exact absurd hi (by simp)
        · exact absurd hi (by simp)
        · exact absurd hi (by simp)
        · exact absurd hi (by simp)
      · simp only [sly114, List.mem_cons, List.not_mem_nil, or_false] at hq
        rcases hq with rfl | rfl
        · rw [hL] at e; cases e
        · exact ⟨(by simp), fun m => rfl⟩
      · simp only [sly114, List.mem_cons, List.not_mem_nil, or_false] at hq
        rcases hq with rfl | rfl
        · rfl
        · exact absurd e (by simp))
    (fun c L W hW hL h9 h14 h19 h24 => by
      refine ⟨cset c 1 W.heap.size, W.alloc (.cells #[(vI ⟨T, 0, none⟩ 8), (vI ⟨T, 1, none⟩ 8), (vW ⟨T, 2, none⟩ 32), (vW ⟨T, 3, none⟩ 32)] 213), fun j hj => ?_, by kernel_rfl, hW.slice ⟨25, 1, fun _ => #[(vI ⟨T, 0, none⟩ 8), (vI ⟨T, 1, none⟩ 8), (vW ⟨T, 2, none⟩ 32), (vW ⟨T, 3, none⟩ 32)], 213⟩ (no_of (hW.dep (27, 25) (by decide)) hL) (by simp) (fun _ => rfl) (fun d hd hi => ?_) (fun q hq e => ?_) (fun q hq e => ?_) (fun m => rfl)⟩
      · match j, hj with
        | 0, _ => rfl
        | 1, _ => rfl
        | 2, _ => rfl
        | 3, _ => rfl
        | 4, _ => rfl
        | 5, _ => rfl
        | 6, _ => rfl
        | 7, _ => rfl
        | 8, _ => rfl
        | 9, _ => rfl
        | 10, _ => rfl
        | 11, _ => rfl
        | 12, _ => rfl
        | 13, _ => rfl
        | 14, _ => rfl
        | 15, _ => rfl
        | 16, _ => rfl
        | 17, _ => rfl
        | 18, _ => rfl
        | 19, _ => rfl
        | 20, _ => rfl
        | 21, _ => rfl
        | 22, _ => rfl
        | 23, _ => rfl
        | 24, _ => rfl
        | 25, hj => rw [hL] at hj; cases hj
        | 26, hj => rw [hW.dep (26, 25) (by decide) hj] at hL; cases hL
        | 27, _ => rfl
        | (k + 28), _ => rfl
      · simp only [dly114, List.mem_cons, List.not_mem_nil, or_false] at hd
        rcases hd with rfl | rfl | rfl | rfl | rfl
        · exact absurd hi (by simp)
        · exact absurd hi (by simp)
        · exact absurd hi (by simp)
        · exact absurd hi (by simp)
        · exact absurd hi (by simp)
      · simp only [sly114, List.mem_cons, List.not_mem_nil, or_false] at hq
        rcases hq with rfl | rfl
        · exact ⟨(by simp), fun m => rfl⟩
        · rw [hL] at e; cases e
      · simp only [sly114, List.mem_cons, List.not_mem_nil, or_false] at hq
        rcases hq with rfl | rfl
        · exact absurd e (by simp)
        · rfl)
    (fun c L W hW _ h4 h25 => hW.pure 26 (fun s hs => by simp only [sly114, List.mem_cons, List.not_mem_nil, or_false] at hs; rcases hs with rfl | rfl <;> simp) (fun d hd hi => by
      simp only [dly114, List.mem_cons, List.not_mem_nil, or_false] at hd
      rcases hd with rfl | rfl | rfl | rfl | rfl
      · exact h4
      · exact h25
      · exact absurd hi (by simp)
      · exact absurd hi (by simp)
      · exact absurd hi (by simp)) (by decide))
    (fun c L W hW hL h26 => by
      have hbx := hW.box
      rw [hL, if_neg (by decide)] at hbx
      have e := s_sta (T := 111) (n := 2) (fun _ => by kernel_rfl) (o := 0) hbx (.agg #[(.slice (some ⟨c 0, 0, none⟩) 1 1), (.slice (some ⟨c 1, 0, none⟩) 4 4)]) rfl (by decide) (by intro x hx; simp only [Value.cells, List.mem_cons, List.not_mem_nil, or_false] at hx; rcases hx with rfl | rfl <;> rfl)
      refine ⟨_, e, ?_⟩
      refine hW.store (v := fun c => #[(.slice (some ⟨c 0, 0, none⟩) 1 1), (.slice (some ⟨c 1, 0, none⟩) 4 4)]) (fun q hq => ?_) (fun d hd hi => ?_)
      · simp only [sly114, List.mem_cons, List.not_mem_nil, or_false] at hq
        rcases hq with rfl | rfl
        · exact ⟨(by simp), fun e => by have h5 := (hW.sl ⟨4, 0, fun _ => #[(vW ⟨L1, 0, none⟩ 1)], 213⟩ (by simp [sly114]) e).1; have h6 : W1.heap.size ≤ c 0 := h5; show c 0 ≠ R; omega⟩
        · exact ⟨(by simp), fun e => by have h5 := (hW.sl ⟨25, 1, fun _ => #[(vI ⟨T, 0, none⟩ 8), (vI ⟨T, 1, none⟩ 8), (vW ⟨T, 2, none⟩ 32), (vW ⟨T, 3, none⟩ 32)], 213⟩ (by simp [sly114]) e).1; have h6 : W1.heap.size ≤ c 1 := h5; show c 1 ≠ R; omega⟩
      · simp only [dly114, List.mem_cons, List.not_mem_nil, or_false] at hd
        rcases hd with rfl | rfl | rfl | rfl | rfl
        · exact absurd hi (by simp)
        · exact absurd hi (by simp)
        · exact h26
        · exact hW.dep (26, 4) (by decide) h26
        · exact hW.dep (26, 25) (by decide) h26) ?hend
  case hp1 =>
    intro q hq e
    simp only [sly114, List.mem_cons, List.not_mem_nil, or_false] at hq
    rcases hq with rfl | rfl <;> exact hi (by simp at e; simp [← e])
  case hp2 =>
    intro d hd e
    simp only [dly114, List.mem_cons, List.not_mem_nil, or_false] at hd
    rcases hd with rfl | rfl | rfl | rfl | rfl <;> exact absurd (by simp at e; simp [← e]) hi
  case hend =>
    intro c L W hall hW
    simp only [crly114, Act.put, List.setIfInBounds_toArray, List.set_cons_succ, List.set_cons_zero]
    have hbx := hW.box
    rw [hall 27 (by decide), if_pos rfl] at hbx
    have hO := hW.only
    have hs0 := hW.sl ⟨4, 0, fun _ => #[(vW ⟨L1, 0, none⟩ 1)], 213⟩ (by simp [sly114]) (hall 4 (by decide))
    have hs1 := hW.sl ⟨25, 1, fun _ => #[(vI ⟨T, 0, none⟩ 8), (vI ⟨T, 1, none⟩ 8), (vW ⟨T, 2, none⟩ 32), (vW ⟨T, 3, none⟩ 32)], 213⟩ (by simp [sly114]) (hall 25 (by decide))
    have HP : Hid (W.heap[R]? = some (.cells #[(.slice (some ⟨c 0, 0, none⟩) 1 1), (.slice (some ⟨c 1, 0, none⟩) 4 4)] 111 (0, 0)) ∧ Below R w W ∧ W.heap[L1]? = some (.cells #[S [104]] 9 (0, 0)) ∧ (R + 2 ≤ c 0 ∧ W.heap[c 0]? = some (.cells #[(vW ⟨L1, 0, none⟩ 1)] 213 (0, 0))) ∧ (R + 2 ≤ c 1 ∧ W.heap[c 1]? = some (.cells #[(vI ⟨T, 0, none⟩ 8), (vI ⟨T, 1, none⟩ 8), (vW ⟨T, 2, none⟩ 32), (vW ⟨T, 3, none⟩ 32)] 213 (0, 0)))) := hide (⟨hbx, hO.below hb0 (by omega) (fun k e => by omega), (hO.block L1 (by omega) (by omega)).trans hL1, ⟨by have h5 : W1.heap.size ≤ c 0 := hs0.1; omega, hs0.2⟩, ⟨by have h5 : W1.heap.size ≤ c 1 := hs1.1; omega, hs1.2⟩⟩)
    clear hbx hO hW hall hs0 hs1
    go_wp2
    obtain ⟨hbx, hpp⟩ := unhide HP
    refine out1c (T := 111) (n := 2) (fun _ => by kernel_rfl) (fun _ => by kernel_rfl) (Z := R) rfl rfl rfl hbx rfl ?_
    subst hL1e; subst hRe
    exact ⟨c, rfl, hpp⟩
def vrly108 (T _R L1 : Nat) (c : (Nat → Nat)) (i : Nat) : Value := match i with
  | 0 => (S [101])
  | 1 => (I 1)
  | 2 => (.agg #[(ptr L1), (I 1), (FN 132), (FN 133)])
  | 3 => (vW ⟨L1, 0, none⟩ 1)
  | 4 => (ptr T)
  | 5 => (ptr T)
  | 6 => (.pointer (some ⟨T, 0, none⟩))
  | 7 => (.agg #[(.pointer (some ⟨T, 0, none⟩)), (I 8), (FN 135), (FN 136)])
  | 8 => (vI ⟨T, 0, none⟩ 8)
  | 9 => (.slice (some ⟨c 0, 0, none⟩) 2 2)
  | 10 => (ptr T)
  | 11 => (ptr T)
  | 12 => (.pointer (some ⟨T, 1, none⟩))
  | 13 => (.agg #[(.pointer (some ⟨T, 1, none⟩)), (I 6), (FN 135), (FN 136)])
  | 14 => (vI ⟨T, 1, none⟩ 6)
  | 15 => (ptr T)
  | 16 => (ptr T)
  | 17 => (.pointer (some ⟨T, 2, none⟩))
  | 18 => (.agg #[(.pointer (some ⟨T, 2, none⟩)), (I 1), (FN 135), (FN 136)])
  | 19 => (vI ⟨T, 2, none⟩ 1)
  | 20 => (ptr T)
  | 21 => (ptr T)
  | 22 => (.pointer (some ⟨T, 3, none⟩))
  | 23 => (.agg #[(.pointer (some ⟨T, 3, none⟩)), (I 8), (FN 135), (FN 136)])
  | 24 => (vI ⟨T, 3, none⟩ 8)
  | 25 => (ptr T)
  | 26 => (ptr T)
  | 27 => (.pointer (some ⟨T, 4, none⟩))
  | 28 => (.agg #[(.pointer (some ⟨T, 4, none⟩)), (I 16), (FN 137), (FN 138)])
  | 29 => (vT ⟨T, 4, none⟩ 16)
  | 30 => (.slice (some ⟨c 1, 0, none⟩) 4 4)
  | 31 => (.agg #[(.slice (some ⟨c 0, 0, none⟩) 2 2), (.slice (some ⟨c 1, 0, none⟩) 4 4)])
  | 32 => undef
  | _ => undef
def rly108T : List (Op × Option Tmp × Option (Nat × Bool)) := [
  (.load 9 (.tmp 3), some 4, none),
  (.call { callee := .builtin .len, args := #[(.tmp 4)], argTypes := #[9] }, some 5, none),
  (.build 179 #[(0, (.tmp 3)), (1, (.tmp 5)), (2, (.func 132)), (3, (.func 133))], some 6, none),
  (.makeInterface 179 (.tmp 6), some 7, none),
  (.move (.tmp 0), some 8, none),
  (.nilCheck (.tmp 8), some 9, none),
  (.fieldAddr 62 (.tmp 9) 0, some 10, none),
  (.build 197 #[(0, (.tmp 10)), (1, (.const (I 8))), (2, (.func 135)), (3, (.func 136))], some 11, none),
  (.makeInterface 197 (.tmp 11), some 12, none),
  (.buildSlice 109 2 #[(0, (.tmp 7)), (1, (.tmp 12))], some 13, none),
  (.move (.tmp 0), some 14, none),
  (.nilCheck (.tmp 14), some 15, none),
  (.fieldAddr 62 (.tmp 15) 1, some 16, none),
  (.build 197 #[(0, (.tmp 16)), (1, (.const (I 6))), (2, (.func 135)), (3, (.func 136))], some 17, none),
  (.makeInterface 197 (.tmp 17), some 18, none),
  (.move (.tmp 0), some 19, none),
  (.nilCheck (.tmp 19), some 20, none),
  (.fieldAddr 62 (.tmp 20) 2, some 21, none),
  (.build 197 #[(0, (.tmp 21)), (1, (.const (I 1))), (2, (.func 135)), (3, (.func 136))], some 22, none),
  (.makeInterface 197 (.tmp 22), some 23, none),
  (.move (.tmp 0), some 24, none),
  (.nilCheck (.tmp 24), some 25, none),
  (.fieldAddr 62 (.tmp 25) 3, some 26, none),
  (.build 197 #[(0, (.tmp 26)), (1, (.const (I 8))), (2, (.func 135)), (3, (.func 136))], some 27, none),
  (.makeInterface 197 (.tmp 27), some 28, none),
  (.move (.tmp 0), some 29, none),
  (.nilCheck (.tmp 29), some 30, none),
  (.fieldAddr 62 (.tmp 30) 4, some 31, none),
  (.build 194 #[(0, (.tmp 31)), (1, (.const (I 16))), (2, (.func 137)), (3, (.func 138))], some 32, none),
  (.makeInterface 194 (.tmp 32), some 33, none),
  (.buildSlice 109 4 #[(0, (.tmp 18)), (1, (.tmp 23)), (2, (.tmp 28)), (3, (.tmp 33))], some 34, none),
  (.build 111 #[(0, (.tmp 13)), (1, (.tmp 34))], some 35, none),
  (.store 111 (.tmp 2) (.tmp 35), none, none)]
def crly108 (a0 : Act) (T _R L1 : Nat) (c : (Nat → Nat)) : Act := ((((((((((((((((((((((((((((((((a0.put (some 4) (S [101])).put (some 5) (I 1)).put (some 6) (.agg #[(ptr L1), (I 1), (FN 132), (FN 133)])).put (some 7) (vW ⟨L1, 0, none⟩ 1)).put (some 8) (ptr T)).put (some 9) (ptr T)).put (some 10) (.pointer (some ⟨T, 0, none⟩))).put (some 11) (.agg #[(.pointer (some ⟨T, 0, none⟩)), (I 8), (FN 135), (FN 136)])).put (some 12) (vI ⟨T, 0, none⟩ 8)).put (some 13) (.slice (some ⟨c 0, 0, none⟩) 2 2)).put (some 14) (ptr T)).put (some 15) (ptr T)).put (some 16) (.pointer (some ⟨T, 1, none⟩))).put (some 17) (.agg #[(.pointer (some ⟨T, 1, none⟩)), (I 6), (FN 135), (FN 136)])).put (some 18) (vI ⟨T, 1, none⟩ 6)).put (some 19) (ptr T)).put (some 20) (ptr T)).put (some 21) (.pointer (some ⟨T, 2, none⟩))).put (some 22) (.agg #[(.pointer (some ⟨T, 2, none⟩)), (I 1), (FN 135), (FN 136)])).put (some 23) (vI ⟨T, 2, none⟩ 1)).put (some 24) (ptr T)).put (some 25) (ptr T)).put (some 26) (.pointer (some ⟨T, 3, none⟩))).put (some 27) (.agg #[(.pointer (some ⟨T, 3, none⟩)), (I 8), (FN 135), (FN 136)])).put (some 28) (vI ⟨T, 3, none⟩ 8)).put (some 29) (ptr T)).put (some 30) (ptr T)).put (some 31) (.pointer (some ⟨T, 4, none⟩))).put (some 32) (.agg #[(.pointer (some ⟨T, 4, none⟩)), (I 16), (FN 137), (FN 138)])).put (some 33) (vT ⟨T, 4, none⟩ 16)).put (some 34) (.slice (some ⟨c 1, 0, none⟩) 4 4)).put (some 35) (.agg #[(.slice (some ⟨c 0, 0, none⟩) 2 2), (.slice (some ⟨c 1, 0, none⟩) 4 4)]))
def rly108D : List (Nat × Nat) := [(1, 0), (2, 1), (3, 2), (5, 4), (6, 5), (7, 6), (8, 7), (9, 3), (9, 8), (11, 10), (12, 11), (13, 12), (14, 13), (16, 15), (17, 16), (18, 17), (19, 18), (21, 20), (22, 21), (23, 22), (24, 23), (26, 25), (27, 26), (28, 27), (29, 28), (30, 14), (30, 19), (30, 24), (30, 29), (31, 9), (31, 30), (32, 31)]
set_option maxHeartbeats 4000000 in
theorem rly108 {ops : Array Oper} {id : Nat} {Q : Exit → Act → World → Prop} (T R L1 : Nat) (htab : ops.toList.map (fun o => (o.op, o.dst, o.guard)) = rly108T) (hdep : deplB rly108D ops = true) (hac : acB ops = true)
    (a0 : Act) (w : World) (hsz : 36 ≤ a0.tmps.size) (o0 : a0.tmps[0]? = some (ptr T)) (o2 : a0.tmps[2]? = some (ptr R)) (o3 : a0.tmps[3]? = some (ptr L1))
    (Wd : (Nat → Nat) → (Nat → Bool) → World → Prop) (h0 : ∃ c, Wd c (fun _ => false) w.drew) (hpure : ∀ i, i ∉ ([9, 30, 31, 32] : List Nat) → ∀ c L W, Wd c L W → Wd c (upd L i) W)
    (r0 : ∀ c L W, Wd c L W → L 0 = false → (Instr.loadAt 9 (ptr L1)).run Tryz.prog W = .ok (S [101]) W)
    (r9 : ∀ c L W, Wd c L W → L 9 = false → L 3 = true → L 8 = true → ∃ c' W', (∀ j, L j = true → vrly108 T R L1 c' j = vrly108 T R L1 c j) ∧ (Instr.buildSlice 109 2 #[(0, (vW ⟨L1, 0, none⟩ 1)), (1, (vI ⟨T, 0, none⟩ 8))]).run Tryz.prog W = .ok (vrly108 T R L1 c' 9) W' ∧ Wd c' (upd L 9) W')
    (r30 : ∀ c L W, Wd c L W → L 30 = false → L 14 = true → L 19 = true → L 24 = true → L 29 = true → ∃ c' W', (∀ j, L j = true → vrly108 T R L1 c' j = vrly108 T R L1 c j) ∧ (Instr.buildSlice 109 4 #[(0, (vI ⟨T, 1, none⟩ 6)), (1, (vI ⟨T, 2, none⟩ 1)), (2, (vI ⟨T, 3, none⟩ 8)), (3, (vT ⟨T, 4, none⟩ 16))]).run Tryz.prog W = .ok (vrly108 T R L1 c' 30) W' ∧ Wd c' (upd L 30) W')
    (e31 : ∀ c L W, Wd c L W → L 31 = false → L 9 = true → L 30 = true → Wd c (upd L 31) W)
    (r32 : ∀ c L W, Wd c L W → L 32 = false → L 31 = true → ∃ W', (Instr.storeAt 111 (ptr R) (.agg #[(.slice (some ⟨c 0, 0, none⟩) 2 2), (.slice (some ⟨c 1, 0, none⟩) 4 4)])).run Tryz.prog W = .ok () W' ∧ Wd c (upd L 32) W')
    (hend : ∀ c L W, (∀ i, i < 33 → L i = true) → Wd c L W → Q .normal (crly108 a0 T R L1 c) W) : (Code.region id ops true).wp Tryz.prog Q a0 w := by
  let val : (Nat → Nat) → Nat → Value := vrly108 T R L1
  have hosz : ops.size = 33 := by
    have := congrArg List.length htab
    simpa [rly108T] using this
  have hds : ∀ i s, (rly108T[i]?).bind (·.2.1) = some s → dstOf ops i = some s := fun i s hi => by rw [tab_dst htab, hi]
  have hdisB : disL rly108T = true := by rfl
  have hdis := disL_of htab hdisB
  have hold : ∀ s, rly108T.all (fun x => !(x.2.1 == some s)) = true → (List.range ops.size).all (fun j => !(dstOf ops j == some s)) = true := fun s h => holdL htab s h
  refine region_detX val Wd (hac_of hac) hdis h0 ?_ ?_
  rotate_left
  · intro c L W hall hW
    have := hend c L W (by rw [← hosz]; exact hall) hW
    have e : frm ops a0 (val c) (fun _ => true) ops.size = (crly108 a0 T R L1 c) := by
      rw [hosz]
      simp only [crly108, frm, if_true]
      rw [tab_dst htab 0, tab_dst htab 1, tab_dst htab 2, tab_dst htab 3, tab_dst htab 4, tab_dst htab 5, tab_dst htab 6, tab_dst htab 7, tab_dst htab 8, tab_dst htab 9, tab_dst htab 10, tab_dst htab 11, tab_dst htab 12, tab_dst htab 13, tab_dst htab 14, tab_dst htab 15, tab_dst htab 16, tab_dst htab 17, tab_dst htab 18, tab_dst htab 19, tab_dst htab 20, tab_dst htab 21, tab_dst htab 22, tab_dst htab 23, tab_dst htab 24, tab_dst htab 25, tab_dst htab 26, tab_dst htab 27, tab_dst htab 28, tab_dst htab 29, tab_dst htab 30, tab_dst htab 31, (show dstOf ops 32 = none from (tab_dst htab 32).trans rfl), put_none]
      rfl
    rw [e]
    exact this
  intro i o ho c L a w' hL hd ha hW
  have hi : i < 33 := by rw [← hosz]; exact (Array.getElem?_eq_some_iff.1 ho).1
  have G : ∀ j s : Nat, (rly108T[j]?).bind (·.2.1) = some s → s < 36 → (i, j) ∈ rly108D → a.tmps[s]? = some (val c j) := fun j s h1 h2 h3 => frm_at hdis ha j s (hds j s h1) (by omega) (depl_of hdep i j h3 ho hd)
  match i, ho, hL, hi, G with
  | 0, ho, hL, _, G =>
    obtain ⟨hop, hgd⟩ := tab3 htab ho rfl
    have h0 := frm_old ha 3 _ (hold 3 rfl) o3
    exact (dXr ho hgd (hpure 0 (by decide) c L w' hW) (g_load hop (eval_of h0) (r0 c L w' hW hL)))
  | 1, ho, hL, _, G =>
    obtain ⟨hop, hgd⟩ := tab3 htab ho rfl
    have h0 := G 0 4 rfl (by decide) (by decide)
    exact (dXr ho hgd (hpure 1 (by decide) c L w' hW) (run_len _ _ _ hop _ (eval_of h0) _))
  | 2, ho, hL, _, G =>
    obtain ⟨hop, hgd⟩ := tab3 htab ho rfl
    have h0 := frm_old ha 3 _ (hold 3 rfl) o3
    have h1 := G 1 5 rfl (by decide) (by decide)
    exact (dXr ho hgd (hpure 2 (by decide) c L w' hW) (g_build hop (map4 (eval_of h0) (eval_of h1) rfl rfl) (by kernel_rfl)))
  | 3, ho, hL, _, G =>
    obtain ⟨hop, hgd⟩ := tab3 htab ho rfl
    have h0 := G 2 6 rfl (by decide) (by decide)
    exact (dXr ho hgd (hpure 3 (by decide) c L w' hW) (g_mki hop (eval_of h0) (by kernel_rfl)))
  | 4, ho, hL, _, G =>
    obtain ⟨hop, hgd⟩ := tab3 htab ho rfl
    have h0 := frm_old ha 0 _ (hold 0 rfl) o0
    exact (dXr ho hgd (hpure 4 (by decide) c L w' hW) (g_mov hop (eval_of h0)))
  | 5, ho, hL, _, G =>
    obtain ⟨hop, hgd⟩ := tab3 htab ho rfl
    have h0 := G 4 8 rfl (by decide) (by decide)
    exact (dXr ho hgd (hpure 5 (by decide) c L w' hW) (run_nil _ _ _ hop _ (eval_of h0) _))
  | 6, ho, hL, _, G =>
    obtain ⟨hop, hgd⟩ := tab3 htab ho rfl
    have h0 := G 5 9 rfl (by decide) (by decide)
    exact (dXr ho hgd (hpure 6 (by decide) c L w' hW) (g_field hop (eval_of h0) (by kernel_rfl)))
  | 7, ho, hL, _, G =>
    obtain ⟨hop, hgd⟩ := tab3 htab ho rfl
    have h0 := G 6 10 rfl (by decide) (by decide)
    exact (dXr ho hgd (hpure 7 (by decide) c L w' hW) (g_build hop (map4 (eval_of h0) rfl rfl rfl) (by kernel_rfl)))
  | 8, ho, hL, _, G =>
    obtain ⟨hop, hgd⟩ := tab3 htab ho rfl
    have h0 := G 7 11 rfl (by decide) (by decide)
    exact (dXr ho hgd (hpure 8 (by decide) c L w' hW) (g_mki hop (eval_of h0) (by kernel_rfl)))
  | 9, ho, hL, _, G =>
    obtain ⟨hop, hgd⟩ := tab3 htab ho rfl
    have h0 := G 3 7 rfl (by decide) (by decide)
    have h1 := G 8 12 rfl (by decide) (by decide)
    obtain ⟨c', W', q0, q1, q2⟩ := r9 c L w' hW hL (depl_of hdep 9 3 (by decide) ho hd) (depl_of hdep 9 8 (by decide) ho hd)
    exact doesX_runw ho (wanted_none hgd) c' q0 q2 (g_bs hop (by simp only [List.map_toArray, List.map_cons, List.map_nil, eval_of h0, eval_of h1]; first | done | rfl) q1)
  | 10, ho, hL, _, G =>
    obtain ⟨hop, hgd⟩ := tab3 htab ho rfl
    have h0 := frm_old ha 0 _ (hold 0 rfl) o0
    exact (dXr ho hgd (hpure 10 (by decide) c L w' hW) (g_mov hop (eval_of h0)))
  | 11, ho, hL, _, G =>
    obtain ⟨hop, hgd⟩ := tab3 htab ho rfl
    have h0 := G 10 14 rfl (by decide) (by decide)
    exact (dXr ho hgd (hpure 11 (by decide) c L w' hW) (run_nil _ _ _ hop _ (eval_of h0) _))
  | 12, ho, hL, _, G =>
    obtain ⟨hop, hgd⟩ := tab3 htab ho rfl
    have h0 := G 11 15 rfl (by decide) (by decide)
    exact (dXr ho hgd (hpure 12 (by decide) c L w' hW) (g_field hop (eval_of h0) (by kernel_rfl)))
  | 13, ho, hL, _, G =>
    obtain ⟨hop, hgd⟩ := tab3 htab ho rfl
    have h0 := G 12 16 rfl (by decide) (by decide)
    exact (dXr ho hgd (hpure 13 (by decide) c L w' hW) (g_build hop (map4 (eval_of h0) rfl rfl rfl) (by kernel_rfl)))
  | 14, ho, hL, _, G =>
    obtain ⟨hop, hgd⟩ := tab3 htab ho rfl
    have h0 := G 13 17 rfl (by decide) (by decide)
    exact (dXr ho hgd (hpure 14 (by decide) c L w' hW) (g_mki hop (eval_of h0) (by kernel_rfl)))
  | 15, ho, hL, _, G =>
    obtain ⟨hop, hgd⟩ := tab3 htab ho rfl
    have h0 := frm_old ha 0 _ (hold 0 rfl) o0
    exact (dXr ho hgd (hpure 15 (by decide) c L w' hW) (g_mov hop (eval_of h0)))
  | 16, ho, hL, _, G =>
    obtain ⟨hop, hgd⟩ := tab3 htab ho rfl
    have h0 := G 15 19 rfl (by decide) (by decide)
    exact (dXr ho hgd (hpure 16 (by decide) c L w' hW) (run_nil _ _ _ hop _ (eval_of h0) _))
  | 17, ho, hL, _, G =>
    obtain ⟨hop, hgd⟩ := tab3 htab ho rfl
    have h0 := G 16 20 rfl (by decide) (by decide)
    exact (dXr ho hgd (hpure 17 (by decide) c L w' hW) (g_field hop (eval_of h0) (by kernel_rfl)))
  | 18, ho, hL, _, G =>
    obtain ⟨hop, hgd⟩ := tab3 htab ho rfl
    have h0 := G 17 21 rfl (by decide) (by decide)
    exact (dXr ho hgd (hpure 18 (by decide) c L w' hW) (g_build hop (map4 (eval_of h0) rfl rfl rfl) (by kernel_rfl)))
  | 19, ho, hL, _, G =>
    obtain ⟨hop, hgd⟩ := tab3 htab ho rfl
    have h0 := G 18 22 rfl (by decide) (by decide)
    exact (dXr ho hgd (hpure 19 (by decide) c L w' hW) (g_mki hop (eval_of h0) (by kernel_rfl)))
  | 20, ho, hL, _, G =>
    obtain ⟨hop, hgd⟩ := tab3 htab ho rfl
    have h0 := frm_old ha 0 _ (hold 0 rfl) o0
    exact (dXr ho hgd (hpure 20 (by decide) c L w' hW) (g_mov hop (eval_of h0)))
  | 21, ho, hL, _, G =>
    obtain ⟨hop, hgd⟩ := tab3 htab ho rfl
    have h0 := G 20 24 rfl (by decide) (by decide)
    exact (dXr ho hgd (hpure 21 (by decide) c L w' hW) (run_nil _ _ _ hop _ (eval_of h0) _))
  | 22, ho, hL, _, G =>
    obtain ⟨hop, hgd⟩ := tab3 htab ho rfl
    have h0 := G 21 25 rfl (by decide) (by decide)
    exact (dXr ho hgd (hpure 22 (by decide) c L w' hW) (g_field hop (eval_of h0) (by kernel_rfl)))
  | 23, ho, hL, _, G =>
    obtain ⟨hop, hgd⟩ := tab3 htab ho rfl
    have h0 := G 22 26 rfl (by decide) (by decide)
    exact (dXr ho hgd (hpure 23 (by decide) c L w' hW) (g_build hop (map4 (eval_of h0) rfl rfl rfl) (by kernel_rfl)))
  | 24, ho, hL, _, G =>
    obtain ⟨hop, hgd⟩ := tab3 htab ho rfl
    have h0 := G 23 27 rfl (by decide) (by decide)
    exact (dXr ho hgd (hpure 24 (by decide) c L w' hW) (g_mki hop (eval_of h0) (by kernel_rfl)))
  | 25, ho, hL, _, G =>
    obtain ⟨hop, hgd⟩ := tab3 htab ho rfl
    have h0 := frm_old ha 0 _ (hold 0 rfl) o0
    exact (dXr ho hgd (hpure 25 (by decide) c L w' hW) (g_mov hop (eval_of h0)))
  | 26, ho, hL, _, G =>
    obtain ⟨hop, hgd⟩ := tab3 htab ho rfl
    have h0 := G 25 29 rfl (by decide) (by decide)
    exact (dXr ho hgd (hpure 26 (by decide) c L w' hW) (run_nil _ _ _ hop _ (eval_of h0) _))
  | 27, ho, hL, _, G =>
    obtain ⟨hop, hgd⟩ := tab3 htab ho rfl
    have h0 := G 26 30 rfl (by decide) (by decide)
    exact (dXr ho hgd (hpure 27 (by decide) c L w' hW) (g_field hop (eval_of h0) (by kernel_rfl)))
  | 28, ho, hL, _, G =>
    obtain ⟨hop, hgd⟩ := tab3 htab ho rfl
    have h0 := G 27 31 rfl (by decide) (by decide)
    exact (dXr ho hgd (hpure 28 (by decide) c L w' hW) (g_build hop (map4 (eval_of h0) rfl rfl rfl) (by kernel_rfl)))
  | 29, ho, hL, _, G =>
    obtain ⟨hop, hgd⟩ := tab3 htab ho rfl
    have h0 := G 28 32 rfl (by decide) (by decide)
    exact (dXr ho hgd (hpure 29 (by decide) c L w' hW) (g_mki hop (eval_of h0) (by kernel_rfl)))
  | 30, ho, hL, _, G =>
    obtain ⟨hop, hgd⟩ := tab3 htab ho rfl
    have h0 := G 14 18 rfl (by decide) (by decide)
    have h1 := G 19 23 rfl (by decide) (by decide)
    have h2 := G 24 28 rfl (by decide) (by decide)
    have h3 := G 29 33 rfl (by decide) (by decide)
    obtain ⟨c', W', q0, q1, q2⟩ := r30 c L w' hW hL (depl_of hdep 30 14 (by decide) ho hd) (depl_of hdep 30 19 (by decide) ho hd) (depl_of hdep 30 24 (by decide) ho hd) (depl_of hdep 30 29 (by decide) ho hd)
    exact doesX_runw ho (wanted_none hgd) c' q0 q2 (g_bs hop (by simp only [List.map_toArray, List.map_cons, List.map_nil, eval_of h0, eval_of h1, eval_of h2, eval_of h3]; first | done | rfl) q1)
  | 31, ho, hL, _, G =>
    obtain ⟨hop, hgd⟩ := tab3 htab ho rfl
    have h0 := G 9 13 rfl (by decide) (by decide)
    have h1 := G 30 34 rfl (by decide) (by decide)
    exact (dXr ho hgd (e31 c L w' hW hL (depl_of hdep 31 9 (by decide) ho hd) (depl_of hdep 31 30 (by decide) ho hd)) (g_build hop (by simp only [List.map_toArray, List.map_cons, List.map_nil, eval_of h0, eval_of h1]; first | done | rfl) (by kernel_rfl)))
  | 32, ho, hL, _, G =>
    obtain ⟨hop, hgd⟩ := tab3 htab ho rfl
    have h0 := frm_old ha 2 _ (hold 2 rfl) o2
    have h1 := G 31 35 rfl (by decide) (by decide)
    obtain ⟨W', q1, q2⟩ := r32 c L w' hW hL (depl_of hdep 32 31 (by decide) ho hd)
    exact doesX_of (doesL_skp ho (wanted_none hgd) rfl q2 (g_store hop (eval_of h0) (eval_of h1) q1))
  | (i + 33), ho, hL, hi, _ => exact absurd hi (by omega)
def sly108 (T : Nat) (L1 : Nat) : List Sl := [⟨9, 0, fun _ => #[(vW ⟨L1, 0, none⟩ 1), (vI ⟨T, 0, none⟩ 8)], 213⟩, ⟨30, 1, fun _ => #[(vI ⟨T, 1, none⟩ 6), (vI ⟨T, 2, none⟩ 1), (vI ⟨T, 3, none⟩ 8), (vT ⟨T, 4, none⟩ 16)], 213⟩]
def dly108 : List (Nat × Nat) := [(31, 9), (31, 30), (32, 31), (32, 9), (32, 30)]
theorem lay108 (T : Nat) (w : World) : Calls Tryz.prog 108 #[ptr T] w fun e w' => ∃ c : Nat → Nat, e = .returned (.agg (#[(.slice (some ⟨c 0, 0, none⟩) 2 2), (.slice (some ⟨c 1, 0, none⟩) 4 4)])) ∧ Below w.heap.size w w' ∧ w'.heap[w.heap.size + 1]? = some (.cells #[S [101]] 9 (0, 0)) ∧ (w.heap.size + 2 ≤ c 0 ∧ w'.heap[c 0]? = some (.cells #[(vW ⟨w.heap.size + 1, 0, none⟩ 1), (vI ⟨T, 0, none⟩ 8)] 213 (0, 0))) ∧ (w.heap.size + 2 ≤ c 1 ∧ w'.heap[c 1]? = some (.cells #[(vI ⟨T, 1, none⟩ 6), (vI ⟨T, 2, none⟩ 1), (vI ⟨T, 3, none⟩ 8), (vT ⟨T, 4, none⟩ 16)] 213 (0, 0))) := by
  have hb0 : Below w.heap.size w ((w.alloc (.cells #[.slice none 0 0, .slice none 0 0] 111)).alloc (.cells #[S [101]] 9)) := by
    refine (((Below.refl _ w).alloc (Nat.le_refl _) _)).alloc (by first | (simp; done) | (simp; omega)) _
  have hR : ((w.alloc (.cells #[.slice none 0 0, .slice none 0 0] 111)).alloc (.cells #[S [101]] 9)).heap[w.heap.size]? = some (.cells #[.slice none 0 0, .slice none 0 0] 111 (0, 0)) := by
    rw [heap_alloc_old _ _ (by first | (simp; done) | (simp; omega))]; exact heap_alloc_new _ _
  have hL1 : ((w.alloc (.cells #[.slice none 0 0, .slice none 0 0] 111)).alloc (.cells #[S [101]] 9)).heap[w.heap.size + 1]? = some (.cells #[S [101]] 9 (0, 0)) := by
    have e := heap_alloc_new ((w.alloc (.cells #[.slice none 0 0, .slice none 0 0] 111))) (.cells #[S [101]] 9)
    simpa using e
  have hsz : ((w.alloc (.cells #[.slice none 0 0, .slice none 0 0] 111)).alloc (.cells #[S [101]] 9)).heap.size = w.heap.size + 2 := by simp
  go_enter Tryz.func108, Tryz.ntmps108
  go_wp2_with fail
  generalize ((w.alloc (.cells #[.slice none 0 0, .slice none 0 0] 111)).alloc (.cells #[S [101]] 9)) = W1 at *
  generalize hL1e : w.heap.size + 1 = L1 at *
  generalize hRe : w.heap.size = R at *
  have hw1 : ∃ w1s, w1s = W1.heap.size := ⟨_, rfl⟩
  obtain ⟨w1s, hw1⟩ := hw1
  rw [← hw1] at hsz
  refine rly108 T R L1 rfl (by rfl) (by rfl) _ W1 (by simp) rfl rfl rfl (Ly W1 R (fun _ => #[.slice none 0 0, .slice none 0 0]) (fun c => #[(.slice (some ⟨c 0, 0, none⟩) 2 2), (.slice (some ⟨c 1, 0, none⟩) 4 4)]) 32 (sly108 T L1) dly108) ⟨fun _ => 0, (Only.drew _ W1), (fun _ _ e => by cases e), (fun _ _ e => by cases e), hR⟩ (fun i hi c L W hW => hW.pure i ?hp1 ?hp2 (fun e => hi (by simp [e])))
    (fun c L W hW _ => s_ld (T := 9) (fun _ => by kernel_rfl) (cellr ((hW.only.block L1 (by omega) (by omega)).trans hL1) rfl))
    (fun c L W hW hL h3 h8 => by
      refine ⟨cset c 0 W.heap.size, W.alloc (.cells #[(vW ⟨L1, 0, none⟩ 1), (vI ⟨T, 0, none⟩ 8)] 213), fun j hj => ?_, by kernel_rfl, hW.slice ⟨9, 0, fun _ => #[(vW ⟨L1, 0, none⟩ 1), (vI ⟨T, 0, none⟩ 8)], 213⟩ (no_of (hW.dep (32, 9) (by decide)) hL) (by simp) (fun _ => rfl) (fun d hd hi => ?_) (fun q hq e => ?_) (fun q hq e => ?_) (fun m => rfl)⟩
      · match j, hj with
        | 0, _ => rfl
        | 1, _ => rfl
        | 2, _ => rfl
        | 3, _ => rfl
        | 4, _ => rfl
        | 5, _ => rfl
        | 6, _ => rfl
        | 7, _ => rfl
        | 8, _ => rfl
        | 9, hj => rw [hL] at hj; cases hj
        | 10, _ => rfl
        | 11, _ => rfl
        | 12, _ => rfl
        | 13, _ => rfl
        | 14, _ => rfl
        | 15, _ => rfl
        | 16, _ => rfl
        | 17, _ => rfl
        | 18, _ => rfl
        | 19, _ => rfl
        | 20, _ => rfl
        | 21, _ => rfl
        | 22, _ => rfl
        | 23, _ => rfl
        | 24, _ => rfl
        | 25, _ => rfl
        | 26, _ => rfl
        | 27, _ => rfl
        | 28, _ => rfl
        | 29, _ => rfl
        | 30, _ => rfl
        | 31, hj => rw [hW.dep (31, 9) (by decide) hj] at hL; cases hL
        | 32, _ => rfl
        | (k + 33), _ => rfl
      · simp only [dly108, List.mem_cons, List.not_mem_nil, or_false] at hd
        rcases hd with rfl | rfl | rfl | rfl | rfl
        · exact absurd hi (by simp)
        · exact absurd hi (by simp)
        · exact absurd hi (by simp)
        · exact absurd hi (by simp)
        · exact absurd hi (by simp)
      · simp only [sly108, List.mem_cons, List.not_mem_nil, or_false] at hq
        rcases hq with rfl | rfl
        · rw [hL] at e; cases e
        · exact ⟨(by simp), fun m => rfl⟩
      · simp only [sly108, List.mem_cons, List.not_mem_nil, or_false] at hq
        rcases hq with rfl | rfl
        · rfl
        · exact absurd e (by simp))
    (fun c L W hW hL h14 h19 h24 h29 => by
      refine ⟨cset c 1 W.heap.size, W.alloc (.cells #[(vI ⟨T, 1, none⟩ 6), (vI ⟨T, 2, none⟩ 1), (vI ⟨T, 3, none⟩ 8), (vT ⟨T, 4, none⟩ 16)] 213), fun j hj => ?_, by kernel_rfl, hW.slice ⟨30, 1, fun _ => #[(vI ⟨T, 1, none⟩ 6), (vI ⟨T, 2, none⟩ 1), (vI ⟨T, 3, none⟩ 8), (vT ⟨T, 4, none⟩ 16)], 213⟩ (no_of (hW.dep (32, 30) (by decide)) hL) (by simp) (fun _ => rfl) (fun d hd hi => ?_) (fun q hq e => ?_) (fun q hq e => ?_) (fun m => rfl)⟩
      · match j, hj with
        | 0, _ => rfl
        | 1, _ => rfl
        | 2, _ => rfl
        | 3, _ => rfl
        | 4, _ => rfl
        | 5, _ => rfl
        | 6, _ => rfl
        | 7, _ => rfl
        | 8, _ => rfl
        | 9, _ => rfl
        | 10, _ => rfl
        | 11, _ => rfl
        | 12, _ => rfl
        | 13, _ => rfl
        | 14, _ => rfl
        | 15, _ => rfl
        | 16, _ => rfl
        | 17, _ => rfl
        | 18, _ => rfl
        | 19, _ => rfl
        | 20, _ => rfl
        | 21, _ => rfl
        | 22, _ => rfl
        | 23, _ => rfl
        | 24, _ => rfl
        | 25, _ => rfl
        | 26, _ => rfl
        | 27, _ => rfl
        | 28, _ => rfl
        | 29, _ => rfl
        | 30, hj => rw [hL] at hj; cases hj
        | 31, hj => rw [hW.dep (31, 30) (by decide) hj] at hL; cases hL
        | 32, _ => rfl
        | (k + 33), _ => rfl
      · simp only [dly108, List.mem_cons, List.not_mem_nil, or_false] at hd
        rcases hd with rfl | rfl | rfl | rfl | rfl
        · exact absurd hi (by simp)
        · exact absurd hi (by simp)
        · exact absurd hi (by simp)
        · exact absurd hi (by simp)
        · exact absurd hi (by simp)
      · simp only [sly108, List.mem_cons, List.not_mem_nil, or_false] at hq
        rcases hq with rfl | rfl
        · exact ⟨(by simp), fun m => rfl⟩
        · rw [hL] at e; cases e
      · simp only [sly108, List.mem_cons, List.not_mem_nil, or_false] at hq
        rcases hq with rfl | rfl
        · exact absurd e (by simp)
        · rfl)
    (fun c L W hW _ h9 h30 => hW.pure 31 (fun s hs => by simp only [sly108, List.mem_cons, List.not_mem_nil, or_false] at hs; rcases hs with rfl | rfl <;> simp) (fun d hd hi => by
      simp only [dly108, List.mem_cons, List.not_mem_nil, or_false] at hd
      rcases hd with rfl | rfl | rfl | rfl | rfl
      · exact h9
      · exact h30
      · exact absurd hi (by simp)
      · exact absurd hi (by simp)
      · exact absurd hi (by simp)) (by decide))
    (fun c L W hW hL h31 => by
      have hbx := hW.box
      rw [hL, if_neg (by decide)] at hbx
      have e := s_sta (T := 111) (n := 2) (fun _ => by kernel_rfl) (o := 0) hbx (.agg #[(.slice (some ⟨c 0, 0, none⟩) 2 2), (.slice (some ⟨c 1, 0, none⟩) 4 4)]) rfl (by decide) (by intro x hx; simp only [Value.cells, List.mem_cons, List.not_mem_nil, or_false] at hx; rcases hx with rfl | rfl <;> rfl)
      refine ⟨_, e, ?_⟩
      refine hW.store (v := fun c => #[(.slice (some ⟨c 0, 0, none⟩) 2 2), (.slice (some ⟨c 1, 0, none⟩) 4 4)]) (fun q hq => ?_) (fun d hd hi => ?_)
      · simp only [sly108, List.mem_cons, List.not_mem_nil, or_false] at hq
        rcases hq with rfl | rfl
        · exact ⟨(by simp), fun e => by have h5 := (hW.sl ⟨9, 0, fun _ => #[(vW ⟨L1, 0, none⟩ 1), (vI ⟨T, 0, none⟩ 8)], 213⟩ (by simp [sly108]) e).1; have h6 : W1.heap.size ≤ c 0 := h5; show c 0 ≠ R; omega⟩
        · exact ⟨(by simp), fun e => by have h5 := (hW.sl ⟨30, 1, fun _ => #[(vI ⟨T, 1, none⟩ 6), (vI ⟨T, 2, none⟩ 1), (vI ⟨T, 3, none⟩ 8), (vT ⟨T, 4, none⟩ 16)], 213⟩ (by simp [sly108]) e).1; have h6 : W1.heap.size ≤ c 1 := h5; show c 1 ≠ R; omega⟩
      · simp only [dly108, List.mem_cons, List.not_mem_nil, or_false] at hd
        rcases hd with rfl | rfl | rfl | rfl | rfl
        · exact absurd hi (by simp)
        · exact absurd hi (by simp)
        · exact h31
        · exact hW.dep (31, 9) (by decide) h31
        · exact hW.dep (31, 30) (by decide) h31) ?hend
  case hp1 =>
    intro q hq e
    simp only [sly108, List.mem_cons, List.not_mem_nil, or_false] at hq
    rcases hq with rfl | rfl <;> exact hi (by simp at e; simp [← e])
  case hp2 =>
    intro d hd e
    simp only [dly108, List.mem_cons, List.not_mem_nil, or_false] at hd
    rcases hd with rfl | rfl | rfl | rfl | rfl <;> exact absurd (by simp at e; simp [← e]) hi
  case hend =>
    intro c L W hall hW
    simp only [crly108, Act.put, List.setIfInBounds_toArray, List.set_cons_succ, List.set_cons_zero]
    have hbx := hW.box
    rw [hall 32 (by decide), if_pos rfl] at hbx
    have hO := hW.only
    have hs0 := hW.sl ⟨9, 0, fun _ => #[(vW ⟨L1, 0, none⟩ 1), (vI ⟨T, 0, none⟩ 8)], 213⟩ (by simp [sly108]) (hall 9 (by decide))
    have hs1 := hW.sl ⟨30, 1, fun _ => #[(vI ⟨T, 1, none⟩ 6), (vI ⟨T, 2, none⟩ 1), (vI ⟨T, 3, none⟩ 8), (vT ⟨T, 4, none⟩ 16)], 213⟩ (by simp [sly108]) (hall 30 (by decide))
    have HP : Hid (W.heap[R]? = some (.cells #[(.slice (some ⟨c 0, 0, none⟩) 2 2), (.slice (some ⟨c 1, 0, none⟩) 4 4)] 111 (0, 0)) ∧ Below R w W ∧ W.heap[L1]? = some (.cells #[S [101]] 9 (0, 0)) ∧ (R + 2 ≤ c 0 ∧ W.heap[c 0]? = some (.cells #[(vW ⟨L1, 0, none⟩ 1), (vI ⟨T, 0, none⟩ 8)] 213 (0, 0))) ∧ (R + 2 ≤ c 1 ∧ W.heap[c 1]? = some (.cells #[(vI ⟨T, 1, none⟩ 6), (vI ⟨T, 2, none⟩ 1), (vI ⟨T, 3, none⟩ 8), (vT ⟨T, 4, none⟩ 16)] 213 (0, 0)))) := hide (⟨hbx, hO.below hb0 (by omega) (fun k e => by omega), (hO.block L1 (by omega) (by omega)).trans hL1, ⟨by have h5 : W1.heap.size ≤ c 0 := hs0.1; omega, hs0.2⟩, ⟨by have h5 : W1.heap.size ≤ c 1 := hs1.1; omega, hs1.2⟩⟩)
    clear hbx hO hW hall hs0 hs1
    go_wp2
    obtain ⟨hbx, hpp⟩ := unhide HP
    refine out1c (T := 111) (n := 2) (fun _ => by kernel_rfl) (fun _ => by kernel_rfl) (Z := R) rfl rfl rfl hbx rfl ?_
    subst hL1e; subst hRe
    exact ⟨c, rfl, hpp⟩
end Go.Proofs.YtpidmpefodnffaaGreatDoor
