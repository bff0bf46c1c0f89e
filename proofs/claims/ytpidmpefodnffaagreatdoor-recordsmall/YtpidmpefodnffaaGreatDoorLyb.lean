import Derived.Test.YtpidmpefodnffaaGreatDoorZfde
namespace Go.Proofs.YtpidmpefodnffaaGreatDoor
open Go.RowKit
set_option maxHeartbeats 4000000
set_option maxRecDepth 8000
def vrly99 (T _R L1 : Nat) (c : (Nat → Nat)) (i : Nat) : Value := match i with
  | 0 => (S [109])
  | 1 => (I 1)
  | 2 => (.agg #[(ptr L1), (I 1), (FN 132), (FN 133)])
  | 3 => (vW ⟨L1, 0, none⟩ 1)
  | 4 => (ptr T)
  | 5 => (ptr T)
  | 6 => (.pointer (some ⟨T, 0, none⟩))
  | 7 => (.agg #[(.pointer (some ⟨T, 0, none⟩)), (I 8), (FN 135), (FN 136)])
  | 8 => (vI ⟨T, 0, none⟩ 8)
  | 9 => (ptr T)
  | 10 => (ptr T)
  | 11 => (.pointer (some ⟨T, 1, none⟩))
  | 12 => (.agg #[(.pointer (some ⟨T, 1, none⟩)), (I 4), (FN 135), (FN 136)])
  | 13 => (vI ⟨T, 1, none⟩ 4)
  | 14 => (.slice (some ⟨c 0, 0, none⟩) 3 3)
  | 15 => (ptr T)
  | 16 => (ptr T)
  | 17 => (.pointer (some ⟨T, 2, none⟩))
  | 18 => (.agg #[(.pointer (some ⟨T, 2, none⟩)), (I 8), (FN 135), (FN 136)])
  | 19 => (vI ⟨T, 2, none⟩ 8)
  | 20 => (.slice (some ⟨c 1, 0, none⟩) 1 1)
  | 21 => (.agg #[(.slice (some ⟨c 0, 0, none⟩) 3 3), (.slice (some ⟨c 1, 0, none⟩) 1 1)])
  | 22 => undef
  | _ => undef
def rly99T : List (Op × Option Tmp × Option (Nat × Bool)) := [
  (.load 9 (.tmp 3), some 4, none),
  (.call { callee := .builtin .len, args := #[(.tmp 4)], argTypes := #[9] }, some 5, none),
  (.build 179 #[(0, (.tmp 3)), (1, (.tmp 5)), (2, (.func 132)), (3, (.func 133))], some 6, none),
  (.makeInterface 179 (.tmp 6), some 7, none),
  (.move (.tmp 0), some 8, none),
  (.nilCheck (.tmp 8), some 9, none),
  (.fieldAddr 139 (.tmp 9) 0, some 10, none),
  (.build 197 #[(0, (.tmp 10)), (1, (.const (I 8))), (2, (.func 135)), (3, (.func 136))], some 11, none),
  (.makeInterface 197 (.tmp 11), some 12, none),
  (.move (.tmp 0), some 13, none),
  (.nilCheck (.tmp 13), some 14, none),
  (.fieldAddr 139 (.tmp 14) 1, some 15, none),
  (.build 197 #[(0, (.tmp 15)), (1, (.const (I 4))), (2, (.func 135)), (3, (.func 136))], some 16, none),
  (.makeInterface 197 (.tmp 16), some 17, none),
  (.buildSlice 109 3 #[(0, (.tmp 7)), (1, (.tmp 12)), (2, (.tmp 17))], some 18, none),
  (.move (.tmp 0), some 19, none),
  (.nilCheck (.tmp 19), some 20, none),
  (.fieldAddr 139 (.tmp 20) 2, some 21, none),
  (.build 197 #[(0, (.tmp 21)), (1, (.const (I 8))), (2, (.func 135)), (3, (.func 136))], some 22, none),
  (.makeInterface 197 (.tmp 22), some 23, none),
  (.buildSlice 109 1 #[(0, (.tmp 23))], some 24, none),
  (.build 111 #[(0, (.tmp 18)), (1, (.tmp 24))], some 25, none),
  (.store 111 (.tmp 2) (.tmp 25), none, none)]
def crly99 (a0 : Act) (T _R L1 : Nat) (c : (Nat → Nat)) : Act := ((((((((((((((((((((((a0.put (some 4) (S [109])).put (some 5) (I 1)).put (some 6) (.agg #[(ptr L1), (I 1), (FN 132), (FN 133)])).put (some 7) (vW ⟨L1, 0, none⟩ 1)).put (some 8) (ptr T)).put (some 9) (ptr T)).put (some 10) (.pointer (some ⟨T, 0, none⟩))).put (some 11) (.agg #[(.pointer (some ⟨T, 0, none⟩)), (I 8), (FN 135), (FN 136)])).put (some 12) (vI ⟨T, 0, none⟩ 8)).put (some 13) (ptr T)).put (some 14) (ptr T)).put (some 15) (.pointer (some ⟨T, 1, none⟩))).put (some 16) (.agg #[(.pointer (some ⟨T, 1, none⟩)), (I 4), (FN 135), (FN 136)])).put (some 17) (vI ⟨T, 1, none⟩ 4)).put (some 18) (.slice (some ⟨c 0, 0, none⟩) 3 3)).put (some 19) (ptr T)).put (some 20) (ptr T)).put (some 21) (.pointer (some ⟨T, 2, none⟩))).put (some 22) (.agg #[(.pointer (some ⟨T, 2, none⟩)), (I 8), (FN 135), (FN 136)])).put (some 23) (vI ⟨T, 2, none⟩ 8)).put (some 24) (.slice (some ⟨c 1, 0, none⟩) 1 1)).put (some 25) (.agg #[(.slice (some ⟨c 0, 0, none⟩) 3 3), (.slice (some ⟨c 1, 0, none⟩) 1 1)]))
def rly99D : List (Nat × Nat) := [(1, 0), (2, 1), (3, 2), (5, 4), (6, 5), (7, 6), (8, 7), (10, 9), (11, 10), (12, 11), (13, 12), (14, 3), (14, 8), (14, 13), (16, 15), (17, 16), (18, 17), (19, 18), (20, 19), (21, 14), (21, 20), (22, 21)]
set_option maxHeartbeats 4000000 in
theorem rly99 {ops : Array Oper} {id : Nat} {Q : Exit → Act → World → Prop} (T R L1 : Nat) (htab : ops.toList.map (fun o => (o.op, o.dst, o.guard)) = rly99T) (hdep : deplB rly99D ops = true) (hac : acB ops = true)
    (a0 : Act) (w : World) (hsz : 26 ≤ a0.tmps.size) (o0 : a0.tmps[0]? = some (ptr T)) (o2 : a0.tmps[2]? = some (ptr R)) (o3 : a0.tmps[3]? = some (ptr L1))
    (Wd : (Nat → Nat) → (Nat → Bool) → World → Prop) (h0 : ∃ c, Wd c (fun _ => false) w.drew) (hpure : ∀ i, i ∉ ([14, 20, 21, 22] : List Nat) → ∀ c L W, Wd c L W → Wd c (upd L i) W)
    (r0 : ∀ c L W, Wd c L W → L 0 = false → (Instr.loadAt 9 (ptr L1)).run Tryz.prog W = .ok (S [109]) W)
    (r14 : ∀ c L W, Wd c L W → L 14 = false → L 3 = true → L 8 = true → L 13 = true → ∃ c' W', (∀ j, L j = true → vrly99 T R L1 c' j = vrly99 T R L1 c j) ∧ (Instr.buildSlice 109 3 #[(0, (vW ⟨L1, 0, none⟩ 1)), (1, (vI ⟨T, 0, none⟩ 8)), (2, (vI ⟨T, 1, none⟩ 4))]).run Tryz.prog W = .ok (vrly99 T R L1 c' 14) W' ∧ Wd c' (upd L 14) W')
    (r20 : ∀ c L W, Wd c L W → L 20 = false → L 19 = true → ∃ c' W', (∀ j, L j = true → vrly99 T R L1 c' j = vrly99 T R L1 c j) ∧ (Instr.buildSlice 109 1 #[(0, (vI ⟨T, 2, none⟩ 8))]).run Tryz.prog W = .ok (vrly99 T R L1 c' 20) W' ∧ Wd c' (upd L 20) W')
    (e21 : ∀ c L W, Wd c L W → L 21 = false → L 14 = true → L 20 = true → Wd c (upd L 21) W)
    (r22 : ∀ c L W, Wd c L W → L 22 = false → L 21 = true → ∃ W', (Instr.storeAt 111 (ptr R) (.agg #[(.slice (some ⟨c 0, 0, none⟩) 3 3), (.slice (some ⟨c 1, 0, none⟩) 1 1)])).run Tryz.prog W = .ok () W' ∧ Wd c (upd L 22) W')
    (hend : ∀ c L W, (∀ i, i < 23 → L i = true) → Wd c L W → Q .normal (crly99 a0 T R L1 c) W) : (Code.region id ops true).wp Tryz.prog Q a0 w := by
  let val : (Nat → Nat) → Nat → Value := vrly99 T R L1
  have hosz : ops.size = 23 := by
    have := congrArg List.length htab
    simpa [rly99T] using this
  have hds : ∀ i s, (rly99T[i]?).bind (·.2.1) = some s → dstOf ops i = some s := fun i s hi => by rw [tab_dst htab, hi]
  have hdisB : disL rly99T = true := by rfl
  have hdis := disL_of htab hdisB
  have hold : ∀ s, rly99T.all (fun x => !(x.2.1 == some s)) = true → (List.range ops.size).all (fun j => !(dstOf ops j == some s)) = true := fun s h => holdL htab s h
  refine region_detX val Wd (hac_of hac) hdis h0 ?_ ?_
  rotate_left
  · intro c L W hall hW
    have := hend c L W (by rw [← hosz]; exact hall) hW
    have e : frm ops a0 (val c) (fun _ => true) ops.size = (crly99 a0 T R L1 c) := by
      rw [hosz]
      simp only [crly99, frm, if_true]
      rw [tab_dst htab 0, tab_dst htab 1, tab_dst htab 2, tab_dst htab 3, tab_dst htab 4, tab_dst htab 5, tab_dst htab 6, tab_dst htab 7, tab_dst htab 8, tab_dst htab 9, tab_dst htab 10, tab_dst htab 11, tab_dst htab 12, tab_dst htab 13, tab_dst htab 14, tab_dst htab 15, tab_dst htab 16, tab_dst htab 17, tab_dst htab 18, tab_dst htab 19, tab_dst htab 20, tab_dst htab 21, (show dstOf ops 22 = none from (tab_dst htab 22).trans rfl), put_none]
      rfl
    rw [e]
    exact this
  intro i o ho c L a w' hL hd ha hW
  have hi : i < 23 := by rw [← hosz]; exact (Array.getElem?_eq_some_iff.1 ho).1
  have G : ∀ j s : Nat, (rly99T[j]?).bind (·.2.1) = some s → s < 26 → (i, j) ∈ rly99D → a.tmps[s]? = some (val c j) := fun j s h1 h2 h3 => frm_at hdis ha j s (hds j s h1) (by omega) (depl_of hdep i j h3 ho hd)
  match i, ho, hL, hi, G with
  | 0, ho, hL, _, G =>
    obtain ⟨hop, hgd⟩ := tab3 htab ho rfl
    have h0 := frm_old ha 3 _ (hold 3 rfl) o3
    exact (dXr ho hgd (hpure 0 (by decide) c L w' hW) (g_load hop (eval_of h0) (r0 c L w' hW hL)))
  | 1, ho, hL, _, G =>
    obtain ⟨hop, hgd⟩ := tab3 htab ho rfl
    have h0 := G 0 4 rfl (by decide) (by decide)
    exact (dXr ho hgd (hpure 1 (by decide) c L w' hW) (run_len _ _ _ hop _ (eval_of h0) _))
  | 2, ho, hL, _, G =>
    obtain ⟨hop, hgd⟩ := tab3 htab ho rfl
    have h0 := frm_old ha 3 _ (hold 3 rfl) o3
    have h1 := G 1 5 rfl (by decide) (by decide)
    exact (dXr ho hgd (hpure 2 (by decide) c L w' hW) (g_build hop (map4 (eval_of h0) (eval_of h1) rfl rfl) (by kernel_rfl)))
  | 3, ho, hL, _, G =>
    obtain ⟨hop, hgd⟩ := tab3 htab ho rfl
    have h0 := G 2 6 rfl (by decide) (by decide)
    exact (dXr ho hgd (hpure 3 (by decide) c L w' hW) (g_mki hop (eval_of h0) (by kernel_rfl)))
  | 4, ho, hL, _, G =>
    obtain ⟨hop, hgd⟩ := tab3 htab ho rfl
    have h0 := frm_old ha 0 _ (hold 0 rfl) o0
    exact (dXr ho hgd (hpure 4 (by decide) c L w' hW) (g_mov hop (eval_of h0)))
  | 5, ho, hL, _, G =>
    obtain ⟨hop, hgd⟩ := tab3 htab ho rfl
    have h0 := G 4 8 rfl (by decide) (by decide)
    exact (dXr ho hgd (hpure 5 (by decide) c L w' hW) (run_nil _ _ _ hop _ (eval_of h0) _))
  | 6, ho, hL, _, G =>
    obtain ⟨hop, hgd⟩ := tab3 htab ho rfl
    have h0 := G 5 9 rfl (by decide) (by decide)
    exact (dXr ho hgd (hpure 6 (by decide) c L w' hW) (g_field hop (eval_of h0) (by kernel_rfl)))
  | 7, ho, hL, _, G =>
    obtain ⟨hop, hgd⟩ := tab3 htab ho rfl
    have h0 := G 6 10 rfl (by decide) (by decide)
    exact (dXr ho hgd (hpure 7 (by decide) c L w' hW) (g_build hop (map4 (eval_of h0) rfl rfl rfl) (by kernel_rfl)))
  | 8, ho, hL, _, G =>
    obtain ⟨hop, hgd⟩ := tab3 htab ho rfl
    have h0 := G 7 11 rfl (by decide) (by decide)
    exact (dXr ho hgd (hpure 8 (by decide) c L w' hW) (g_mki hop (eval_of h0) (by kernel_rfl)))
  | 9, ho, hL, _, G =>
    obtain ⟨hop, hgd⟩ := tab3 htab ho rfl
    have h0 := frm_old ha 0 _ (hold 0 rfl) o0
    exact (dXr ho hgd (hpure 9 (by decide) c L w' hW) (g_mov hop (eval_of h0)))
  | 10, ho, hL, _, G =>
    obtain ⟨hop, hgd⟩ := tab3 htab ho rfl
    have h0 := G 9 13 rfl (by decide) (by decide)
    exact (dXr ho hgd (hpure 10 (by decide) c L w' hW) (run_nil _ _ _ hop _ (eval_of h0) _))
  | 11, ho, hL, _, G =>
    obtain ⟨hop, hgd⟩ := tab3 htab ho rfl
    have h0 := G 10 14 rfl (by decide) (by decide)
    exact (dXr ho hgd (hpure 11 (by decide) c L w' hW) (g_field hop (eval_of h0) (by kernel_rfl)))
  | 12, ho, hL, _, G =>
    obtain ⟨hop, hgd⟩ := tab3 htab ho rfl
    have h0 := G 11 15 rfl (by decide) (by decide)
    exact (dXr ho hgd (hpure 12 (by decide) c L w' hW) (g_build hop (map4 (eval_of h0) rfl rfl rfl) (by kernel_rfl)))
  | 13, ho, hL, _, G =>
    obtain ⟨hop, hgd⟩ := tab3 htab ho rfl
    have h0 := G 12 16 rfl (by decide) (by decide)
    exact (dXr ho hgd (hpure 13 (by decide) c L w' hW) (g_mki hop (eval_of h0) (by kernel_rfl)))
  | 14, ho, hL, _, G =>
    obtain ⟨hop, hgd⟩ := tab3 htab ho rfl
    have h0 := G 3 7 rfl (by decide) (by decide)
    have h1 := G 8 12 rfl (by decide) (by decide)
    have h2 := G 13 17 rfl (by decide) (by decide)
    obtain ⟨c', W', q0, q1, q2⟩ := r14 c L w' hW hL (depl_of hdep 14 3 (by decide) ho hd) (depl_of hdep 14 8 (by decide) ho hd) (depl_of hdep 14 13 (by decide) ho hd)
    exact doesX_runw ho (wanted_none hgd) c' q0 q2 (g_bs hop (by simp only [List.map_toArray, List.map_cons, List.map_nil, eval_of h0, eval_of h1, eval_of h2]; first | done | rfl) q1)
  | 15, ho, hL, _, G =>
    obtain ⟨hop, hgd⟩ := tab3 htab ho rfl
    have h0 := frm_old ha 0 _ (hold 0 rfl) o0
    exact (dXr ho hgd (hpure 15 (by decide) c L w' hW) (g_mov hop (eval_of h0)))
  | 16, ho, hL, _, G =>
    obtain ⟨hop, hgd⟩ := tab3 htab ho rfl
    have h0 := G 15 19 rfl (by decide) (by decide)
    exact (dXr ho hgd (hpure 16 (by decide) c L w' hW) (run_nil _ _ _ hop _ (eval_of h0) _))
  | 17, ho, hL, _, G =>
    obtain ⟨hop, hgd⟩ := tab3 htab ho rfl
    have h0 := G 16 20 rfl (by decide) (by decide)
    exact (dXr ho hgd (hpure 17 (by decide) c L w' hW) (g_field hop (eval_of h0) (by kernel_rfl)))
  | 18, ho, hL, _, G =>
    obtain ⟨hop, hgd⟩ := tab3 htab ho rfl
    have h0 := G 17 21 rfl (by decide) (by decide)
    exact (dXr ho hgd (hpure 18 (by decide) c L w' hW) (g_build hop (map4 (eval_of h0) rfl rfl rfl) (by kernel_rfl)))
  | 19, ho, hL, _, G =>
    obtain ⟨hop, hgd⟩ := tab3 htab ho rfl
    have h0 := G 18 22 rfl (by decide) (by decide)
    exact (dXr ho hgd (hpure 19 (by decide) c L w' hW) (g_mki hop (eval_of h0) (by kernel_rfl)))
  | 20, ho, hL, _, G =>
    obtain ⟨hop, hgd⟩ := tab3 htab ho rfl
    have h0 := G 19 23 rfl (by decide) (by decide)
    obtain ⟨c', W', q0, q1, q2⟩ := r20 c L w' hW hL (depl_of hdep 20 19 (by decide) ho hd)
    exact doesX_runw ho (wanted_none hgd) c' q0 q2 (g_bs hop (by simp only [List.map_toArray, List.map_cons, List.map_nil, eval_of h0]; first | done | rfl) q1)
  | 21, ho, hL, _, G =>
    obtain ⟨hop, hgd⟩ := tab3 htab ho rfl
    have h0 := G 14 18 rfl (by decide) (by decide)
    have h1 := G 20 24 rfl (by decide) (by decide)
    exact (dXr ho hgd (e21 c L w' hW hL (depl_of hdep 21 14 (by decide) ho hd) (depl_of hdep 21 20 (by decide) ho hd)) (g_build hop (by simp only [List.map_toArray, List.map_cons, List.map_nil, eval_of h0, eval_of h1]; first | done | rfl) (by kernel_rfl)))
  | 22, ho, hL, _, G =>
    obtain ⟨hop, hgd⟩ := tab3 htab ho rfl
    have h0 := frm_old ha 2 _ (hold 2 rfl) o2
    have h1 := G 21 25 rfl (by decide) (by decide)
    obtain ⟨W', q1, q2⟩ := r22 c L w' hW hL (depl_of hdep 22 21 (by decide) ho hd)
    exact doesX_of (doesL_skp ho (wanted_none hgd) rfl q2 (g_store hop (eval_of h0) (eval_of h1) q1))
  | (i + 23), ho, hL, hi, _ => exact absurd hi (by omega)
def sly99 (T : Nat) (L1 : Nat) : List Sl := [⟨14, 0, fun _ => #[(vW ⟨L1, 0, none⟩ 1), (vI ⟨T, 0, none⟩ 8), (vI ⟨T, 1, none⟩ 4)], 213⟩, ⟨20, 1, fun _ => #[(vI ⟨T, 2, none⟩ 8)], 213⟩]
def dly99 : List (Nat × Nat) := [(21, 14), (21, 20), (22, 21), (22, 14), (22, 20)]
theorem lay99 (T : Nat) (w : World) : Calls Tryz.prog 99 #[ptr T] w fun e w' => ∃ c : Nat → Nat, e = .returned (.agg (#[(.slice (some ⟨c 0, 0, none⟩) 3 3), (.slice (some ⟨c 1, 0, none⟩) 1 1)])) ∧ Below w.heap.size w w' ∧ w'.heap[w.heap.size + 1]? = some (.cells #[S [109]] 9 (0, 0)) ∧ (w.heap.size + 2 ≤ c 0 ∧ w'.heap[c 0]? = some (.cells #[(vW ⟨w.heap.size + 1, 0, none⟩ 1), (vI ⟨T, 0, none⟩ 8), (vI ⟨T, 1, none⟩ 4)] 213 (0, 0))) ∧ (w.heap.size + 2 ≤ c 1 ∧ w'.heap[c 1]? = some (.cells #[(vI ⟨T, 2, none⟩ 8)] 213 (0, 0))) := by
  have hb0 : Below w.heap.size w ((w.alloc (.cells #[.slice none 0 0, .slice none 0 0] 111)).alloc (.cells #[S [109]] 9)) := by
    refine (((Below.refl _ w).alloc (Nat.le_refl _) _)).alloc (by first | (simp; done) | (simp; omega)) _
  have hR : ((w.alloc (.cells #[.slice none 0 0, .slice none 0 0] 111)).alloc (.cells #[S [109]] 9)).heap[w.heap.size]? = some (.cells #[.slice none 0 0, .slice none 0 0] 111 (0, 0)) := by
    rw [heap_alloc_old _ _ (by first | (simp; done) | (simp; omega))]; exact heap_alloc_new _ _
  have hL1 : ((w.alloc (.cells #[.slice none 0 0, .slice none 0 0] 111)).alloc (.cells #[S [109]] 9)).heap[w.heap.size + 1]? = some (.cells #[S [109]] 9 (0, 0)) := by
    have e := heap_alloc_new ((w.alloc (.cells #[.slice none 0 0, .slice none 0 0] 111))) (.cells #[S [109]] 9)
    simpa using e
  have hsz : ((w.alloc (.cells #[.slice none 0 0, .slice none 0 0] 111)).alloc (.cells #[S [109]] 9)).heap.size = w.heap.size + 2 := by simp
  go_enter Tryz.func99, Tryz.ntmps99
  go_wp2_with fail
  generalize ((w.alloc (.cells #[.slice none 0 0, .slice none 0 0] 111)).alloc (.cells #[S [109]] 9)) = W1 at *
  generalize hL1e : w.heap.size + 1 = L1 at *
  generalize hRe : w.heap.size = R at *
  have hw1 : ∃ w1s, w1s = W1.heap.size := ⟨_, rfl⟩
  obtain ⟨w1s, hw1⟩ := hw1
  rw [← hw1] at hsz
  refine rly99 T R L1 rfl (by rfl) (by rfl) _ W1 (by simp) rfl rfl rfl (Ly W1 R (fun _ => #[.slice none 0 0, .slice none 0 0]) (fun c => #[(.slice (some ⟨c 0, 0, none⟩) 3 3), (.slice (some ⟨c 1, 0, none⟩) 1 1)]) 22 (sly99 T L1) dly99) ⟨fun _ => 0, (Only.drew _ W1), (fun _ _ e => by cases e), (fun _ _ e => by cases e), hR⟩ (fun i hi c L W hW => hW.pure i ?hp1 ?hp2 (fun e => hi (by simp [e])))
    (fun c L W hW _ => s_ld (T := 9) (fun _ => by kernel_rfl) (cellr ((hW.only.block L1 (by omega) (by omega)).trans hL1) rfl))
    (fun c L W hW hL h3 h8 h13 => by
      refine ⟨cset c 0 W.heap.size, W.alloc (.cells #[(vW ⟨L1, 0, none⟩ 1), (vI ⟨T, 0, none⟩ 8), (vI ⟨T, 1, none⟩ 4)] 213), fun j hj => ?_, by kernel_rfl, hW.slice ⟨14, 0, fun _ => #[(vW ⟨L1, 0, none⟩ 1), (vI ⟨T, 0, none⟩ 8), (vI ⟨T, 1, none⟩ 4)], 213⟩ (no_of (hW.dep (22, 14) (by decide)) hL) (by simp) (fun _ => rfl) (fun d hd hi => ?_) (fun q hq e => ?_) (fun q hq e => ?_) (fun m => rfl)⟩
      · match j, hj with
        | 0, _ => rfl
        | 1, _ => rfl
        | 2, _ => rfl
        | 3, _ => rfl
        | 4, _ => rfl
        | 5, _ => rfl
        | 6, _ => rfl
        | 7, _ => rfl
        | 8, _ => rfl
        | 9, _ => rfl
        | 10, _ => rfl
        | 11, _ => rfl
        | 12, _ => rfl
        | 13, _ => rfl
        | 14, hj => rw [hL] at hj; cases hj
        | 15, _ => rfl
        | 16, _ => rfl
        | 17, _ => rfl
        | 18, _ => rfl
        | 19, _ => rfl
        | 20, _ => rfl
        | 21, hj => rw [hW.dep (21, 14) (by decide) hj] at hL; cases hL
        | 22, _ => rfl
        | (k + 23), _ => rfl
      · simp only [dly99, List.mem_cons, List.not_mem_nil, or_false] at hd
        rcases hd with rfl | rfl | rfl | rfl | rfl
        · exact absurd hi (by simp)
        · exact absurd hi (by simp)
        · exact absurd hi (by simp)
        · exact absurd hi (by simp)
        · exact absurd hi (by simp)
      · simp only [sly99, List.mem_cons, List.not_mem_nil, or_false] at hq
        rcases hq with rfl | rfl
        · rw [hL] at e; cases e
        · exact ⟨(by simp), fun m => rfl⟩
      · simp only [sly99, List.mem_cons, List.not_mem_nil, or_false] at hq
        rcases hq with rfl | rfl
        · rfl
        · exact absurd e (by simp))
    (fun c L W hW hL h19 => by
      refine ⟨cset c 1 W.heap.size, W.alloc (.cells #[(vI ⟨T, 2, none⟩ 8)] 213), fun j hj => ?_, by kernel_rfl, hW.slice ⟨20, 1, fun _ => #[(vI ⟨T, 2, none⟩ 8)], 213⟩ (no_of (hW.dep (22, 20) (by decide)) hL) (by simp) (fun _ => rfl) (fun d hd hi => ?_) (fun q hq e => ?_) (fun q hq e => ?_) (fun m => rfl)⟩
      · match j, hj with
        | 0, _ => rfl
        | 1, _ => rfl
        | 2, _ => rfl
        | 3, _ => rfl
        | 4, _ => rfl
        | 5, _ => rfl
        | 6, _ => rfl
        | 7, _ => rfl
        | 8, _ => rfl
        | 9, _ => rfl
        | 10, _ => rfl
        | 11, _ => rfl
        | 12, _ => rfl
        | 13, _ => rfl
        | 14, _ => rfl
        | 15, _ => rfl
        | 16, _ => rfl
        | 17, _ => rfl
        | 18, _ => rfl
        | 19, _ => rfl
        | 20, hj => rw [hL] at hj; cases hj
        | 21, hj => rw [hW.dep (21, 20) (by decide) hj] at hL; cases hL
        | 22, _ => rfl
        | (k + 23), _ => rfl
      · simp only [dly99, List.mem_cons, List.not_mem_nil, or_false] at hd
        rcases hd with rfl | rfl | rfl | rfl | rfl
        · exact absurd hi (by simp)
        · exact absurd hi (by simp)
        · exact absurd hi (by simp)
        · exact absurd hi (by simp)
        · exact absurd hi (by simp)
      · simp only [sly99, List.mem_cons, List.not_mem_nil, or_false] at hq
        rcases hq with rfl | rfl
        · exact ⟨(by simp), fun m => rfl⟩
        · rw [hL] at e; cases e
      · simp only [sly99, List.mem_cons, List.not_mem_nil, or_false] at hq
        rcases hq with rfl | rfl
        · exact absurd e (by simp)
        · rfl)
    (fun c L W hW _ h14 h20 => hW.pure 21 (fun s hs => by simp only [sly99, List.mem_cons, List.not_mem_nil, or_false] at hs; rcases hs with rfl | rfl <;> simp) (fun d hd hi => by
      simp only [dly99, List.mem_cons, List.not_mem_nil, or_false] at hd
      rcases hd with rfl | rfl | rfl | rfl | rfl
      · exact h14
      · exact h20
      · exact absurd hi (by simp)
      · exact absurd hi (by simp)
      · exact absurd hi (by simp)) (by decide))
    (fun c L W hW hL h21 => by
      have hbx := hW.box
      rw [hL, if_neg (by decide)] at hbx
      have e := s_sta (T := 111) (n := 2) (fun _ => by kernel_rfl) (o := 0) hbx (.agg #[(.slice (some ⟨c 0, 0, none⟩) 3 3), (.slice (some ⟨c 1, 0, none⟩) 1 1)]) rfl (by decide) (by intro x hx; simp only [Value.cells, List.mem_cons, List.not_mem_nil, or_false] at hx; rcases hx with rfl | rfl <;> rfl)
      refine ⟨_, e, ?_⟩
      refine hW.store (v := fun c => #[(.slice (some ⟨c 0, 0, none⟩) 3 3), (.slice (some ⟨c 1, 0, none⟩) 1 1)]) (fun q hq => ?_) (fun d hd hi => ?_)
      · simp only [sly99, List.mem_cons, List.not_mem_nil, or_false] at hq
        rcases hq with rfl | rfl
        · exact ⟨(by simp), fun e => by have h5 := (hW.sl ⟨14, 0, fun _ => #[(vW ⟨L1, 0, none⟩ 1), (vI ⟨T, 0, none⟩ 8), (vI ⟨T, 1, none⟩ 4)], 213⟩ (by simp [sly99]) e).1; have h6 : W1.heap.size ≤ c 0 := h5; show c 0 ≠ R; omega⟩
        · exact ⟨(by simp), fun e => by have h5 := (hW.sl ⟨20, 1, fun _ => #[(vI ⟨T, 2, none⟩ 8)], 213⟩ (by simp [sly99]) e).1; have h6 : W1.heap.size ≤ c 1 := h5; show c 1 ≠ R; omega⟩
      · simp only [dly99, List.mem_cons, List.not_mem_nil, or_false] at hd
        rcases hd with rfl | rfl | rfl | rfl | rfl
        · exact absurd hi (by simp)
        · exact absurd hi (by simp)
        · exact h21
        · exact hW.dep (21, 14) (by decide) h21
        · exact hW.dep (21, 20) (by decide) h21) ?hend
  case hp1 =>
    intro q hq e
    simp only [sly99, List.mem_cons, List.not_mem_nil, or_false] at hq
    rcases hq with rfl | rfl <;> exact hi (by simp at e; simp [← e])
  case hp2 =>
    intro d hd e
    simp only [dly99, List.mem_cons, List.not_mem_nil, or_false] at hd
    rcases hd with rfl | rfl | rfl | rfl | rfl <;> exact absurd (by simp at e; simp [← e]) hi
  case hend =>
    intro c L W hall hW
    simp only [crly99, Act.put, List.setIfInBounds_toArray, List.set_cons_succ, List.set_cons_zero]
    have hbx := hW.box
    rw [hall 22 (by decide), if_pos rfl] at hbx
    have hO := hW.only
    have hs0 := hW.sl ⟨14, 0, fun _ => #[(vW ⟨L1, 0, none⟩ 1), (vI ⟨T, 0, none⟩ 8), (vI ⟨T, 1, none⟩ 4)], 213⟩ (by simp [sly99]) (hall 14 (by decide))
    have hs1 := hW.sl ⟨20, 1, fun _ => #[(vI ⟨T, 2, none⟩ 8)], 213⟩ (by simp [sly99]) (hall 20 (by decide))
    have HP : Hid (W.heap[R]? = some (.cells #[(.slice (some ⟨c 0, 0, none⟩) 3 3), (.slice (some ⟨c 1, 0, none⟩) 1 1)] 111 (0, 0)) ∧ Below R w W ∧ W.heap[L1]? = some (.cells #[S [109]] 9 (0, 0)) ∧ (R + 2 ≤ c 0 ∧ W.heap[c 0]? = some (.cells #[(vW ⟨L1, 0, none⟩ 1), (vI ⟨T, 0, none⟩ 8), (vI ⟨T, 1, none⟩ 4)] 213 (0, 0))) ∧ (R + 2 ≤ c 1 ∧ W.heap[c 1]? = some (.cells #[(vI ⟨T, 2, none⟩ 8)] 213 (0, 0)))) := hide (⟨hbx, hO.below hb0 (by omega) (fun k e => by omega), (hO.block L1 (by omega) (by omega)).trans hL1, ⟨by have h5 : W1.heap.size ≤ c 0 := hs0.1; omega, hs0.2⟩, ⟨by have h5 : W1.heap.size ≤ c 1 := hs1.1; omega, hs1.2⟩⟩)
    clear hbx hO hW hall hs0 hs1
    go_wp2
    obtain ⟨hbx, hpp⟩ := unhide HP
    refine out1c (T := 111) (n := 2) (fun _ => by kernel_rfl) (fun _ => by kernel_rfl) (Z := R) rfl rfl rfl hbx rfl ?_
    subst hL1e; subst hRe
    exact ⟨c, rfl, hpp⟩
end Go.Proofs.YtpidmpefodnffaaGreatDoor
