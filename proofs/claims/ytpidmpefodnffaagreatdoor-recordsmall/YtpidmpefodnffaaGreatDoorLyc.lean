import Derived.Test.YtpidmpefodnffaaGreatDoorZfde
namespace Go.Proofs.YtpidmpefodnffaaGreatDoor
open Go.RowKit
set_option maxHeartbeats 4000000
set_option maxRecDepth 8000
def vrly96 (T _R L1 : Nat) (c : (Nat → Nat)) (i : Nat) : Value := match i with
  | 0 => (S [116])
  | 1 => (I 1)
  | 2 => (.agg #[(ptr L1), (I 1), (FN 132), (FN 133)])
  | 3 => (vW ⟨L1, 0, none⟩ 1)
  | 4 => (ptr T)
  | 5 => (ptr T)
  | 6 => (.pointer (some ⟨T, 0, none⟩))
  | 7 => (.agg #[(.pointer (some ⟨T, 0, none⟩)), (I 8), (FN 135), (FN 136)])
  | 8 => (vI ⟨T, 0, none⟩ 8)
  | 9 => (.slice (some ⟨c 0, 0, none⟩) 2 2)
  | 10 => (ptr T)
  | 11 => (ptr T)
  | 12 => (.pointer (some ⟨T, 1, none⟩))
  | 13 => (.agg #[(.pointer (some ⟨T, 1, none⟩)), (I 8), (FN 135), (FN 136)])
  | 14 => (vI ⟨T, 1, none⟩ 8)
  | 15 => (ptr T)
  | 16 => (ptr T)
  | 17 => (.pointer (some ⟨T, 2, none⟩))
  | 18 => (.agg #[(.pointer (some ⟨T, 2, none⟩)), (I 4), (FN 135), (FN 136)])
  | 19 => (vI ⟨T, 2, none⟩ 4)
  | 20 => (ptr T)
  | 21 => (ptr T)
  | 22 => (.pointer (some ⟨T, 3, none⟩))
  | 23 => (.agg #[(.pointer (some ⟨T, 3, none⟩)), (I 32), (FN 132), (FN 133)])
  | 24 => (vW ⟨T, 3, none⟩ 32)
  | 25 => (ptr T)
  | 26 => (ptr T)
  | 27 => (.pointer (some ⟨T, 4, none⟩))
  | 28 => (.agg #[(.pointer (some ⟨T, 4, none⟩)), (I 6), (FN 135), (FN 136)])
  | 29 => (vI ⟨T, 4, none⟩ 6)
  | 30 => (ptr T)
  | 31 => (ptr T)
  | 32 => (.pointer (some ⟨T, 5, none⟩))
  | 33 => (.slice (some ⟨c 2, 0, none⟩) 1 1)
  | 34 => (.agg #[(.slice (some ⟨c 2, 0, none⟩) 1 1), (I 1), (FN 135), (FN 136)])
  | 35 => (.iface 190 (.agg #[(.slice (some ⟨c 2, 0, none⟩) 1 1), (I 1), (FN 135), (FN 136)]))
  | 36 => (ptr T)
  | 37 => (ptr T)
  | 38 => (.pointer (some ⟨T, 6, none⟩))
  | 39 => (.agg #[(.pointer (some ⟨T, 6, none⟩)), (I 6), (FN 135), (FN 136)])
  | 40 => (vI ⟨T, 6, none⟩ 6)
  | 41 => (ptr T)
  | 42 => (ptr T)
  | 43 => (.pointer (some ⟨T, 7, none⟩))
  | 44 => (.agg #[(.pointer (some ⟨T, 7, none⟩)), (I 8), (FN 135), (FN 136)])
  | 45 => (vI ⟨T, 7, none⟩ 8)
  | 46 => (ptr T)
  | 47 => (ptr T)
  | 48 => (.pointer (some ⟨T, 8, none⟩))
  | 49 => (.agg #[(.pointer (some ⟨T, 8, none⟩)), (I 24), (FN 137), (FN 138)])
  | 50 => (vT ⟨T, 8, none⟩ 24)
  | 51 => (.slice (some ⟨c 1, 0, none⟩) 8 8)
  | 52 => (.agg #[(.slice (some ⟨c 0, 0, none⟩) 2 2), (.slice (some ⟨c 1, 0, none⟩) 8 8)])
  | 53 => undef
  | _ => undef
def rly96T : List (Op × Option Tmp × Option (Nat × Bool)) := [
  (.load 9 (.tmp 3), some 4, none),
  (.call { callee := .builtin .len, args := #[(.tmp 4)], argTypes := #[9] }, some 5, none),
  (.build 179 #[(0, (.tmp 3)), (1, (.tmp 5)), (2, (.func 132)), (3, (.func 133))], some 6, none),
  (.makeInterface 179 (.tmp 6), some 7, none),
  (.move (.tmp 0), some 8, none),
  (.nilCheck (.tmp 8), some 9, none),
  (.fieldAddr 58 (.tmp 9) 0, some 10, none),
  (.build 197 #[(0, (.tmp 10)), (1, (.const (I 8))), (2, (.func 135)), (3, (.func 136))], some 11, none),
  (.makeInterface 197 (.tmp 11), some 12, none),
  (.buildSlice 109 2 #[(0, (.tmp 7)), (1, (.tmp 12))], some 13, none),
  (.move (.tmp 0), some 14, none),
  (.nilCheck (.tmp 14), some 15, none),
  (.fieldAddr 58 (.tmp 15) 1, some 16, none),
  (.build 197 #[(0, (.tmp 16)), (1, (.const (I 8))), (2, (.func 135)), (3, (.func 136))], some 17, none),
  (.makeInterface 197 (.tmp 17), some 18, none),
  (.move (.tmp 0), some 19, none),
  (.nilCheck (.tmp 19), some 20, none),
  (.fieldAddr 58 (.tmp 20) 2, some 21, none),
  (.build 197 #[(0, (.tmp 21)), (1, (.const (I 4))), (2, (.func 135)), (3, (.func 136))], some 22, none),
  (.makeInterface 197 (.tmp 22), some 23, none),
  (.move (.tmp 0), some 24, none),
  (.nilCheck (.tmp 24), some 25, none),
  (.fieldAddr 58 (.tmp 25) 3, some 26, none),
  (.build 179 #[(0, (.tmp 26)), (1, (.const (I 32))), (2, (.func 132)), (3, (.func 133))], some 27, none),
  (.makeInterface 179 (.tmp 27), some 28, none),
  (.move (.tmp 0), some 29, none),
  (.nilCheck (.tmp 29), some 30, none),
  (.fieldAddr 58 (.tmp 30) 4, some 31, none),
  (.build 197 #[(0, (.tmp 31)), (1, (.const (I 6))), (2, (.func 135)), (3, (.func 136))], some 32, none),
  (.makeInterface 197 (.tmp 32), some 33, none),
  (.move (.tmp 0), some 34, none),
  (.nilCheck (.tmp 34), some 35, none),
  (.fieldAddr 58 (.tmp 35) 5, some 36, none),
  (.buildSlice 185 1 #[(0, (.tmp 36))], some 37, none),
  (.build 190 #[(0, (.tmp 37)), (1, (.const (I 1))), (2, (.func 135)), (3, (.func 136))], some 38, none),
  (.makeInterface 190 (.tmp 38), some 39, none),
  (.move (.tmp 0), some 40, none),
  (.nilCheck (.tmp 40), some 41, none),
  (.fieldAddr 58 (.tmp 41) 6, some 42, none),
  (.build 197 #[(0, (.tmp 42)), (1, (.const (I 6))), (2, (.func 135)), (3, (.func 136))], some 43, none),
  (.makeInterface 197 (.tmp 43), some 44, none),
  (.move (.tmp 0), some 45, none),
  (.nilCheck (.tmp 45), some 46, none),
  (.fieldAddr 58 (.tmp 46) 7, some 47, none),
  (.build 197 #[(0, (.tmp 47)), (1, (.const (I 8))), (2, (.func 135)), (3, (.func 136))], some 48, none),
  (.makeInterface 197 (.tmp 48), some 49, none),
  (.move (.tmp 0), some 50, none),
  (.nilCheck (.tmp 50), some 51, none),
  (.fieldAddr 58 (.tmp 51) 8, some 52, none),
  (.build 194 #[(0, (.tmp 52)), (1, (.const (I 24))), (2, (.func 137)), (3, (.func 138))], some 53, none),
  (.makeInterface 194 (.tmp 53), some 54, none),
  (.buildSlice 109 8 #[(0, (.tmp 18)), (1, (.tmp 23)), (2, (.tmp 28)), (3, (.tmp 33)), (4, (.tmp 39)), (5, (.tmp 44)), (6, (.tmp 49)), (7, (.tmp 54))], some 55, none),
  (.build 111 #[(0, (.tmp 13)), (1, (.tmp 55))], some 56, none),
  (.store 111 (.tmp 2) (.tmp 56), none, none)]
def crly96 (a0 : Act) (T _R L1 : Nat) (c : (Nat → Nat)) : Act := (((((((((((((((((((((((((((((((((((((((((((((((((((((a0.put (some 4) (S [116])).put (some 5) (I 1)).put (some 6) (.agg #[(ptr L1), (I 1), (FN 132), (FN 133)])).put (some 7) (vW ⟨L1, 0, none⟩ 1)).put (some 8) (ptr T)).put (some 9) (ptr T)).put (some 10) (.pointer (some ⟨T, 0, none⟩))).put (some 11) (.agg #[(.pointer (some ⟨T, 0, none⟩)), (I 8), (FN 135), (FN 136)])).put (some 12) (vI ⟨T, 0, none⟩ 8)).put (some 13) (.slice (some ⟨c 0, 0, none⟩) 2 2)).put (some 14) (ptr T)).put (some 15) (ptr T)).put (some 16) (.pointer (some ⟨T, 1, none⟩))).put (some 17) (.agg #[(.pointer (some ⟨T, 1, none⟩)), (I 8), (FN 135), (FN 136)])).put (some 18) (vI ⟨T, 1, none⟩ 8)).put (some 19) (ptr T)).put (some 20) (ptr T)).put (some 21) (.pointer (some ⟨T, 2, none⟩))).put (some 22) (.agg #[(.pointer (some ⟨T, 2, none⟩)), (I 4), (FN 135), (FN 136)])).put (some 23) (vI ⟨T, 2, none⟩ 4)).put (some 24) (ptr T)).put (some 25) (ptr T)).put (some 26) (.pointer (some ⟨T, 3, none⟩))).put (some 27) (.agg #[(.pointer (some ⟨T, 3, none⟩)), (I 32), (FN 132), (FN 133)])).put (some 28) (vW ⟨T, 3, none⟩ 32)).put (some 29) (ptr T)).put (some 30) (ptr T)).put (some 31) (.pointer (some ⟨T, 4, none⟩))).put (some 32) (.agg #[(.pointer (some ⟨T, 4, none⟩)), (I 6), (FN 135), (FN 136)])).put (some 33) (vI ⟨T, 4, none⟩ 6)).put (some 34) (ptr T)).put (some 35) (ptr T)).put (some 36) (.pointer (some ⟨T, 5, none⟩))).put (some 37) (.slice (some ⟨c 2, 0, none⟩) 1 1)).put (some 38) (.agg #[(.slice (some ⟨c 2, 0, none⟩) 1 1), (I 1), (FN 135), (FN 136)])).put (some 39) (.iface 190 (.agg #[(.slice (some ⟨c 2, 0, none⟩) 1 1), (I 1), (FN 135), (FN 136)]))).put (some 40) (ptr T)).put (some 41) (ptr T)).put (some 42) (.pointer (some ⟨T, 6, none⟩))).put (some 43) (.agg #[(.pointer (some ⟨T, 6, none⟩)), (I 6), (FN 135), (FN 136)])).put (some 44) (vI ⟨T, 6, none⟩ 6)).put (some 45) (ptr T)).put (some 46) (ptr T)).put (some 47) (.pointer (some ⟨T, 7, none⟩))).put (some 48) (.agg #[(.pointer (some ⟨T, 7, none⟩)), (I 8), (FN 135), (FN 136)])).put (some 49) (vI ⟨T, 7, none⟩ 8)).put (some 50) (ptr T)).put (some 51) (ptr T)).put (some 52) (.pointer (some ⟨T, 8, none⟩))).put (some 53) (.agg #[(.pointer (some ⟨T, 8, none⟩)), (I 24), (FN 137), (FN 138)])).put (some 54) (vT ⟨T, 8, none⟩ 24)).put (some 55) (.slice (some ⟨c 1, 0, none⟩) 8 8)).put (some 56) (.agg #[(.slice (some ⟨c 0, 0, none⟩) 2 2), (.slice (some ⟨c 1, 0, none⟩) 8 8)]))
def rly96D : List (Nat × Nat) := [(1, 0), (2, 1), (3, 2), (5, 4), (6, 5), (7, 6), (8, 7), (9, 3), (9, 8), (11, 10), (12, 11), (13, 12), (14, 13), (16, 15), (17, 16), (18, 17), (19, 18), (21, 20), (22, 21), (23, 22), (24, 23), (26, 25), (27, 26), (28, 27), (29, 28), (31, 30), (32, 31), (33, 32), (34, 33), (35, 34), (37, 36), (38, 37), (39, 38), (40, 39), (42, 41), (43, 42), (44, 43), (45, 44), (47, 46), (48, 47), (49, 48), (50, 49), (51, 14), (51, 19), (51, 24), (51, 29), (51, 35), (51, 40), (51, 45), (51, 50), (52, 9), (52, 51), (53, 52)]
set_option maxHeartbeats 4000000 in
theorem rly96 {ops : Array Oper} {id : Nat} {Q : Exit → Act → World → Prop} (T R L1 : Nat) (htab : ops.toList.map (fun o => (o.op, o.dst, o.guard)) = rly96T) (hdep : deplB rly96D ops = true) (hac : acB ops = true)
    (a0 : Act) (w : World) (hsz : 57 ≤ a0.tmps.size) (o0 : a0.tmps[0]? = some (ptr T)) (o2 : a0.tmps[2]? = some (ptr R)) (o3 : a0.tmps[3]? = some (ptr L1))
    (Wd : (Nat → Nat) → (Nat → Bool) → World → Prop) (h0 : ∃ c, Wd c (fun _ => false) w.drew) (hpure : ∀ i, i ∉ ([9, 33, 34, 35, 51, 52, 53] : List Nat) → ∀ c L W, Wd c L W → Wd c (upd L i) W)
    (r0 : ∀ c L W, Wd c L W → L 0 = false → (Instr.loadAt 9 (ptr L1)).run Tryz.prog W = .ok (S [116]) W)
    (r9 : ∀ c L W, Wd c L W → L 9 = false → L 3 = true → L 8 = true → ∃ c' W', (∀ j, L j = true → vrly96 T R L1 c' j = vrly96 T R L1 c j) ∧ (Instr.buildSlice 109 2 #[(0, (vW ⟨L1, 0, none⟩ 1)), (1, (vI ⟨T, 0, none⟩ 8))]).run Tryz.prog W = .ok (vrly96 T R L1 c' 9) W' ∧ Wd c' (upd L 9) W')
    (r33 : ∀ c L W, Wd c L W → L 33 = false → L 32 = true → ∃ c' W', (∀ j, L j = true → vrly96 T R L1 c' j = vrly96 T R L1 c j) ∧ (Instr.buildSlice 185 1 #[(0, (.pointer (some ⟨T, 5, none⟩)))]).run Tryz.prog W = .ok (vrly96 T R L1 c' 33) W' ∧ Wd c' (upd L 33) W')
    (e34 : ∀ c L W, Wd c L W → L 34 = false → L 33 = true → Wd c (upd L 34) W)
    (e35 : ∀ c L W, Wd c L W → L 35 = false → L 34 = true → Wd c (upd L 35) W)
    (r51 : ∀ c L W, Wd c L W → L 51 = false → L 14 = true → L 19 = true → L 24 = true → L 29 = true → L 35 = true → L 40 = true → L 45 = true → L 50 = true → ∃ c' W', (∀ j, L j = true → vrly96 T R L1 c' j = vrly96 T R L1 c j) ∧ (Instr.buildSlice 109 8 #[(0, (vI ⟨T, 1, none⟩ 8)), (1, (vI ⟨T, 2, none⟩ 4)), (2, (vW ⟨T, 3, none⟩ 32)), (3, (vI ⟨T, 4, none⟩ 6)), (4, (.iface 190 (.agg #[(.slice (some ⟨c 2, 0, none⟩) 1 1), (I 1), (FN 135), (FN 136)]))), (5, (vI ⟨T, 6, none⟩ 6)), (6, (vI ⟨T, 7, none⟩ 8)), (7, (vT ⟨T, 8, none⟩ 24))]).run Tryz.prog W = .ok (vrly96 T R L1 c' 51) W' ∧ Wd c' (upd L 51) W')
    (e52 : ∀ c L W, Wd c L W → L 52 = false → L 9 = true → L 51 = true → Wd c (upd L 52) W)
    (r53 : ∀ c L W, Wd c L W → L 53 = false → L 52 = true → ∃ W', (Instr.storeAt 111 (ptr R) (.agg #[(.slice (some ⟨c 0, 0, none⟩) 2 2), (.slice (some ⟨c 1, 0, none⟩) 8 8)])).run Tryz.prog W = .ok () W' ∧ Wd c (upd L 53) W')
    (hend : ∀ c L W, (∀ i, i < 54 → L i = true) → Wd c L W → Q .normal (crly96 a0 T R L1 c) W) : (Code.region id ops true).wp Tryz.prog Q a0 w := by
  let val : (Nat → Nat) → Nat → Value := vrly96 T R L1
  have hosz : ops.size = 54 := by
    have := congrArg List.length htab
    simpa [rly96T] using this
  have hds : ∀ i s, (rly96T[i]?).bind (·.2.1) = some s → dstOf ops i = some s := fun i s hi => by rw [tab_dst htab, hi]
  have hdisB : disL rly96T = true := by rfl
  have hdis := disL_of htab hdisB
  have hold : ∀ s, rly96T.all (fun x => !(x.2.1 == some s)) = true → (List.range ops.size).all (fun j => !(dstOf ops j == some s)) = true := fun s h => holdL htab s h
  refine region_detX val Wd (hac_of hac) hdis h0 ?_ ?_
  rotate_left
  · intro c L W hall hW
    have := hend c L W (by rw [← hosz]; exact hall) hW
    have e : frm ops a0 (val c) (fun _ => true) ops.size = (crly96 a0 T R L1 c) := by
      rw [hosz]
      simp only [crly96, frm, if_true]
      rw [tab_dst htab 0, tab_dst htab 1, tab_dst htab 2, tab_dst htab 3, tab_dst htab 4, tab_dst htab 5, tab_dst htab 6, tab_dst htab 7, tab_dst htab 8, tab_dst htab 9, tab_dst htab 10, tab_dst htab 11, tab_dst htab 12, tab_dst htab 13, tab_dst htab 14, tab_dst htab 15, tab_dst htab 16, tab_dst htab 17, tab_dst htab 18, tab_dst htab 19, tab_dst htab 20, tab_dst htab 21, tab_dst htab 22, tab_dst htab 23, tab_dst htab 24, tab_dst htab 25, tab_dst htab 26, tab_dst htab 27, tab_dst htab 28, tab_dst htab 29, tab_dst htab 30, tab_dst htab 31, tab_dst htab 32, tab_dst htab 33, tab_dst htab 34, tab_dst htab 35, tab_dst htab 36, tab_dst htab 37, tab_dst htab 38, tab_dst htab 39, tab_dst htab 40, tab_dst htab 41, tab_dst htab 42, tab_dst htab 43, tab_dst htab 44, tab_dst htab 45, tab_dst htab 46, tab_dst htab 47, tab_dst htab 48, tab_dst htab 49, tab_dst htab 50, tab_dst htab 51, tab_dst htab 52, (show dstOf ops 53 = none from (tab_dst htab 53).trans rfl), put_none]
      rfl
    rw [e]
    exact this
  intro i o ho c L a w' hL hd ha hW
  have hi : i < 54 := by rw [← hosz]; exact (Array.getElem?_eq_some_iff.1 ho).1
  have G : ∀ j s : Nat, (rly96T[j]?).bind (·.2.1) = some s → s < 57 → (i, j) ∈ rly96D → a.tmps[s]? = some (val c j) := fun j s h1 h2 h3 => frm_at hdis ha j s (hds j s h1) (by omega) (depl_of hdep i j h3 ho hd)
  match i, ho, hL, hi, G with
  | 0, ho, hL, _, G =>
    obtain ⟨hop, hgd⟩ := tab3 htab ho rfl
    have h0 := frm_old ha 3 _ (hold 3 rfl) o3
    exact (dXr ho hgd (hpure 0 (by decide) c L w' hW) (g_load hop (eval_of h0) (r0 c L w' hW hL)))
  | 1, ho, hL, _, G =>
    obtain ⟨hop, hgd⟩ := tab3 htab ho rfl
    have h0 := G 0 4 rfl (by decide) (by decide)
    exact (dXr ho hgd (hpure 1 (by decide) c L w' hW) (run_len _ _ _ hop _ (eval_of h0) _))
  | 2, ho, hL, _, G =>
    obtain ⟨hop, hgd⟩ := tab3 htab ho rfl
    have h0 := frm_old ha 3 _ (hold 3 rfl) o3
    have h1 := G 1 5 rfl (by decide) (by decide)
    exact (dXr ho hgd (hpure 2 (by decide) c L w' hW) (g_build hop (map4 (eval_of h0) (eval_of h1) rfl rfl) (by kernel_rfl)))
  | 3, ho, hL, _, G =>
    obtain ⟨hop, hgd⟩ := tab3 htab ho rfl
    have h0 := G 2 6 rfl (by decide) (by decide)
    exact (dXr ho hgd (hpure 3 (by decide) c L w' hW) (g_mki hop (eval_of h0) (by kernel_rfl)))
  | 4, ho, hL, _, G =>
    obtain ⟨hop, hgd⟩ := tab3 htab ho rfl
    have h0 := frm_old ha 0 _ (hold 0 rfl) o0
    exact (dXr ho hgd (hpure 4 (by decide) c L w' hW) (g_mov hop (eval_of h0)))
  | 5, ho, hL, _, G =>
    obtain ⟨hop, hgd⟩ := tab3 htab ho rfl
    have h0 := G 4 8 rfl (by decide) (by decide)
    exact (dXr ho hgd (hpure 5 (by decide) c L w' hW) (run_nil _ _ _ hop _ (eval_of h0) _))
  | 6, ho, hL, _, G =>
    obtain ⟨hop, hgd⟩ := tab3 htab ho rfl
    have h0 := G 5 9 rfl (by decide) (by decide)
    exact (dXr ho hgd (hpure 6 (by decide) c L w' hW) (g_field hop (eval_of h0) (by kernel_rfl)))
  | 7, ho, hL, _, G =>
    obtain ⟨hop, hgd⟩ := tab3 htab ho rfl
    have h0 := G 6 10 rfl (by decide) (by decide)
    exact (dXr ho hgd (hpure 7 (by decide) c L w' hW) (g_build hop (map4 (eval_of h0) rfl rfl rfl) (by kernel_rfl)))
  | 8, ho, hL, _, G =>
    obtain ⟨hop, hgd⟩ := tab3 htab ho rfl
    have h0 := G 7 11 rfl (by decide) (by decide)
    exact (dXr ho hgd (hpure 8 (by decide) c L w' hW) (g_mki hop (eval_of h0) (by kernel_rfl)))
  | 9, ho, hL, _, G =>
    obtain ⟨hop, hgd⟩ := tab3 htab ho rfl
    have h0 := G 3 7 rfl (by decide) (by decide)
    have h1 := G 8 12 rfl (by decide) (by decide)
    obtain ⟨c', W', q0, q1, q2⟩ := r9 c L w' hW hL (depl_of hdep 9 3 (by decide) ho hd) (depl_of hdep 9 8 (by decide) ho hd)
    exact doesX_runw ho (wanted_none hgd) c' q0 q2 (g_bs hop (by simp only [List.map_toArray, List.map_cons, List.map_nil, eval_of h0, eval_of h1]; first | done | rfl) q1)
  | 10, ho, hL, _, G =>
    obtain ⟨hop, hgd⟩ := tab3 htab ho rfl
    have h0 := frm_old ha 0 _ (hold 0 rfl) o0
    exact (dXr ho hgd (hpure 10 (by decide) c L w' hW) (g_mov hop (eval_of h0)))
  | 11, ho, hL, _, G =>
    obtain ⟨hop, hgd⟩ := tab3 htab ho rfl
    have h0 := G 10 14 rfl (by decide) (by decide)
    exact (dXr ho hgd (hpure 11 (by decide) c L w' hW) (run_nil _ _ _ hop _ (eval_of h0) _))
  | 12, ho, hL, _, G =>
    obtain ⟨hop, hgd⟩ := tab3 htab ho rfl
    have h0 := G 11 15 rfl (by decide) (by decide)
    exact (dXr ho hgd (hpure 12 (by decide) c L w' hW) (g_field hop (eval_of h0) (by kernel_rfl)))
  | 13, ho, hL, _, G =>
    obtain ⟨hop, hgd⟩ := tab3 htab ho rfl
    have h0 := G 12 16 rfl (by decide) (by decide)
    exact (dXr ho hgd (hpure 13 (by decide) c L w' hW) (g_build hop (map4 (eval_of h0) rfl rfl rfl) (by kernel_rfl)))
  | 14, ho, hL, _, G =>
    obtain ⟨hop, hgd⟩ := tab3 htab ho rfl
    have h0 := G 13 17 rfl (by decide) (by decide)
    exact (dXr ho hgd (hpure 14 (by decide) c L w' hW) (g_mki hop (eval_of h0) (by kernel_rfl)))
  | 15, ho, hL, _, G =>
    obtain ⟨hop, hgd⟩ := tab3 htab ho rfl
    have h0 := frm_old ha 0 _ (hold 0 rfl) o0
    exact (dXr ho hgd (hpure 15 (by decide) c L w' hW) (g_mov hop (eval_of h0)))
  | 16, ho, hL, _, G =>
    obtain ⟨hop, hgd⟩ := tab3 htab ho rfl
    have h0 := G 15 19 rfl (by decide) (by decide)
    exact (dXr ho hgd (hpure 16 (by decide) c L w' hW) (run_nil _ _ _ hop _ (eval_of h0) _))
  | 17, ho, hL, _, G =>
    obtain ⟨hop, hgd⟩ := tab3 htab ho rfl
    have h0 := G 16 20 rfl (by decide) (by decide)
    exact (dXr ho hgd (hpure 17 (by decide) c L w' hW) (g_field hop (eval_of h0) (by kernel_rfl)))
  | 18, ho, hL, _, G =>
    obtain ⟨hop, hgd⟩ := tab3 htab ho rfl
    have h0 := G 17 21 rfl (by decide) (by decide)
    exact (dXr ho hgd (hpure 18 (by decide) c L w' hW) (g_build hop (map4 (eval_of h0) rfl rfl rfl) (by kernel_rfl)))
  | 19, ho, hL, _, G =>
    obtain ⟨hop, hgd⟩ := tab3 htab ho rfl
    have h0 := G 18 22 rfl (by decide) (by decide)
    exact (dXr ho hgd (hpure 19 (by decide) c L w' hW) (g_mki hop (eval_of h0) (by kernel_rfl)))
  | 20, ho, hL, _, G =>
    obtain ⟨hop, hgd⟩ := tab3 htab ho rfl
    have h0 := frm_old ha 0 _ (hold 0 rfl) o0
    exact (dXr ho hgd (hpure 20 (by decide) c L w' hW) (g_mov hop (eval_of h0)))
  | 21, ho, hL, _, G =>
    obtain ⟨hop, hgd⟩ := tab3 htab ho rfl
    have h0 := G 20 24 rfl (by decide) (by decide)
    exact (dXr ho hgd (hpure 21 (by decide) c L w' hW) (run_nil _ _ _ hop _ (eval_of h0) _))
  | 22, ho, hL, _, G =>
    obtain ⟨hop, hgd⟩ := tab3 htab ho rfl
    have h0 := G 21 25 rfl (by decide) (by decide)
    exact (dXr ho hgd (hpure 22 (by decide) c L w' hW) (g_field hop (eval_of h0) (by kernel_rfl)))
  | 23, ho, hL, _, G =>
    obtain ⟨hop, hgd⟩ := tab3 htab ho rfl
    have h0 := G 22 26 rfl (by decide) (by decide)
    exact (dXr ho hgd (hpure 23 (by decide) c L w' hW) (g_build hop (map4 (eval_of h0) rfl rfl rfl) (by kernel_rfl)))
  | 24, ho, hL, _, G =>
    obtain ⟨hop, hgd⟩ := tab3 htab ho rfl
    have h0 := G 23 27 rfl (by decide) (by decide)
    exact (dXr ho hgd (hpure 24 (by decide) c L w' hW) (g_mki hop (eval_of h0) (by kernel_rfl)))
  | 25, ho, hL, _, G =>
    obtain ⟨hop, hgd⟩ := tab3 htab ho rfl
    have h0 := frm_old ha 0 _ (hold 0 rfl) o0
    exact (dXr ho hgd (hpure 25 (by decide) c L w' hW) (g_mov hop (eval_of h0)))
  | 26, ho, hL, _, G =>
    obtain ⟨hop, hgd⟩ := tab3 htab ho rfl
    have h0 := G 25 29 rfl (by decide) (by decide)
    exact (dXr ho hgd (hpure 26 (by decide) c L w' hW) (run_nil _ _ _ hop _ (eval_of h0) _))
  | 27, ho, hL, _, G =>
    obtain ⟨hop, hgd⟩ := tab3 htab ho rfl
    have h0 := G 26 30 rfl (by decide) (by decide)
    exact (dXr ho hgd (hpure 27 (by decide) c L w' hW) (g_field hop (eval_of h0) (by kernel_rfl)))
  | 28, ho, hL, _, G =>
    obtain ⟨hop, hgd⟩ := tab3 htab ho rfl
    have h0 := G 27 31 rfl (by decide) (by decide)
    exact (dXr ho hgd (hpure 28 (by decide) c L w' hW) (g_build hop (map4 (eval_of h0) rfl rfl rfl) (by kernel_rfl)))
  | 29, ho, hL, _, G =>
    obtain ⟨hop, hgd⟩ := tab3 htab ho rfl
    have h0 := G 28 32 rfl (by decide) (by decide)
    exact (dXr ho hgd (hpure 29 (by decide) c L w' hW) (g_mki hop (eval_of h0) (by kernel_rfl)))
  | 30, ho, hL, _, G =>
    obtain ⟨hop, hgd⟩ := tab3 htab ho rfl
    have h0 := frm_old ha 0 _ (hold 0 rfl) o0
    exact (dXr ho hgd (hpure 30 (by decide) c L w' hW) (g_mov hop (eval_of h0)))
  | 31, ho, hL, _, G =>
    obtain ⟨hop, hgd⟩ := tab3 htab ho rfl
    have h0 := G 30 34 rfl (by decide) (by decide)
    exact (dXr ho hgd (hpure 31 (by decide) c L w' hW) (run_nil _ _ _ hop _ (eval_of h0) _))
  | 32, ho, hL, _, G =>
    obtain ⟨hop, hgd⟩ := tab3 htab ho rfl
    have h0 := G 31 35 rfl (by decide) (by decide)
    exact (dXr ho hgd (hpure 32 (by decide) c L w' hW) (g_field hop (eval_of h0) (by kernel_rfl)))
  | 33, ho, hL, _, G =>
    obtain ⟨hop, hgd⟩ := tab3 htab ho rfl
    have h0 := G 32 36 rfl (by decide) (by decide)
    obtain ⟨c', W', q0, q1, q2⟩ := r33 c L w' hW hL (depl_of hdep 33 32 (by decide) ho hd)
    exact doesX_runw ho (wanted_none hgd) c' q0 q2 (g_bs hop (by simp only [List.map_toArray, List.map_cons, List.map_nil, eval_of h0]; first | done | rfl) q1)
  | 34, ho, hL, _, G =>
    obtain ⟨hop, hgd⟩ := tab3 htab ho rfl
    have h0 := G 33 37 rfl (by decide) (by decide)
    exact (dXr ho hgd (e34 c L w' hW hL (depl_of hdep 34 33 (by decide) ho hd)) (g_build hop (map4 (eval_of h0) rfl rfl rfl) (by kernel_rfl)))
  | 35, ho, hL, _, G =>
    obtain ⟨hop, hgd⟩ := tab3 htab ho rfl
    have h0 := G 34 38 rfl (by decide) (by decide)
    exact (dXr ho hgd (e35 c L w' hW hL (depl_of hdep 35 34 (by decide) ho hd)) (g_mki hop (eval_of h0) (by kernel_rfl)))
  | 36, ho, hL, _, G =>
    obtain ⟨hop, hgd⟩ := tab3 htab ho rfl
    have h0 := frm_old ha 0 _ (hold 0 rfl) o0
    exact (dXr ho hgd (hpure 36 (by decide) c L w' hW) (g_mov hop (eval_of h0)))
  | 37, ho, hL, _, G =>
    obtain ⟨hop, hgd⟩ := tab3 htab ho rfl
    have h0 := G 36 40 rfl (by decide) (by decide)
    exact (dXr ho hgd (hpure 37 (by decide) c L w' hW) (run_nil _ _ _ hop _ (eval_of h0) _))
  | 38, ho, hL, _, G =>
    obtain ⟨hop, hgd⟩ := tab3 htab ho rfl
    have h0 := G 37 41 rfl (by decide) (by decide)
    exact (dXr ho hgd (hpure 38 (by decide) c L w' hW) (g_field hop (eval_of h0) (by kernel_rfl)))
  | 39, ho, hL, _, G =>
    obtain ⟨hop, hgd⟩ := tab3 htab ho rfl
    have h0 := G 38 42 rfl (by decide) (by decide)
    exact (dXr ho hgd (hpure 39 (by decide) c L w' hW) (g_build hop (map4 (eval_of h0) rfl rfl rfl) (by kernel_rfl)))
  | 40, ho, hL, _, G =>
    obtain ⟨hop, hgd⟩ := tab3 htab ho rfl
    have h0 := G 39 43 rfl (by decide) (by decide)
    exact (dXr ho hgd (hpure 40 (by decide) c L w' hW) (g_mki hop (eval_of h0) (by kernel_rfl)))
  | 41, ho, hL, _, G =>
    obtain ⟨hop, hgd⟩ := tab3 htab ho rfl
    have h0 := frm_old ha 0 _ (hold 0 rfl) o0
    exact (dXr ho hgd (hpure 41 (by decide) c L w' hW) (g_mov hop (eval_of h0)))
  | 42, ho, hL, _, G =>
    obtain ⟨hop, hgd⟩ := tab3 htab ho rfl
    have h0 := G 41 45 rfl (by decide) (by decide)
    exact (dXr ho hgd (hpure 42 (by decide) c L w' hW) (run_nil _ _ _ hop _ (eval_of h0) _))
  | 43, ho, hL, _, G =>
    obtain ⟨hop, hgd⟩ := tab3 htab ho rfl
    have h0 := G 42 46 rfl (by decide) (by decide)
    exact (dXr ho hgd (hpure 43 (by decide) c L w' hW) (g_field hop (eval_of h0) (by kernel_rfl)))
  | 44, ho, hL, _, G =>
    obtain ⟨hop, hgd⟩ := tab3 htab ho rfl
    have h0 := G 43 47 rfl (by decide) (by decide)
    exact (dXr ho hgd (hpure 44 (by decide) c L w' hW) (g_build hop (map4 (eval_of h0) rfl rfl rfl) (by kernel_rfl)))
  | 45, ho, hL, _, G =>
    obtain ⟨hop, hgd⟩ := tab3 htab ho rfl
    have h0 := G 44 48 rfl (by decide) (by decide)
    exact (dXr ho hgd (hpure 45 (by decide) c L w' hW) (g_mki hop (eval_of h0) (by kernel_rfl)))
  | 46, ho, hL, _, G =>
    obtain ⟨hop, hgd⟩ := tab3 htab ho rfl
    have h0 := frm_old ha 0 _ (hold 0 rfl) o0
    exact (dXr ho hgd (hpure 46 (by decide) c L w' hW) (g_mov hop (eval_of h0)))
  | 47, ho, hL, _, G =>
    obtain ⟨hop, hgd⟩ := tab3 htab ho rfl
    have h0 := G 46 50 rfl (by decide) (by decide)
    exact (dXr ho hgd (hpure 47 (by decide) c L w' hW) (run_nil _ _ _ hop _ (eval_of h0) _))
  | 48, ho, hL, _, G =>
    obtain ⟨hop, hgd⟩ := tab3 htab ho rfl
    have h0 := G 47 51 rfl (by decide) (by decide)
    exact (dXr ho hgd (hpure 48 (by decide) c L w' hW) (g_field hop (eval_of h0) (by kernel_rfl)))
  | 49, ho, hL, _, G =>
    obtain ⟨hop, hgd⟩ := tab3 htab ho rfl
    have h0 := G 48 52 rfl (by decide) (by decide)
    exact (dXr ho hgd (hpure 49 (by decide) c L w' hW) (g_build hop (map4 (eval_of h0) rfl rfl rfl) (by kernel_rfl)))
  | 50, ho, hL, _, G =>
    obtain ⟨hop, hgd⟩ := tab3 htab ho rfl
    have h0 := G 49 53 rfl (by decide) (by decide)
    exact (dXr ho hgd (hpure 50 (by decide) c L w' hW) (g_mki hop (eval_of h0) (by kernel_rfl)))
  | 51, ho, hL, _, G =>
    obtain ⟨hop, hgd⟩ := tab3 htab ho rfl
    have h0 := G 14 18 rfl (by decide) (by decide)
    have h1 := G 19 23 rfl (by decide) (by decide)
    have h2 := G 24 28 rfl (by decide) (by decide)
    have h3 := G 29 33 rfl (by decide) (by decide)
    have h4 := G 35 39 rfl (by decide) (by decide)
    have h5 := G 40 44 rfl (by decide) (by decide)
    have h6 := G 45 49 rfl (by decide) (by decide)
    have h7 := G 50 54 rfl (by decide) (by decide)
    obtain ⟨c', W', q0, q1, q2⟩ := r51 c L w' hW hL (depl_of hdep 51 14 (by decide) ho hd) (depl_of hdep 51 19 (by decide) ho hd) (depl_of hdep 51 24 (by decide) ho hd) (depl_of hdep 51 29 (by decide) ho hd) (depl_of hdep 51 35 (by decide) ho hd) (depl_of hdep 51 40 (by decide) ho hd) (depl_of hdep 51 45 (by decide) ho hd) (depl_of hdep 51 50 (by decide) ho hd)
    exact doesX_runw ho (wanted_none hgd) c' q0 q2 (g_bs hop (by simp only [List.map_toArray, List.map_cons, List.map_nil, eval_of h0, eval_of h1, eval_of h2, eval_of h3, eval_of h4, eval_of h5, eval_of h6, eval_of h7]; first | done | rfl) q1)
  | 52, ho, hL, _, G =>
    obtain ⟨hop, hgd⟩ := tab3 htab ho rfl
    have h0 := G 9 13 rfl (by decide) (by decide)
    have h1 := G 51 55 rfl (by decide) (by decide)
    exact (dXr ho hgd (e52 c L w' hW hL (depl_of hdep 52 9 (by decide) ho hd) (depl_of hdep 52 51 (by decide) ho hd)) (g_build hop (by simp only [List.map_toArray, List.map_cons, List.map_nil, eval_of h0, eval_of h1]; first | done | rfl) (by kernel_rfl)))
  | 53, ho, hL, _, G =>
    obtain ⟨hop, hgd⟩ := tab3 htab ho rfl
    have h0 := frm_old ha 2 _ (hold 2 rfl) o2
    have h1 := G 52 56 rfl (by decide) (by decide)
    obtain ⟨W', q1, q2⟩ := r53 c L w' hW hL (depl_of hdep 53 52 (by decide) ho hd)
    exact doesX_of (doesL_skp ho (wanted_none hgd) rfl q2 (g_store hop (eval_of h0) (eval_of h1) q1))
  | (i + 54), ho, hL, hi, _ => exact absurd hi (by omega)
def sly96 (T : Nat) (L1 : Nat) : List Sl := [⟨9, 0, fun _ => #[(vW ⟨L1, 0, none⟩ 1), (vI ⟨T, 0, none⟩ 8)], 213⟩, ⟨33, 2, fun _ => #[(.pointer (some ⟨T, 5, none⟩))], 184⟩, ⟨51, 1, fun c => #[(vI ⟨T, 1, none⟩ 8), (vI ⟨T, 2, none⟩ 4), (vW ⟨T, 3, none⟩ 32), (vI ⟨T, 4, none⟩ 6), (.iface 190 (.agg #[(.slice (some ⟨c 2, 0, none⟩) 1 1), (I 1), (FN 135), (FN 136)])), (vI ⟨T, 6, none⟩ 6), (vI ⟨T, 7, none⟩ 8), (vT ⟨T, 8, none⟩ 24)], 213⟩]
def dly96 : List (Nat × Nat) := [(34, 33), (35, 33), (51, 33), (52, 9), (52, 51), (52, 33), (53, 52), (53, 9), (53, 33), (53, 51)]
theorem lay96 (T : Nat) (w : World) : Calls Tryz.prog 96 #[ptr T] w fun e w' => ∃ c : Nat → Nat, e = .returned (.agg (#[(.slice (some ⟨c 0, 0, none⟩) 2 2), (.slice (some ⟨c 1, 0, none⟩) 8 8)])) ∧ Below w.heap.size w w' ∧ w'.heap[w.heap.size + 1]? = some (.cells #[S [116]] 9 (0, 0)) ∧ (w.heap.size + 2 ≤ c 0 ∧ w'.heap[c 0]? = some (.cells #[(vW ⟨w.heap.size + 1, 0, none⟩ 1), (vI ⟨T, 0, none⟩ 8)] 213 (0, 0))) ∧ (w.heap.size + 2 ≤ c 2 ∧ w'.heap[c 2]? = some (.cells #[(.pointer (some ⟨T, 5, none⟩))] 184 (0, 0))) ∧ (w.heap.size + 2 ≤ c 1 ∧ w'.heap[c 1]? = some (.cells #[(vI ⟨T, 1, none⟩ 8), (vI ⟨T, 2, none⟩ 4), (vW ⟨T, 3, none⟩ 32), (vI ⟨T, 4, none⟩ 6), (.iface 190 (.agg #[(.slice (some ⟨c 2, 0, none⟩) 1 1), (I 1), (FN 135), (FN 136)])), (vI ⟨T, 6, none⟩ 6), (vI ⟨T, 7, none⟩ 8), (vT ⟨T, 8, none⟩ 24)] 213 (0, 0))) := by
  have hb0 : Below w.heap.size w ((w.alloc (.cells #[.slice none 0 0, .slice none 0 0] 111)).alloc (.cells #[S [116]] 9)) := by
    refine (((Below.refl _ w).alloc (Nat.le_refl _) _)).alloc (by first | (simp; done) | (simp; omega)) _
  have hR : ((w.alloc (.cells #[.slice none 0 0, .slice none 0 0] 111)).alloc (.cells #[S [116]] 9)).heap[w.heap.size]? = some (.cells #[.slice none 0 0, .slice none 0 0] 111 (0, 0)) := by
    rw [heap_alloc_old _ _ (by first | (simp; done) | (simp; omega))]; exact heap_alloc_new _ _
  have hL1 : ((w.alloc (.cells #[.slice none 0 0, .slice none 0 0] 111)).alloc (.cells #[S [116]] 9)).heap[w.heap.size + 1]? = some (.cells #[S [116]] 9 (0, 0)) := by
    have e := heap_alloc_new ((w.alloc (.cells #[.slice none 0 0, .slice none 0 0] 111))) (.cells #[S [116]] 9)
    simpa using e
  have hsz : ((w.alloc (.cells #[.slice none 0 0, .slice none 0 0] 111)).alloc (.cells #[S [116]] 9)).heap.size = w.heap.size + 2 := by simp
  go_enter Tryz.func96, Tryz.ntmps96
  go_wp2_with fail
  generalize ((w.alloc (.cells #[.slice none 0 0, .slice none 0 0] 111)).alloc (.cells #[S [116]] 9)) = W1 at *
  generalize hL1e : w.heap.size + 1 = L1 at *
  generalize hRe : w.heap.size = R at *
  have hw1 : ∃ w1s, w1s = W1.heap.size := ⟨_, rfl⟩
  obtain ⟨w1s, hw1⟩ := hw1
  rw [← hw1] at hsz
  refine rly96 T R L1 rfl (by rfl) (by rfl) _ W1 (by simp) rfl rfl rfl (Ly W1 R (fun _ => #[.slice none 0 0, .slice none 0 0]) (fun c => #[(.slice (some ⟨c 0, 0, none⟩) 2 2), (.slice (some ⟨c 1, 0, none⟩) 8 8)]) 53 (sly96 T L1) dly96) ⟨fun _ => 0, (Only.drew _ W1), (fun _ _ e => by cases e), (fun _ _ e => by cases e), hR⟩ (fun i hi c L W hW => hW.pure i ?hp1 ?hp2 (fun e => hi (by simp [e])))
    (fun c L W hW _ => s_ld (T := 9) (fun _ => by kernel_rfl) (cellr ((hW.only.block L1 (by omega) (by omega)).trans hL1) rfl))
    (fun c L W hW hL h3 h8 => by
      refine ⟨cset c 0 W.heap.size, W.alloc (.cells #[(vW ⟨L1, 0, none⟩ 1), (vI ⟨T, 0, none⟩ 8)] 213), fun j hj => ?_, by kernel_rfl, hW.slice ⟨9, 0, fun _ => #[(vW ⟨L1, 0, none⟩ 1), (vI ⟨T, 0, none⟩ 8)], 213⟩ (no_of (hW.dep (53, 9) (by decide)) hL) (by simp) (fun _ => rfl) (fun d hd hi => ?_) (fun q hq e => ?_) (fun q hq e => ?_) (fun m => rfl)⟩
      · match j, hj with
        | 0, _ => rfl
        | 1, _ => rfl
        | 2, _ => rfl
        | 3, _ => rfl
        | 4, _ => rfl
        | 5, _ => rfl
        | 6, _ => rfl
        | 7, _ => rfl
        | 8, _ => rfl
        | 9, hj => rw [hL] at hj; cases hj
        | 10, _ => rfl
        | 11, _ => rfl
        | 12, _ => rfl
        | 13, _ => rfl
        | 14, _ => rfl
        | 15, _ => rfl
        | 16, _ => rfl
        | 17, _ => rfl
        | 18, _ => rfl
        | 19, _ => rfl
        | 20, _ => rfl
        | 21, _ => rfl
        | 22, _ => rfl
        | 23, _ => rfl
        | 24, _ => rfl
        | 25, _ => rfl
        | 26, _ => rfl
        | 27, _ => rfl
        | 28, _ => rfl
        | 29, _ => rfl
        | 30, _ => rfl
        | 31, _ => rfl
        | 32, _ => rfl
        | 33, _ => rfl
        | 34, _ => rfl
        | 35, _ => rfl
        | 36, _ => rfl
        | 37, _ => rfl
        | 38, _ => rfl
        | 39, _ => rfl
        | 40, _ => rfl
        | 41, _ => rfl
        | 42, _ => rfl
        | 43, _ => rfl
        | 44, _ => rfl
        | 45, _ => rfl
        | 46, _ => rfl
        | 47, _ => rfl
        | 48, _ => rfl
        | 49, _ => rfl
        | 50, _ => rfl
        | 51, _ => rfl
        | 52, hj => rw [hW.dep (52, 9) (by decide) hj] at hL; cases hL
        | 53, _ => rfl
        | (k + 54), _ => rfl
      · simp only [dly96, List.mem_cons, List.not_mem_nil, or_false] at hd
        rcases hd with rfl | rfl | rfl | rfl | rfl | rfl | rfl | rfl | rfl | rfl
        · exact absurd hi (by simp)
        · exact absurd hi (by simp)
        · exact absurd hi (by simp)
        · exact absurd hi (by simp)
        · exact absurd hi (by simp)
        · exact absurd hi (by simp)
        · exact absurd hi (by simp)
        · exact absurd hi (by simp)
        · exact absurd hi (by simp)
        · exact absurd hi (by simp)
      · simp only [sly96, List.mem_cons, List.not_mem_nil, or_false] at hq
        rcases hq with rfl | rfl | rfl
        · rw [hL] at e; cases e
        · exact ⟨(by simp), fun m => rfl⟩
        · exact ⟨(by simp), fun m => rfl⟩
      · simp only [sly96, List.mem_cons, List.not_mem_nil, or_false] at hq
        rcases hq with rfl | rfl | rfl
        · rfl
        · exact absurd e (by simp)
        · exact absurd e (by simp))
    (fun c L W hW hL h32 => by
      refine ⟨cset c 2 W.heap.size, W.alloc (.cells #[(.pointer (some ⟨T, 5, none⟩))] 184), fun j hj => ?_, by kernel_rfl, hW.slice ⟨33, 2, fun _ => #[(.pointer (some ⟨T, 5, none⟩))], 184⟩ (no_of (hW.dep (53, 33) (by decide)) hL) (by simp) (fun _ => rfl) (fun d hd hi => ?_) (fun q hq e => ?_) (fun q hq e => ?_) (fun m => rfl)⟩
      · match j, hj with
        | 0, _ => rfl
        | 1, _ => rfl
        | 2, _ => rfl
        | 3, _ => rfl
        | 4, _ => rfl
        | 5, _ => rfl
        | 6, _ => rfl
        | 7, _ => rfl
        | 8, _ => rfl
        | 9, _ => rfl
        | 10, _ => rfl
        | 11, _ => rfl
        | 12, _ => rfl
        | 13, _ => rfl
        | 14, _ => rfl
        | 15, _ => rfl
        | 16, _ => rfl
        | 17, _ => rfl
        | 18, _ => rfl
        | 19, _ => rfl
        | 20, _ => rfl
        | 21, _ => rfl
        | 22, _ => rfl
        | 23, _ => rfl
        | 24, _ => rfl
        | 25, _ => rfl
        | 26, _ => rfl
        | 27, _ => rfl
        | 28, _ => rfl
        | 29, _ => rfl
        | 30, _ => rfl
        | 31, _ => rfl
        | 32, _ => rfl
        | 33, hj => rw [hL] at hj; cases hj
        | 34, hj => rw [hW.dep (34, 33) (by decide) hj] at hL; cases hL
        | 35, hj => rw [hW.dep (35, 33) (by decide) hj] at hL; cases hL
        | 36, _ => rfl
        | 37, _ => rfl
        | 38, _ => rfl
        | 39, _ => rfl
        | 40, _ => rfl
        | 41, _ => rfl
        | 42, _ => rfl
        | 43, _ => rfl
        | 44, _ => rfl
        | 45, _ => rfl
        | 46, _ => rfl
        | 47, _ => rfl
        | 48, _ => rfl
        | 49, _ => rfl
        | 50, _ => rfl
        | 51, _ => rfl
        | 52, _ => rfl
        | 53, _ => rfl
        | (k + 54), _ => rfl
      · simp only [dly96, List.mem_cons, List.not_mem_nil, or_false] at hd
        rcases hd with rfl | rfl | rfl | rfl | rfl | rfl | rfl | rfl | rfl | rfl
        · exact absurd hi (by simp)
        · exact absurd hi (by simp)
        · exact absurd hi (by simp)
        · exact absurd hi (by simp)
        · exact absurd hi (by simp)
        · exact absurd hi (by simp)
        · exact absurd hi (by simp)
        · exact absurd hi (by simp)
        · exact absurd hi (by simp)
        · exact absurd hi (by simp)
      · simp only [sly96, List.mem_cons, List.not_mem_nil, or_false] at hq
        rcases hq with rfl | rfl | rfl
        · exact ⟨(by simp), fun m => rfl⟩
        · rw [hL] at e; cases e
        · rw [hW.dep (51, 33) (by decide) e] at hL; cases hL
      · simp only [sly96, List.mem_cons, List.not_mem_nil, or_false] at hq
        rcases hq with rfl | rfl | rfl
        · exact absurd e (by simp)
        · rfl
        · exact absurd e (by simp))
    (fun c L W hW _ h33 => hW.pure 34 (fun s hs => by simp only [sly96, List.mem_cons, List.not_mem_nil, or_false] at hs; rcases hs with rfl | rfl | rfl <;> simp) (fun d hd hi => by
      simp only [dly96, List.mem_cons, List.not_mem_nil, or_false] at hd
      rcases hd with rfl | rfl | rfl | rfl | rfl | rfl | rfl | rfl | rfl | rfl
      · exact h33
      · exact absurd hi (by simp)
      · exact absurd hi (by simp)
      · exact absurd hi (by simp)
      · exact absurd hi (by simp)
      · exact absurd hi (by simp)
      · exact absurd hi (by simp)
      · exact absurd hi (by simp)
      · exact absurd hi (by simp)
      · exact absurd hi (by simp)) (by decide))
    (fun c L W hW _ h34 => hW.pure 35 (fun s hs => by simp only [sly96, List.mem_cons, List.not_mem_nil, or_false] at hs; rcases hs with rfl | rfl | rfl <;> simp) (fun d hd hi => by
      simp only [dly96, List.mem_cons, List.not_mem_nil, or_false] at hd
      rcases hd with rfl | rfl | rfl | rfl | rfl | rfl | rfl | rfl | rfl | rfl
      · exact absurd hi (by simp)
      · exact (hW.dep (34, 33) (by decide) h34)
      · exact absurd hi (by simp)
      · exact absurd hi (by simp)
      · exact absurd hi (by simp)
      · exact absurd hi (by simp)
      · exact absurd hi (by simp)
      · exact absurd hi (by simp)
      · exact absurd hi (by simp)
      · exact absurd hi (by simp)) (by decide))
    (fun c L W hW hL h14 h19 h24 h29 h35 h40 h45 h50 => by
      refine ⟨cset c 1 W.heap.size, W.alloc (.cells #[(vI ⟨T, 1, none⟩ 8), (vI ⟨T, 2, none⟩ 4), (vW ⟨T, 3, none⟩ 32), (vI ⟨T, 4, none⟩ 6), (.iface 190 (.agg #[(.slice (some ⟨c 2, 0, none⟩) 1 1), (I 1), (FN 135), (FN 136)])), (vI ⟨T, 6, none⟩ 6), (vI ⟨T, 7, none⟩ 8), (vT ⟨T, 8, none⟩ 24)] 213), fun j hj => ?_, by kernel_rfl, hW.slice ⟨51, 1, fun c => #[(vI ⟨T, 1, none⟩ 8), (vI ⟨T, 2, none⟩ 4), (vW ⟨T, 3, none⟩ 32), (vI ⟨T, 4, none⟩ 6), (.iface 190 (.agg #[(.slice (some ⟨c 2, 0, none⟩) 1 1), (I 1), (FN 135), (FN 136)])), (vI ⟨T, 6, none⟩ 6), (vI ⟨T, 7, none⟩ 8), (vT ⟨T, 8, none⟩ 24)], 213⟩ (no_of (hW.dep (53, 51) (by decide)) hL) (by simp) (fun _ => rfl) (fun d hd hi => ?_) (fun q hq e => ?_) (fun q hq e => ?_) (fun m => rfl)⟩
      · match j, hj with
        | 0, _ => rfl
        | 1, _ => rfl
        | 2, _ => rfl
        | 3, _ => rfl
        | 4, _ => rfl
        | 5, _ => rfl
        | 6, _ => rfl
        | 7, _ => rfl
        | 8, _ => rfl
        | 9, _ => rfl
        | 10, _ => rfl
        | 11, _ => rfl
        | 12, _ => rfl
        | 13, _ => rfl
        | 14, _ => rfl
        | 15, _ => rfl
        | 16, _ => rfl
        | 17, _ => rfl
        | 18, _ => rfl
        | 19, _ => rfl
        | 20, _ => rfl
        | 21, _ => rfl
        | 22, _ => rfl
        | 23, _ => rfl
        | 24, _ => rfl
        | 25, _ => rfl
        | 26, _ => rfl
        | 27, _ => rfl
        | 28, _ => rfl
        | 29, _ => rfl
        | 30, _ => rfl
        | 31, _ => rfl
        | 32, _ => rfl
        | 33, _ => rfl
        | 34, _ => rfl
        | 35, _ => rfl
        | 36, _ => rfl
        | 37, _ => rfl
        | 38, _ => rfl
        | 39, _ => rfl
        | 40, _ => rfl
        | 41, _ => rfl
        | 42, _ => rfl
        | 43, _ => rfl
        | 44, _ => rfl
        | 45, _ => rfl
        | 46, _ => rfl
        | 47, _ => rfl
        | 48, _ => rfl
        | 49, _ => rfl
        | 50, _ => rfl
        | 51, hj => rw [hL] at hj; cases hj
        | 52, hj => rw [hW.dep (52, 51) (by decide) hj] at hL; cases hL
        | 53, _ => rfl
        | (k + 54), _ => rfl
      · simp only [dly96, List.mem_cons, List.not_mem_nil, or_false] at hd
        rcases hd with rfl | rfl | rfl | rfl | rfl | rfl | rfl | rfl | rfl | rfl
        · exact absurd hi (by simp)
        · exact absurd hi (by simp)
        · exact (hW.dep (35, 33) (by decide) h35)
        · exact absurd hi (by simp)
        · exact absurd hi (by simp)
        · exact absurd hi (by simp)
        · exact absurd hi (by simp)
        · exact absurd hi (by simp)
        · exact absurd hi (by simp)
        · exact absurd hi (by simp)
      · simp only [sly96, List.mem_cons, List.not_mem_nil, or_false] at hq
        rcases hq with rfl | rfl | rfl
        · exact ⟨(by simp), fun m => rfl⟩
        · exact ⟨(by simp), fun m => rfl⟩
        · rw [hL] at e; cases e
      · simp only [sly96, List.mem_cons, List.not_mem_nil, or_false] at hq
        rcases hq with rfl | rfl | rfl
        · exact absurd e (by simp)
        · exact absurd e (by simp)
        · rfl)
    (fun c L W hW _ h9 h51 => hW.pure 52 (fun s hs => by simp only [sly96, List.mem_cons, List.not_mem_nil, or_false] at hs; rcases hs with rfl | rfl | rfl <;> simp) (fun d hd hi => by
      simp only [dly96, List.mem_cons, List.not_mem_nil, or_false] at hd
      rcases hd with rfl | rfl | rfl | rfl | rfl | rfl | rfl | rfl | rfl | rfl
      · exact absurd hi (by simp)
      · exact absurd hi (by simp)
      · exact absurd hi (by simp)
      · exact h9
      · exact h51
      · exact (hW.dep (51, 33) (by decide) h51)
      · exact absurd hi (by simp)
      · exact absurd hi (by simp)
      · exact absurd hi (by simp)
      · exact absurd hi (by simp)) (by decide))
    (fun c L W hW hL h52 => by
      have hbx := hW.box
      rw [hL, if_neg (by decide)] at hbx
      have e := s_sta (T := 111) (n := 2) (fun _ => by kernel_rfl) (o := 0) hbx (.agg #[(.slice (some ⟨c 0, 0, none⟩) 2 2), (.slice (some ⟨c 1, 0, none⟩) 8 8)]) rfl (by decide) (by intro x hx; simp only [Value.cells, List.mem_cons, List.not_mem_nil, or_false] at hx; rcases hx with rfl | rfl <;> rfl)
      refine ⟨_, e, ?_⟩
      refine hW.store (v := fun c => #[(.slice (some ⟨c 0, 0, none⟩) 2 2), (.slice (some ⟨c 1, 0, none⟩) 8 8)]) (fun q hq => ?_) (fun d hd hi => ?_)
      · simp only [sly96, List.mem_cons, List.not_mem_nil, or_false] at hq
        rcases hq with rfl | rfl | rfl
        · exact ⟨(by simp), fun e => by have h5 := (hW.sl ⟨9, 0, fun _ => #[(vW ⟨L1, 0, none⟩ 1), (vI ⟨T, 0, none⟩ 8)], 213⟩ (by simp [sly96]) e).1; have h6 : W1.heap.size ≤ c 0 := h5; show c 0 ≠ R; omega⟩
        · exact ⟨(by simp), fun e => by have h5 := (hW.sl ⟨33, 2, fun _ => #[(.pointer (some ⟨T, 5, none⟩))], 184⟩ (by simp [sly96]) e).1; have h6 : W1.heap.size ≤ c 2 := h5; show c 2 ≠ R; omega⟩
        · exact ⟨(by simp), fun e => by have h5 := (hW.sl ⟨51, 1, fun c => #[(vI ⟨T, 1, none⟩ 8), (vI ⟨T, 2, none⟩ 4), (vW ⟨T, 3, none⟩ 32), (vI ⟨T, 4, none⟩ 6), (.iface 190 (.agg #[(.slice (some ⟨c 2, 0, none⟩) 1 1), (I 1), (FN 135), (FN 136)])), (vI ⟨T, 6, none⟩ 6), (vI ⟨T, 7, none⟩ 8), (vT ⟨T, 8, none⟩ 24)], 213⟩ (by simp [sly96]) e).1; have h6 : W1.heap.size ≤ c 1 := h5; show c 1 ≠ R; omega⟩
      · simp only [dly96, List.mem_cons, List.not_mem_nil, or_false] at hd
        rcases hd with rfl | rfl | rfl | rfl | rfl | rfl | rfl | rfl | rfl | rfl
        · exact absurd hi (by simp)
        · exact absurd hi (by simp)
        · exact absurd hi (by simp)
        · exact absurd hi (by simp)
        · exact absurd hi (by simp)
        · exact absurd hi (by simp)
        · exact h52
        · exact hW.dep (52, 9) (by decide) h52
        · exact hW.dep (52, 33) (by decide) h52
        · exact hW.dep (52, 51) (by decide) h52) ?hend
  case hp1 =>
    intro q hq e
    simp only [sly96, List.mem_cons, List.not_mem_nil, or_false] at hq
    rcases hq with rfl | rfl | rfl <;> exact hi (by simp at e; simp [← e])
  case hp2 =>
    intro d hd e
    simp only [dly96, List.mem_cons, List.not_mem_nil, or_false] at hd
    rcases hd with rfl | rfl | rfl | rfl | rfl | rfl | rfl | rfl | rfl | rfl <;> exact absurd (by simp at e; simp [← e]) hi
  case hend =>
    intro c L W hall hW
    simp only [crly96, Act.put, List.setIfInBounds_toArray, List.set_cons_succ, List.set_cons_zero]
    have hbx := hW.box
    rw [hall 53 (by decide), if_pos rfl] at hbx
    have hO := hW.only
    have hs0 := hW.sl ⟨9, 0, fun _ => #[(vW ⟨L1, 0, none⟩ 1), (vI ⟨T, 0, none⟩ 8)], 213⟩ (by simp [sly96]) (hall 9 (by decide))
    have hs2 := hW.sl ⟨33, 2, fun _ => #[(.pointer (some ⟨T, 5, none⟩))], 184⟩ (by simp [sly96]) (hall 33 (by decide))
    have hs1 := hW.sl ⟨51, 1, fun c => #[(vI ⟨T, 1, none⟩ 8), (vI ⟨T, 2, none⟩ 4), (vW ⟨T, 3, none⟩ 32), (vI ⟨T, 4, none⟩ 6), (.iface 190 (.agg #[(.slice (some ⟨c 2, 0, none⟩) 1 1), (I 1), (FN 135), (FN 136)])), (vI ⟨T, 6, none⟩ 6), (vI ⟨T, 7, none⟩ 8), (vT ⟨T, 8, none⟩ 24)], 213⟩ (by simp [sly96]) (hall 51 (by decide))
    have HP : Hid (W.heap[R]? = some (.cells #[(.slice (some ⟨c 0, 0, none⟩) 2 2), (.slice (some ⟨c 1, 0, none⟩) 8 8)] 111 (0, 0)) ∧ Below R w W ∧ W.heap[L1]? = some (.cells #[S [116]] 9 (0, 0)) ∧ (R + 2 ≤ c 0 ∧ W.heap[c 0]? = some (.cells #[(vW ⟨L1, 0, none⟩ 1), (vI ⟨T, 0, none⟩ 8)] 213 (0, 0))) ∧ (R + 2 ≤ c 2 ∧ W.heap[c 2]? = some (.cells #[(.pointer (some ⟨T, 5, none⟩))] 184 (0, 0))) ∧ (R + 2 ≤ c 1 ∧ W.heap[c 1]? = some (.cells #[(vI ⟨T, 1, none⟩ 8), (vI ⟨T, 2, none⟩ 4), (vW ⟨T, 3, none⟩ 32), (vI ⟨T, 4, none⟩ 6), (.iface 190 (.agg #[(.slice (some ⟨c 2, 0, none⟩) 1 1), (I 1), (FN 135), (FN 136)])), (vI ⟨T, 6, none⟩ 6), (vI ⟨T, 7, none⟩ 8), (vT ⟨T, 8, none⟩ 24)] 213 (0, 0)))) := hide (⟨hbx, hO.below hb0 (by omega) (fun k e => by omega), (hO.block L1 (by omega) (by omega)).trans hL1, ⟨by have h5 : W1.heap.size ≤ c 0 := hs0.1; omega, hs0.2⟩, ⟨by have h5 : W1.heap.size ≤ c 2 := hs2.1; omega, hs2.2⟩, ⟨by have h5 : W1.heap.size ≤ c 1 := hs1.1; omega, hs1.2⟩⟩)
    clear hbx hO hW hall hs0 hs2 hs1
    go_wp2
    obtain ⟨hbx, hpp⟩ := unhide HP
    refine out1c (T := 111) (n := 2) (fun _ => by kernel_rfl) (fun _ => by kernel_rfl) (Z := R) rfl rfl rfl hbx rfl ?_
    subst hL1e; subst hRe
    exact ⟨c, rfl, hpp⟩
end Go.Proofs.YtpidmpefodnffaaGreatDoor
