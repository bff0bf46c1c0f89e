import Derived.Test.YtpidmpefodnffaaGreatDoorZfde
namespace Go.Proofs.YtpidmpefodnffaaGreatDoor
open Go.RowKit
set_option maxHeartbeats 4000000
set_option maxRecDepth 8000
def vrly60 (T _R L1 : Nat) (c : (Nat → Nat)) (i : Nat) : Value := match i with
  | 0 => (S [99])
  | 1 => (I 1)
  | 2 => (.agg #[(ptr L1), (I 1), (FN 132), (FN 133)])
  | 3 => (vW ⟨L1, 0, none⟩ 1)
  | 4 => (ptr T)
  | 5 => (ptr T)
  | 6 => (.pointer (some ⟨T, 0, none⟩))
  | 7 => (.agg #[(.pointer (some ⟨T, 0, none⟩)), (I 0), (FN 132), (FN 134), (FN 133)])
  | 8 => (vR ⟨T, 0, none⟩ 0)
  | 9 => (.slice (some ⟨c 0, 0, none⟩) 2 2)
  | 10 => (ptr T)
  | 11 => (ptr T)
  | 12 => (.pointer (some ⟨T, 1, none⟩))
  | 13 => (ptr T)
  | 14 => (ptr T)
  | 15 => (.pointer (some ⟨T, 2, none⟩))
  | 16 => (.slice (some ⟨c 2, 0, none⟩) 2 2)
  | 17 => (.agg #[(.slice (some ⟨c 2, 0, none⟩) 2 2), (I 1), (FN 135), (FN 136)])
  | 18 => (.iface 190 (.agg #[(.slice (some ⟨c 2, 0, none⟩) 2 2), (I 1), (FN 135), (FN 136)]))
  | 19 => (ptr T)
  | 20 => (ptr T)
  | 21 => (.pointer (some ⟨T, 3, none⟩))
  | 22 => (.agg #[(.pointer (some ⟨T, 3, none⟩)), (I 32), (FN 137), (FN 138)])
  | 23 => (vT ⟨T, 3, none⟩ 32)
  | 24 => (ptr T)
  | 25 => (ptr T)
  | 26 => (.pointer (some ⟨T, 4, none⟩))
  | 27 => (.agg #[(.pointer (some ⟨T, 4, none⟩)), (I 32), (FN 137), (FN 138)])
  | 28 => (vT ⟨T, 4, none⟩ 32)
  | 29 => (ptr T)
  | 30 => (ptr T)
  | 31 => (.pointer (some ⟨T, 5, none⟩))
  | 32 => (.agg #[(.pointer (some ⟨T, 5, none⟩)), (I 6), (FN 135), (FN 136)])
  | 33 => (vI ⟨T, 5, none⟩ 6)
  | 34 => (ptr T)
  | 35 => (ptr T)
  | 36 => (.pointer (some ⟨T, 6, none⟩))
  | 37 => (.agg #[(.pointer (some ⟨T, 6, none⟩)), (I 60), (FN 137), (FN 138)])
  | 38 => (vN ⟨T, 6, none⟩ 60)
  | 39 => (ptr T)
  | 40 => (ptr T)
  | 41 => (.pointer (some ⟨T, 7, none⟩))
  | 42 => (.agg #[(.pointer (some ⟨T, 7, none⟩)), (I 6), (FN 135), (FN 136)])
  | 43 => (vI ⟨T, 7, none⟩ 6)
  | 44 => (ptr T)
  | 45 => (ptr T)
  | 46 => (.pointer (some ⟨T, 8, none⟩))
  | 47 => (.agg #[(.pointer (some ⟨T, 8, none⟩)), (I 6), (FN 135), (FN 136)])
  | 48 => (vI ⟨T, 8, none⟩ 6)
  | 49 => (ptr T)
  | 50 => (ptr T)
  | 51 => (.pointer (some ⟨T, 9, none⟩))
  | 52 => (.agg #[(.pointer (some ⟨T, 9, none⟩)), (I 6), (FN 135), (FN 136)])
  | 53 => (vI ⟨T, 9, none⟩ 6)
  | 54 => (ptr T)
  | 55 => (ptr T)
  | 56 => (.pointer (some ⟨T, 10, none⟩))
  | 57 => (.agg #[(.pointer (some ⟨T, 10, none⟩)), (I 6), (FN 135), (FN 136)])
  | 58 => (vI ⟨T, 10, none⟩ 6)
  | 59 => (.slice (some ⟨c 1, 0, none⟩) 9 9)
  | 60 => (.agg #[(.slice (some ⟨c 0, 0, none⟩) 2 2), (.slice (some ⟨c 1, 0, none⟩) 9 9)])
  | 61 => undef
  | _ => undef
def rly60T : List (Op × Option Tmp × Option (Nat × Bool)) := [
  (.load 9 (.tmp 3), some 4, none),
  (.call { callee := .builtin .len, args := #[(.tmp 4)], argTypes := #[9] }, some 5, none),
  (.build 179 #[(0, (.tmp 3)), (1, (.tmp 5)), (2, (.func 132)), (3, (.func 133))], some 6, none),
  (.makeInterface 179 (.tmp 6), some 7, none),
  (.move (.tmp 0), some 8, none),
  (.nilCheck (.tmp 8), some 9, none),
  (.fieldAddr 24 (.tmp 9) 0, some 10, none),
  (.build 183 #[(0, (.tmp 10)), (1, (.const (I 0))), (2, (.func 132)), (3, (.func 134)), (4, (.func 133))], some 11, none),
  (.makeInterface 183 (.tmp 11), some 12, none),
  (.buildSlice 109 2 #[(0, (.tmp 7)), (1, (.tmp 12))], some 13, none),
  (.move (.tmp 0), some 14, none),
  (.nilCheck (.tmp 14), some 15, none),
  (.fieldAddr 24 (.tmp 15) 1, some 16, none),
  (.move (.tmp 0), some 17, none),
  (.nilCheck (.tmp 17), some 18, none),
  (.fieldAddr 24 (.tmp 18) 2, some 19, none),
  (.buildSlice 185 2 #[(0, (.tmp 16)), (1, (.tmp 19))], some 20, none),
  (.build 190 #[(0, (.tmp 20)), (1, (.const (I 1))), (2, (.func 135)), (3, (.func 136))], some 21, none),
  (.makeInterface 190 (.tmp 21), some 22, none),
  (.move (.tmp 0), some 23, none),
  (.nilCheck (.tmp 23), some 24, none),
  (.fieldAddr 24 (.tmp 24) 3, some 25, none),
  (.build 194 #[(0, (.tmp 25)), (1, (.const (I 32))), (2, (.func 137)), (3, (.func 138))], some 26, none),
  (.makeInterface 194 (.tmp 26), some 27, none),
  (.move (.tmp 0), some 28, none),
  (.nilCheck (.tmp 28), some 29, none),
  (.fieldAddr 24 (.tmp 29) 4, some 30, none),
  (.build 194 #[(0, (.tmp 30)), (1, (.const (I 32))), (2, (.func 137)), (3, (.func 138))], some 31, none),
  (.makeInterface 194 (.tmp 31), some 32, none),
  (.move (.tmp 0), some 33, none),
  (.nilCheck (.tmp 33), some 34, none),
  (.fieldAddr 24 (.tmp 34) 5, some 35, none),
  (.build 197 #[(0, (.tmp 35)), (1, (.const (I 6))), (2, (.func 135)), (3, (.func 136))], some 36, none),
  (.makeInterface 197 (.tmp 36), some 37, none),
  (.move (.tmp 0), some 38, none),
  (.nilCheck (.tmp 38), some 39, none),
  (.fieldAddr 24 (.tmp 39) 6, some 40, none),
  (.build 200 #[(0, (.tmp 40)), (1, (.const (I 60))), (2, (.func 137)), (3, (.func 138))], some 41, none),
  (.makeInterface 200 (.tmp 41), some 42, none),
  (.move (.tmp 0), some 43, none),
  (.nilCheck (.tmp 43), some 44, none),
  (.fieldAddr 24 (.tmp 44) 7, some 45, none),
  (.build 197 #[(0, (.tmp 45)), (1, (.const (I 6))), (2, (.func 135)), (3, (.func 136))], some 46, none),
  (.makeInterface 197 (.tmp 46), some 47, none),
  (.move (.tmp 0), some 48, none),
  (.nilCheck (.tmp 48), some 49, none),
  (.fieldAddr 24 (.tmp 49) 8, some 50, none),
  (.build 197 #[(0, (.tmp 50)), (1, (.const (I 6))), (2, (.func 135)), (3, (.func 136))], some 51, none),
  (.makeInterface 197 (.tmp 51), some 52, none),
  (.move (.tmp 0), some 53, none),
  (.nilCheck (.tmp 53), some 54, none),
  (.fieldAddr 24 (.tmp 54) 9, some 55, none),
  (.build 197 #[(0, (.tmp 55)), (1, (.const (I 6))), (2, (.func 135)), (3, (.func 136))], some 56, none),
  (.makeInterface 197 (.tmp 56), some 57, none),
  (.move (.tmp 0), some 58, none),
  (.nilCheck (.tmp 58), some 59, none),
  (.fieldAddr 24 (.tmp 59) 10, some 60, none),
  (.build 197 #[(0, (.tmp 60)), (1, (.const (I 6))), (2, (.func 135)), (3, (.func 136))], some 61, none),
  (.makeInterface 197 (.tmp 61), some 62, none),
  (.buildSlice 109 9 #[(0, (.tmp 22)), (1, (.tmp 27)), (2, (.tmp 32)), (3, (.tmp 37)), (4, (.tmp 42)), (5, (.tmp 47)), (6, (.tmp 52)), (7, (.tmp 57)), (8, (.tmp 62))], some 63, none),
  (.build 111 #[(0, (.tmp 13)), (1, (.tmp 63))], some 64, none),
  (.store 111 (.tmp 2) (.tmp 64), none, none)]
def crly60 (a0 : Act) (T _R L1 : Nat) (c : (Nat → Nat)) : Act := (((((((((((((((((((((((((((((((((((((((((((((((((((((((((((((a0.put (some 4) (S [99])).put (some 5) (I 1)).put (some 6) (.agg #[(ptr L1), (I 1), (FN 132), (FN 133)])).put (some 7) (vW ⟨L1, 0, none⟩ 1)).put (some 8) (ptr T)).put (some 9) (ptr T)).put (some 10) (.pointer (some ⟨T, 0, none⟩))).put (some 11) (.agg #[(.pointer (some ⟨T, 0, none⟩)), (I 0), (FN 132), (FN 134), (FN 133)])).put (some 12) (vR ⟨T, 0, none⟩ 0)).put (some 13) (.slice (some ⟨c 0, 0, none⟩) 2 2)).put (some 14) (ptr T)).put (some 15) (ptr T)).put (some 16) (.pointer (some ⟨T, 1, none⟩))).put (some 17) (ptr T)).put (some 18) (ptr T)).put (some 19) (.pointer (some ⟨T, 2, none⟩))).put (some 20) (.slice (some ⟨c 2, 0, none⟩) 2 2)).put (some 21) (.agg #[(.slice (some ⟨c 2, 0, none⟩) 2 2), (I 1), (FN 135), (FN 136)])).put (some 22) (.iface 190 (.agg #[(.slice (some ⟨c 2, 0, none⟩) 2 2), (I 1), (FN 135), (FN 136)]))).put (some 23) (ptr T)).put (some 24) (ptr T)).put (some 25) (.pointer (some ⟨T, 3, none⟩))).put (some 26) (.agg #[(.pointer (some ⟨T, 3, none⟩)), (I 32), (FN 137), (FN 138)])).put (some 27) (vT ⟨T, 3, none⟩ 32)).put (some 28) (ptr T)).put (some 29) (ptr T)).put (some 30) (.pointer (some ⟨T, 4, none⟩))).put (some 31) (.agg #[(.pointer (some ⟨T, 4, none⟩)), (I 32), (FN 137), (FN 138)])).put (some 32) (vT ⟨T, 4, none⟩ 32)).put (some 33) (ptr T)).put (some 34) (ptr T)).put (some 35) (.pointer (some ⟨T, 5, none⟩))).put (some 36) (.agg #[(.pointer (some ⟨T, 5, none⟩)), (I 6), (FN 135), (FN 136)])).put (some 37) (vI ⟨T, 5, none⟩ 6)).put (some 38) (ptr T)).put (some 39) (ptr T)).put (some 40) (.pointer (some ⟨T, 6, none⟩))).put (some 41) (.agg #[(.pointer (some ⟨T, 6, none⟩)), (I 60), (FN 137), (FN 138)])).put (some 42) (vN ⟨T, 6, none⟩ 60)).put (some 43) (ptr T)).put (some 44) (ptr T)).put (some 45) (.pointer (some ⟨T, 7, none⟩))).put (some 46) (.agg #[(.pointer (some ⟨T, 7, none⟩)), (I 6), (FN 135), (FN 136)])).put (some 47) (vI ⟨T, 7, none⟩ 6)).put (some 48) (ptr T)).put (some 49) (ptr T)).put (some 50) (.pointer (some ⟨T, 8, none⟩))).put (some 51) (.agg #[(.pointer (some ⟨T, 8, none⟩)), (I 6), (FN 135), (FN 136)])).put (some 52) (vI ⟨T, 8, none⟩ 6)).put (some 53) (ptr T)).put (some 54) (ptr T)).put (some 55) (.pointer (some ⟨T, 9, none⟩))).put (some 56) (.agg #[(.pointer (some ⟨T, 9, none⟩)), (I 6), (FN 135), (FN 136)])).put (some 57) (vI ⟨T, 9, none⟩ 6)).put (some 58) (ptr T)).put (some 59) (ptr T)).put (some 60) (.pointer (some ⟨T, 10, none⟩))).put (some 61) (.agg #[(.pointer (some ⟨T, 10, none⟩)), (I 6), (FN 135), (FN 136)])).put (some 62) (vI ⟨T, 10, none⟩ 6)).put (some 63) (.slice (some ⟨c 1, 0, none⟩) 9 9)).put (some 64) (.agg #[(.slice (some ⟨c 0, 0, none⟩) 2 2), (.slice (some ⟨c 1, 0, none⟩) 9 9)]))
def rly60D : List (Nat × Nat) := [(1, 0), (2, 1), (3, 2), (5, 4), (6, 5), (7, 6), (8, 7), (9, 3), (9, 8), (11, 10), (12, 11), (14, 13), (15, 14), (16, 12), (16, 15), (17, 16), (18, 17), (20, 19), (21, 20), (22, 21), (23, 22), (25, 24), (26, 25), (27, 26), (28, 27), (30, 29), (31, 30), (32, 31), (33, 32), (35, 34), (36, 35), (37, 36), (38, 37), (40, 39), (41, 40), (42, 41), (43, 42), (45, 44), (46, 45), (47, 46), (48, 47), (50, 49), (51, 50), (52, 51), (53, 52), (55, 54), (56, 55), (57, 56), (58, 57), (59, 18), (59, 23), (59, 28), (59, 33), (59, 38), (59, 43), (59, 48), (59, 53), (59, 58), (60, 9), (60, 59), (61, 60)]
set_option maxHeartbeats 4000000 in
theorem rly60 {ops : Array Oper} {id : Nat} {Q : Exit → Act → World → Prop} (T R L1 : Nat) (htab : ops.toList.map (fun o => (o.op, o.dst, o.guard)) = rly60T) (hdep : deplB rly60D ops = true) (hac : acB ops = true)
    (a0 : Act) (w : World) (hsz : 65 ≤ a0.tmps.size) (o0 : a0.tmps[0]? = some (ptr T)) (o2 : a0.tmps[2]? = some (ptr R)) (o3 : a0.tmps[3]? = some (ptr L1))
    (Wd : (Nat → Nat) → (Nat → Bool) → World → Prop) (h0 : ∃ c, Wd c (fun _ => false) w.drew) (hpure : ∀ i, i ∉ ([9, 16, 17, 18, 59, 60, 61] : List Nat) → ∀ c L W, Wd c L W → Wd c (upd L i) W)
    (r0 : ∀ c L W, Wd c L W → L 0 = false → (Instr.loadAt 9 (ptr L1)).run Tryz.prog W = .ok (S [99]) W)
    (r9 : ∀ c L W, Wd c L W → L 9 = false → L 3 = true → L 8 = true → ∃ c' W', (∀ j, L j = true → vrly60 T R L1 c' j = vrly60 T R L1 c j) ∧ (Instr.buildSlice 109 2 #[(0, (vW ⟨L1, 0, none⟩ 1)), (1, (vR ⟨T, 0, none⟩ 0))]).run Tryz.prog W = .ok (vrly60 T R L1 c' 9) W' ∧ Wd c' (upd L 9) W')
    (r16 : ∀ c L W, Wd c L W → L 16 = false → L 12 = true → L 15 = true → ∃ c' W', (∀ j, L j = true → vrly60 T R L1 c' j = vrly60 T R L1 c j) ∧ (Instr.buildSlice 185 2 #[(0, (.pointer (some ⟨T, 1, none⟩))), (1, (.pointer (some ⟨T, 2, none⟩)))]).run Tryz.prog W = .ok (vrly60 T R L1 c' 16) W' ∧ Wd c' (upd L 16) W')
    (e17 : ∀ c L W, Wd c L W → L 17 = false → L 16 = true → Wd c (upd L 17) W)
    (e18 : ∀ c L W, Wd c L W → L 18 = false → L 17 = true → Wd c (upd L 18) W)
    (r59 : ∀ c L W, Wd c L W → L 59 = false → L 18 = true → L 23 = true → L 28 = true → L 33 = true → L 38 = true → L 43 = true → L 48 = true → L 53 = true → L 58 = true → ∃ c' W', (∀ j, L j = true → vrly60 T R L1 c' j = vrly60 T R L1 c j) ∧ (Instr.buildSlice 109 9 #[(0, (.iface 190 (.agg #[(.slice (some ⟨c 2, 0, none⟩) 2 2), (I 1), (FN 135), (FN 136)]))), (1, (vT ⟨T, 3, none⟩ 32)), (2, (vT ⟨T, 4, none⟩ 32)), (3, (vI ⟨T, 5, none⟩ 6)), (4, (vN ⟨T, 6, none⟩ 60)), (5, (vI ⟨T, 7, none⟩ 6)), (6, (vI ⟨T, 8, none⟩ 6)), (7, (vI ⟨T, 9, none⟩ 6)), (8, (vI ⟨T, 10, none⟩ 6))]).run Tryz.prog W = .ok (vrly60 T R L1 c' 59) W' ∧ Wd c' (upd L 59) W')
    (e60 : ∀ c L W, Wd c L W → L 60 = false → L 9 = true → L 59 = true → Wd c (upd L 60) W)
    (r61 : ∀ c L W, Wd c L W → L 61 = false → L 60 = true → ∃ W', (Instr.storeAt 111 (ptr R) (.agg #[(.slice (some ⟨c 0, 0, none⟩) 2 2), (.slice (some ⟨c 1, 0, none⟩) 9 9)])).run Tryz.prog W = .ok () W' ∧ Wd c (upd L 61) W')
    (hend : ∀ c L W, (∀ i, i < 62 → L i = true) → Wd c L W → Q .normal (crly60 a0 T R L1 c) W) : (Code.region id ops true).wp Tryz.prog Q a0 w := by
  let val : (Nat → Nat) → Nat → Value := vrly60 T R L1
  have hosz : ops.size = 62 := by
    have := congrArg List.length htab
    simpa [rly60T] using this
  have hds : ∀ i s, (rly60T[i]?).bind (·.2.1) = some s → dstOf ops i = some s := fun i s hi => by rw [tab_dst htab, hi]
  have hdisB : disL rly60T = true := by rfl
  have hdis := disL_of htab hdisB
  have hold : ∀ s, rly60T.all (fun x => !(x.2.1 == some s)) = true → (List.range ops.size).all (fun j => !(dstOf ops j == some s)) = true := fun s h => holdL htab s h
  refine region_detX val Wd (hac_of hac) hdis h0 ?_ ?_
  rotate_left
  · intro c L W hall hW
    have := hend c L W (by rw [← hosz]; exact hall) hW
    have e : frm ops a0 (val c) (fun _ => true) ops.size = (crly60 a0 T R L1 c) := by
      rw [hosz]
      simp only [crly60, frm, if_true]
      rw [tab_dst htab 0, tab_dst htab 1, tab_dst htab 2, tab_dst htab 3, tab_dst htab 4, tab_dst htab 5, tab_dst htab 6, tab_dst htab 7, tab_dst htab 8, tab_dst htab 9, tab_dst htab 10, tab_dst htab 11, tab_dst htab 12, tab_dst htab 13, tab_dst htab 14, tab_dst htab 15, tab_dst htab 16, tab_dst htab 17, tab_dst htab 18, tab_dst htab 19, tab_dst htab 20, tab_dst htab 21, tab_dst htab 22, tab_dst htab 23, tab_dst htab 24, tab_dst htab 25, tab_dst htab 26, tab_dst htab 27, tab_dst htab 28, tab_dst htab 29, tab_dst htab 30, tab_dst htab 31, tab_dst htab 32, tab_dst htab 33, tab_dst htab 34, tab_dst htab 35, tab_dst htab 36, tab_dst htab 37, tab_dst htab 38, tab_dst htab 39, tab_dst htab 40, tab_dst htab 41, tab_dst htab 42, tab_dst htab 43, tab_dst htab 44, tab_dst htab 45, tab_dst htab 46, tab_dst htab 47, tab_dst htab 48, tab_dst htab 49, tab_dst htab 50, tab_dst htab 51, tab_dst htab 52, tab_dst htab 53, tab_dst htab 54, tab_dst htab 55, tab_dst htab 56, tab_dst htab 57, tab_dst htab 58, tab_dst htab 59, tab_dst htab 60, (show dstOf ops 61 = none from (tab_dst htab 61).trans rfl), put_none]
      rfl
    rw [e]
    exact this
  intro i o ho c L a w' hL hd ha hW
  have hi : i < 62 := by rw [← hosz]; exact (Array.getElem?_eq_some_iff.1 ho).1
  have G : ∀ j s : Nat, (rly60T[j]?).bind (·.2.1) = some s → s < 65 → (i, j) ∈ rly60D → a.tmps[s]? = some (val c j) := fun j s h1 h2 h3 => frm_at hdis ha j s (hds j s h1) (by omega) (depl_of hdep i j h3 ho hd)
  match i, ho, hL, hi, G with
  | 0, ho, hL, _, G =>
    obtain ⟨hop, hgd⟩ := tab3 htab ho rfl
    have h0 := frm_old ha 3 _ (hold 3 rfl) o3
    exact (dXr ho hgd (hpure 0 (by decide) c L w' hW) (g_load hop (eval_of h0) (r0 c L w' hW hL)))
  | 1, ho, hL, _, G =>
    obtain ⟨hop, hgd⟩ := tab3 htab ho rfl
    have h0 := G 0 4 rfl (by decide) (by decide)
    exact (dXr ho hgd (hpure 1 (by decide) c L w' hW) (run_len _ _ _ hop _ (eval_of h0) _))
  | 2, ho, hL, _, G =>
    obtain ⟨hop, hgd⟩ := tab3 htab ho rfl
    have h0 := frm_old ha 3 _ (hold 3 rfl) o3
    have h1 := G 1 5 rfl (by decide) (by decide)
    exact (dXr ho hgd (hpure 2 (by decide) c L w' hW) (g_build hop (map4 (eval_of h0) (eval_of h1) rfl rfl) (by kernel_rfl)))
  | 3, ho, hL, _, G =>
    obtain ⟨hop, hgd⟩ := tab3 htab ho rfl
    have h0 := G 2 6 rfl (by decide) (by decide)
    exact (dXr ho hgd (hpure 3 (by decide) c L w' hW) (g_mki hop (eval_of h0) (by kernel_rfl)))
  | 4, ho, hL, _, G =>
    obtain ⟨hop, hgd⟩ := tab3 htab ho rfl
    have h0 := frm_old ha 0 _ (hold 0 rfl) o0
    exact (dXr ho hgd (hpure 4 (by decide) c L w' hW) (g_mov hop (eval_of h0)))
  | 5, ho, hL, _, G =>
    obtain ⟨hop, hgd⟩ := tab3 htab ho rfl
    have h0 := G 4 8 rfl (by decide) (by decide)
    exact (dXr ho hgd (hpure 5 (by decide) c L w' hW) (run_nil _ _ _ hop _ (eval_of h0) _))
  | 6, ho, hL, _, G =>
    obtain ⟨hop, hgd⟩ := tab3 htab ho rfl
    have h0 := G 5 9 rfl (by decide) (by decide)
    exact (dXr ho hgd (hpure 6 (by decide) c L w' hW) (g_field hop (eval_of h0) (by kernel_rfl)))
  | 7, ho, hL, _, G =>
    obtain ⟨hop, hgd⟩ := tab3 htab ho rfl
    have h0 := G 6 10 rfl (by decide) (by decide)
    exact (dXr ho hgd (hpure 7 (by decide) c L w' hW) (g_build hop (map5 (eval_of h0) rfl rfl rfl rfl) (by kernel_rfl)))
  | 8, ho, hL, _, G =>
    obtain ⟨hop, hgd⟩ := tab3 htab ho rfl
    have h0 := G 7 11 rfl (by decide) (by decide)
    exact (dXr ho hgd (hpure 8 (by decide) c L w' hW) (g_mki hop (eval_of h0) (by kernel_rfl)))
  | 9, ho, hL, _, G =>
    obtain ⟨hop, hgd⟩ := tab3 htab ho rfl
    have h0 := G 3 7 rfl (by decide) (by decide)
    have h1 := G 8 12 rfl (by decide) (by decide)
    obtain ⟨c', W', q0, q1, q2⟩ := r9 c L w' hW hL (depl_of hdep 9 3 (by decide) ho hd) (depl_of hdep 9 8 (by decide) ho hd)
    exact doesX_runw ho (wanted_none hgd) c' q0 q2 (g_bs hop (by simp only [List.map_toArray, List.map_cons, List.map_nil, eval_of h0, eval_of h1]; first | done | rfl) q1)
  | 10, ho, hL, _, G =>
    obtain ⟨hop, hgd⟩ := tab3 htab ho rfl
    have h0 := frm_old ha 0 _ (hold 0 rfl) o0
    exact (dXr ho hgd (hpure 10 (by decide) c L w' hW) (g_mov hop (eval_of h0)))
  | 11, ho, hL, _, G =>
    obtain ⟨hop, hgd⟩ := tab3 htab ho rfl
    have h0 := G 10 14 rfl (by decide) (by decide)
    exact (dXr ho hgd (hpure 11 (by decide) c L w' hW) (run_nil _ _ _ hop _ (eval_of h0) _))
  | 12, ho, hL, _, G =>
    obtain ⟨hop, hgd⟩ := tab3 htab ho rfl
    have h0 := G 11 15 rfl (by decide) (by decide)
    exact (dXr ho hgd (hpure 12 (by decide) c L w' hW) (g_field hop (eval_of h0) (by kernel_rfl)))
  | 13, ho, hL, _, G =>
    obtain ⟨hop, hgd⟩ := tab3 htab ho rfl
    have h0 := frm_old ha 0 _ (hold 0 rfl) o0
    exact (dXr ho hgd (hpure 13 (by decide) c L w' hW) (g_mov hop (eval_of h0)))
  | 14, ho, hL, _, G =>
    obtain ⟨hop, hgd⟩ := tab3 htab ho rfl
    have h0 := G 13 17 rfl (by decide) (by decide)
    exact (dXr ho hgd (hpure 14 (by decide) c L w' hW) (run_nil _ _ _ hop _ (eval_of h0) _))
  | 15, ho, hL, _, G =>
    obtain ⟨hop, hgd⟩ := tab3 htab ho rfl
    have h0 := G 14 18 rfl (by decide) (by decide)
    exact (dXr ho hgd (hpure 15 (by decide) c L w' hW) (g_field hop (eval_of h0) (by kernel_rfl)))
  | 16, ho, hL, _, G =>
    obtain ⟨hop, hgd⟩ := tab3 htab ho rfl
    have h0 := G 12 16 rfl (by decide) (by decide)
    have h1 := G 15 19 rfl (by decide) (by decide)
    obtain ⟨c', W', q0, q1, q2⟩ := r16 c L w' hW hL (depl_of hdep 16 12 (by decide) ho hd) (depl_of hdep 16 15 (by decide) ho hd)
    exact doesX_runw ho (wanted_none hgd) c' q0 q2 (g_bs hop (by simp only [List.map_toArray, List.map_cons, List.map_nil, eval_of h0, eval_of h1]; first | done | rfl) q1)
  | 17, ho, hL, _, G =>
    obtain ⟨hop, hgd⟩ := tab3 htab ho rfl
    have h0 := G 16 20 rfl (by decide) (by decide)
    exact (dXr ho hgd (e17 c L w' hW hL (depl_of hdep 17 16 (by decide) ho hd)) (g_build hop (map4 (eval_of h0) rfl rfl rfl) (by kernel_rfl)))
  | 18, ho, hL, _, G =>
    obtain ⟨hop, hgd⟩ := tab3 htab ho rfl
    have h0 := G 17 21 rfl (by decide) (by decide)
    exact (dXr ho hgd (e18 c L w' hW hL (depl_of hdep 18 17 (by decide) ho hd)) (g_mki hop (eval_of h0) (by kernel_rfl)))
  | 19, ho, hL, _, G =>
    obtain ⟨hop, hgd⟩ := tab3 htab ho rfl
    have h0 := frm_old ha 0 _ (hold 0 rfl) o0
    exact (dXr ho hgd (hpure 19 (by decide) c L w' hW) (g_mov hop (eval_of h0)))
  | 20, ho, hL, _, G =>
    obtain ⟨hop, hgd⟩ := tab3 htab ho rfl
    have h0 := G 19 23 rfl (by decide) (by decide)
    exact (dXr ho hgd (hpure 20 (by decide) c L w' hW) (run_nil _ _ _ hop _ (eval_of h0) _))
  | 21, ho, hL, _, G =>
    obtain ⟨hop, hgd⟩ := tab3 htab ho rfl
    have h0 := G 20 24 rfl (by decide) (by decide)
    exact (dXr ho hgd (hpure 21 (by decide) c L w' hW) (g_field hop (eval_of h0) (by kernel_rfl)))
  | 22, ho, hL, _, G =>
    obtain ⟨hop, hgd⟩ := tab3 htab ho rfl
    have h0 := G 21 25 rfl (by decide) (by decide)
    exact (dXr ho hgd (hpure 22 (by decide) c L w' hW) (g_build hop (map4 (eval_of h0) rfl rfl rfl) (by kernel_rfl)))
  | 23, ho, hL, _, G =>
    obtain ⟨hop, hgd⟩ := tab3 htab ho rfl
    have h0 := G 22 26 rfl (by decide) (by decide)
    exact (dXr ho hgd (hpure 23 (by decide) c L w' hW) (g_mki hop (eval_of h0) (by kernel_rfl)))
  | 24, ho, hL, _, G =>
    obtain ⟨hop, hgd⟩ := tab3 htab ho rfl
    have h0 := frm_old ha 0 _ (hold 0 rfl) o0
    exact (dXr ho hgd (hpure 24 (by decide) c L w' hW) (g_mov hop (eval_of h0)))
  | 25, ho, hL, _, G =>
    obtain ⟨hop, hgd⟩ := tab3 htab ho rfl
    have h0 := G 24 28 rfl (by decide) (by decide)
    exact (dXr ho hgd (hpure 25 (by decide) c L w' hW) (run_nil _ _ _ hop _ (eval_of h0) _))
  | 26, ho, hL, _, G =>
    obtain ⟨hop, hgd⟩ := tab3 htab ho rfl
    have h0 := G 25 29 rfl (by decide) (by decide)
    exact (dXr ho hgd (hpure 26 (by decide) c L w' hW) (g_field hop (eval_of h0) (by kernel_rfl)))
  | 27, ho, hL, _, G =>
    obtain ⟨hop, hgd⟩ := tab3 htab ho rfl
    have h0 := G 26 30 rfl (by decide) (by decide)
    exact (dXr ho hgd (hpure 27 (by decide) c L w' hW) (g_build hop (map4 (eval_of h0) rfl rfl rfl) (by kernel_rfl)))
  | 28, ho, hL, _, G =>
    obtain ⟨hop, hgd⟩ := tab3 htab ho rfl
    have h0 := G 27 31 rfl (by decide) (by decide)
    exact (dXr ho hgd (hpure 28 (by decide) c L w' hW) (g_mki hop (eval_of h0) (by kernel_rfl)))
  | 29, ho, hL, _, G =>
    obtain ⟨hop, hgd⟩ := tab3 htab ho rfl
    have h0 := frm_old ha 0 _ (hold 0 rfl) o0
    exact (dXr ho hgd (hpure 29 (by decide) c L w' hW) (g_mov hop (eval_of h0)))
  | 30, ho, hL, _, G =>
    obtain ⟨hop, hgd⟩ := tab3 htab ho rfl
    have h0 := G 29 33 rfl (by decide) (by decide)
    exact (dXr ho hgd (hpure 30 (by decide) c L w' hW) (run_nil _ _ _ hop _ (eval_of h0) _))
  | 31, ho, hL, _, G =>
    obtain ⟨hop, hgd⟩ := tab3 htab ho rfl
    have h0 := G 30 34 rfl (by decide) (by decide)
    exact (dXr ho hgd (hpure 31 (by decide) c L w' hW) (g_field hop (eval_of h0) (by kernel_rfl)))
  | 32, ho, hL, _, G =>
    obtain ⟨hop, hgd⟩ := tab3 htab ho rfl
    have h0 := G 31 35 rfl (by decide) (by decide)
    exact (dXr ho hgd (hpure 32 (by decide) c L w' hW) (g_build hop (map4 (eval_of h0) rfl rfl rfl) (by kernel_rfl)))
  | 33, ho, hL, _, G =>
    obtain ⟨hop, hgd⟩ := tab3 htab ho rfl
    have h0 := G 32 36 rfl (by decide) (by decide)
    exact (dXr ho hgd (hpure 33 (by decide) c L w' hW) (g_mki hop (eval_of h0) (by kernel_rfl)))
  | 34, ho, hL, _, G =>
    obtain ⟨hop, hgd⟩ := tab3 htab ho rfl
    have h0 := frm_old ha 0 _ (hold 0 rfl) o0
    exact (dXr ho hgd (hpure 34 (by decide) c L w' hW) (g_mov hop (eval_of h0)))
  | 35, ho, hL, _, G =>
    obtain ⟨hop, hgd⟩ := tab3 htab ho rfl
    have h0 := G 34 38 rfl (by decide) (by decide)
    exact (dXr ho hgd (hpure 35 (by decide) c L w' hW) (run_nil _ _ _ hop _ (eval_of h0) _))
  | 36, ho, hL, _, G =>
    obtain ⟨hop, hgd⟩ := tab3 htab ho rfl
    have h0 := G 35 39 rfl (by decide) (by decide)
    exact (dXr ho hgd (hpure 36 (by decide) c L w' hW) (g_field hop (eval_of h0) (by kernel_rfl)))
  | 37, ho, hL, _, G =>
    obtain ⟨hop, hgd⟩ := tab3 htab ho rfl
    have h0 := G 36 40 rfl (by decide) (by decide)
    exact (dXr ho hgd (hpure 37 (by decide) c L w' hW) (g_build hop (map4 (eval_of h0) rfl rfl rfl) (by kernel_rfl)))
  | 38, ho, hL, _, G =>
    obtain ⟨hop, hgd⟩ := tab3 htab ho rfl
    have h0 := G 37 41 rfl (by decide) (by decide)
    exact (dXr ho hgd (hpure 38 (by decide) c L w' hW) (g_mki hop (eval_of h0) (by kernel_rfl)))
  | 39, ho, hL, _, G =>
    obtain ⟨hop, hgd⟩ := tab3 htab ho rfl
    have h0 := frm_old ha 0 _ (hold 0 rfl) o0
    exact (dXr ho hgd (hpure 39 (by decide) c L w' hW) (g_mov hop (eval_of h0)))
  | 40, ho, hL, _, G =>
    obtain ⟨hop, hgd⟩ := tab3 htab ho rfl
    have h0 := G 39 43 rfl (by decide) (by decide)
    exact (dXr ho hgd (hpure 40 (by decide) c L w' hW) (run_nil _ _ _ hop _ (eval_of h0) _))
  | 41, ho, hL, _, G =>
    obtain ⟨hop, hgd⟩ := tab3 htab ho rfl
    have h0 := G 40 44 rfl (by decide) (by decide)
    exact (dXr ho hgd (hpure 41 (by decide) c L w' hW) (g_field hop (eval_of h0) (by kernel_rfl)))
  | 42, ho, hL, _, G =>
    obtain ⟨hop, hgd⟩ := tab3 htab ho rfl
    have h0 := G 41 45 rfl (by decide) (by decide)
    exact (dXr ho hgd (hpure 42 (by decide) c L w' hW) (g_build hop (map4 (eval_of h0) rfl rfl rfl) (by kernel_rfl)))
  | 43, ho, hL, _, G =>
    obtain ⟨hop, hgd⟩ := tab3 htab ho rfl
    have h0 := G 42 46 rfl (by decide) (by decide)
    exact (dXr ho hgd (hpure 43 (by decide) c L w' hW) (g_mki hop (eval_of h0) (by kernel_rfl)))
  | 44, ho, hL, _, G =>
    obtain ⟨hop, hgd⟩ := tab3 htab ho rfl
    have h0 := frm_old ha 0 _ (hold 0 rfl) o0
    exact (dXr ho hgd (hpure 44 (by decide) c L w' hW) (g_mov hop (eval_of h0)))
  | 45, ho, hL, _, G =>
    obtain ⟨hop, hgd⟩ := tab3 htab ho rfl
    have h0 := G 44 48 rfl (by decide) (by decide)
    exact (dXr ho hgd (hpure 45 (by decide) c L w' hW) (run_nil _ _ _ hop _ (eval_of h0) _))
  | 46, ho, hL, _, G =>
    obtain ⟨hop, hgd⟩ := tab3 htab ho rfl
    have h0 := G 45 49 rfl (by decide) (by decide)
    exact (dXr ho hgd (hpure 46 (by decide) c L w' hW) (g_field hop (eval_of h0) (by kernel_rfl)))
  | 47, ho, hL, _, G =>
    obtain ⟨hop, hgd⟩ := tab3 htab ho rfl
    have h0 := G 46 50 rfl (by decide) (by decide)
    exact (dXr ho hgd (hpure 47 (by decide) c L w' hW) (g_build hop (map4 (eval_of h0) rfl rfl rfl) (by kernel_rfl)))
  | 48, ho, hL, _, G =>
    obtain ⟨hop, hgd⟩ := tab3 htab ho rfl
    have h0 := G 47 51 rfl (by decide) (by decide)
    exact (dXr ho hgd (hpure 48 (by decide) c L w' hW) (g_mki hop (eval_of h0) (by kernel_rfl)))
  | 49, ho, hL, _, G =>
    obtain ⟨hop, hgd⟩ := tab3 htab ho rfl
    have h0 := frm_old ha 0 _ (hold 0 rfl) o0
    exact (dXr ho hgd (hpure 49 (by decide) c L w' hW) (g_mov hop (eval_of h0)))
  | 50, ho, hL, _, G =>
    obtain ⟨hop, hgd⟩ := tab3 htab ho rfl
    have h0 := G 49 53 rfl (by decide) (by decide)
    exact (dXr ho hgd (hpure 50 (by decide) c L w' hW) (run_nil _ _ _ hop _ (eval_of h0) _))
  | 51, ho, hL, _, G =>
    obtain ⟨hop, hgd⟩ := tab3 htab ho rfl
    have h0 := G 50 54 rfl (by decide) (by decide)
    exact (dXr ho hgd (hpure 51 (by decide) c L w' hW) (g_field hop (eval_of h0) (by kernel_rfl)))
  | 52, ho, hL, _, G =>
    obtain ⟨hop, hgd⟩ := tab3 htab ho rfl
    have h0 := G 51 55 rfl (by decide) (by decide)
    exact (dXr ho hgd (hpure 52 (by decide) c L w' hW) (g_build hop (map4 (eval_of h0) rfl rfl rfl) (by kernel_rfl)))
  | 53, ho, hL, _, G =>
    obtain ⟨hop, hgd⟩ := tab3 htab ho rfl
    have h0 := G 52 56 rfl (by decide) (by decide)
    exact (dXr ho hgd (hpure 53 (by decide) c L w' hW) (g_mki hop (eval_of h0) (by kernel_rfl)))
  | 54, ho, hL, _, G =>
    obtain ⟨hop, hgd⟩ := tab3 htab ho rfl
    have h0 := frm_old ha 0 _ (hold 0 rfl) o0
    exact (dXr ho hgd (hpure 54 (by decide) c L w' hW) (g_mov hop (eval_of h0)))
  | 55, ho, hL, _, G =>
    obtain ⟨hop, hgd⟩ := tab3 htab ho rfl
    have h0 := G 54 58 rfl (by decide) (by decide)
    exact (dXr ho hgd (hpure 55 (by decide) c L w' hW) (run_nil _ _ _ hop _ (eval_of h0) _))
  | 56, ho, hL, _, G =>
    obtain ⟨hop, hgd⟩ := tab3 htab ho rfl
    have h0 := G 55 59 rfl (by decide) (by decide)
    exact (dXr ho hgd (hpure 56 (by decide) c L w' hW) (g_field hop (eval_of h0) (by kernel_rfl)))
  | 57, ho, hL, _, G =>
    obtain ⟨hop, hgd⟩ := tab3 htab ho rfl
    have h0 := G 56 60 rfl (by decide) (by decide)
    exact (dXr ho hgd (hpure 57 (by decide) c L w' hW) (g_build hop (map4 (eval_of h0) rfl rfl rfl) (by kernel_rfl)))
  | 58, ho, hL, _, G =>
    obtain ⟨hop, hgd⟩ := tab3 htab ho rfl
    have h0 := G 57 61 rfl (by decide) (by decide)
    exact (dXr ho hgd (hpure 58 (by decide) c L w' hW) (g_mki hop (eval_of h0) (by kernel_rfl)))
  | 59, ho, hL, _, G =>
    obtain ⟨hop, hgd⟩ := tab3 htab ho rfl
    have h0 := G 18 22 rfl (by decide) (by decide)
    have h1 := G 23 27 rfl (by decide) (by decide)
    have h2 := G 28 32 rfl (by decide) (by decide)
    have h3 := G 33 37 rfl (by decide) (by decide)
    have h4 := G 38 42 rfl (by decide) (by decide)
    have h5 := G 43 47 rfl (by decide) (by decide)
    have h6 := G 48 52 rfl (by decide) (by decide)
    have h7 := G 53 57 rfl (by decide) (by decide)
    have h8 := G 58 62 rfl (by decide) (by decide)
    obtain ⟨c', W', q0, q1, q2⟩ := r59 c L w' hW hL (depl_of hdep 59 18 (by decide) ho hd) (depl_of hdep 59 23 (by decide) ho hd) (depl_of hdep 59 28 (by decide) ho hd) (depl_of hdep 59 33 (by decide) ho hd) (depl_of hdep 59 38 (by decide) ho hd) (depl_of hdep 59 43 (by decide) ho hd) (depl_of hdep 59 48 (by decide) ho hd) (depl_of hdep 59 53 (by decide) ho hd) (depl_of hdep 59 58 (by decide) ho hd)
    exact doesX_runw ho (wanted_none hgd) c' q0 q2 (g_bs hop (by simp only [List.map_toArray, List.map_cons, List.map_nil, eval_of h0, eval_of h1, eval_of h2, eval_of h3, eval_of h4, eval_of h5, eval_of h6, eval_of h7, eval_of h8]; first | done | rfl) q1)
  | 60, ho, hL, _, G =>
    obtain ⟨hop, hgd⟩ := tab3 htab ho rfl
    have h0 := G 9 13 rfl (by decide) (by decide)
    have h1 := G 59 63 rfl (by decide) (by decide)
    exact (dXr ho hgd (e60 c L w' hW hL (depl_of hdep 60 9 (by decide) ho hd) (depl_of hdep 60 59 (by decide) ho hd)) (g_build hop (by simp only [List.map_toArray, List.map_cons, List.map_nil, eval_of h0, eval_of h1]; first | done | rfl) (by kernel_rfl)))
  | 61, ho, hL, _, G =>
    obtain ⟨hop, hgd⟩ := tab3 htab ho rfl
    have h0 := frm_old ha 2 _ (hold 2 rfl) o2
    have h1 := G 60 64 rfl (by decide) (by decide)
    obtain ⟨W', q1, q2⟩ := r61 c L w' hW hL (depl_of hdep 61 60 (by decide) ho hd)
    exact doesX_of (doesL_skp ho (wanted_none hgd) rfl q2 (g_store hop (eval_of h0) (eval_of h1) q1))
  | (i + 62), ho, hL, hi, _ => exact absurd hi (by omega)
def sly60 (T : Nat) (L1 : Nat) : List Sl := [⟨9, 0, fun _ => #[(vW ⟨L1, 0, none⟩ 1), (vR ⟨T, 0, none⟩ 0)], 213⟩, ⟨16, 2, fun _ => #[(.pointer (some ⟨T, 1, none⟩)), (.pointer (some ⟨T, 2, none⟩))], 184⟩, ⟨59, 1, fun c => #[(.iface 190 (.agg #[(.slice (some ⟨c 2, 0, none⟩) 2 2), (I 1), (FN 135), (FN 136)])), (vT ⟨T, 3, none⟩ 32), (vT ⟨T, 4, none⟩ 32), (vI ⟨T, 5, none⟩ 6), (vN ⟨T, 6, none⟩ 60), (vI ⟨T, 7, none⟩ 6), (vI ⟨T, 8, none⟩ 6), (vI ⟨T, 9, none⟩ 6), (vI ⟨T, 10, none⟩ 6)], 213⟩]
def dly60 : List (Nat × Nat) := [(17, 16), (18, 16), (59, 16), (60, 9), (60, 59), (60, 16), (61, 60), (61, 9), (61, 16), (61, 59)]
theorem lay60 (T : Nat) (w : World) : Calls Tryz.prog 60 #[ptr T] w fun e w' => ∃ c : Nat → Nat, e = .returned (.agg (#[(.slice (some ⟨c 0, 0, none⟩) 2 2), (.slice (some ⟨c 1, 0, none⟩) 9 9)])) ∧ Below w.heap.size w w' ∧ w'.heap[w.heap.size + 1]? = some (.cells #[S [99]] 9 (0, 0)) ∧ (w.heap.size + 2 ≤ c 0 ∧ w'.heap[c 0]? = some (.cells #[(vW ⟨w.heap.size + 1, 0, none⟩ 1), (vR ⟨T, 0, none⟩ 0)] 213 (0, 0))) ∧ (w.heap.size + 2 ≤ c 2 ∧ w'.heap[c 2]? = some (.cells #[(.pointer (some ⟨T, 1, none⟩)), (.pointer (some ⟨T, 2, none⟩))] 184 (0, 0))) ∧ (w.heap.size + 2 ≤ c 1 ∧ w'.heap[c 1]? = some (.cells #[(.iface 190 (.agg #[(.slice (some ⟨c 2, 0, none⟩) 2 2), (I 1), (FN 135), (FN 136)])), (vT ⟨T, 3, none⟩ 32), (vT ⟨T, 4, none⟩ 32), (vI ⟨T, 5, none⟩ 6), (vN ⟨T, 6, none⟩ 60), (vI ⟨T, 7, none⟩ 6), (vI ⟨T, 8, none⟩ 6), (vI ⟨T, 9, none⟩ 6), (vI ⟨T, 10, none⟩ 6)] 213 (0, 0))) := by
  have hb0 : Below w.heap.size w ((w.alloc (.cells #[.slice none 0 0, .slice none 0 0] 111)).alloc (.cells #[S [99]] 9)) := by
    refine (((Below.refl _ w).alloc (Nat.le_refl _) _)).alloc (by first | (simp; done) | (simp; omega)) _
  have hR : ((w.alloc (.cells #[.slice none 0 0, .slice none 0 0] 111)).alloc (.cells #[S [99]] 9)).heap[w.heap.size]? = some (.cells #[.slice none 0 0, .slice none 0 0] 111 (0, 0)) := by
    rw [heap_alloc_old _ _ (by first | (simp; done) | (simp; omega))]; exact heap_alloc_new _ _
  have hL1 : ((w.alloc (.cells #[.slice none 0 0, .slice none 0 0] 111)).alloc (.cells #[S [99]] 9)).heap[w.heap.size + 1]? = some (.cells #[S [99]] 9 (0, 0)) := by
    have e := heap_alloc_new ((w.alloc (.cells #[.slice none 0 0, .slice none 0 0] 111))) (.cells #[S [99]] 9)
    simpa using e
  have hsz : ((w.alloc (.cells #[.slice none 0 0, .slice none 0 0] 111)).alloc (.cells #[S [99]] 9)).heap.size = w.heap.size + 2 := by simp
  go_enter Tryz.func60, Tryz.ntmps60
  go_wp2_with fail
  generalize ((w.alloc (.cells #[.slice none 0 0, .slice none 0 0] 111)).alloc (.cells #[S [99]] 9)) = W1 at *
  generalize hL1e : w.heap.size + 1 = L1 at *
  generalize hRe : w.heap.size = R at *
  have hw1 : ∃ w1s, w1s = W1.heap.size := ⟨_, rfl⟩
  obtain ⟨w1s, hw1⟩ := hw1
  rw [← hw1] at hsz
  refine rly60 T R L1 rfl (by rfl) (by rfl) _ W1 (by simp) rfl rfl rfl (Ly W1 R (fun _ => #[.slice none 0 0, .slice none 0 0]) (fun c => #[(.slice (some ⟨c 0, 0, none⟩) 2 2), (.slice (some ⟨c 1, 0, none⟩) 9 9)]) 61 (sly60 T L1) dly60) ⟨fun _ => 0, (Only.drew _ W1), (fun _ _ e => by cases e), (fun _ _ e => by cases e), hR⟩ (fun i hi c L W hW => hW.pure i ?hp1 ?hp2 (fun e => hi (by simp [e])))
    (fun c L W hW _ => s_ld (T := 9) (fun _ => by kernel_rfl) (cellr ((hW.only.block L1 (by omega) (by omega)).trans hL1) rfl))
    (fun c L W hW hL h3 h8 => by
      refine ⟨cset c 0 W.heap.size, W.alloc (.cells #[(vW ⟨L1, 0, none⟩ 1), (vR ⟨T, 0, none⟩ 0)] 213), fun j hj => ?_, by kernel_rfl, hW.slice ⟨9, 0, fun _ => #[(vW ⟨L1, 0, none⟩ 1), (vR ⟨T, 0, none⟩ 0)], 213⟩ (no_of (hW.dep (61, 9) (by decide)) hL) (by simp) (fun _ => rfl) (fun d hd hi => ?_) (fun q hq e => ?_) (fun q hq e => ?_) (fun m => rfl)⟩
      · match j, hj with
        | 0, _ => rfl
        | 1, _ => rfl
        | 2, _ => rfl
        | 3, _ => rfl
        | 4, _ => rfl
        | 5, _ => rfl
        | 6, _ => rfl
        | 7, _ => rfl
        | 8, _ => rfl
        | 9, hj => rw [hL] at hj; cases hj
        | 10, _ => rfl
        | 11, _ => rfl
        | 12, _ => rfl
        | 13, _ => rfl
        | 14, _ => rfl
        | 15, _ => rfl
        | 16, _ => rfl
        | 17, _ => rfl
        | 18, _ => rfl
        | 19, _ => rfl
        | 20, _ => rfl
        | 21, _ => rfl
        | 22, _ => rfl
        | 23, _ => rfl
        | 24, _ => rfl
        | 25, _ => rfl
        | 26, _ => rfl
        | 27, _ => rfl
        | 28, _ => rfl
        | 29, _ => rfl
        | 30, _ => rfl
        | 31, _ => rfl
        | 32, _ => rfl
        | 33, _ => rfl
        | 34, _ => rfl
        | 35, _ => rfl
        | 36, _ => rfl
        | 37, _ => rfl
        | 38, _ => rfl
        | 39, _ => rfl
        | 40, _ => rfl
        | 41, _ => rfl
        | 42, _ => rfl
        | 43, _ => rfl
        | 44, _ => rfl
        | 45, _ => rfl
        | 46, _ => rfl
        | 47, _ => rfl
        | 48, _ => rfl
        | 49, _ => rfl
        | 50, _ => rfl
        | 51, _ => rfl
        | 52, _ => rfl
        | 53, _ => rfl
        | 54, _ => rfl
        | 55, _ => rfl
        | 56, _ => rfl
        | 57, _ => rfl
        | 58, _ => rfl
        | 59, _ => rfl
        | 60, hj => rw [hW.dep (60, 9) (by decide) hj] at hL; cases hL
        | 61, _ => rfl
        | (k + 62), _ => rfl
      · simp only [dly60, List.mem_cons, List.not_mem_nil, or_false] at hd
        rcases hd with rfl | rfl | rfl | rfl | rfl | rfl | rfl | rfl | rfl | rfl
        · exact absurd hi (by simp)
        · exact absurd hi (by simp)
        · exact absurd hi (by simp)
        · exact absurd hi (by simp)
        · exact absurd hi (by simp)
        · exact absurd hi (by simp)
        · exact absurd hi (by simp)
        · exact absurd hi (by simp)
        · exact absurd hi (by simp)
        · exact absurd hi (by simp)
      · simp only [sly60, List.mem_cons, List.not_mem_nil, or_false] at hq
        rcases hq with rfl | rfl | rfl
        · rw [hL] at e; cases e
        · exact ⟨(by simp), fun m => rfl⟩
        · exact ⟨(by simp), fun m => rfl⟩
      · simp only [sly60, List.mem_cons, List.not_mem_nil, or_false] at hq
        rcases hq with rfl | rfl | rfl
        · rfl
        · exact absurd e (by simp)
        · exact absurd e (by simp))
    (fun c L W hW hL h12 h15 => by
      refine ⟨cset c 2 W.heap.size, W.alloc (.cells #[(.pointer (some ⟨T, 1, none⟩)), (.pointer (some ⟨T, 2, none⟩))] 184), fun j hj => ?_, by kernel_rfl, hW.slice ⟨16, 2, fun _ => #[(.pointer (some ⟨T, 1, none⟩)), (.pointer (some ⟨T, 2, none⟩))], 184⟩ (no_of (hW.dep (61, 16) (by decide)) hL) (by simp) (fun _ => rfl) (fun d hd hi => ?_) (fun q hq e => ?_) (fun q hq e => ?_) (fun m => rfl)⟩
      · match j, hj with
        | 0, _ => rfl
        | 1, _ => rfl
        | 2, _ => rfl
        | 3, _ => rfl
        | 4, _ => rfl
        | 5, _ => rfl
        | 6, _ => rfl
        | 7, _ => rfl
        | 8, _ => rfl
        | 9, _ => rfl
        | 10, _ => rfl
        | 11, _ => rfl
        | 12, _ => rfl
        | 13, _ => rfl
        | 14, _ => rfl
        | 15, _ => rfl
        | 16, hj => rw [hL] at hj; cases hj
        | 17, hj => rw [hW.dep (17, 16) (by decide) hj] at hL; cases hL
        | 18, hj => rw [hW.dep (18, 16) (by decide) hj] at hL; cases hL
        | 19, _ => rfl
        | 20, _ => rfl
        | 21, _ => rfl
        | 22, _ => rfl
        | 23, _ => rfl
        | 24, _ => rfl
        | 25, _ => rfl
        | 26, _ => rfl
        | 27, _ => rfl
        | 28, _ => rfl
        | 29, _ => rfl
        | 30, _ => rfl
        | 31, _ => rfl
        | 32, _ => rfl
        | 33, _ => rfl
        | 34, _ => rfl
        | 35, _ => rfl
        | 36, _ => rfl
        | 37, _ => rfl
        | 38, _ => rfl
        | 39, _ => rfl
        | 40, _ => rfl
        | 41, _ => rfl
        | 42, _ => rfl
        | 43, _ => rfl
        | 44, _ => rfl
        | 45, _ => rfl
        | 46, _ => rfl
        | 47, _ => rfl
        | 48, _ => rfl
        | 49, _ => rfl
        | 50, _ => rfl
        | 51, _ => rfl
        | 52, _ => rfl
        | 53, _ => rfl
        | 54, _ => rfl
        | 55, _ => rfl
        | 56, _ => rfl
        | 57, _ => rfl
        | 58, _ => rfl
        | 59, _ => rfl
        | 60, _ => rfl
        | 61, _ => rfl
        | (k + 62), _ => rfl
      · simp only [dly60, List.mem_cons, List.not_mem_nil, or_false] at hd
        rcases hd with rfl | rfl | rfl | rfl | rfl | rfl | rfl | rfl | rfl | rfl
        · exact absurd hi (by simp)
        · exact absurd hi (by simp)
        · exact absurd hi (by simp)
        · exact absurd hi (by simp)
        · exact absurd hi (by simp)
        · exact absurd hi (by simp)
        · exact absurd hi (by simp)
        · exact absurd hi (by simp)
        · exact absurd hi (by simp)
        · exact absurd hi (by simp)
      · simp only [sly60, List.mem_cons, List.not_mem_nil, or_false] at hq
        rcases hq with rfl | rfl | rfl
        · exact ⟨(by simp), fun m => rfl⟩
        · rw [hL] at e; cases e
        · rw [hW.dep (59, 16) (by decide) e] at hL; cases hL
      · simp only [sly60, List.mem_cons, List.not_mem_nil, or_false] at hq
        rcases hq with rfl | rfl | rfl
        · exact absurd e (by simp)
        · rfl
        · exact absurd e (by simp))
    (fun c L W hW _ h16 => hW.pure 17 (fun s hs => by simp only [sly60, List.mem_cons, List.not_mem_nil, or_false] at hs; rcases hs with rfl | rfl | rfl <;> simp) (fun d hd hi => by
      simp only [dly60, List.mem_cons, List.not_mem_nil, or_false] at hd
      rcases hd with rfl | rfl | rfl | rfl | rfl | rfl | rfl | rfl | rfl | rfl
      · exact h16
      · exact absurd hi (by simp)
      · exact absurd hi (by simp)
      · exact absurd hi (by simp)
      · exact absurd hi (by simp)
      · exact absurd hi (by simp)
      · exact absurd hi (by simp)
      · exact absurd hi (by simp)
      · exact absurd hi (by simp)
      · exact absurd hi (by simp)) (by decide))
    (fun c L W hW _ h17 => hW.pure 18 (fun s hs => by simp only [sly60, List.mem_cons, List.not_mem_nil, or_false] at hs; rcases hs with rfl | rfl | rfl <;> simp) (fun d hd hi => by
      simp only [dly60, List.mem_cons, List.not_mem_nil, or_false] at hd
      rcases hd with rfl | rfl | rfl | rfl | rfl | rfl | rfl | rfl | rfl | rfl
      · exact absurd hi (by simp)
      · exact (hW.dep (17, 16) (by decide) h17)
      · exact absurd hi (by simp)
      · exact absurd hi (by simp)
      · exact absurd hi (by simp)
      · exact absurd hi (by simp)
      · exact absurd hi (by simp)
      · exact absurd hi (by simp)
      · exact absurd hi (by simp)
      · exact absurd hi (by simp)) (by decide))
    (fun c L W hW hL h18 h23 h28 h33 h38 h43 h48 h53 h58 => by
      refine ⟨cset c 1 W.heap.size, W.alloc (.cells #[(.iface 190 (.agg #[(.slice (some ⟨c 2, 0, none⟩) 2 2), (I 1), (FN 135), (FN 136)])), (vT ⟨T, 3, none⟩ 32), (vT ⟨T, 4, none⟩ 32), (vI ⟨T, 5, none⟩ 6), (vN ⟨T, 6, none⟩ 60), (vI ⟨T, 7, none⟩ 6), (vI ⟨T, 8, none⟩ 6), (vI ⟨T, 9, none⟩ 6), (vI ⟨T, 10, none⟩ 6)] 213), fun j hj => ?_, by kernel_rfl, hW.slice ⟨59, 1, fun c => #[(.iface 190 (.agg #[(.slice (some ⟨c 2, 0, none⟩) 2 2), (I 1), (FN 135), (FN 136)])), (vT ⟨T, 3, none⟩ 32), (vT ⟨T, 4, none⟩ 32), (vI ⟨T, 5, none⟩ 6), (vN ⟨T, 6, none⟩ 60), (vI ⟨T, 7, none⟩ 6), (vI ⟨T, 8, none⟩ 6), (vI ⟨T, 9, none⟩ 6), (vI ⟨T, 10, none⟩ 6)], 213⟩ (no_of (hW.dep (61, 59) (by decide)) hL) (by simp) (fun _ => rfl) (fun d hd hi => ?_) (fun q hq e => ?_) (fun q hq e => ?_) (fun m => rfl)⟩
      · match j, hj with
        | 0, _ => rfl
        | 1, _ => rfl
        | 2, _ => rfl
        | 3, _ => rfl
        | 4, _ => rfl
        | 5, _ => rfl
        | 6, _ => rfl
        | 7, _ => rfl
        | 8, _ => rfl
        | 9, _ => rfl
        | 10, _ => rfl
        | 11, _ => rfl
        | 12, _ => rfl
        | 13, _ => rfl
        | 14, _ => rfl
        | 15, _ => rfl
        | 16, _ => rfl
        | 17, _ => rfl
        | 18, _ => rfl
        | 19, _ => rfl
        | 20, _ => rfl
        | 21, _ => rfl
        | 22, _ => rfl
        | 23, _ => rfl
        | 24, _ => rfl
        | 25, _ => rfl
        | 26, _ => rfl
        | 27, _ => rfl
        | 28, _ => rfl
        | 29, _ => rfl
        | 30, _ => rfl
        | 31, _ => rfl
        | 32, _ => rfl
        | 33, _ => rfl
        | 34, _ => rfl
        | 35, _ => rfl
        | 36, _ => rfl
        | 37, _ => rfl
        | 38, _ => rfl
        | 39, _ => rfl
        | 40, _ => rfl
        | 41, _ => rfl
        | 42, _ => rfl
        | 43, _ => rfl
        | 44, _ => rfl
        | 45, _ => rfl
        | 46, _ => rfl
        | 47, _ => rfl
        | 48, _ => rfl
        | 49, _ => rfl
        | 50, _ => rfl
        | 51, _ => rfl
        | 52, _ => rfl
        | 53, _ => rfl
        | 54, _ => rfl
        | 55, _ => rfl
        | 56, _ => rfl
        | 57, _ => rfl
        | 58, _ => rfl
        | 59, hj => rw [hL] at hj; cases hj
        | 60, hj => rw [hW.dep (60, 59) (by decide) hj] at hL; cases hL
        | 61, _ => rfl
        | (k + 62), _ => rfl
      · simp only [dly60, List.mem_cons, List.not_mem_nil, or_false] at hd
        rcases hd with rfl | rfl | rfl | rfl | rfl | rfl | rfl | rfl | rfl | rfl
        · exact absurd hi (by simp)
        · exact absurd hi (by simp)
        · exact (hW.dep (18, 16) (by decide) h18)
        · exact absurd hi (by simp)
        · exact absurd hi (by simp)
        · exact absurd hi (by simp)
        · exact absurd hi (by simp)
        · exact absurd hi (by simp)
        · exact absurd hi (by simp)
        · exact absurd hi (by simp)
      · simp only [sly60, List.mem_cons, List.not_mem_nil, or_false] at hq
        rcases hq with rfl | rfl | rfl
        · exact ⟨(by simp), fun m => rfl⟩
        · exact ⟨(by simp), fun m => rfl⟩
        · rw [hL] at e; cases e
      · simp only [sly60, List.mem_cons, List.not_mem_nil, or_false] at hq
        rcases hq with rfl | rfl | rfl
        · exact absurd e (by simp)
        · exact absurd e (by simp)
        · rfl)
    (fun c L W hW _ h9 h59 => hW.pure 60 (fun s hs => by simp only [sly60, List.mem_cons, List.not_mem_nil, or_false] at hs; rcases hs with rfl | rfl | rfl <;> simp) (fun d hd hi => by
      simp only [dly60, List.mem_cons, List.not_mem_nil, or_false] at hd
      rcases hd with rfl | rfl | rfl | rfl | rfl | rfl | rfl | rfl | rfl | rfl
      · exact absurd hi (by simp)
      · exact absurd hi (by simp)
      · exact absurd hi (by simp)
      · exact h9
      · exact h59
      · exact (hW.dep (59, 16) (by decide) h59)
      · exact absurd hi (by simp)
      · exact absurd hi (by simp)
      · exact absurd hi (by simp)
      · exact absurd hi (by simp)) (by decide))
    (fun c L W hW hL h60 => by
      have hbx := hW.box
      rw [hL, if_neg (by decide)] at hbx
      have e := s_sta (T := 111) (n := 2) (fun _ => by kernel_rfl) (o := 0) hbx (.agg #[(.slice (some ⟨c 0, 0, none⟩) 2 2), (.slice (some ⟨c 1, 0, none⟩) 9 9)]) rfl (by decide) (by intro x hx; simp only [Value.cells, List.mem_cons, List.not_mem_nil, or_false] at hx; rcases hx with rfl | rfl <;> rfl)
      refine ⟨_, e, ?_⟩
      refine hW.store (v := fun c => #[(.slice (some ⟨c 0, 0, none⟩) 2 2), (.slice (some ⟨c 1, 0, none⟩) 9 9)]) (fun q hq => ?_) (fun d hd hi => ?_)
      · simp only [sly60, List.mem_cons, List.not_mem_nil, or_false] at hq
        rcases hq with rfl | rfl | rfl
        · exact ⟨(by simp), fun e => by have h5 := (hW.sl ⟨9, 0, fun _ => #[(vW ⟨L1, 0, none⟩ 1), (vR ⟨T, 0, none⟩ 0)], 213⟩ (by simp [sly60]) e).1; have h6 : W1.heap.size ≤ c 0 := h5; show c 0 ≠ R; omega⟩
        · exact ⟨(by simp), fun e => by have h5 := (hW.sl ⟨16, 2, fun _ => #[(.pointer (some ⟨T, 1, none⟩)), (.pointer (some ⟨T, 2, none⟩))], 184⟩ (by simp [sly60]) e).1; have h6 : W1.heap.size ≤ c 2 := h5; show c 2 ≠ R; omega⟩
        · exact ⟨(by simp), fun e => by have h5 := (hW.sl ⟨59, 1, fun c => #[(.iface 190 (.agg #[(.slice (some ⟨c 2, 0, none⟩) 2 2), (I 1), (FN 135), (FN 136)])), (vT ⟨T, 3, none⟩ 32), (vT ⟨T, 4, none⟩ 32), (vI ⟨T, 5, none⟩ 6), (vN ⟨T, 6, none⟩ 60), (vI ⟨T, 7, none⟩ 6), (vI ⟨T, 8, none⟩ 6), (vI ⟨T, 9, none⟩ 6), (vI ⟨T, 10, none⟩ 6)], 213⟩ (by simp [sly60]) e).1; have h6 : W1.heap.size ≤ c 1 := h5; show c 1 ≠ R; omega⟩
      · simp only [dly60, List.mem_cons, List.not_mem_nil, or_false] at hd
        rcases hd with rfl | rfl | rfl | rfl | rfl | rfl | rfl | rfl | rfl | rfl
        · exact absurd hi (by simp)
        · exact absurd hi (by simp)
        · exact absurd hi (by simp)
        · exact absurd hi (by simp)
        · exact absurd hi (by simp)
        · exact absurd hi (by simp)
        · exact h60
        · exact hW.dep (60, 9) (by decide) h60
        · exact hW.dep (60, 16) (by decide) h60
        · exact hW.dep (60, 59) (by decide) h60) ?hend
  case hp1 =>
    intro q hq e
    simp only [sly60, List.mem_cons, List.not_mem_nil, or_false] at hq
    rcases hq with rfl | rfl | rfl <;> exact hi (by simp at e; simp [← e])
  case hp2 =>
    intro d hd e
    simp only [dly60, List.mem_cons, List.not_mem_nil, or_false] at hd
    rcases hd with rfl | rfl | rfl | rfl | rfl | rfl | rfl | rfl | rfl | rfl <;> exact absurd (by simp at e; simp [← e]) hi
  case hend =>
    intro c L W hall hW
    simp only [crly60, Act.put, List.setIfInBounds_toArray, List.set_cons_succ, List.set_cons_zero]
    have hbx := hW.box
    rw [hall 61 (by decide), if_pos rfl] at hbx
    have hO := hW.only
    have hs0 := hW.sl ⟨9, 0, fun _ => #[(vW ⟨L1, 0, none⟩ 1), (vR ⟨T, 0, none⟩ 0)], 213⟩ (by simp [sly60]) (hall 9 (by decide))
    have hs2 := hW.sl ⟨16, 2, fun _ => #[(.pointer (some ⟨T, 1, none⟩)), (.pointer (some ⟨T, 2, none⟩))], 184⟩ (by simp [sly60]) (hall 16 (by decide))
    have hs1 := hW.sl ⟨59, 1, fun c => #[(.iface 190 (.agg #[(.slice (some ⟨c 2, 0, none⟩) 2 2), (I 1), (FN 135), (FN 136)])), (vT ⟨T, 3, none⟩ 32), (vT ⟨T, 4, none⟩ 32), (vI ⟨T, 5, none⟩ 6), (vN ⟨T, 6, none⟩ 60), (vI ⟨T, 7, none⟩ 6), (vI ⟨T, 8, none⟩ 6), (vI ⟨T, 9, none⟩ 6), (vI ⟨T, 10, none⟩ 6)], 213⟩ (by simp [sly60]) (hall 59 (by decide))
    have HP : Hid (W.heap[R]? = some (.cells #[(.slice (some ⟨c 0, 0, none⟩) 2 2), (.slice (some ⟨c 1, 0, none⟩) 9 9)] 111 (0, 0)) ∧ Below R w W ∧ W.heap[L1]? = some (.cells #[S [99]] 9 (0, 0)) ∧ (R + 2 ≤ c 0 ∧ W.heap[c 0]? = some (.cells #[(vW ⟨L1, 0, none⟩ 1), (vR ⟨T, 0, none⟩ 0)] 213 (0, 0))) ∧ (R + 2 ≤ c 2 ∧ W.heap[c 2]? = some (.cells #[(.pointer (some ⟨T, 1, none⟩)), (.pointer (some ⟨T, 2, none⟩))] 184 (0, 0))) ∧ (R + 2 ≤ c 1 ∧ W.heap[c 1]? = some (.cells #[(.iface 190 (.agg #[(.slice (some ⟨c 2, 0, none⟩) 2 2), (I 1), (FN 135), (FN 136)])), (vT ⟨T, 3, none⟩ 32), (vT ⟨T, 4, none⟩ 32), (vI ⟨T, 5, none⟩ 6), (vN ⟨T, 6, none⟩ 60), (vI ⟨T, 7, none⟩ 6), (vI ⟨T, 8, none⟩ 6), (vI ⟨T, 9, none⟩ 6), (vI ⟨T, 10, none⟩ 6)] 213 (0, 0)))) := hide (⟨hbx, hO.below hb0 (by omega) (fun k e => by omega), (hO.block L1 (by omega) (by omega)).trans hL1, ⟨by have h5 : W1.heap.size ≤ c 0 := hs0.1; omega, hs0.2⟩, ⟨by have h5 : W1.heap.size ≤ c 2 := hs2.1; omega, hs2.2⟩, ⟨by have h5 : W1.heap.size ≤ c 1 := hs1.1; omega, hs1.2⟩⟩)
    clear hbx hO hW hall hs0 hs2 hs1
    go_wp2
    obtain ⟨hbx, hpp⟩ := unhide HP
    refine out1c (T := 111) (n := 2) (fun _ => by kernel_rfl) (fun _ => by kernel_rfl) (Z := R) rfl rfl rfl hbx rfl ?_
    subst hL1e; subst hRe
    exact ⟨c, rfl, hpp⟩
end Go.Proofs.YtpidmpefodnffaaGreatDoor
