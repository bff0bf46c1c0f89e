import Derived.Test.YtpidmpefodnffaaGreatDoorZrca
import Derived.Test.YtpidmpefodnffaaGreatDoorZfde
import Derived.Test.YtpidmpefodnffaaGreatDoorZfdi
namespace Go.Proofs.YtpidmpefodnffaaGreatDoor
open Go.RowKit Go.Lib
set_option maxHeartbeats 4000000
set_option maxRecDepth 8000
def vrly118 (T X C : Nat) (_c : Unit) (i : Nat) : Value := match i with
  | 0 => (.pointer (some ⟨T, 0, none⟩))
  | 1 => (.pointer (some ⟨T, 0, none⟩))
  | 2 => (.pointer (some ⟨T, 0, none⟩))
  | 3 => (.agg #[(.pointer (some ⟨T, 0, none⟩)), (I 8), (FN 135), (FN 136)])
  | 4 => (vI ⟨T, 0, none⟩ 8)
  | 5 => (.pointer (some ⟨T, 0, none⟩))
  | 6 => (.pointer (some ⟨T, 0, none⟩))
  | 7 => (.pointer (some ⟨T, 1, none⟩))
  | 8 => (.agg #[(.pointer (some ⟨T, 1, none⟩)), (I 6), (FN 135), (FN 136)])
  | 9 => (vI ⟨T, 1, none⟩ 6)
  | 10 => (S [0, 0])
  | 11 => (I 2)
  | 12 => (.agg #[(.pointer (some ⟨X, 0, none⟩)), (I 2), (FN 132), (FN 133)])
  | 13 => (vW ⟨X, 0, none⟩ 2)
  | 14 => (.slice (some ⟨C, 0, none⟩) 3 3)
  | 15 => (.slice (some ⟨C, 0, none⟩) 3 3)
  | _ => undef
def rly118T : List (Op × Option Tmp × Option (Nat × Bool)) := [
  (.move (.tmp 0), some 4, none),
  (.nilCheck (.tmp 4), some 5, none),
  (.fieldAddr 159 (.tmp 5) 0, some 6, none),
  (.build 197 #[(0, (.tmp 6)), (1, (.const (I 8))), (2, (.func 135)), (3, (.func 136))], some 7, none),
  (.makeInterface 197 (.tmp 7), some 8, none),
  (.move (.tmp 0), some 9, none),
  (.nilCheck (.tmp 9), some 10, none),
  (.fieldAddr 159 (.tmp 10) 1, some 11, none),
  (.build 197 #[(0, (.tmp 11)), (1, (.const (I 6))), (2, (.func 135)), (3, (.func 136))], some 12, none),
  (.makeInterface 197 (.tmp 12), some 13, none),
  (.load 9 (.tmp 3), some 14, none),
  (.call { callee := .builtin .len, args := #[(.tmp 14)], argTypes := #[9] }, some 15, none),
  (.build 179 #[(0, (.tmp 3)), (1, (.tmp 15)), (2, (.func 132)), (3, (.func 133))], some 16, none),
  (.makeInterface 179 (.tmp 16), some 17, none),
  (.buildSlice 109 3 #[(0, (.tmp 8)), (1, (.tmp 13)), (2, (.tmp 17))], some 18, none),
  (.assign (.tmp 18), some 2, none)]
def rly118D : List (Nat × Nat) := [(1, 0), (2, 1), (3, 2), (4, 3), (6, 5), (7, 6), (8, 7), (9, 8), (11, 10), (12, 11), (13, 12), (14, 4), (14, 9), (14, 13), (15, 14)]
set_option maxHeartbeats 4000000 in
theorem rly118 {ops : Array Oper} {id : Nat} {Q : Exit → Act → World → Prop} (T X C : Nat) (htab : ops.toList.map (fun o => (o.op, o.dst, o.guard)) = rly118T) (hdep : deplB rly118D ops = true) (hac : acB ops = true)
    (a0 : Act) (w : World) (hsz : 19 ≤ a0.tmps.size) (o0 : a0.tmps[0]? = some (.pointer (some ⟨T, 0, none⟩))) (o3 : a0.tmps[3]? = some (.pointer (some ⟨X, 0, none⟩)))
    (Wd : Unit → (Nat → Bool) → World → Prop) (h0 : ∃ c, Wd c (fun _ => false) w.drew) (hpure : ∀ i, i ∉ ([14] : List Nat) → ∀ c L W, Wd c L W → Wd c (upd L i) W)
    (r10 : ∀ c L W, Wd c L W → L 10 = false → (Instr.loadAt 9 (.pointer (some ⟨X, 0, none⟩))).run Tryz.prog W = .ok (S [0, 0]) W)
    (r14 : ∀ c L W, Wd c L W → L 14 = false → L 4 = true → L 9 = true → L 13 = true → ∃ c' W', (∀ j, L j = true → vrly118 T X C c' j = vrly118 T X C c j) ∧ (Instr.buildSlice 109 3 #[(0, (vI ⟨T, 0, none⟩ 8)), (1, (vI ⟨T, 1, none⟩ 6)), (2, (vW ⟨X, 0, none⟩ 2))]).run Tryz.prog W = .ok (vrly118 T X C c' 14) W' ∧ Wd c' (upd L 14) W')
    (hend : ∀ c L W, (∀ i, i < 16 → L i = true) → Wd c L W → Q .normal ((((((((((((((((a0.put (some 4) (.pointer (some ⟨T, 0, none⟩))).put (some 5) (.pointer (some ⟨T, 0, none⟩))).put (some 6) (.pointer (some ⟨T, 0, none⟩))).put (some 7) (.agg #[(.pointer (some ⟨T, 0, none⟩)), (I 8), (FN 135), (FN 136)])).put (some 8) (vI ⟨T, 0, none⟩ 8)).put (some 9) (.pointer (some ⟨T, 0, none⟩))).put (some 10) (.pointer (some ⟨T, 0, none⟩))).put (some 11) (.pointer (some ⟨T, 1, none⟩))).put (some 12) (.agg #[(.pointer (some ⟨T, 1, none⟩)), (I 6), (FN 135), (FN 136)])).put (some 13) (vI ⟨T, 1, none⟩ 6)).put (some 14) (S [0, 0])).put (some 15) (I 2)).put (some 16) (.agg #[(.pointer (some ⟨X, 0, none⟩)), (I 2), (FN 132), (FN 133)])).put (some 17) (vW ⟨X, 0, none⟩ 2)).put (some 18) (.slice (some ⟨C, 0, none⟩) 3 3)).put (some 2) (.slice (some ⟨C, 0, none⟩) 3 3)) W) : (Code.region id ops true).wp Tryz.prog Q a0 w := by
  let val : Unit → Nat → Value := vrly118 T X C
  have hosz : ops.size = 16 := by
    have := congrArg List.length htab
    simpa [rly118T] using this
  have hds : ∀ i s, (rly118T[i]?).bind (·.2.1) = some s → dstOf ops i = some s := fun i s hi => by rw [tab_dst htab, hi]
  have hdisB : disL rly118T = true := by rfl
  have hdis := disL_of htab hdisB
  have hold : ∀ s, rly118T.all (fun x => !(x.2.1 == some s)) = true → (List.range ops.size).all (fun j => !(dstOf ops j == some s)) = true := fun s h => holdL htab s h
  refine region_detX val Wd (hac_of hac) hdis h0 ?_ ?_
  rotate_left
  · intro c L W hall hW
    have := hend c L W (by rw [← hosz]; exact hall) hW
    have e : frm ops a0 (val c) (fun _ => true) ops.size = ((((((((((((((((a0.put (some 4) (.pointer (some ⟨T, 0, none⟩))).put (some 5) (.pointer (some ⟨T, 0, none⟩))).put (some 6) (.pointer (some ⟨T, 0, none⟩))).put (some 7) (.agg #[(.pointer (some ⟨T, 0, none⟩)), (I 8), (FN 135), (FN 136)])).put (some 8) (vI ⟨T, 0, none⟩ 8)).put (some 9) (.pointer (some ⟨T, 0, none⟩))).put (some 10) (.pointer (some ⟨T, 0, none⟩))).put (some 11) (.pointer (some ⟨T, 1, none⟩))).put (some 12) (.agg #[(.pointer (some ⟨T, 1, none⟩)), (I 6), (FN 135), (FN 136)])).put (some 13) (vI ⟨T, 1, none⟩ 6)).put (some 14) (S [0, 0])).put (some 15) (I 2)).put (some 16) (.agg #[(.pointer (some ⟨X, 0, none⟩)), (I 2), (FN 132), (FN 133)])).put (some 17) (vW ⟨X, 0, none⟩ 2)).put (some 18) (.slice (some ⟨C, 0, none⟩) 3 3)).put (some 2) (.slice (some ⟨C, 0, none⟩) 3 3)) := by
      rw [hosz]
      simp only [frm, if_true]
      rw [tab_dst htab 0, tab_dst htab 1, tab_dst htab 2, tab_dst htab 3, tab_dst htab 4, tab_dst htab 5, tab_dst htab 6, tab_dst htab 7, tab_dst htab 8, tab_dst htab 9, tab_dst htab 10, tab_dst htab 11, tab_dst htab 12, tab_dst htab 13, tab_dst htab 14, tab_dst htab 15]
      rfl
    rw [e]
    exact this
  intro i o ho c L a w' hL hd ha hW
  have hi : i < 16 := by rw [← hosz]; exact (Array.getElem?_eq_some_iff.1 ho).1
  have G : ∀ j s : Nat, (rly118T[j]?).bind (·.2.1) = some s → s < 19 → (i, j) ∈ rly118D → a.tmps[s]? = some (val c j) := fun j s h1 h2 h3 => frm_at hdis ha j s (hds j s h1) (by omega) (depl_of hdep i j h3 ho hd)
  match i, ho, hL, hi, G with
  | 0, ho, hL, _, G =>
    obtain ⟨hop, hgd⟩ := tab3 htab ho rfl
    have h0 := frm_old ha 0 _ (hold 0 rfl) o0
    exact (dXr ho hgd (hpure 0 (by decide) c L w' hW) (g_mov hop (eval_of h0)))
  | 1, ho, hL, _, G =>
    obtain ⟨hop, hgd⟩ := tab3 htab ho rfl
    have h0 := G 0 4 rfl (by decide) (by decide)
    exact (dXr ho hgd (hpure 1 (by decide) c L w' hW) (run_nil _ _ _ hop _ (eval_of h0) _))
  | 2, ho, hL, _, G =>
    obtain ⟨hop, hgd⟩ := tab3 htab ho rfl
    have h0 := G 1 5 rfl (by decide) (by decide)
    exact (dXr ho hgd (hpure 2 (by decide) c L w' hW) (g_field hop (eval_of h0) (by kernel_rfl)))
  | 3, ho, hL, _, G =>
    obtain ⟨hop, hgd⟩ := tab3 htab ho rfl
    have h0 := G 2 6 rfl (by decide) (by decide)
    exact (dXr ho hgd (hpure 3 (by decide) c L w' hW) (g_build hop (map4 (eval_of h0) rfl rfl rfl) (by kernel_rfl)))
  | 4, ho, hL, _, G =>
    obtain ⟨hop, hgd⟩ := tab3 htab ho rfl
    have h0 := G 3 7 rfl (by decide) (by decide)
    exact (dXr ho hgd (hpure 4 (by decide) c L w' hW) (g_mki hop (eval_of h0) (by kernel_rfl)))
  | 5, ho, hL, _, G =>
    obtain ⟨hop, hgd⟩ := tab3 htab ho rfl
    have h0 := frm_old ha 0 _ (hold 0 rfl) o0
    exact (dXr ho hgd (hpure 5 (by decide) c L w' hW) (g_mov hop (eval_of h0)))
  | 6, ho, hL, _, G =>
    obtain ⟨hop, hgd⟩ := tab3 htab ho rfl
    have h0 := G 5 9 rfl (by decide) (by decide)
    exact (dXr ho hgd (hpure 6 (by decide) c L w' hW) (run_nil _ _ _ hop _ (eval_of h0) _))
  | 7, ho, hL, _, G =>
    obtain ⟨hop, hgd⟩ := tab3 htab ho rfl
    have h0 := G 6 10 rfl (by decide) (by decide)
    exact (dXr ho hgd (hpure 7 (by decide) c L w' hW) (g_field hop (eval_of h0) (by kernel_rfl)))
  | 8, ho, hL, _, G =>
    obtain ⟨hop, hgd⟩ := tab3 htab ho rfl
    have h0 := G 7 11 rfl (by decide) (by decide)
    exact (dXr ho hgd (hpure 8 (by decide) c L w' hW) (g_build hop (map4 (eval_of h0) rfl rfl rfl) (by kernel_rfl)))
  | 9, ho, hL, _, G =>
    obtain ⟨hop, hgd⟩ := tab3 htab ho rfl
    have h0 := G 8 12 rfl (by decide) (by decide)
    exact (dXr ho hgd (hpure 9 (by decide) c L w' hW) (g_mki hop (eval_of h0) (by kernel_rfl)))
  | 10, ho, hL, _, G =>
    obtain ⟨hop, hgd⟩ := tab3 htab ho rfl
    have h0 := frm_old ha 3 _ (hold 3 rfl) o3
    exact (dXr ho hgd (hpure 10 (by decide) c L w' hW) (g_load hop (eval_of h0) (r10 c L w' hW hL)))
  | 11, ho, hL, _, G =>
    obtain ⟨hop, hgd⟩ := tab3 htab ho rfl
    have h0 := G 10 14 rfl (by decide) (by decide)
    exact (dXr ho hgd (hpure 11 (by decide) c L w' hW) (run_len _ _ _ hop _ (eval_of h0) _))
  | 12, ho, hL, _, G =>
    obtain ⟨hop, hgd⟩ := tab3 htab ho rfl
    have h0 := frm_old ha 3 _ (hold 3 rfl) o3
    have h1 := G 11 15 rfl (by decide) (by decide)
    exact (dXr ho hgd (hpure 12 (by decide) c L w' hW) (g_build hop (map4 (eval_of h0) (eval_of h1) rfl rfl) (by kernel_rfl)))
  | 13, ho, hL, _, G =>
    obtain ⟨hop, hgd⟩ := tab3 htab ho rfl
    have h0 := G 12 16 rfl (by decide) (by decide)
    exact (dXr ho hgd (hpure 13 (by decide) c L w' hW) (g_mki hop (eval_of h0) (by kernel_rfl)))
  | 14, ho, hL, _, G =>
    obtain ⟨hop, hgd⟩ := tab3 htab ho rfl
    have h0 := G 4 8 rfl (by decide) (by decide)
    have h1 := G 9 13 rfl (by decide) (by decide)
    have h2 := G 13 17 rfl (by decide) (by decide)
    obtain ⟨c', W', q0, q1, q2⟩ := r14 c L w' hW hL (depl_of hdep 14 4 (by decide) ho hd) (depl_of hdep 14 9 (by decide) ho hd) (depl_of hdep 14 13 (by decide) ho hd)
    exact doesX_runw ho (wanted_none hgd) c' q0 q2 (g_bs hop (by simp only [List.map_toArray, List.map_cons, List.map_nil, eval_of h0, eval_of h1, eval_of h2]; first | done | rfl) q1)
  | 15, ho, hL, _, G =>
    obtain ⟨hop, hgd⟩ := tab3 htab ho rfl
    have h0 := G 14 18 rfl (by decide) (by decide)
    exact (dXr ho hgd (hpure 15 (by decide) c L w' hW) (by rw [run_assign _ _ _ hop]; exact congrArg (fun v => Result.ok (Next.value v) w') (eval_of h0)))
  | (i + 16), ho, hL, hi, _ => exact absurd hi (by omega)
structure Lz (w W1 : World) (C : Nat) (con : Array Value) (_c : Unit) (L : Nat → Bool) (W : World) : Prop where
  bel : Below w.heap.size w W
  old : Below W1.heap.size W1 W
  sz : L 14 = false → W.heap.size = C
  row : L 14 = true → W.heap[C]? = some (.cells con 213 (0, 0))
theorem Lz.pure {w W1 : World} {C : Nat} {con : Array Value} {c : Unit} {L : Nat → Bool} {W : World} (h : Lz w W1 C con c L W) (i : Nat) (hi : i ≠ 14) : Lz w W1 C con c (upd L i) W :=
  ⟨h.bel, h.old, by rw [upd_ne (Ne.symm hi)]; exact h.sz, by rw [upd_ne (Ne.symm hi)]; exact h.row⟩
theorem lay118 (T : Nat) (w : World) : Calls Tryz.prog 118 #[ptr T] w fun e w' => e = .returned (.slice (some ⟨w.heap.size + 1, 0, none⟩) 3 3) ∧ Below w.heap.size w w' ∧ w'.heap[w.heap.size]? = some (.cells #[S [0, 0]] 9 (0, 0)) ∧ w'.heap[w.heap.size + 1]? = some (.cells #[(vI ⟨T, 0, none⟩ 8), (vI ⟨T, 1, none⟩ 6), (vW ⟨w.heap.size, 0, none⟩ 2)] 213 (0, 0)) := by
  have hb0 : Below w.heap.size w (w.alloc (.cells #[S [0, 0]] 9)) := (Below.refl _ w).alloc (Nat.le_refl _) _
  have hX := heap_alloc_new w (.cells #[S [0, 0]] 9)
  have hsz : (w.alloc (.cells #[S [0, 0]] 9)).heap.size = w.heap.size + 1 := by simp
  go_enter Tryz.func118, Tryz.ntmps118
  go_wp2_with fail
  generalize w.alloc (.cells #[S [0, 0]] 9) = W1 at *
  refine rly118 T w.heap.size (w.heap.size + 1) rfl (by rfl) (by rfl) _ W1 (by simp) rfl rfl (Lz w W1 (w.heap.size + 1) #[(vI ⟨T, 0, none⟩ 8), (vI ⟨T, 1, none⟩ 6), (vW ⟨w.heap.size, 0, none⟩ 2)]) ⟨(), hb0.drew, (Below.refl _ _).drew, fun _ => hsz, fun e => by cases e⟩ (fun i hi c L W hW => hW.pure i (fun e => hi (by simp [e])))
    (fun c L W hW _ => s_ld (T := 9) (fun _ => by kernel_rfl) (cellr ((hW.old.block _ (lt_of_row hX)).trans hX) rfl))
    (fun c L W hW hL _ _ _ => by
      have hs := hW.sz hL
      refine ⟨(), W.alloc (.cells #[(vI ⟨T, 0, none⟩ 8), (vI ⟨T, 1, none⟩ 6), (vW ⟨w.heap.size, 0, none⟩ 2)] 213), fun _ _ => rfl, ?_, ?_⟩
      · show _ = Result.ok (Value.slice (some ⟨w.heap.size + 1, 0, none⟩) 3 3) _
        rw [← hs]
        kernel_rfl
      · refine ⟨hW.bel.alloc hW.bel.size _, hW.old.alloc hW.old.size _, (fun e => by simp [upd] at e), fun _ => ?_⟩
        have e := heap_alloc_new W (.cells #[(vI ⟨T, 0, none⟩ 8), (vI ⟨T, 1, none⟩ 6), (vW ⟨w.heap.size, 0, none⟩ 2)] 213)
        rw [hs] at e
        exact e)
    ?_
  intro c L W hall hW
  have HB := hide hW.bel
  have HX := hide ((hW.old.block _ (lt_of_row hX)).trans hX)
  have HC := hide (hW.row (hall 14 (by decide)))
  clear hall hW hX hb0 hsz
  simp only [Act.put, List.setIfInBounds_toArray, List.set_cons_succ, List.set_cons_zero]
  go_wp2
  go_ret
  exact ⟨rfl, unhide HB, unhide HX, unhide HC⟩
def nteOK (nx nw : Int) : Bool := decide (1 ≤ nx) && (decide (nx ≤ 4611686018427387905) && tim nw)
def nteP (nx nw : Int) : Bs × Nat := if nteOK nx nw then (be 8 nx.toNat ++ (be 6 nw.toNat ++ [0, 0]), 0) else ([], 140)
theorem nteN (nx nw : Int) : (!nteOK nx nw) = (decide (nx < 1) || decide (4611686018427387905 < nx) || !tim nw) := by
  rw [Bool.eq_iff_iff]
  unfold nteOK
  cases tim nw <;> simp <;> omega
theorem nteB {nx nw : Int} (h : nteOK nx nw = true) : (1 ≤ nx ∧ nx ≤ 4611686018427387905) ∧ 0 ≤ nw ∧ nw ≤ 1099511627776 := by
  simp only [nteOK, tim, Bool.and_eq_true, decide_eq_true_eq] at h
  omega
theorem rNote48 (nx nw : Int) (w : World) : Calls Tryz.prog 48 #[I nx, I nw] w fun e w' => e = .returned (.tuple #[S (nteP nx nw).1, I (nteP nx nw).2]) ∧ Below w.heap.size w w' := by
  have HKE := hide (nteN nx nw)
  have XC0 := hide (fun W => rTime_any nw W)
  generalize tim nw = b0 at *
  go_enter Tryz.func48, Tryz.ntmps48
  go_wp2_with fail
  refine (unhide XC0 w).mono ?_
  rintro e w9 ⟨rfl, hw9⟩
  rw [hw9]
  clear hw9 w9 XC0
  go_upto_region 2 with fail
  go_cut [18] from 9 to 18 (fun v wc => v = .bool (!nteOK nx nw) ∧ wc = w)
  case first =>
    by_cases h1 : nx < 1
    · have HV := hide (show true = !nteOK nx nw by rw [unhide HKE]; simp [h1])
      clear HKE
      go_wp2
      go_meet
      exact ⟨congrArg Value.bool (unhide HV), rfl⟩
    by_cases h2 : 4611686018427387905 < nx
    · have HV := hide (show true = !nteOK nx nw by rw [unhide HKE]; simp [h2])
      clear HKE
      go_wp2
      go_meet
      exact ⟨congrArg Value.bool (unhide HV), rfl⟩
    cases b0
    · have HV := hide (show true = !nteOK nx nw by rw [unhide HKE]; simp)
      clear HKE
      go_wp2
      go_meet
      exact ⟨congrArg Value.bool (unhide HV), rfl⟩
    · have HV := hide (show false = !nteOK nx nw by rw [unhide HKE]; simp [h1, h2])
      clear HKE
      go_wp2
      go_meet
      exact ⟨congrArg Value.bool (unhide HV), rfl⟩
  case rest =>
  obtain ⟨rfl, hwc⟩ := hcut
  rw [hwc]
  clear hwc HKE
  cases hok : nteOK nx nw
  · have HP : Hid (nteP nx nw = ([], 140)) := hide (by simp [nteP, hok])
    clear hok
    go_wp2
    go_ret2
    rw [unhide HP]
    exact ⟨rfl, Below.refl _ _⟩
  · have HP : Hid (nteP nx nw = (be 8 nx.toNat ++ (be 6 nw.toNat ++ [0, 0]), 0)) := hide (by simp [nteP, hok])
    have hbb := nteB hok
    clear hok
    have X0 := hide (fun W => byI nx 8 W (by decide) (by decide) (by omega) (by omega))
    have X1 := hide (fun W => byI nw 6 W (by decide) (by decide) (by omega) (by omega))
    have l0 := be_len 8 nx.toNat
    have l1 := be_len 6 nw.toNat
    generalize be 8 nx.toNat = x0 at *
    generalize be 6 nw.toNat = x1 at *
    clear hbb
    go_wp2_with fail
    refine (unhide X0 w).mono ?_
    rintro e W2 ⟨rfl, hb⟩
    have HB2 := hide hb
    clear hb X0
    go_wp2_with fail
    refine (unhide X1 W2).mono ?_
    rintro e W3 ⟨rfl, hb⟩
    have HB3 := hide ((unhide HB2).trans (hb.mono (unhide HB2).size))
    clear hb X1 HB2
    have e0 : ((⟨x0.toArray⟩ : ByteArray) ++ ⟨x1.toArray⟩ ++ ⟨#[0, 0]⟩) = ⟨(x0 ++ (x1 ++ [0, 0])).toArray⟩ := by
      rw [ba_app x0 x1]
      exact (ba_app (x0 ++ x1) [0, 0]).trans (by rw [List.append_assoc])
    have HE := hide e0
    clear e0
    go_wp2
    go_ret2
    rw [unhide HP]
    exact ⟨congrArg (fun v => Ending.returned (.tuple #[Value.string v, I 0])) (unhide HE), unhide HB3⟩
theorem Note47 (nx nw : Int) (w : World) : Calls Tryz.prog 47 #[I nx, I nw] w fun e w' => e = .returned (.tuple #[S (nteP nx nw).1, I (nteP nx nw).2]) ∧ Below w.heap.size w w' := by
  have HKE := hide (nteN nx nw)
  have XC0 := hide (isTime_any nw w)
  generalize tim nw = b0 at *
  go_enter Tryz.func47, Tryz.ntmps47
  go_upto_region 1 with fail
  go_cut [16] from 6 to 16 (fun v wc => v = .bool (!nteOK nx nw) ∧ wc = w)
  case first =>
    by_cases h1 : nx < 1
    · have HV := hide (show true = !nteOK nx nw by rw [unhide HKE]; simp [h1])
      clear HKE
      go_wp2_with (first | (go_at_call 116; refine (unhide XC0).mono ?_; rintro e w9 ⟨rfl, hw9⟩; rw [hw9]; clear hw9 w9))
      go_meet
      exact ⟨congrArg Value.bool (unhide HV), rfl⟩
    by_cases h2 : 4611686018427387905 < nx
    · have HV := hide (show true = !nteOK nx nw by rw [unhide HKE]; simp [h2])
      clear HKE
      go_wp2_with (first | (go_at_call 116; refine (unhide XC0).mono ?_; rintro e w9 ⟨rfl, hw9⟩; rw [hw9]; clear hw9 w9))
      go_meet
      exact ⟨congrArg Value.bool (unhide HV), rfl⟩
    cases b0
    · have HV := hide (show true = !nteOK nx nw by rw [unhide HKE]; simp)
      clear HKE
      go_wp2_with (first | (go_at_call 116; refine (unhide XC0).mono ?_; rintro e w9 ⟨rfl, hw9⟩; rw [hw9]; clear hw9 w9))
      go_meet
      exact ⟨congrArg Value.bool (unhide HV), rfl⟩
    · have HV := hide (show false = !nteOK nx nw by rw [unhide HKE]; simp [h1, h2])
      clear HKE
      go_wp2_with (first | (go_at_call 116; refine (unhide XC0).mono ?_; rintro e w9 ⟨rfl, hw9⟩; rw [hw9]; clear hw9 w9))
      go_meet
      exact ⟨congrArg Value.bool (unhide HV), rfl⟩
  case rest =>
  obtain ⟨rfl, hwc⟩ := hcut
  rw [hwc]
  clear hwc HKE
  cases hok : nteOK nx nw
  · have HP : Hid (nteP nx nw = ([], 140)) := hide (by simp [nteP, hok])
    clear hok
    go_wp2
    go_ret2
    rw [unhide HP]
    exact ⟨rfl, Below.refl _ _⟩
  · have HP : Hid (nteP nx nw = (be 8 nx.toNat ++ (be 6 nw.toNat ++ [0, 0]), 0)) := hide (by simp [nteP, hok])
    have hbb := nteB hok
    clear hok
    have hb0 : Below w.heap.size w (w.alloc (.cells #[I nx, I nw] 159)) := (Below.refl _ w).alloc (Nat.le_refl _) _
    have hT := heap_alloc_new w (.cells #[I nx, I nw] 159)
    generalize hW1 : w.alloc (.cells #[I nx, I nw] 159) = W1 at *
    have XL := hide (lay118 w.heap.size W1)
    go_wp2_with fail
    refine (unhide XL).mono ?_
    rintro e W2 ⟨rfl, hb, hX, hC⟩
    have hT2 := (hb.block _ (lt_of_row hT)).trans hT
    have c0 : W2.cell? ⟨w.heap.size, 0, none⟩ = some (I nx) := cellr hT2 rfl
    have c1 : W2.cell? ⟨w.heap.size, 1, none⟩ = some (I nw) := cellr hT2 rfl
    have c2 : W2.cell? ⟨W1.heap.size, 0, none⟩ = some (S [0, 0]) := cellr hX rfl
    have XA := hide (laid_any (some ⟨W1.heap.size + 1, 0, none⟩) 3 (fun i => (#[(vI ⟨w.heap.size, 0, none⟩ 8), (vI ⟨w.heap.size, 1, none⟩ 6), (vW ⟨W1.heap.size, 0, none⟩ 2)] : Array Value).getD i undef) (lx [be 8 nx.toNat, be 6 nw.toNat, [0, 0]]) W2 (by decide)
      (fun _ => ⟨W1.heap.size + 1, 0, rfl, fun i hi => by rw [Nat.zero_add]; unfold World.cell?; rw [hC]; match i, hi with | 0, _ => rfl | 1, _ => rfl | 2, _ => rfl | (k + 3), h => exact absurd h (by omega)⟩)
      (fun i hi => by match i, hi with
        | 0, _ => exact Pf.I _ 8 _ c0 (by decide) (by decide) (by omega) (by show _ < (18446744073709551616 : Int); omega) (by omega)
        | 1, _ => exact Pf.I _ 6 _ c1 (by decide) (by decide) (by omega) (by show _ < (281474976710656 : Int); omega) (by omega)
        | 2, _ => exact Pf.W _ 2 _ c2
        | (k + 3), h => exact absurd h (by omega))
      (by simp [cat, lx, be_len]))
    have eV : cat (lx [be 8 nx.toNat, be 6 nw.toNat, [0, 0]]) 3 = be 8 nx.toNat ++ (be 6 nw.toNat ++ [0, 0]) := by simp [cat, lx]
    rw [eV] at XA
    have HB2 := hide (hb0.trans (hb.mono hb0.size))
    generalize be 8 nx.toNat ++ (be 6 nw.toNat ++ [0, 0]) = x9 at *
    clear hb hX hC hT hT2 c0 c1 c2 eV hb0 XL hW1 hbb
    go_wp2_with fail
    refine (unhide XA).mono ?_
    rintro e W3 ⟨rfl, hb⟩
    have HB3 := hide ((unhide HB2).trans (hb.mono (unhide HB2).size))
    clear hb XA HB2
    go_wp2
    go_ret2
    rw [unhide HP]
    exact ⟨rfl, unhide HB3⟩
end Go.Proofs.YtpidmpefodnffaaGreatDoor
