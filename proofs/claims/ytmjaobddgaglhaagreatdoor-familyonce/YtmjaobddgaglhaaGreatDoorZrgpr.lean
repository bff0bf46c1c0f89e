import Derived.Test.YtmjaobddgaglhaaGreatDoorZfde
namespace Go.Proofs.YtmjaobddgaglhaaGreatDoor
open Go.RowKit
def vrpr77 (X _R : Nat) (a1 a2 : Option Addr) (n1 n2 : Nat) (k v : Bs) (_c : Unit) (i : Nat) : Value := match i with
  | 0 => (.pointer (some ⟨X, 0, none⟩))
  | 1 => (.slice a1 n1 n1)
  | 2 => (S k)
  | 3 => (.pointer (some ⟨X, 1, none⟩))
  | 4 => (.slice a2 n2 n2)
  | 5 => (S v)
  | 6 => (.agg #[S k, S v])
  | 7 => undef
  | _ => undef
def rpr77T : List (Op × Option Tmp × Option (Nat × Bool)) := [
  (.fieldAddr 119 (.tmp 1) 0, some 3, none),
  (.load 117 (.tmp 3), some 4, none),
  (.call { callee := .value (.func 134), args := #[(.tmp 4)], argTypes := #[117] }, some 5, none),
  (.fieldAddr 119 (.tmp 1) 1, some 6, none),
  (.load 117 (.tmp 6), some 7, none),
  (.call { callee := .value (.func 134), args := #[(.tmp 7)], argTypes := #[117] }, some 8, none),
  (.build 87 #[(0, (.tmp 5)), (1, (.tmp 8))], some 9, none),
  (.store 87 (.tmp 2) (.tmp 9), none, none)]
def rpr77D : List (Nat × Nat) := [(1, 0), (2, 1), (4, 3), (5, 4), (6, 2), (6, 5), (7, 6)]
set_option maxHeartbeats 4000000 in
theorem rpr77 {ops : Array Oper} {id : Nat} {Q : Exit → Act → World → Prop} (X R : Nat) (a1 a2 : Option Addr) (n1 n2 : Nat) (k v : Bs) (htab : ops.toList.map (fun o => (o.op, o.dst, o.guard)) = rpr77T) (hdep : deplB rpr77D ops = true) (hac : acB ops = true)
    (a0 : Act) (w : World) (hsz : 10 ≤ a0.tmps.size) (o1 : a0.tmps[1]? = some (.pointer (some ⟨X, 0, none⟩))) (o2 : a0.tmps[2]? = some (.pointer (some ⟨R, 0, none⟩)))
    (Wd : Unit → (Nat → Bool) → World → Prop) (h0 : ∃ c, Wd c (fun _ => false) w.drew) (hpure : ∀ i, i ∉ ([2, 5, 7] : List Nat) → ∀ c L W, Wd c L W → Wd c (upd L i) W)
    (r1 : ∀ c L W, Wd c L W → L 1 = false → L 0 = true → (Instr.loadAt 117 (.pointer (some ⟨X, 0, none⟩))).run Tryz.prog W = .ok (.slice a1 n1 n1) W)
    (r2 : ∀ c L W, Wd c L W → L 2 = false → L 1 = true → Calls Tryz.prog 134 #[(.slice a1 n1 n1)] W fun eg w' => ∃ c', (∀ j, L j = true → vrpr77 X R a1 a2 n1 n2 k v c' j = vrpr77 X R a1 a2 n1 n2 k v c j) ∧ eg = .returned (vrpr77 X R a1 a2 n1 n2 k v c' 2) ∧ Wd c' (upd L 2) w')
    (r4 : ∀ c L W, Wd c L W → L 4 = false → L 3 = true → (Instr.loadAt 117 (.pointer (some ⟨X, 1, none⟩))).run Tryz.prog W = .ok (.slice a2 n2 n2) W)
    (r5 : ∀ c L W, Wd c L W → L 5 = false → L 4 = true → Calls Tryz.prog 134 #[(.slice a2 n2 n2)] W fun eg w' => ∃ c', (∀ j, L j = true → vrpr77 X R a1 a2 n1 n2 k v c' j = vrpr77 X R a1 a2 n1 n2 k v c j) ∧ eg = .returned (vrpr77 X R a1 a2 n1 n2 k v c' 5) ∧ Wd c' (upd L 5) w')
    (r7 : ∀ c L W, Wd c L W → L 7 = false → L 6 = true → ∃ W', (Instr.storeAt 87 (.pointer (some ⟨R, 0, none⟩)) (.agg #[S k, S v])).run Tryz.prog W = .ok () W' ∧ Wd c (upd L 7) W')
    (hend : ∀ c L W, (∀ i, i < 8 → L i = true) → Wd c L W → Q .normal (((((((a0.put (some 3) (.pointer (some ⟨X, 0, none⟩))).put (some 4) (.slice a1 n1 n1)).put (some 5) (S k)).put (some 6) (.pointer (some ⟨X, 1, none⟩))).put (some 7) (.slice a2 n2 n2)).put (some 8) (S v)).put (some 9) (.agg #[S k, S v])) W) : (Code.region id ops true).wp Tryz.prog Q a0 w := by
  let val : Unit → Nat → Value := vrpr77 X R a1 a2 n1 n2 k v
  have hosz : ops.size = 8 := by
    have := congrArg List.length htab
    simpa [rpr77T] using this
  have hds : ∀ i s, (rpr77T[i]?).bind (·.2.1) = some s → dstOf ops i = some s := fun i s hi => by rw [tab_dst htab, hi]
  have hdisB : disL rpr77T = true := by rfl
  have hdis := disL_of htab hdisB
  have hold : ∀ s, rpr77T.all (fun x => !(x.2.1 == some s)) = true → (List.range ops.size).all (fun j => !(dstOf ops j == some s)) = true := fun s h => holdL htab s h
  refine region_detX val Wd (hac_of hac) hdis h0 ?_ ?_
  rotate_left
  · intro c L W hall hW
    have := hend c L W (by rw [← hosz]; exact hall) hW
    have e : frm ops a0 (val c) (fun _ => true) ops.size = (((((((a0.put (some 3) (.pointer (some ⟨X, 0, none⟩))).put (some 4) (.slice a1 n1 n1)).put (some 5) (S k)).put (some 6) (.pointer (some ⟨X, 1, none⟩))).put (some 7) (.slice a2 n2 n2)).put (some 8) (S v)).put (some 9) (.agg #[S k, S v])) := by
      rw [hosz]
      simp only [frm, if_true]
      rw [tab_dst htab 0, tab_dst htab 1, tab_dst htab 2, tab_dst htab 3, tab_dst htab 4, tab_dst htab 5, tab_dst htab 6, (show dstOf ops 7 = none from (tab_dst htab 7).trans rfl), put_none]
      rfl
    rw [e]
    exact this
  intro i o ho c L a w' hL hd ha hW
  have hi : i < 8 := by rw [← hosz]; exact (Array.getElem?_eq_some_iff.1 ho).1
  have G : ∀ j s : Nat, (rpr77T[j]?).bind (·.2.1) = some s → s < 10 → (i, j) ∈ rpr77D → a.tmps[s]? = some (val c j) := fun j s h1 h2 h3 => frm_at hdis ha j s (hds j s h1) (by omega) (depl_of hdep i j h3 ho hd)
  match i, ho, hL, hi, G with
  | 0, ho, hL, _, G =>
    obtain ⟨hop, hgd⟩ := tab3 htab ho rfl
    have h0 := frm_old ha 1 _ (hold 1 rfl) o1
    exact (dXr ho hgd (hpure 0 (by decide) c L w' hW) (g_field hop (eval_of h0) (by kernel_rfl)))
  | 1, ho, hL, _, G =>
    obtain ⟨hop, hgd⟩ := tab3 htab ho rfl
    have h0 := G 0 3 rfl (by decide) (by decide)
    exact (dXr ho hgd (hpure 1 (by decide) c L w' hW) (g_load hop (eval_of h0) (r1 c L w' hW hL (depl_of hdep 1 0 (by decide) ho hd))))
  | 2, ho, hL, _, G =>
    obtain ⟨hop, hgd⟩ := tab3 htab ho rfl
    have h0 := G 1 4 rfl (by decide) (by decide)
    refine doesX_call ho (wanted_none hgd) 134 #[(.slice a1 n1 n1)] ?_ (r2 c L w' hW hL (depl_of hdep 2 1 (by decide) ho hd))
    rw [run_calls Tryz.func134 (by kernel_rfl) rfl _ _ _ _ hop rfl]
    simp only [List.map_toArray, List.map_cons, List.map_nil, eval_of h0]
    all_goals rfl
  | 3, ho, hL, _, G =>
    obtain ⟨hop, hgd⟩ := tab3 htab ho rfl
    have h0 := frm_old ha 1 _ (hold 1 rfl) o1
    exact (dXr ho hgd (hpure 3 (by decide) c L w' hW) (g_field hop (eval_of h0) (by kernel_rfl)))
  | 4, ho, hL, _, G =>
    obtain ⟨hop, hgd⟩ := tab3 htab ho rfl
    have h0 := G 3 6 rfl (by decide) (by decide)
    exact (dXr ho hgd (hpure 4 (by decide) c L w' hW) (g_load hop (eval_of h0) (r4 c L w' hW hL (depl_of hdep 4 3 (by decide) ho hd))))
  | 5, ho, hL, _, G =>
    obtain ⟨hop, hgd⟩ := tab3 htab ho rfl
    have h0 := G 4 7 rfl (by decide) (by decide)
    refine doesX_call ho (wanted_none hgd) 134 #[(.slice a2 n2 n2)] ?_ (r5 c L w' hW hL (depl_of hdep 5 4 (by decide) ho hd))
    rw [run_calls Tryz.func134 (by kernel_rfl) rfl _ _ _ _ hop rfl]
    simp only [List.map_toArray, List.map_cons, List.map_nil, eval_of h0]
    all_goals rfl
  | 6, ho, hL, _, G =>
    obtain ⟨hop, hgd⟩ := tab3 htab ho rfl
    have h0 := G 2 5 rfl (by decide) (by decide)
    have h1 := G 5 8 rfl (by decide) (by decide)
    exact (dXr ho hgd (hpure 6 (by decide) c L w' hW) (g_build hop (by simp only [List.map_toArray, List.map_cons, List.map_nil, eval_of h0, eval_of h1]; first | done | rfl) (by kernel_rfl)))
  | 7, ho, hL, _, G =>
    obtain ⟨hop, hgd⟩ := tab3 htab ho rfl
    have h0 := frm_old ha 2 _ (hold 2 rfl) o2
    have h1 := G 6 9 rfl (by decide) (by decide)
    obtain ⟨W', q1, q2⟩ := r7 c L w' hW hL (depl_of hdep 7 6 (by decide) ho hd)
    exact doesX_of (doesL_skp ho (wanted_none hgd) rfl q2 (g_store hop (eval_of h0) (eval_of h1) q1))
  | (i + 8), ho, hL, hi, _ => exact absurd hi (by omega)
end Go.Proofs.YtmjaobddgaglhaaGreatDoor
namespace Go.Proofs.YtmjaobddgaglhaaGreatDoor
open Go.RowKit
set_option maxHeartbeats 4000000
set_option maxRecDepth 8000
/-- Between two operations of pair. -/
def Pq (w : World) (X R : Nat) (a1 a2 : Option Addr) (n1 n2 : Nat) (k v : Bs) (_ : Unit) (L : Nat → Bool) (W : World) : Prop :=
  Below w.heap.size w W ∧ W.heap[X]? = some (.cells #[.slice a1 n1 n1, .slice a2 n2 n2] 119 (0, 0)) ∧ W.heap[R]? = some (.cells (if L 7 = true then #[S k, S v] else #[S [], S []]) 87 (0, 0))
theorem Pq.ld {w : World} {X R : Nat} {a1 a2 : Option Addr} {n1 n2 : Nat} {k v : Bs} {u : Unit} {L : Nat → Bool} {W : World} (h : Pq w X R a1 a2 n1 n2 k v u L W) (j : Nat) (y : Value) (hv : (#[.slice a1 n1 n1, .slice a2 n2 n2] : Array Value)[j]? = some y) : W.cell? ⟨X, j, none⟩ = some y := by
  unfold World.cell?
  rw [h.2.1]
  exact hv
theorem Pq.pure {w : World} {X R : Nat} {a1 a2 : Option Addr} {n1 n2 : Nat} {k v : Bs} {u : Unit} {L : Nat → Bool} {W : World} (h : Pq w X R a1 a2 n1 n2 k v u L W) (i : Nat) (hi : i ≠ 7) {W' : World} (hb : Below W.heap.size W W') : Pq w X R a1 a2 n1 n2 k v u (upd L i) W' := by
  refine ⟨h.1.trans (hb.mono h.1.size), (hb.block X (lt_of_row h.2.1)).trans h.2.1, ?_⟩
  rw [upd_ne (fun e => hi e.symm)]
  exact (hb.block R (lt_of_row h.2.2)).trans h.2.2
theorem pair_any (a1 a2 : Option Addr) (n1 n2 : Nat) (V1 V2 : Nat → Value) (X1 X2 : Nat → Bs) (w : World) (h1 : n1 ≤ 1000) (h2 : n2 ≤ 1000) (r1 : Frow w a1 n1 V1) (r2 : Frow w a2 n2 V2) (f1 : ∀ W, Below w.heap.size w W → ∀ i, i < n1 → Pf W (V1 i) (X1 i)) (f2 : ∀ W, Below w.heap.size w W → ∀ i, i < n2 → Pf W (V2 i) (X2 i)) (l1 : (cat X1 n1).length ≤ 1000000000) (l2 : (cat X2 n2).length ≤ 1000000000) :
    Calls Tryz.prog 101 #[.agg #[.slice a1 n1 n1, .slice a2 n2 n2]] w fun e w' => e = .returned (.agg #[S (cat X1 n1), S (cat X2 n2)]) ∧ Below w.heap.size w w' := by
  have hb0 : Below w.heap.size w ((w.alloc (.cells #[.slice a1 n1 n1, .slice a2 n2 n2] 119)).alloc (.cells #[S [], S []] 87)) := ((Below.refl _ w).alloc (Nat.le_refl _) _).alloc (by simp) _
  have hX : ((w.alloc (.cells #[.slice a1 n1 n1, .slice a2 n2 n2] 119)).alloc (.cells #[S [], S []] 87)).heap[w.heap.size]? = some (.cells #[.slice a1 n1 n1, .slice a2 n2 n2] 119 (0, 0)) := by
    rw [heap_alloc_old _ _ (by simp)]; exact heap_alloc_new _ _
  have hR : ((w.alloc (.cells #[.slice a1 n1 n1, .slice a2 n2 n2] 119)).alloc (.cells #[S [], S []] 87)).heap[w.heap.size + 1]? = some (.cells #[S [], S []] 87 (0, 0)) := by
    have e := heap_alloc_new (w.alloc (.cells #[.slice a1 n1 n1, .slice a2 n2 n2] 119)) (.cells #[S [], S []] 87)
    simpa using e
  have c1 : ∀ W, Below w.heap.size w W → Calls Tryz.prog 134 #[.slice a1 n1 n1] W fun e w' => e = .returned (S (cat X1 n1)) ∧ Below W.heap.size W w' := fun W hW => laid_any a1 n1 V1 X1 W h1 (r1.below hW) (f1 W hW) l1
  have c2 : ∀ W, Below w.heap.size w W → Calls Tryz.prog 134 #[.slice a2 n2 n2] W fun e w' => e = .returned (S (cat X2 n2)) ∧ Below W.heap.size W w' := fun W hW => laid_any a2 n2 V2 X2 W h2 (r2.below hW) (f2 W hW) l2
  clear r1 r2 f1 f2 l1 l2 h1 h2
  generalize cat X1 n1 = k at *
  generalize cat X2 n2 = v at *
  go_enter Tryz.func101, Tryz.ntmps101
  go_wp2_with fail
  change _ at hR
  generalize hWe : ((w.alloc (.cells #[.slice a1 n1 n1, .slice a2 n2 n2] 119)).alloc (.cells #[S [], S []] 87)) = W1 at *
  generalize hRe : w.heap.size + 1 = R at *
  generalize hXe : w.heap.size = X at *
  refine rpr77 X R a1 a2 n1 n2 k v rfl (by rfl) (by rfl) _ W1 (by simp) rfl rfl (Pq w X R a1 a2 n1 n2 k v) ⟨(), by rw [hXe]; exact hb0.drew, hX, hR⟩ (fun i hi c L W hW => hW.pure i (fun e => hi (by simp [e])) (Below.refl _ _))
    (fun c L W hW _ _ => s_ld (T := 117) (fun _ => by kernel_rfl) (hW.ld 0 _ rfl))
    (fun c L W hW _ _ => (c1 W (by have q := hW.1; rw [hXe] at q; exact q)).mono fun e w' q => ⟨c, fun _ _ => rfl, q.1, hW.pure 2 (by decide) q.2⟩)
    (fun c L W hW _ _ => s_ld (T := 117) (fun _ => by kernel_rfl) (hW.ld 1 _ rfl))
    (fun c L W hW _ _ => (c2 W (by have q := hW.1; rw [hXe] at q; exact q)).mono fun e w' q => ⟨c, fun _ _ => rfl, q.1, hW.pure 5 (by decide) q.2⟩)
    (fun c L W hW hL _ => by
      have hbx := hW.2.2
      rw [hL, if_neg (by decide)] at hbx
      have e := s_sta (T := 87) (n := 2) (fun _ => by kernel_rfl) (o := 0) hbx (.agg #[S k, S v]) rfl (by decide) (by intro x hx; simp only [Value.cells, List.mem_cons, List.not_mem_nil, or_false] at hx; rcases hx with rfl | rfl <;> rfl)
      refine ⟨_, e, ?_⟩
      have o := setRow_Only W R #[S k, S v]
      refine ⟨o.below hW.1 hW.1.size (fun q e => by omega), (o.block X (lt_of_row hW.2.1) (by omega)).trans hW.2.1, ?_⟩
      rw [show upd L 7 7 = true by simp [upd], if_pos rfl]
      exact setRow_row hbx) ?hend
  case hend =>
    intro c L W hall hW
    simp only [Act.put, List.setIfInBounds_toArray, List.set_cons_succ, List.set_cons_zero]
    have HP := hide hW
    have HA := hide (hall 7 (by decide))
    clear hW hall c1 c2 hX hR hb0 hWe
    go_wp2
    obtain ⟨p1, p2, p3⟩ := unhide HP
    rw [unhide HA, if_pos rfl] at p3
    refine out1c (T := 87) (n := 2) (fun _ => by kernel_rfl) (fun _ => by kernel_rfl) (Z := R) rfl rfl rfl p3 rfl ?_
    subst hRe
    subst hXe
    exact ⟨rfl, p1⟩
end Go.Proofs.YtmjaobddgaglhaaGreatDoor
namespace Go.Proofs.YtmjaobddgaglhaaGreatDoor
open Go.RowKit
set_option maxHeartbeats 4000000
set_option maxRecDepth 8000
def tim (z : Int) : Bool := decide (0 ≤ z) && decide (z ≤ 1099511627776)
def spn (z : Int) : Bool := decide (1 ≤ z) && decide (z ≤ 1099511627776)
def idn (z : Int) : Bool := decide (1 ≤ z) && decide (z ≤ 4611686018427387904)
def gnr (z : Int) : Bool := decide (1 ≤ z) && decide (z ≤ 1073741824)
theorem isTime_any (z : Int) (w : World) : Calls Tryz.prog 105 #[I z] w fun e w' => e = .returned (.bool (tim z)) ∧ w' = w := by
  go_enter Tryz.func105, Tryz.ntmps105
  go_wp2
  all_goals go_ret
  all_goals refine ⟨ret_bool ?_, rfl⟩
  all_goals (rw [Bool.eq_iff_iff]; simp [tim]; try omega)
theorem isSpan_any (z : Int) (w : World) : Calls Tryz.prog 106 #[I z] w fun e w' => e = .returned (.bool (spn z)) ∧ w' = w := by
  go_enter Tryz.func106, Tryz.ntmps106
  go_wp2
  all_goals go_ret
  all_goals refine ⟨ret_bool ?_, rfl⟩
  all_goals (rw [Bool.eq_iff_iff]; simp [spn]; try omega)
theorem isID_any (z : Int) (w : World) : Calls Tryz.prog 102 #[I z] w fun e w' => e = .returned (.bool (idn z)) ∧ w' = w := by
  go_enter Tryz.func102, Tryz.ntmps102
  go_wp2
  all_goals go_ret
  all_goals refine ⟨ret_bool ?_, rfl⟩
  all_goals (rw [Bool.eq_iff_iff]; simp [idn]; try omega)
theorem isGen_any (z : Int) (w : World) : Calls Tryz.prog 107 #[I z] w fun e w' => e = .returned (.bool (gnr z)) ∧ w' = w := by
  go_enter Tryz.func107, Tryz.ntmps107
  go_wp2
  all_goals go_ret
  all_goals refine ⟨ret_bool ?_, rfl⟩
  all_goals (rw [Bool.eq_iff_iff]; simp [gnr]; try omega)
theorem isDigest_any (s : Bs) (w : World) : Calls Tryz.prog 113 #[S s] w fun e w' => e = .returned (.bool (s.length == 32)) ∧ w' = w := by
  go_enter Tryz.func113, Tryz.ntmps113
  go_wp2
  all_goals go_ret
  all_goals refine ⟨ret_bool ?_, rfl⟩
  all_goals (rw [Bool.eq_iff_iff]; simp; try omega)
theorem isSecret_any (s : Bs) (w : World) : Calls Tryz.prog 140 #[S s] w fun e w' => e = .returned (.bool (s.length == 24)) ∧ w' = w := by
  go_enter Tryz.func140, Tryz.ntmps140
  go_wp2
  all_goals go_ret
  all_goals refine ⟨ret_bool ?_, rfl⟩
  all_goals (rw [Bool.eq_iff_iff]; simp; try omega)
theorem isNm_any (s : Bs) (w : World) (hs : s.length ≤ 9223372036854775807) : Calls Tryz.prog 103 #[S s] w fun e w' => e = .returned (.bool (right [s])) ∧ Below w.heap.size w w' := by
  have hb : Below w.heap.size w (w.alloc (.cells #[S s] 9)) := (Below.refl _ w).alloc (Nat.le_refl _) _
  have HR := hide (Right_any (some ⟨w.heap.size, 0, none⟩) 1 1 [s] (w.alloc (.cells #[S s] 9)) (sts_new w [s]) (by omega) (lns_one s hs))
  have HB := hide hb
  clear hb hs
  generalize right [s] = r at *
  go_enter Tryz.func103, Tryz.ntmps103
  go_wp2_with fail
  refine (unhide HR).mono ?_
  rintro e w2 ⟨rfl, hw2⟩
  have HW := hide ((unhide HB).trans (hw2.mono (unhide HB).size))
  clear hw2 HR HB
  go_wp2
  go_ret
  exact ⟨rfl, unhide HW⟩
end Go.Proofs.YtmjaobddgaglhaaGreatDoor
namespace Go.Proofs.YtmjaobddgaglhaaGreatDoor
open Go.RowKit
set_option maxHeartbeats 4000000
set_option maxRecDepth 8000
def staOK (us st en : Int) : Bool := if st == 1 then en == 0 else if st == 2 || (st == 3 || st == 4) then tim en && decide (us ≤ en) else false
theorem rightState_any (id : Int) (cl su : Bs) (va : Option Addr) (vc : Nat) (sc : List Bs) (cr us idl ab gr ge to st en co : Int)  (w : World) : Calls Tryz.prog 108 #[.agg #[I id, S cl, S su, .slice va sc.length vc, I cr, I us, I idl, I ab, I gr, I ge, I to, I st, I en, I co]] w fun e w' => e = .returned (.bool (staOK us st en)) ∧ Below w.heap.size w w' := by
  have hB0 : Below w.heap.size w (w.alloc (.cells #[I id, S cl, S su, .slice va sc.length vc, I cr, I us, I idl, I ab, I gr, I ge, I to, I st, I en, I co] 24)) := (Below.refl _ w).alloc (Nat.le_refl _) _
  have HB1 := hide hB0
  have c0 : (w.alloc (.cells #[I id, S cl, S su, .slice va sc.length vc, I cr, I us, I idl, I ab, I gr, I ge, I to, I st, I en, I co] 24)).cell? ⟨w.heap.size, 0, none⟩ = some (I id) := cell_new _ _ _ _ _ rfl
  have c1 : (w.alloc (.cells #[I id, S cl, S su, .slice va sc.length vc, I cr, I us, I idl, I ab, I gr, I ge, I to, I st, I en, I co] 24)).cell? ⟨w.heap.size, 1, none⟩ = some (S cl) := cell_new _ _ _ _ _ rfl
  have c2 : (w.alloc (.cells #[I id, S cl, S su, .slice va sc.length vc, I cr, I us, I idl, I ab, I gr, I ge, I to, I st, I en, I co] 24)).cell? ⟨w.heap.size, 2, none⟩ = some (S su) := cell_new _ _ _ _ _ rfl
  have c3 : (w.alloc (.cells #[I id, S cl, S su, .slice va sc.length vc, I cr, I us, I idl, I ab, I gr, I ge, I to, I st, I en, I co] 24)).cell? ⟨w.heap.size, 3, none⟩ = some (.slice va sc.length vc) := cell_new _ _ _ _ _ rfl
  have c4 : (w.alloc (.cells #[I id, S cl, S su, .slice va sc.length vc, I cr, I us, I idl, I ab, I gr, I ge, I to, I st, I en, I co] 24)).cell? ⟨w.heap.size, 4, none⟩ = some (I cr) := cell_new _ _ _ _ _ rfl
  have c5 : (w.alloc (.cells #[I id, S cl, S su, .slice va sc.length vc, I cr, I us, I idl, I ab, I gr, I ge, I to, I st, I en, I co] 24)).cell? ⟨w.heap.size, 5, none⟩ = some (I us) := cell_new _ _ _ _ _ rfl
  have c6 : (w.alloc (.cells #[I id, S cl, S su, .slice va sc.length vc, I cr, I us, I idl, I ab, I gr, I ge, I to, I st, I en, I co] 24)).cell? ⟨w.heap.size, 6, none⟩ = some (I idl) := cell_new _ _ _ _ _ rfl
  have c7 : (w.alloc (.cells #[I id, S cl, S su, .slice va sc.length vc, I cr, I us, I idl, I ab, I gr, I ge, I to, I st, I en, I co] 24)).cell? ⟨w.heap.size, 7, none⟩ = some (I ab) := cell_new _ _ _ _ _ rfl
  have c8 : (w.alloc (.cells #[I id, S cl, S su, .slice va sc.length vc, I cr, I us, I idl, I ab, I gr, I ge, I to, I st, I en, I co] 24)).cell? ⟨w.heap.size, 8, none⟩ = some (I gr) := cell_new _ _ _ _ _ rfl
  have c9 : (w.alloc (.cells #[I id, S cl, S su, .slice va sc.length vc, I cr, I us, I idl, I ab, I gr, I ge, I to, I st, I en, I co] 24)).cell? ⟨w.heap.size, 9, none⟩ = some (I ge) := cell_new _ _ _ _ _ rfl
  have c10 : (w.alloc (.cells #[I id, S cl, S su, .slice va sc.length vc, I cr, I us, I idl, I ab, I gr, I ge, I to, I st, I en, I co] 24)).cell? ⟨w.heap.size, 10, none⟩ = some (I to) := cell_new _ _ _ _ _ rfl
  have c11 : (w.alloc (.cells #[I id, S cl, S su, .slice va sc.length vc, I cr, I us, I idl, I ab, I gr, I ge, I to, I st, I en, I co] 24)).cell? ⟨w.heap.size, 11, none⟩ = some (I st) := cell_new _ _ _ _ _ rfl
  have c12 : (w.alloc (.cells #[I id, S cl, S su, .slice va sc.length vc, I cr, I us, I idl, I ab, I gr, I ge, I to, I st, I en, I co] 24)).cell? ⟨w.heap.size, 12, none⟩ = some (I en) := cell_new _ _ _ _ _ rfl
  have c13 : (w.alloc (.cells #[I id, S cl, S su, .slice va sc.length vc, I cr, I us, I idl, I ab, I gr, I ge, I to, I st, I en, I co] 24)).cell? ⟨w.heap.size, 13, none⟩ = some (I co) := cell_new _ _ _ _ _ rfl
  have hlt1 : w.heap.size < (w.alloc (.cells #[I id, S cl, S su, .slice va sc.length vc, I cr, I us, I idl, I ab, I gr, I ge, I to, I st, I en, I co] 24)).heap.size := by simp
  generalize hW1 : w.alloc (.cells #[I id, S cl, S su, .slice va sc.length vc, I cr, I us, I idl, I ab, I gr, I ge, I to, I st, I en, I co] 24) = W1 at *
  have hX1 := hB0.size
  clear hB0
  cases h1 : st == 1
  ·
    cases h2 : st == 2
    ·
      cases h3 : st == 3
      ·
        cases h4 : st == 4
        ·
          go_enter Tryz.func108, Tryz.ntmps108
          go_wp2_with (first | (go_at_call 140; refine (isSecret_any _ _).mono ?_; rintro e w9 ⟨rfl, rfl⟩) | (go_at_call 113; refine (isDigest_any _ _).mono ?_; rintro e w9 ⟨rfl, rfl⟩) | (go_at_call 105; refine (isTime_any _ _).mono ?_; rintro e w9 ⟨rfl, rfl⟩) | (go_at_call 106; refine (isSpan_any _ _).mono ?_; rintro e w9 ⟨rfl, rfl⟩) | (go_at_call 102; refine (isID_any _ _).mono ?_; rintro e w9 ⟨rfl, rfl⟩) | (go_at_call 107; refine (isGen_any _ _).mono ?_; rintro e w9 ⟨rfl, rfl⟩))
          all_goals go_ret
          all_goals exact ⟨ret_bool (by simp [staOK, *]), unhide HB1⟩
        ·
          cases h5 : tim en
          ·
            go_enter Tryz.func108, Tryz.ntmps108
            go_wp2_with (first | (go_at_call 140; refine (isSecret_any _ _).mono ?_; rintro e w9 ⟨rfl, rfl⟩) | (go_at_call 113; refine (isDigest_any _ _).mono ?_; rintro e w9 ⟨rfl, rfl⟩) | (go_at_call 105; refine (isTime_any _ _).mono ?_; rintro e w9 ⟨rfl, rfl⟩) | (go_at_call 106; refine (isSpan_any _ _).mono ?_; rintro e w9 ⟨rfl, rfl⟩) | (go_at_call 102; refine (isID_any _ _).mono ?_; rintro e w9 ⟨rfl, rfl⟩) | (go_at_call 107; refine (isGen_any _ _).mono ?_; rintro e w9 ⟨rfl, rfl⟩))
            all_goals go_ret
            all_goals exact ⟨ret_bool (by simp [staOK, *]), unhide HB1⟩
          ·
            cases h6 : decide (us ≤ en)
            ·
              go_enter Tryz.func108, Tryz.ntmps108
              go_wp2_with (first | (go_at_call 140; refine (isSecret_any _ _).mono ?_; rintro e w9 ⟨rfl, rfl⟩) | (go_at_call 113; refine (isDigest_any _ _).mono ?_; rintro e w9 ⟨rfl, rfl⟩) | (go_at_call 105; refine (isTime_any _ _).mono ?_; rintro e w9 ⟨rfl, rfl⟩) | (go_at_call 106; refine (isSpan_any _ _).mono ?_; rintro e w9 ⟨rfl, rfl⟩) | (go_at_call 102; refine (isID_any _ _).mono ?_; rintro e w9 ⟨rfl, rfl⟩) | (go_at_call 107; refine (isGen_any _ _).mono ?_; rintro e w9 ⟨rfl, rfl⟩))
              all_goals go_ret
              all_goals exact ⟨ret_bool (by simp [staOK, *]), unhide HB1⟩
            ·
              go_enter Tryz.func108, Tryz.ntmps108
              go_wp2_with (first | (go_at_call 140; refine (isSecret_any _ _).mono ?_; rintro e w9 ⟨rfl, rfl⟩) | (go_at_call 113; refine (isDigest_any _ _).mono ?_; rintro e w9 ⟨rfl, rfl⟩) | (go_at_call 105; refine (isTime_any _ _).mono ?_; rintro e w9 ⟨rfl, rfl⟩) | (go_at_call 106; refine (isSpan_any _ _).mono ?_; rintro e w9 ⟨rfl, rfl⟩) | (go_at_call 102; refine (isID_any _ _).mono ?_; rintro e w9 ⟨rfl, rfl⟩) | (go_at_call 107; refine (isGen_any _ _).mono ?_; rintro e w9 ⟨rfl, rfl⟩))
              all_goals go_ret
              all_goals exact ⟨ret_bool (by simp [staOK, *]), unhide HB1⟩
      ·
        cases h7 : tim en
        ·
          go_enter Tryz.func108, Tryz.ntmps108
          go_wp2_with (first | (go_at_call 140; refine (isSecret_any _ _).mono ?_; rintro e w9 ⟨rfl, rfl⟩) | (go_at_call 113; refine (isDigest_any _ _).mono ?_; rintro e w9 ⟨rfl, rfl⟩) | (go_at_call 105; refine (isTime_any _ _).mono ?_; rintro e w9 ⟨rfl, rfl⟩) | (go_at_call 106; refine (isSpan_any _ _).mono ?_; rintro e w9 ⟨rfl, rfl⟩) | (go_at_call 102; refine (isID_any _ _).mono ?_; rintro e w9 ⟨rfl, rfl⟩) | (go_at_call 107; refine (isGen_any _ _).mono ?_; rintro e w9 ⟨rfl, rfl⟩))
          all_goals go_ret
          all_goals exact ⟨ret_bool (by simp [staOK, *]), unhide HB1⟩
        ·
          cases h8 : decide (us ≤ en)
          ·
            go_enter Tryz.func108, Tryz.ntmps108
            go_wp2_with (first | (go_at_call 140; refine (isSecret_any _ _).mono ?_; rintro e w9 ⟨rfl, rfl⟩) | (go_at_call 113; refine (isDigest_any _ _).mono ?_; rintro e w9 ⟨rfl, rfl⟩) | (go_at_call 105; refine (isTime_any _ _).mono ?_; rintro e w9 ⟨rfl, rfl⟩) | (go_at_call 106; refine (isSpan_any _ _).mono ?_; rintro e w9 ⟨rfl, rfl⟩) | (go_at_call 102; refine (isID_any _ _).mono ?_; rintro e w9 ⟨rfl, rfl⟩) | (go_at_call 107; refine (isGen_any _ _).mono ?_; rintro e w9 ⟨rfl, rfl⟩))
            all_goals go_ret
            all_goals exact ⟨ret_bool (by simp [staOK, *]), unhide HB1⟩
          ·
            go_enter Tryz.func108, Tryz.ntmps108
            go_wp2_with (first | (go_at_call 140; refine (isSecret_any _ _).mono ?_; rintro e w9 ⟨rfl, rfl⟩) | (go_at_call 113; refine (isDigest_any _ _).mono ?_; rintro e w9 ⟨rfl, rfl⟩) | (go_at_call 105; refine (isTime_any _ _).mono ?_; rintro e w9 ⟨rfl, rfl⟩) | (go_at_call 106; refine (isSpan_any _ _).mono ?_; rintro e w9 ⟨rfl, rfl⟩) | (go_at_call 102; refine (isID_any _ _).mono ?_; rintro e w9 ⟨rfl, rfl⟩) | (go_at_call 107; refine (isGen_any _ _).mono ?_; rintro e w9 ⟨rfl, rfl⟩))
            all_goals go_ret
            all_goals exact ⟨ret_bool (by simp [staOK, *]), unhide HB1⟩
    ·
      cases h9 : tim en
      ·
        go_enter Tryz.func108, Tryz.ntmps108
        go_wp2_with (first | (go_at_call 140; refine (isSecret_any _ _).mono ?_; rintro e w9 ⟨rfl, rfl⟩) | (go_at_call 113; refine (isDigest_any _ _).mono ?_; rintro e w9 ⟨rfl, rfl⟩) | (go_at_call 105; refine (isTime_any _ _).mono ?_; rintro e w9 ⟨rfl, rfl⟩) | (go_at_call 106; refine (isSpan_any _ _).mono ?_; rintro e w9 ⟨rfl, rfl⟩) | (go_at_call 102; refine (isID_any _ _).mono ?_; rintro e w9 ⟨rfl, rfl⟩) | (go_at_call 107; refine (isGen_any _ _).mono ?_; rintro e w9 ⟨rfl, rfl⟩))
        all_goals go_ret
        all_goals exact ⟨ret_bool (by simp [staOK, *]), unhide HB1⟩
      ·
        cases h10 : decide (us ≤ en)
        ·
          go_enter Tryz.func108, Tryz.ntmps108
          go_wp2_with (first | (go_at_call 140; refine (isSecret_any _ _).mono ?_; rintro e w9 ⟨rfl, rfl⟩) | (go_at_call 113; refine (isDigest_any _ _).mono ?_; rintro e w9 ⟨rfl, rfl⟩) | (go_at_call 105; refine (isTime_any _ _).mono ?_; rintro e w9 ⟨rfl, rfl⟩) | (go_at_call 106; refine (isSpan_any _ _).mono ?_; rintro e w9 ⟨rfl, rfl⟩) | (go_at_call 102; refine (isID_any _ _).mono ?_; rintro e w9 ⟨rfl, rfl⟩) | (go_at_call 107; refine (isGen_any _ _).mono ?_; rintro e w9 ⟨rfl, rfl⟩))
          all_goals go_ret
          all_goals exact ⟨ret_bool (by simp [staOK, *]), unhide HB1⟩
        ·
          go_enter Tryz.func108, Tryz.ntmps108
          go_wp2_with (first | (go_at_call 140; refine (isSecret_any _ _).mono ?_; rintro e w9 ⟨rfl, rfl⟩) | (go_at_call 113; refine (isDigest_any _ _).mono ?_; rintro e w9 ⟨rfl, rfl⟩) | (go_at_call 105; refine (isTime_any _ _).mono ?_; rintro e w9 ⟨rfl, rfl⟩) | (go_at_call 106; refine (isSpan_any _ _).mono ?_; rintro e w9 ⟨rfl, rfl⟩) | (go_at_call 102; refine (isID_any _ _).mono ?_; rintro e w9 ⟨rfl, rfl⟩) | (go_at_call 107; refine (isGen_any _ _).mono ?_; rintro e w9 ⟨rfl, rfl⟩))
          all_goals go_ret
          all_goals exact ⟨ret_bool (by simp [staOK, *]), unhide HB1⟩
  ·
    cases h11 : en == 0
    ·
      go_enter Tryz.func108, Tryz.ntmps108
      go_wp2_with (first | (go_at_call 140; refine (isSecret_any _ _).mono ?_; rintro e w9 ⟨rfl, rfl⟩) | (go_at_call 113; refine (isDigest_any _ _).mono ?_; rintro e w9 ⟨rfl, rfl⟩) | (go_at_call 105; refine (isTime_any _ _).mono ?_; rintro e w9 ⟨rfl, rfl⟩) | (go_at_call 106; refine (isSpan_any _ _).mono ?_; rintro e w9 ⟨rfl, rfl⟩) | (go_at_call 102; refine (isID_any _ _).mono ?_; rintro e w9 ⟨rfl, rfl⟩) | (go_at_call 107; refine (isGen_any _ _).mono ?_; rintro e w9 ⟨rfl, rfl⟩))
      all_goals go_ret
      all_goals exact ⟨ret_bool (by simp [staOK, *]), unhide HB1⟩
    ·
      go_enter Tryz.func108, Tryz.ntmps108
      go_wp2_with (first | (go_at_call 140; refine (isSecret_any _ _).mono ?_; rintro e w9 ⟨rfl, rfl⟩) | (go_at_call 113; refine (isDigest_any _ _).mono ?_; rintro e w9 ⟨rfl, rfl⟩) | (go_at_call 105; refine (isTime_any _ _).mono ?_; rintro e w9 ⟨rfl, rfl⟩) | (go_at_call 106; refine (isSpan_any _ _).mono ?_; rintro e w9 ⟨rfl, rfl⟩) | (go_at_call 102; refine (isID_any _ _).mono ?_; rintro e w9 ⟨rfl, rfl⟩) | (go_at_call 107; refine (isGen_any _ _).mono ?_; rintro e w9 ⟨rfl, rfl⟩))
      all_goals go_ret
      all_goals exact ⟨ret_bool (by simp [staOK, *]), unhide HB1⟩
def famOK (id : Int) (cl su : Bs) (sc : List Bs) (cr us idl ab gr ge to st en co : Int) : Bool := idn id && (idn to && ((co == 0 || idn co) && (right [cl] && (right [su] && (right sc && (tim cr && (tim us && (decide (cr ≤ us) && (spn idl && (spn ab && (tim gr && (gnr ge && (staOK us st en)))))))))))))
theorem rightFamily_any (id : Int) (cl su : Bs) (va : Option Addr) (vc : Nat) (sc : List Bs) (cr us idl ab gr ge to st en co : Int) (w : World) (hcl : cl.length ≤ 9223372036854775807) (hsu : su.length ≤ 9223372036854775807) (hsc : Sts w va sc.length sc) (hsl : sc.length ≤ 140737488355000) (hln : Lns sc) : Calls Tryz.prog 76 #[.agg #[I id, S cl, S su, .slice va sc.length vc, I cr, I us, I idl, I ab, I gr, I ge, I to, I st, I en, I co]] w fun e w' => e = .returned (.bool (famOK id cl su sc cr us idl ab gr ge to st en co)) ∧ Below w.heap.size w w' := by
  have hB0 : Below w.heap.size w (w.alloc (.cells #[I id, S cl, S su, .slice va sc.length vc, I cr, I us, I idl, I ab, I gr, I ge, I to, I st, I en, I co] 24)) := (Below.refl _ w).alloc (Nat.le_refl _) _
  have HB := hide hB0
  have c0 : (w.alloc (.cells #[I id, S cl, S su, .slice va sc.length vc, I cr, I us, I idl, I ab, I gr, I ge, I to, I st, I en, I co] 24)).cell? ⟨w.heap.size, 0, none⟩ = some (I id) := cell_new _ _ _ _ _ rfl
  have c1 : (w.alloc (.cells #[I id, S cl, S su, .slice va sc.length vc, I cr, I us, I idl, I ab, I gr, I ge, I to, I st, I en, I co] 24)).cell? ⟨w.heap.size, 1, none⟩ = some (S cl) := cell_new _ _ _ _ _ rfl
  have c2 : (w.alloc (.cells #[I id, S cl, S su, .slice va sc.length vc, I cr, I us, I idl, I ab, I gr, I ge, I to, I st, I en, I co] 24)).cell? ⟨w.heap.size, 2, none⟩ = some (S su) := cell_new _ _ _ _ _ rfl
  have c3 : (w.alloc (.cells #[I id, S cl, S su, .slice va sc.length vc, I cr, I us, I idl, I ab, I gr, I ge, I to, I st, I en, I co] 24)).cell? ⟨w.heap.size, 3, none⟩ = some (.slice va sc.length vc) := cell_new _ _ _ _ _ rfl
  have c4 : (w.alloc (.cells #[I id, S cl, S su, .slice va sc.length vc, I cr, I us, I idl, I ab, I gr, I ge, I to, I st, I en, I co] 24)).cell? ⟨w.heap.size, 4, none⟩ = some (I cr) := cell_new _ _ _ _ _ rfl
  have c5 : (w.alloc (.cells #[I id, S cl, S su, .slice va sc.length vc, I cr, I us, I idl, I ab, I gr, I ge, I to, I st, I en, I co] 24)).cell? ⟨w.heap.size, 5, none⟩ = some (I us) := cell_new _ _ _ _ _ rfl
  have c6 : (w.alloc (.cells #[I id, S cl, S su, .slice va sc.length vc, I cr, I us, I idl, I ab, I gr, I ge, I to, I st, I en, I co] 24)).cell? ⟨w.heap.size, 6, none⟩ = some (I idl) := cell_new _ _ _ _ _ rfl
  have c7 : (w.alloc (.cells #[I id, S cl, S su, .slice va sc.length vc, I cr, I us, I idl, I ab, I gr, I ge, I to, I st, I en, I co] 24)).cell? ⟨w.heap.size, 7, none⟩ = some (I ab) := cell_new _ _ _ _ _ rfl
  have c8 : (w.alloc (.cells #[I id, S cl, S su, .slice va sc.length vc, I cr, I us, I idl, I ab, I gr, I ge, I to, I st, I en, I co] 24)).cell? ⟨w.heap.size, 8, none⟩ = some (I gr) := cell_new _ _ _ _ _ rfl
  have c9 : (w.alloc (.cells #[I id, S cl, S su, .slice va sc.length vc, I cr, I us, I idl, I ab, I gr, I ge, I to, I st, I en, I co] 24)).cell? ⟨w.heap.size, 9, none⟩ = some (I ge) := cell_new _ _ _ _ _ rfl
  have c10 : (w.alloc (.cells #[I id, S cl, S su, .slice va sc.length vc, I cr, I us, I idl, I ab, I gr, I ge, I to, I st, I en, I co] 24)).cell? ⟨w.heap.size, 10, none⟩ = some (I to) := cell_new _ _ _ _ _ rfl
  have c11 : (w.alloc (.cells #[I id, S cl, S su, .slice va sc.length vc, I cr, I us, I idl, I ab, I gr, I ge, I to, I st, I en, I co] 24)).cell? ⟨w.heap.size, 11, none⟩ = some (I st) := cell_new _ _ _ _ _ rfl
  have c12 : (w.alloc (.cells #[I id, S cl, S su, .slice va sc.length vc, I cr, I us, I idl, I ab, I gr, I ge, I to, I st, I en, I co] 24)).cell? ⟨w.heap.size, 12, none⟩ = some (I en) := cell_new _ _ _ _ _ rfl
  have c13 : (w.alloc (.cells #[I id, S cl, S su, .slice va sc.length vc, I cr, I us, I idl, I ab, I gr, I ge, I to, I st, I en, I co] 24)).cell? ⟨w.heap.size, 13, none⟩ = some (I co) := cell_new _ _ _ _ _ rfl
  have hlt : w.heap.size < (w.alloc (.cells #[I id, S cl, S su, .slice va sc.length vc, I cr, I us, I idl, I ab, I gr, I ge, I to, I st, I en, I co] 24)).heap.size := by simp
  generalize hW1 : w.alloc (.cells #[I id, S cl, S su, .slice va sc.length vc, I cr, I us, I idl, I ab, I gr, I ge, I to, I st, I en, I co] 24) = W1 at *
  clear hB0
  obtain ⟨R, hR⟩ : ∃ R, R = famOK id cl su sc cr us idl ab gr ge to st en co := ⟨_, rfl⟩
  have HR := hide hR
  rw [← hR]
  clear hR
  go_enter Tryz.func76, Tryz.ntmps76
  simp only [List.append_eq, List.cons_append, List.nil_append]
  go_wp2_with fail
  refine (isID_any _ _).mono ?_
  rintro e w9 ⟨rfl, hw9⟩
  rw [hw9]
  clear hw9
  cases h1 : idn id
  ·
    go_wp2
    all_goals go_ret
    all_goals exact ⟨ret_bool (by rw [unhide HR]; simp [famOK, *]), unhide HB⟩
  ·
    go_wp2_with fail
    refine (isID_any _ _).mono ?_
    rintro e w9 ⟨rfl, hw9⟩
    rw [hw9]
    clear hw9
    cases h2 : idn to
    ·
      go_wp2
      all_goals go_ret
      all_goals exact ⟨ret_bool (by rw [unhide HR]; simp [famOK, *]), unhide HB⟩
    ·
      cases h3 : co == 0
      ·
        go_wp2_with fail
        refine (isID_any _ _).mono ?_
        rintro e w9 ⟨rfl, hw9⟩
        rw [hw9]
        clear hw9
        cases h4 : idn co
        ·
          go_wp2
          all_goals go_ret
          all_goals exact ⟨ret_bool (by rw [unhide HR]; simp [famOK, *]), unhide HB⟩
        ·
          go_wp2_with fail
          refine (isNm_any cl _ (by assumption)).mono ?_
          rintro e v5 ⟨rfl, hv⟩
          replace c0 := cell_below c0 hv hlt
          replace c1 := cell_below c1 hv hlt
          replace c2 := cell_below c2 hv hlt
          replace c3 := cell_below c3 hv hlt
          replace c4 := cell_below c4 hv hlt
          replace c5 := cell_below c5 hv hlt
          replace c6 := cell_below c6 hv hlt
          replace c7 := cell_below c7 hv hlt
          replace c8 := cell_below c8 hv hlt
          replace c9 := cell_below c9 hv hlt
          replace c10 := cell_below c10 hv hlt
          replace c11 := cell_below c11 hv hlt
          replace c12 := cell_below c12 hv hlt
          replace c13 := cell_below c13 hv hlt
          replace hlt : w.heap.size < v5.heap.size := Nat.lt_of_lt_of_le hlt hv.size
          replace HB := hide ((unhide HB).trans (hv.mono (unhide HB).size))
          clear hv
          cases h5 : right [cl]
          ·
            go_wp2
            all_goals go_ret
            all_goals exact ⟨ret_bool (by rw [unhide HR]; simp [famOK, *]), unhide HB⟩
          ·
            go_wp2_with fail
            refine (isNm_any su _ (by assumption)).mono ?_
            rintro e v6 ⟨rfl, hv⟩
            replace c0 := cell_below c0 hv hlt
            replace c1 := cell_below c1 hv hlt
            replace c2 := cell_below c2 hv hlt
            replace c3 := cell_below c3 hv hlt
            replace c4 := cell_below c4 hv hlt
            replace c5 := cell_below c5 hv hlt
            replace c6 := cell_below c6 hv hlt
            replace c7 := cell_below c7 hv hlt
            replace c8 := cell_below c8 hv hlt
            replace c9 := cell_below c9 hv hlt
            replace c10 := cell_below c10 hv hlt
            replace c11 := cell_below c11 hv hlt
            replace c12 := cell_below c12 hv hlt
            replace c13 := cell_below c13 hv hlt
            replace hlt : w.heap.size < v6.heap.size := Nat.lt_of_lt_of_le hlt hv.size
            replace HB := hide ((unhide HB).trans (hv.mono (unhide HB).size))
            clear hv
            cases h6 : right [su]
            ·
              go_wp2
              all_goals go_ret
              all_goals exact ⟨ret_bool (by rw [unhide HR]; simp [famOK, *]), unhide HB⟩
            ·
              go_wp2_with fail
              refine (Right_any va sc.length vc sc _ (Sts.bel hsc (unhide HB)) hsl hln).mono ?_
              rintro e v7 ⟨rfl, hv⟩
              replace c0 := cell_below c0 hv hlt
              replace c1 := cell_below c1 hv hlt
              replace c2 := cell_below c2 hv hlt
              replace c3 := cell_below c3 hv hlt
              replace c4 := cell_below c4 hv hlt
              replace c5 := cell_below c5 hv hlt
              replace c6 := cell_below c6 hv hlt
              replace c7 := cell_below c7 hv hlt
              replace c8 := cell_below c8 hv hlt
              replace c9 := cell_below c9 hv hlt
              replace c10 := cell_below c10 hv hlt
              replace c11 := cell_below c11 hv hlt
              replace c12 := cell_below c12 hv hlt
              replace c13 := cell_below c13 hv hlt
              replace hlt : w.heap.size < v7.heap.size := Nat.lt_of_lt_of_le hlt hv.size
              replace HB := hide ((unhide HB).trans (hv.mono (unhide HB).size))
              clear hv
              cases h7 : right sc
              ·
                go_wp2
                all_goals go_ret
                all_goals exact ⟨ret_bool (by rw [unhide HR]; simp [famOK, *]), unhide HB⟩
              ·
                go_wp2_with fail
                refine (isTime_any _ _).mono ?_
                rintro e w9 ⟨rfl, hw9⟩
                rw [hw9]
                clear hw9
                cases h8 : tim cr
                ·
                  go_wp2
                  all_goals go_ret
                  all_goals exact ⟨ret_bool (by rw [unhide HR]; simp [famOK, *]), unhide HB⟩
                ·
                  go_wp2_with fail
                  refine (isTime_any _ _).mono ?_
                  rintro e w9 ⟨rfl, hw9⟩
                  rw [hw9]
                  clear hw9
                  cases h9 : tim us
                  ·
                    go_wp2
                    all_goals go_ret
                    all_goals exact ⟨ret_bool (by rw [unhide HR]; simp [famOK, *]), unhide HB⟩
                  ·
                    cases h10 : decide (cr ≤ us)
                    ·
                      go_wp2
                      all_goals go_ret
                      all_goals exact ⟨ret_bool (by rw [unhide HR]; simp [famOK, *]), unhide HB⟩
                    ·
                      go_wp2_with fail
                      refine (isSpan_any _ _).mono ?_
                      rintro e w9 ⟨rfl, hw9⟩
                      rw [hw9]
                      clear hw9
                      cases h11 : spn idl
                      ·
                        go_wp2
                        all_goals go_ret
                        all_goals exact ⟨ret_bool (by rw [unhide HR]; simp [famOK, *]), unhide HB⟩
                      ·
                        go_wp2_with fail
                        refine (isSpan_any _ _).mono ?_
                        rintro e w9 ⟨rfl, hw9⟩
                        rw [hw9]
                        clear hw9
                        cases h12 : spn ab
                        ·
                          go_wp2
                          all_goals go_ret
                          all_goals exact ⟨ret_bool (by rw [unhide HR]; simp [famOK, *]), unhide HB⟩
                        ·
                          go_wp2_with fail
                          refine (isTime_any _ _).mono ?_
                          rintro e w9 ⟨rfl, hw9⟩
                          rw [hw9]
                          clear hw9
                          cases h13 : tim gr
                          ·
                            go_wp2
                            all_goals go_ret
                            all_goals exact ⟨ret_bool (by rw [unhide HR]; simp [famOK, *]), unhide HB⟩
                          ·
                            go_wp2_with fail
                            refine (isGen_any _ _).mono ?_
                            rintro e w9 ⟨rfl, hw9⟩
                            rw [hw9]
                            clear hw9
                            cases h14 : gnr ge
                            ·
                              go_wp2
                              all_goals go_ret
                              all_goals exact ⟨ret_bool (by rw [unhide HR]; simp [famOK, *]), unhide HB⟩
                            ·
                              go_wp2_with fail
                              refine (rightState_any id cl su va vc sc cr us idl ab gr ge to st en co _).mono ?_
                              rintro e v15 ⟨rfl, hv⟩
                              replace c0 := cell_below c0 hv hlt
                              replace c1 := cell_below c1 hv hlt
                              replace c2 := cell_below c2 hv hlt
                              replace c3 := cell_below c3 hv hlt
                              replace c4 := cell_below c4 hv hlt
                              replace c5 := cell_below c5 hv hlt
                              replace c6 := cell_below c6 hv hlt
                              replace c7 := cell_below c7 hv hlt
                              replace c8 := cell_below c8 hv hlt
                              replace c9 := cell_below c9 hv hlt
                              replace c10 := cell_below c10 hv hlt
                              replace c11 := cell_below c11 hv hlt
                              replace c12 := cell_below c12 hv hlt
                              replace c13 := cell_below c13 hv hlt
                              replace hlt : w.heap.size < v15.heap.size := Nat.lt_of_lt_of_le hlt hv.size
                              replace HB := hide ((unhide HB).trans (hv.mono (unhide HB).size))
                              clear hv
                              cases h15 : staOK us st en
                              ·
                                go_wp2
                                all_goals go_ret
                                all_goals exact ⟨ret_bool (by rw [unhide HR]; simp [famOK, *]), unhide HB⟩
                              ·
                                go_wp2
                                all_goals go_ret
                                all_goals exact ⟨ret_bool (by rw [unhide HR]; simp [famOK, *]), unhide HB⟩
      ·
        go_wp2_with fail
        refine (isNm_any cl _ (by assumption)).mono ?_
        rintro e v16 ⟨rfl, hv⟩
        replace c0 := cell_below c0 hv hlt
        replace c1 := cell_below c1 hv hlt
        replace c2 := cell_below c2 hv hlt
        replace c3 := cell_below c3 hv hlt
        replace c4 := cell_below c4 hv hlt
        replace c5 := cell_below c5 hv hlt
        replace c6 := cell_below c6 hv hlt
        replace c7 := cell_below c7 hv hlt
        replace c8 := cell_below c8 hv hlt
        replace c9 := cell_below c9 hv hlt
        replace c10 := cell_below c10 hv hlt
        replace c11 := cell_below c11 hv hlt
        replace c12 := cell_below c12 hv hlt
        replace c13 := cell_below c13 hv hlt
        replace hlt : w.heap.size < v16.heap.size := Nat.lt_of_lt_of_le hlt hv.size
        replace HB := hide ((unhide HB).trans (hv.mono (unhide HB).size))
        clear hv
        cases h16 : right [cl]
        ·
          go_wp2
          all_goals go_ret
          all_goals exact ⟨ret_bool (by rw [unhide HR]; simp [famOK, *]), unhide HB⟩
        ·
          go_wp2_with fail
          refine (isNm_any su _ (by assumption)).mono ?_
          rintro e v17 ⟨rfl, hv⟩
          replace c0 := cell_below c0 hv hlt
          replace c1 := cell_below c1 hv hlt
          replace c2 := cell_below c2 hv hlt
          replace c3 := cell_below c3 hv hlt
          replace c4 := cell_below c4 hv hlt
          replace c5 := cell_below c5 hv hlt
          replace c6 := cell_below c6 hv hlt
          replace c7 := cell_below c7 hv hlt
          replace c8 := cell_below c8 hv hlt
          replace c9 := cell_below c9 hv hlt
          replace c10 := cell_below c10 hv hlt
          replace c11 := cell_below c11 hv hlt
          replace c12 := cell_below c12 hv hlt
          replace c13 := cell_below c13 hv hlt
          replace hlt : w.heap.size < v17.heap.size := Nat.lt_of_lt_of_le hlt hv.size
          replace HB := hide ((unhide HB).trans (hv.mono (unhide HB).size))
          clear hv
          cases h17 : right [su]
          ·
            go_wp2
            all_goals go_ret
            all_goals exact ⟨ret_bool (by rw [unhide HR]; simp [famOK, *]), unhide HB⟩
          ·
            go_wp2_with fail
            refine (Right_any va sc.length vc sc _ (Sts.bel hsc (unhide HB)) hsl hln).mono ?_
            rintro e v18 ⟨rfl, hv⟩
            replace c0 := cell_below c0 hv hlt
            replace c1 := cell_below c1 hv hlt
            replace c2 := cell_below c2 hv hlt
            replace c3 := cell_below c3 hv hlt
            replace c4 := cell_below c4 hv hlt
            replace c5 := cell_below c5 hv hlt
            replace c6 := cell_below c6 hv hlt
            replace c7 := cell_below c7 hv hlt
            replace c8 := cell_below c8 hv hlt
            replace c9 := cell_below c9 hv hlt
            replace c10 := cell_below c10 hv hlt
            replace c11 := cell_below c11 hv hlt
            replace c12 := cell_below c12 hv hlt
            replace c13 := cell_below c13 hv hlt
            replace hlt : w.heap.size < v18.heap.size := Nat.lt_of_lt_of_le hlt hv.size
            replace HB := hide ((unhide HB).trans (hv.mono (unhide HB).size))
            clear hv
            cases h18 : right sc
            ·
              go_wp2
              all_goals go_ret
              all_goals exact ⟨ret_bool (by rw [unhide HR]; simp [famOK, *]), unhide HB⟩
            ·
              go_wp2_with fail
              refine (isTime_any _ _).mono ?_
              rintro e w9 ⟨rfl, hw9⟩
              rw [hw9]
              clear hw9
              cases h19 : tim cr
              ·
                go_wp2
                all_goals go_ret
                all_goals exact ⟨ret_bool (by rw [unhide HR]; simp [famOK, *]), unhide HB⟩
              ·
                go_wp2_with fail
                refine (isTime_any _ _).mono ?_
                rintro e w9 ⟨rfl, hw9⟩
                rw [hw9]
                clear hw9
                cases h20 : tim us
                ·
                  go_wp2
                  all_goals go_ret
                  all_goals exact ⟨ret_bool (by rw [unhide HR]; simp [famOK, *]), unhide HB⟩
                ·
                  cases h21 : decide (cr ≤ us)
                  ·
                    go_wp2
                    all_goals go_ret
                    all_goals exact ⟨ret_bool (by rw [unhide HR]; simp [famOK, *]), unhide HB⟩
                  ·
                    go_wp2_with fail
                    refine (isSpan_any _ _).mono ?_
                    rintro e w9 ⟨rfl, hw9⟩
                    rw [hw9]
                    clear hw9
                    cases h22 : spn idl
                    ·
                      go_wp2
                      all_goals go_ret
                      all_goals exact ⟨ret_bool (by rw [unhide HR]; simp [famOK, *]), unhide HB⟩
                    ·
                      go_wp2_with fail
                      refine (isSpan_any _ _).mono ?_
                      rintro e w9 ⟨rfl, hw9⟩
                      rw [hw9]
                      clear hw9
                      cases h23 : spn ab
                      ·
                        go_wp2
                        all_goals go_ret
                        all_goals exact ⟨ret_bool (by rw [unhide HR]; simp [famOK, *]), unhide HB⟩
                      ·
                        go_wp2_with fail
                        refine (isTime_any _ _).mono ?_
                        rintro e w9 ⟨rfl, hw9⟩
                        rw [hw9]
                        clear hw9
                        cases h24 : tim gr
                        ·
                          go_wp2
                          all_goals go_ret
                          all_goals exact ⟨ret_bool (by rw [unhide HR]; simp [famOK, *]), unhide HB⟩
                        ·
                          go_wp2_with fail
                          refine (isGen_any _ _).mono ?_
                          rintro e w9 ⟨rfl, hw9⟩
                          rw [hw9]
                          clear hw9
                          cases h25 : gnr ge
                          ·
                            go_wp2
                            all_goals go_ret
                            all_goals exact ⟨ret_bool (by rw [unhide HR]; simp [famOK, *]), unhide HB⟩
                          ·
                            go_wp2_with fail
                            refine (rightState_any id cl su va vc sc cr us idl ab gr ge to st en co _).mono ?_
                            rintro e v26 ⟨rfl, hv⟩
                            replace c0 := cell_below c0 hv hlt
                            replace c1 := cell_below c1 hv hlt
                            replace c2 := cell_below c2 hv hlt
                            replace c3 := cell_below c3 hv hlt
                            replace c4 := cell_below c4 hv hlt
                            replace c5 := cell_below c5 hv hlt
                            replace c6 := cell_below c6 hv hlt
                            replace c7 := cell_below c7 hv hlt
                            replace c8 := cell_below c8 hv hlt
                            replace c9 := cell_below c9 hv hlt
                            replace c10 := cell_below c10 hv hlt
                            replace c11 := cell_below c11 hv hlt
                            replace c12 := cell_below c12 hv hlt
                            replace c13 := cell_below c13 hv hlt
                            replace hlt : w.heap.size < v26.heap.size := Nat.lt_of_lt_of_le hlt hv.size
                            replace HB := hide ((unhide HB).trans (hv.mono (unhide HB).size))
                            clear hv
                            cases h26 : staOK us st en
                            ·
                              go_wp2
                              all_goals go_ret
                              all_goals exact ⟨ret_bool (by rw [unhide HR]; simp [famOK, *]), unhide HB⟩
                            ·
                              go_wp2
                              all_goals go_ret
                              all_goals exact ⟨ret_bool (by rw [unhide HR]; simp [famOK, *]), unhide HB⟩
end Go.Proofs.YtmjaobddgaglhaaGreatDoor
namespace Go.Proofs.YtmjaobddgaglhaaGreatDoor
open Go.RowKit
def lx (l : List Bs) : Nat → Bs := fun i => l.getD i []
theorem inf30 : (Tryz.prog.info? 87).map (·.size) = some 2 := by kernel_rfl
theorem wp_st30 {ops : Array Oper} {rest : List Oper} {o : Oper} {a : Act} {w : World} {Q : Exit → Act → World → Prop} (hgd : o.guard = none) (x y : Operand) (ho : o.op = .store 87 x y)
    (P : Nat) (hx : a.eval x = .pointer (some ⟨P, 0, none⟩)) (k v : Bs) (hy : a.eval y = .agg #[S k, S v]) (old : Array Value) (ho5 : old.size = 2) (hg : w.heap[P]? = some (.cells old 87 (0, 0)))
    (h : wpList Tryz.prog ops Q rest (a.put o.dst undef) (w.setRow P #[S k, S v])) : wpList Tryz.prog ops Q (o :: rest) a w :=
  wpList_store_row hgd 87 x y ho P _ hx hy 87 old hg inf30 (by rw [ho5]; rfl) (by simp [Value.oneCell']) h
theorem right_one {s : Bs} (h : right [s] = true) : 1 ≤ s.length ∧ s.length ≤ 16 := by
  have h1 := (right_iff.1 h).1 s (by simp)
  simp [nm] at h1
  omega
end Go.Proofs.YtmjaobddgaglhaaGreatDoor
namespace Go.Proofs.YtmjaobddgaglhaaGreatDoor
open Go.RowKit
set_option maxHeartbeats 4000000
set_option maxRecDepth 8000
def spOK (mi : Int) (sp : Bool) (at9 ne : Int) (se : Bs) : Bool := if sp then tim at9 && (decide (mi ≤ at9) && (idn ne && se.length == 24)) else (at9 == 0) && ((ne == 0) && (se == []))
theorem rightSpent_any (id fa ge : Int) (ha : Bs) (mi : Int) (sp : Bool) (at9 ne : Int) (se : Bs)  (w : World) : Calls Tryz.prog 114 #[.agg #[I id, I fa, I ge, S ha, I mi, .bool sp, I at9, I ne, S se]] w fun e w' => e = .returned (.bool (spOK mi sp at9 ne se)) ∧ Below w.heap.size w w' := by
  have hB0 : Below w.heap.size w (w.alloc (.cells #[I id, I fa, I ge, S ha, I mi, .bool sp, I at9, I ne, S se] 26)) := (Below.refl _ w).alloc (Nat.le_refl _) _
  have HB1 := hide hB0
  have c0 : (w.alloc (.cells #[I id, I fa, I ge, S ha, I mi, .bool sp, I at9, I ne, S se] 26)).cell? ⟨w.heap.size, 0, none⟩ = some (I id) := cell_new _ _ _ _ _ rfl
  have c1 : (w.alloc (.cells #[I id, I fa, I ge, S ha, I mi, .bool sp, I at9, I ne, S se] 26)).cell? ⟨w.heap.size, 1, none⟩ = some (I fa) := cell_new _ _ _ _ _ rfl
  have c2 : (w.alloc (.cells #[I id, I fa, I ge, S ha, I mi, .bool sp, I at9, I ne, S se] 26)).cell? ⟨w.heap.size, 2, none⟩ = some (I ge) := cell_new _ _ _ _ _ rfl
  have c3 : (w.alloc (.cells #[I id, I fa, I ge, S ha, I mi, .bool sp, I at9, I ne, S se] 26)).cell? ⟨w.heap.size, 3, none⟩ = some (S ha) := cell_new _ _ _ _ _ rfl
  have c4 : (w.alloc (.cells #[I id, I fa, I ge, S ha, I mi, .bool sp, I at9, I ne, S se] 26)).cell? ⟨w.heap.size, 4, none⟩ = some (I mi) := cell_new _ _ _ _ _ rfl
  have c5 : (w.alloc (.cells #[I id, I fa, I ge, S ha, I mi, .bool sp, I at9, I ne, S se] 26)).cell? ⟨w.heap.size, 5, none⟩ = some (.bool sp) := cell_new _ _ _ _ _ rfl
  have c6 : (w.alloc (.cells #[I id, I fa, I ge, S ha, I mi, .bool sp, I at9, I ne, S se] 26)).cell? ⟨w.heap.size, 6, none⟩ = some (I at9) := cell_new _ _ _ _ _ rfl
  have c7 : (w.alloc (.cells #[I id, I fa, I ge, S ha, I mi, .bool sp, I at9, I ne, S se] 26)).cell? ⟨w.heap.size, 7, none⟩ = some (I ne) := cell_new _ _ _ _ _ rfl
  have c8 : (w.alloc (.cells #[I id, I fa, I ge, S ha, I mi, .bool sp, I at9, I ne, S se] 26)).cell? ⟨w.heap.size, 8, none⟩ = some (S se) := cell_new _ _ _ _ _ rfl
  have hlt1 : w.heap.size < (w.alloc (.cells #[I id, I fa, I ge, S ha, I mi, .bool sp, I at9, I ne, S se] 26)).heap.size := by simp
  generalize hW1 : w.alloc (.cells #[I id, I fa, I ge, S ha, I mi, .bool sp, I at9, I ne, S se] 26) = W1 at *
  have hX1 := hB0.size
  clear hB0
  cases sp
  ·
    cases h2 : at9 == 0
    ·
      go_enter Tryz.func114, Tryz.ntmps114
      go_wp2_with (first | (go_at_call 140; refine (isSecret_any _ _).mono ?_; rintro e w9 ⟨rfl, rfl⟩) | (go_at_call 113; refine (isDigest_any _ _).mono ?_; rintro e w9 ⟨rfl, rfl⟩) | (go_at_call 105; refine (isTime_any _ _).mono ?_; rintro e w9 ⟨rfl, rfl⟩) | (go_at_call 106; refine (isSpan_any _ _).mono ?_; rintro e w9 ⟨rfl, rfl⟩) | (go_at_call 102; refine (isID_any _ _).mono ?_; rintro e w9 ⟨rfl, rfl⟩) | (go_at_call 107; refine (isGen_any _ _).mono ?_; rintro e w9 ⟨rfl, rfl⟩))
      all_goals go_ret
      all_goals exact ⟨ret_bool (by simp [spOK, *]), unhide HB1⟩
    ·
      cases h3 : ne == 0
      ·
        go_enter Tryz.func114, Tryz.ntmps114
        go_wp2_with (first | (go_at_call 140; refine (isSecret_any _ _).mono ?_; rintro e w9 ⟨rfl, rfl⟩) | (go_at_call 113; refine (isDigest_any _ _).mono ?_; rintro e w9 ⟨rfl, rfl⟩) | (go_at_call 105; refine (isTime_any _ _).mono ?_; rintro e w9 ⟨rfl, rfl⟩) | (go_at_call 106; refine (isSpan_any _ _).mono ?_; rintro e w9 ⟨rfl, rfl⟩) | (go_at_call 102; refine (isID_any _ _).mono ?_; rintro e w9 ⟨rfl, rfl⟩) | (go_at_call 107; refine (isGen_any _ _).mono ?_; rintro e w9 ⟨rfl, rfl⟩))
        all_goals go_ret
        all_goals exact ⟨ret_bool (by simp [spOK, *]), unhide HB1⟩
      ·
        by_cases h4 : se = []
        · subst h4
          go_enter Tryz.func114, Tryz.ntmps114
          go_wp2_with (first | (go_at_call 140; refine (isSecret_any _ _).mono ?_; rintro e w9 ⟨rfl, rfl⟩) | (go_at_call 113; refine (isDigest_any _ _).mono ?_; rintro e w9 ⟨rfl, rfl⟩) | (go_at_call 105; refine (isTime_any _ _).mono ?_; rintro e w9 ⟨rfl, rfl⟩) | (go_at_call 106; refine (isSpan_any _ _).mono ?_; rintro e w9 ⟨rfl, rfl⟩) | (go_at_call 102; refine (isID_any _ _).mono ?_; rintro e w9 ⟨rfl, rfl⟩) | (go_at_call 107; refine (isGen_any _ _).mono ?_; rintro e w9 ⟨rfl, rfl⟩))
          all_goals go_ret
          all_goals exact ⟨ret_bool (by simp [spOK, *]), unhide HB1⟩
        · have h4b : (se == []) = false := by simpa using h4
          go_enter Tryz.func114, Tryz.ntmps114
          go_wp2_with (first | (go_at_call 140; refine (isSecret_any _ _).mono ?_; rintro e w9 ⟨rfl, rfl⟩) | (go_at_call 113; refine (isDigest_any _ _).mono ?_; rintro e w9 ⟨rfl, rfl⟩) | (go_at_call 105; refine (isTime_any _ _).mono ?_; rintro e w9 ⟨rfl, rfl⟩) | (go_at_call 106; refine (isSpan_any _ _).mono ?_; rintro e w9 ⟨rfl, rfl⟩) | (go_at_call 102; refine (isID_any _ _).mono ?_; rintro e w9 ⟨rfl, rfl⟩) | (go_at_call 107; refine (isGen_any _ _).mono ?_; rintro e w9 ⟨rfl, rfl⟩))
          all_goals go_ret
          all_goals exact ⟨ret_bool (by simp [spOK, *]), unhide HB1⟩
  ·
    cases h5 : tim at9
    ·
      go_enter Tryz.func114, Tryz.ntmps114
      go_wp2_with (first | (go_at_call 140; refine (isSecret_any _ _).mono ?_; rintro e w9 ⟨rfl, rfl⟩) | (go_at_call 113; refine (isDigest_any _ _).mono ?_; rintro e w9 ⟨rfl, rfl⟩) | (go_at_call 105; refine (isTime_any _ _).mono ?_; rintro e w9 ⟨rfl, rfl⟩) | (go_at_call 106; refine (isSpan_any _ _).mono ?_; rintro e w9 ⟨rfl, rfl⟩) | (go_at_call 102; refine (isID_any _ _).mono ?_; rintro e w9 ⟨rfl, rfl⟩) | (go_at_call 107; refine (isGen_any _ _).mono ?_; rintro e w9 ⟨rfl, rfl⟩))
      all_goals go_ret
      all_goals exact ⟨ret_bool (by simp [spOK, *]), unhide HB1⟩
    ·
      cases h6 : decide (mi ≤ at9)
      ·
        go_enter Tryz.func114, Tryz.ntmps114
        go_wp2_with (first | (go_at_call 140; refine (isSecret_any _ _).mono ?_; rintro e w9 ⟨rfl, rfl⟩) | (go_at_call 113; refine (isDigest_any _ _).mono ?_; rintro e w9 ⟨rfl, rfl⟩) | (go_at_call 105; refine (isTime_any _ _).mono ?_; rintro e w9 ⟨rfl, rfl⟩) | (go_at_call 106; refine (isSpan_any _ _).mono ?_; rintro e w9 ⟨rfl, rfl⟩) | (go_at_call 102; refine (isID_any _ _).mono ?_; rintro e w9 ⟨rfl, rfl⟩) | (go_at_call 107; refine (isGen_any _ _).mono ?_; rintro e w9 ⟨rfl, rfl⟩))
        all_goals go_ret
        all_goals exact ⟨ret_bool (by simp [spOK, *]), unhide HB1⟩
      ·
        cases h7 : idn ne
        ·
          go_enter Tryz.func114, Tryz.ntmps114
          go_wp2_with (first | (go_at_call 140; refine (isSecret_any _ _).mono ?_; rintro e w9 ⟨rfl, rfl⟩) | (go_at_call 113; refine (isDigest_any _ _).mono ?_; rintro e w9 ⟨rfl, rfl⟩) | (go_at_call 105; refine (isTime_any _ _).mono ?_; rintro e w9 ⟨rfl, rfl⟩) | (go_at_call 106; refine (isSpan_any _ _).mono ?_; rintro e w9 ⟨rfl, rfl⟩) | (go_at_call 102; refine (isID_any _ _).mono ?_; rintro e w9 ⟨rfl, rfl⟩) | (go_at_call 107; refine (isGen_any _ _).mono ?_; rintro e w9 ⟨rfl, rfl⟩))
          all_goals go_ret
          all_goals exact ⟨ret_bool (by simp [spOK, *]), unhide HB1⟩
        ·
          cases h8 : se.length == 24
          ·
            go_enter Tryz.func114, Tryz.ntmps114
            go_wp2_with (first | (go_at_call 140; refine (isSecret_any _ _).mono ?_; rintro e w9 ⟨rfl, rfl⟩) | (go_at_call 113; refine (isDigest_any _ _).mono ?_; rintro e w9 ⟨rfl, rfl⟩) | (go_at_call 105; refine (isTime_any _ _).mono ?_; rintro e w9 ⟨rfl, rfl⟩) | (go_at_call 106; refine (isSpan_any _ _).mono ?_; rintro e w9 ⟨rfl, rfl⟩) | (go_at_call 102; refine (isID_any _ _).mono ?_; rintro e w9 ⟨rfl, rfl⟩) | (go_at_call 107; refine (isGen_any _ _).mono ?_; rintro e w9 ⟨rfl, rfl⟩))
            all_goals go_ret
            all_goals exact ⟨ret_bool (by simp [spOK, *]), unhide HB1⟩
          ·
            go_enter Tryz.func114, Tryz.ntmps114
            go_wp2_with (first | (go_at_call 140; refine (isSecret_any _ _).mono ?_; rintro e w9 ⟨rfl, rfl⟩) | (go_at_call 113; refine (isDigest_any _ _).mono ?_; rintro e w9 ⟨rfl, rfl⟩) | (go_at_call 105; refine (isTime_any _ _).mono ?_; rintro e w9 ⟨rfl, rfl⟩) | (go_at_call 106; refine (isSpan_any _ _).mono ?_; rintro e w9 ⟨rfl, rfl⟩) | (go_at_call 102; refine (isID_any _ _).mono ?_; rintro e w9 ⟨rfl, rfl⟩) | (go_at_call 107; refine (isGen_any _ _).mono ?_; rintro e w9 ⟨rfl, rfl⟩))
            all_goals go_ret
            all_goals exact ⟨ret_bool (by simp [spOK, *]), unhide HB1⟩
def tokOK (id fa ge : Int) (ha : Bs) (mi : Int) (sp : Bool) (at9 ne : Int) (se : Bs) : Bool := idn id && (idn fa && (gnr ge && (ha.length == 32 && (tim mi && (spOK mi sp at9 ne se)))))
theorem rightToken_any (id fa ge : Int) (ha : Bs) (mi : Int) (sp : Bool) (at9 ne : Int) (se : Bs)  (w : World) : Calls Tryz.prog 79 #[.agg #[I id, I fa, I ge, S ha, I mi, .bool sp, I at9, I ne, S se]] w fun e w' => e = .returned (.bool (tokOK id fa ge ha mi sp at9 ne se)) ∧ Below w.heap.size w w' := by
  have hB0 : Below w.heap.size w (w.alloc (.cells #[I id, I fa, I ge, S ha, I mi, .bool sp, I at9, I ne, S se] 26)) := (Below.refl _ w).alloc (Nat.le_refl _) _
  have HB1 := hide hB0
  have c0 : (w.alloc (.cells #[I id, I fa, I ge, S ha, I mi, .bool sp, I at9, I ne, S se] 26)).cell? ⟨w.heap.size, 0, none⟩ = some (I id) := cell_new _ _ _ _ _ rfl
  have c1 : (w.alloc (.cells #[I id, I fa, I ge, S ha, I mi, .bool sp, I at9, I ne, S se] 26)).cell? ⟨w.heap.size, 1, none⟩ = some (I fa) := cell_new _ _ _ _ _ rfl
  have c2 : (w.alloc (.cells #[I id, I fa, I ge, S ha, I mi, .bool sp, I at9, I ne, S se] 26)).cell? ⟨w.heap.size, 2, none⟩ = some (I ge) := cell_new _ _ _ _ _ rfl
  have c3 : (w.alloc (.cells #[I id, I fa, I ge, S ha, I mi, .bool sp, I at9, I ne, S se] 26)).cell? ⟨w.heap.size, 3, none⟩ = some (S ha) := cell_new _ _ _ _ _ rfl
  have c4 : (w.alloc (.cells #[I id, I fa, I ge, S ha, I mi, .bool sp, I at9, I ne, S se] 26)).cell? ⟨w.heap.size, 4, none⟩ = some (I mi) := cell_new _ _ _ _ _ rfl
  have c5 : (w.alloc (.cells #[I id, I fa, I ge, S ha, I mi, .bool sp, I at9, I ne, S se] 26)).cell? ⟨w.heap.size, 5, none⟩ = some (.bool sp) := cell_new _ _ _ _ _ rfl
  have c6 : (w.alloc (.cells #[I id, I fa, I ge, S ha, I mi, .bool sp, I at9, I ne, S se] 26)).cell? ⟨w.heap.size, 6, none⟩ = some (I at9) := cell_new _ _ _ _ _ rfl
  have c7 : (w.alloc (.cells #[I id, I fa, I ge, S ha, I mi, .bool sp, I at9, I ne, S se] 26)).cell? ⟨w.heap.size, 7, none⟩ = some (I ne) := cell_new _ _ _ _ _ rfl
  have c8 : (w.alloc (.cells #[I id, I fa, I ge, S ha, I mi, .bool sp, I at9, I ne, S se] 26)).cell? ⟨w.heap.size, 8, none⟩ = some (S se) := cell_new _ _ _ _ _ rfl
  have hlt1 : w.heap.size < (w.alloc (.cells #[I id, I fa, I ge, S ha, I mi, .bool sp, I at9, I ne, S se] 26)).heap.size := by simp
  generalize hW1 : w.alloc (.cells #[I id, I fa, I ge, S ha, I mi, .bool sp, I at9, I ne, S se] 26) = W1 at *
  have hX1 := hB0.size
  clear hB0
  cases h1 : idn id
  ·
    go_enter Tryz.func79, Tryz.ntmps79
    go_wp2_with (first | (go_at_call 140; refine (isSecret_any _ _).mono ?_; rintro e w9 ⟨rfl, rfl⟩) | (go_at_call 113; refine (isDigest_any _ _).mono ?_; rintro e w9 ⟨rfl, rfl⟩) | (go_at_call 105; refine (isTime_any _ _).mono ?_; rintro e w9 ⟨rfl, rfl⟩) | (go_at_call 106; refine (isSpan_any _ _).mono ?_; rintro e w9 ⟨rfl, rfl⟩) | (go_at_call 102; refine (isID_any _ _).mono ?_; rintro e w9 ⟨rfl, rfl⟩) | (go_at_call 107; refine (isGen_any _ _).mono ?_; rintro e w9 ⟨rfl, rfl⟩))
    all_goals go_ret
    all_goals exact ⟨ret_bool (by simp [tokOK, *]), unhide HB1⟩
  ·
    cases h2 : idn fa
    ·
      go_enter Tryz.func79, Tryz.ntmps79
      go_wp2_with (first | (go_at_call 140; refine (isSecret_any _ _).mono ?_; rintro e w9 ⟨rfl, rfl⟩) | (go_at_call 113; refine (isDigest_any _ _).mono ?_; rintro e w9 ⟨rfl, rfl⟩) | (go_at_call 105; refine (isTime_any _ _).mono ?_; rintro e w9 ⟨rfl, rfl⟩) | (go_at_call 106; refine (isSpan_any _ _).mono ?_; rintro e w9 ⟨rfl, rfl⟩) | (go_at_call 102; refine (isID_any _ _).mono ?_; rintro e w9 ⟨rfl, rfl⟩) | (go_at_call 107; refine (isGen_any _ _).mono ?_; rintro e w9 ⟨rfl, rfl⟩))
      all_goals go_ret
      all_goals exact ⟨ret_bool (by simp [tokOK, *]), unhide HB1⟩
    ·
      cases h3 : gnr ge
      ·
        go_enter Tryz.func79, Tryz.ntmps79
        go_wp2_with (first | (go_at_call 140; refine (isSecret_any _ _).mono ?_; rintro e w9 ⟨rfl, rfl⟩) | (go_at_call 113; refine (isDigest_any _ _).mono ?_; rintro e w9 ⟨rfl, rfl⟩) | (go_at_call 105; refine (isTime_any _ _).mono ?_; rintro e w9 ⟨rfl, rfl⟩) | (go_at_call 106; refine (isSpan_any _ _).mono ?_; rintro e w9 ⟨rfl, rfl⟩) | (go_at_call 102; refine (isID_any _ _).mono ?_; rintro e w9 ⟨rfl, rfl⟩) | (go_at_call 107; refine (isGen_any _ _).mono ?_; rintro e w9 ⟨rfl, rfl⟩))
        all_goals go_ret
        all_goals exact ⟨ret_bool (by simp [tokOK, *]), unhide HB1⟩
      ·
        cases h4 : ha.length == 32
        ·
          go_enter Tryz.func79, Tryz.ntmps79
          go_wp2_with (first | (go_at_call 140; refine (isSecret_any _ _).mono ?_; rintro e w9 ⟨rfl, rfl⟩) | (go_at_call 113; refine (isDigest_any _ _).mono ?_; rintro e w9 ⟨rfl, rfl⟩) | (go_at_call 105; refine (isTime_any _ _).mono ?_; rintro e w9 ⟨rfl, rfl⟩) | (go_at_call 106; refine (isSpan_any _ _).mono ?_; rintro e w9 ⟨rfl, rfl⟩) | (go_at_call 102; refine (isID_any _ _).mono ?_; rintro e w9 ⟨rfl, rfl⟩) | (go_at_call 107; refine (isGen_any _ _).mono ?_; rintro e w9 ⟨rfl, rfl⟩))
          all_goals go_ret
          all_goals exact ⟨ret_bool (by simp [tokOK, *]), unhide HB1⟩
        ·
          cases h5 : tim mi
          ·
            go_enter Tryz.func79, Tryz.ntmps79
            go_wp2_with (first | (go_at_call 140; refine (isSecret_any _ _).mono ?_; rintro e w9 ⟨rfl, rfl⟩) | (go_at_call 113; refine (isDigest_any _ _).mono ?_; rintro e w9 ⟨rfl, rfl⟩) | (go_at_call 105; refine (isTime_any _ _).mono ?_; rintro e w9 ⟨rfl, rfl⟩) | (go_at_call 106; refine (isSpan_any _ _).mono ?_; rintro e w9 ⟨rfl, rfl⟩) | (go_at_call 102; refine (isID_any _ _).mono ?_; rintro e w9 ⟨rfl, rfl⟩) | (go_at_call 107; refine (isGen_any _ _).mono ?_; rintro e w9 ⟨rfl, rfl⟩))
            all_goals go_ret
            all_goals exact ⟨ret_bool (by simp [tokOK, *]), unhide HB1⟩
          ·
            cases h6 : spOK mi sp at9 ne se
            ·
              go_enter Tryz.func79, Tryz.ntmps79
              go_wp2_with (first | (go_at_call 140; refine (isSecret_any _ _).mono ?_; rintro e w9 ⟨rfl, rfl⟩) | (go_at_call 113; refine (isDigest_any _ _).mono ?_; rintro e w9 ⟨rfl, rfl⟩) | (go_at_call 105; refine (isTime_any _ _).mono ?_; rintro e w9 ⟨rfl, rfl⟩) | (go_at_call 106; refine (isSpan_any _ _).mono ?_; rintro e w9 ⟨rfl, rfl⟩) | (go_at_call 102; refine (isID_any _ _).mono ?_; rintro e w9 ⟨rfl, rfl⟩) | (go_at_call 107; refine (isGen_any _ _).mono ?_; rintro e w9 ⟨rfl, rfl⟩))
              refine (rightSpent_any id fa ge ha mi sp at9 ne se _).mono ?_
              rintro e v0 ⟨rfl, hv0⟩
              replace c0 := cell_below c0 hv0 hlt1
              replace c1 := cell_below c1 hv0 hlt1
              replace c2 := cell_below c2 hv0 hlt1
              replace c3 := cell_below c3 hv0 hlt1
              replace c4 := cell_below c4 hv0 hlt1
              replace c5 := cell_below c5 hv0 hlt1
              replace c6 := cell_below c6 hv0 hlt1
              replace c7 := cell_below c7 hv0 hlt1
              replace c8 := cell_below c8 hv0 hlt1
              have hlt2 : w.heap.size < v0.heap.size := Nat.lt_of_lt_of_le hlt1 hv0.size
              have HB2 := hide ((unhide HB1).trans (hv0.mono (unhide HB1).size))
              clear hv0
              go_wp2_with (first | (go_at_call 140; refine (isSecret_any _ _).mono ?_; rintro e w9 ⟨rfl, rfl⟩) | (go_at_call 113; refine (isDigest_any _ _).mono ?_; rintro e w9 ⟨rfl, rfl⟩) | (go_at_call 105; refine (isTime_any _ _).mono ?_; rintro e w9 ⟨rfl, rfl⟩) | (go_at_call 106; refine (isSpan_any _ _).mono ?_; rintro e w9 ⟨rfl, rfl⟩) | (go_at_call 102; refine (isID_any _ _).mono ?_; rintro e w9 ⟨rfl, rfl⟩) | (go_at_call 107; refine (isGen_any _ _).mono ?_; rintro e w9 ⟨rfl, rfl⟩))
              all_goals go_ret
              all_goals exact ⟨ret_bool (by simp [tokOK, *]), unhide HB2⟩
            ·
              go_enter Tryz.func79, Tryz.ntmps79
              go_wp2_with (first | (go_at_call 140; refine (isSecret_any _ _).mono ?_; rintro e w9 ⟨rfl, rfl⟩) | (go_at_call 113; refine (isDigest_any _ _).mono ?_; rintro e w9 ⟨rfl, rfl⟩) | (go_at_call 105; refine (isTime_any _ _).mono ?_; rintro e w9 ⟨rfl, rfl⟩) | (go_at_call 106; refine (isSpan_any _ _).mono ?_; rintro e w9 ⟨rfl, rfl⟩) | (go_at_call 102; refine (isID_any _ _).mono ?_; rintro e w9 ⟨rfl, rfl⟩) | (go_at_call 107; refine (isGen_any _ _).mono ?_; rintro e w9 ⟨rfl, rfl⟩))
              refine (rightSpent_any id fa ge ha mi sp at9 ne se _).mono ?_
              rintro e v0 ⟨rfl, hv0⟩
              replace c0 := cell_below c0 hv0 hlt1
              replace c1 := cell_below c1 hv0 hlt1
              replace c2 := cell_below c2 hv0 hlt1
              replace c3 := cell_below c3 hv0 hlt1
              replace c4 := cell_below c4 hv0 hlt1
              replace c5 := cell_below c5 hv0 hlt1
              replace c6 := cell_below c6 hv0 hlt1
              replace c7 := cell_below c7 hv0 hlt1
              replace c8 := cell_below c8 hv0 hlt1
              have hlt2 : w.heap.size < v0.heap.size := Nat.lt_of_lt_of_le hlt1 hv0.size
              have HB2 := hide ((unhide HB1).trans (hv0.mono (unhide HB1).size))
              clear hv0
              go_wp2_with (first | (go_at_call 140; refine (isSecret_any _ _).mono ?_; rintro e w9 ⟨rfl, rfl⟩) | (go_at_call 113; refine (isDigest_any _ _).mono ?_; rintro e w9 ⟨rfl, rfl⟩) | (go_at_call 105; refine (isTime_any _ _).mono ?_; rintro e w9 ⟨rfl, rfl⟩) | (go_at_call 106; refine (isSpan_any _ _).mono ?_; rintro e w9 ⟨rfl, rfl⟩) | (go_at_call 102; refine (isID_any _ _).mono ?_; rintro e w9 ⟨rfl, rfl⟩) | (go_at_call 107; refine (isGen_any _ _).mono ?_; rintro e w9 ⟨rfl, rfl⟩))
              all_goals go_ret
              all_goals exact ⟨ret_bool (by simp [tokOK, *]), unhide HB2⟩
end Go.Proofs.YtmjaobddgaglhaaGreatDoor
namespace Go.Proofs.YtmjaobddgaglhaaGreatDoor
open Go.RowKit
set_option maxHeartbeats 4000000
set_option maxRecDepth 8000
def secOK (pu : Bool) (ha ol : Bs) (un : Int) : Bool := if pu then ha == [] && (ol == [] && un == 0) else ha.length == 32 && ((ol == [] && un == 0) || (ol.length == 32 && tim un))
theorem rightSecrets_any (na : Bs) (pu of9 : Bool) (ha ol : Bs) (un : Int) (va : Option Addr) (vc : Nat) (sc : List Bs) (idl ab gr li : Int)  (w : World) : Calls Tryz.prog 122 #[.agg #[S na, .bool pu, .bool of9, S ha, S ol, I un, .slice va sc.length vc, I idl, I ab, I gr, I li]] w fun e w' => e = .returned (.bool (secOK pu ha ol un)) ∧ Below w.heap.size w w' := by
  have hB0 : Below w.heap.size w (w.alloc (.cells #[S na, .bool pu, .bool of9, S ha, S ol, I un, .slice va sc.length vc, I idl, I ab, I gr, I li] 48)) := (Below.refl _ w).alloc (Nat.le_refl _) _
  have HB1 := hide hB0
  have c0 : (w.alloc (.cells #[S na, .bool pu, .bool of9, S ha, S ol, I un, .slice va sc.length vc, I idl, I ab, I gr, I li] 48)).cell? ⟨w.heap.size, 0, none⟩ = some (S na) := cell_new _ _ _ _ _ rfl
  have c1 : (w.alloc (.cells #[S na, .bool pu, .bool of9, S ha, S ol, I un, .slice va sc.length vc, I idl, I ab, I gr, I li] 48)).cell? ⟨w.heap.size, 1, none⟩ = some (.bool pu) := cell_new _ _ _ _ _ rfl
  have c2 : (w.alloc (.cells #[S na, .bool pu, .bool of9, S ha, S ol, I un, .slice va sc.length vc, I idl, I ab, I gr, I li] 48)).cell? ⟨w.heap.size, 2, none⟩ = some (.bool of9) := cell_new _ _ _ _ _ rfl
  have c3 : (w.alloc (.cells #[S na, .bool pu, .bool of9, S ha, S ol, I un, .slice va sc.length vc, I idl, I ab, I gr, I li] 48)).cell? ⟨w.heap.size, 3, none⟩ = some (S ha) := cell_new _ _ _ _ _ rfl
  have c4 : (w.alloc (.cells #[S na, .bool pu, .bool of9, S ha, S ol, I un, .slice va sc.length vc, I idl, I ab, I gr, I li] 48)).cell? ⟨w.heap.size, 4, none⟩ = some (S ol) := cell_new _ _ _ _ _ rfl
  have c5 : (w.alloc (.cells #[S na, .bool pu, .bool of9, S ha, S ol, I un, .slice va sc.length vc, I idl, I ab, I gr, I li] 48)).cell? ⟨w.heap.size, 5, none⟩ = some (I un) := cell_new _ _ _ _ _ rfl
  have c6 : (w.alloc (.cells #[S na, .bool pu, .bool of9, S ha, S ol, I un, .slice va sc.length vc, I idl, I ab, I gr, I li] 48)).cell? ⟨w.heap.size, 6, none⟩ = some (.slice va sc.length vc) := cell_new _ _ _ _ _ rfl
  have c7 : (w.alloc (.cells #[S na, .bool pu, .bool of9, S ha, S ol, I un, .slice va sc.length vc, I idl, I ab, I gr, I li] 48)).cell? ⟨w.heap.size, 7, none⟩ = some (I idl) := cell_new _ _ _ _ _ rfl
  have c8 : (w.alloc (.cells #[S na, .bool pu, .bool of9, S ha, S ol, I un, .slice va sc.length vc, I idl, I ab, I gr, I li] 48)).cell? ⟨w.heap.size, 8, none⟩ = some (I ab) := cell_new _ _ _ _ _ rfl
  have c9 : (w.alloc (.cells #[S na, .bool pu, .bool of9, S ha, S ol, I un, .slice va sc.length vc, I idl, I ab, I gr, I li] 48)).cell? ⟨w.heap.size, 9, none⟩ = some (I gr) := cell_new _ _ _ _ _ rfl
  have c10 : (w.alloc (.cells #[S na, .bool pu, .bool of9, S ha, S ol, I un, .slice va sc.length vc, I idl, I ab, I gr, I li] 48)).cell? ⟨w.heap.size, 10, none⟩ = some (I li) := cell_new _ _ _ _ _ rfl
  have hlt1 : w.heap.size < (w.alloc (.cells #[S na, .bool pu, .bool of9, S ha, S ol, I un, .slice va sc.length vc, I idl, I ab, I gr, I li] 48)).heap.size := by simp
  generalize hW1 : w.alloc (.cells #[S na, .bool pu, .bool of9, S ha, S ol, I un, .slice va sc.length vc, I idl, I ab, I gr, I li] 48) = W1 at *
  have hX1 := hB0.size
  clear hB0
  cases pu
  ·
    by_cases h2 : ol = []
    · subst h2
      cases h3 : un == 0
      ·
        cases h4 : ha.length == 32
        ·
          go_enter Tryz.func122, Tryz.ntmps122
          go_wp2_with (first | (go_at_call 140; refine (isSecret_any _ _).mono ?_; rintro e w9 ⟨rfl, rfl⟩) | (go_at_call 113; refine (isDigest_any _ _).mono ?_; rintro e w9 ⟨rfl, rfl⟩) | (go_at_call 105; refine (isTime_any _ _).mono ?_; rintro e w9 ⟨rfl, rfl⟩) | (go_at_call 106; refine (isSpan_any _ _).mono ?_; rintro e w9 ⟨rfl, rfl⟩) | (go_at_call 102; refine (isID_any _ _).mono ?_; rintro e w9 ⟨rfl, rfl⟩) | (go_at_call 107; refine (isGen_any _ _).mono ?_; rintro e w9 ⟨rfl, rfl⟩))
          all_goals go_ret
          all_goals exact ⟨ret_bool (by simp [secOK, *]), unhide HB1⟩
        ·
          go_enter Tryz.func122, Tryz.ntmps122
          go_wp2_with (first | (go_at_call 140; refine (isSecret_any _ _).mono ?_; rintro e w9 ⟨rfl, rfl⟩) | (go_at_call 113; refine (isDigest_any _ _).mono ?_; rintro e w9 ⟨rfl, rfl⟩) | (go_at_call 105; refine (isTime_any _ _).mono ?_; rintro e w9 ⟨rfl, rfl⟩) | (go_at_call 106; refine (isSpan_any _ _).mono ?_; rintro e w9 ⟨rfl, rfl⟩) | (go_at_call 102; refine (isID_any _ _).mono ?_; rintro e w9 ⟨rfl, rfl⟩) | (go_at_call 107; refine (isGen_any _ _).mono ?_; rintro e w9 ⟨rfl, rfl⟩))
          all_goals go_ret
          all_goals exact ⟨ret_bool (by simp [secOK, *]), unhide HB1⟩
      ·
        cases h5 : ha.length == 32
        ·
          go_enter Tryz.func122, Tryz.ntmps122
          go_wp2_with (first | (go_at_call 140; refine (isSecret_any _ _).mono ?_; rintro e w9 ⟨rfl, rfl⟩) | (go_at_call 113; refine (isDigest_any _ _).mono ?_; rintro e w9 ⟨rfl, rfl⟩) | (go_at_call 105; refine (isTime_any _ _).mono ?_; rintro e w9 ⟨rfl, rfl⟩) | (go_at_call 106; refine (isSpan_any _ _).mono ?_; rintro e w9 ⟨rfl, rfl⟩) | (go_at_call 102; refine (isID_any _ _).mono ?_; rintro e w9 ⟨rfl, rfl⟩) | (go_at_call 107; refine (isGen_any _ _).mono ?_; rintro e w9 ⟨rfl, rfl⟩))
          all_goals go_ret
          all_goals exact ⟨ret_bool (by simp [secOK, *]), unhide HB1⟩
        ·
          go_enter Tryz.func122, Tryz.ntmps122
          go_wp2_with (first | (go_at_call 140; refine (isSecret_any _ _).mono ?_; rintro e w9 ⟨rfl, rfl⟩) | (go_at_call 113; refine (isDigest_any _ _).mono ?_; rintro e w9 ⟨rfl, rfl⟩) | (go_at_call 105; refine (isTime_any _ _).mono ?_; rintro e w9 ⟨rfl, rfl⟩) | (go_at_call 106; refine (isSpan_any _ _).mono ?_; rintro e w9 ⟨rfl, rfl⟩) | (go_at_call 102; refine (isID_any _ _).mono ?_; rintro e w9 ⟨rfl, rfl⟩) | (go_at_call 107; refine (isGen_any _ _).mono ?_; rintro e w9 ⟨rfl, rfl⟩))
          all_goals go_ret
          all_goals exact ⟨ret_bool (by simp [secOK, *]), unhide HB1⟩
    · have h2b : (ol == []) = false := by simpa using h2
      cases h6 : ha.length == 32
      ·
        go_enter Tryz.func122, Tryz.ntmps122
        go_wp2_with (first | (go_at_call 140; refine (isSecret_any _ _).mono ?_; rintro e w9 ⟨rfl, rfl⟩) | (go_at_call 113; refine (isDigest_any _ _).mono ?_; rintro e w9 ⟨rfl, rfl⟩) | (go_at_call 105; refine (isTime_any _ _).mono ?_; rintro e w9 ⟨rfl, rfl⟩) | (go_at_call 106; refine (isSpan_any _ _).mono ?_; rintro e w9 ⟨rfl, rfl⟩) | (go_at_call 102; refine (isID_any _ _).mono ?_; rintro e w9 ⟨rfl, rfl⟩) | (go_at_call 107; refine (isGen_any _ _).mono ?_; rintro e w9 ⟨rfl, rfl⟩))
        all_goals go_ret
        all_goals exact ⟨ret_bool (by simp [secOK, *]), unhide HB1⟩
      ·
        cases h7 : ol.length == 32
        ·
          go_enter Tryz.func122, Tryz.ntmps122
          go_wp2_with (first | (go_at_call 140; refine (isSecret_any _ _).mono ?_; rintro e w9 ⟨rfl, rfl⟩) | (go_at_call 113; refine (isDigest_any _ _).mono ?_; rintro e w9 ⟨rfl, rfl⟩) | (go_at_call 105; refine (isTime_any _ _).mono ?_; rintro e w9 ⟨rfl, rfl⟩) | (go_at_call 106; refine (isSpan_any _ _).mono ?_; rintro e w9 ⟨rfl, rfl⟩) | (go_at_call 102; refine (isID_any _ _).mono ?_; rintro e w9 ⟨rfl, rfl⟩) | (go_at_call 107; refine (isGen_any _ _).mono ?_; rintro e w9 ⟨rfl, rfl⟩))
          all_goals go_ret
          all_goals exact ⟨ret_bool (by simp [secOK, *]), unhide HB1⟩
        ·
          cases h8 : tim un
          ·
            go_enter Tryz.func122, Tryz.ntmps122
            go_wp2_with (first | (go_at_call 140; refine (isSecret_any _ _).mono ?_; rintro e w9 ⟨rfl, rfl⟩) | (go_at_call 113; refine (isDigest_any _ _).mono ?_; rintro e w9 ⟨rfl, rfl⟩) | (go_at_call 105; refine (isTime_any _ _).mono ?_; rintro e w9 ⟨rfl, rfl⟩) | (go_at_call 106; refine (isSpan_any _ _).mono ?_; rintro e w9 ⟨rfl, rfl⟩) | (go_at_call 102; refine (isID_any _ _).mono ?_; rintro e w9 ⟨rfl, rfl⟩) | (go_at_call 107; refine (isGen_any _ _).mono ?_; rintro e w9 ⟨rfl, rfl⟩))
            all_goals go_ret
            all_goals exact ⟨ret_bool (by simp [secOK, *]), unhide HB1⟩
          ·
            go_enter Tryz.func122, Tryz.ntmps122
            go_wp2_with (first | (go_at_call 140; refine (isSecret_any _ _).mono ?_; rintro e w9 ⟨rfl, rfl⟩) | (go_at_call 113; refine (isDigest_any _ _).mono ?_; rintro e w9 ⟨rfl, rfl⟩) | (go_at_call 105; refine (isTime_any _ _).mono ?_; rintro e w9 ⟨rfl, rfl⟩) | (go_at_call 106; refine (isSpan_any _ _).mono ?_; rintro e w9 ⟨rfl, rfl⟩) | (go_at_call 102; refine (isID_any _ _).mono ?_; rintro e w9 ⟨rfl, rfl⟩) | (go_at_call 107; refine (isGen_any _ _).mono ?_; rintro e w9 ⟨rfl, rfl⟩))
            all_goals go_ret
            all_goals exact ⟨ret_bool (by simp [secOK, *]), unhide HB1⟩
  ·
    by_cases h9 : ol = []
    · subst h9
      cases h10 : un == 0
      ·
        by_cases h11 : ha = []
        · subst h11
          go_enter Tryz.func122, Tryz.ntmps122
          go_wp2_with (first | (go_at_call 140; refine (isSecret_any _ _).mono ?_; rintro e w9 ⟨rfl, rfl⟩) | (go_at_call 113; refine (isDigest_any _ _).mono ?_; rintro e w9 ⟨rfl, rfl⟩) | (go_at_call 105; refine (isTime_any _ _).mono ?_; rintro e w9 ⟨rfl, rfl⟩) | (go_at_call 106; refine (isSpan_any _ _).mono ?_; rintro e w9 ⟨rfl, rfl⟩) | (go_at_call 102; refine (isID_any _ _).mono ?_; rintro e w9 ⟨rfl, rfl⟩) | (go_at_call 107; refine (isGen_any _ _).mono ?_; rintro e w9 ⟨rfl, rfl⟩))
          all_goals go_ret
          all_goals exact ⟨ret_bool (by simp [secOK, *]), unhide HB1⟩
        · have h11b : (ha == []) = false := by simpa using h11
          go_enter Tryz.func122, Tryz.ntmps122
          go_wp2_with (first | (go_at_call 140; refine (isSecret_any _ _).mono ?_; rintro e w9 ⟨rfl, rfl⟩) | (go_at_call 113; refine (isDigest_any _ _).mono ?_; rintro e w9 ⟨rfl, rfl⟩) | (go_at_call 105; refine (isTime_any _ _).mono ?_; rintro e w9 ⟨rfl, rfl⟩) | (go_at_call 106; refine (isSpan_any _ _).mono ?_; rintro e w9 ⟨rfl, rfl⟩) | (go_at_call 102; refine (isID_any _ _).mono ?_; rintro e w9 ⟨rfl, rfl⟩) | (go_at_call 107; refine (isGen_any _ _).mono ?_; rintro e w9 ⟨rfl, rfl⟩))
          all_goals go_ret
          all_goals exact ⟨ret_bool (by simp [secOK, *]), unhide HB1⟩
      ·
        by_cases h12 : ha = []
        · subst h12
          go_enter Tryz.func122, Tryz.ntmps122
          go_wp2_with (first | (go_at_call 140; refine (isSecret_any _ _).mono ?_; rintro e w9 ⟨rfl, rfl⟩) | (go_at_call 113; refine (isDigest_any _ _).mono ?_; rintro e w9 ⟨rfl, rfl⟩) | (go_at_call 105; refine (isTime_any _ _).mono ?_; rintro e w9 ⟨rfl, rfl⟩) | (go_at_call 106; refine (isSpan_any _ _).mono ?_; rintro e w9 ⟨rfl, rfl⟩) | (go_at_call 102; refine (isID_any _ _).mono ?_; rintro e w9 ⟨rfl, rfl⟩) | (go_at_call 107; refine (isGen_any _ _).mono ?_; rintro e w9 ⟨rfl, rfl⟩))
          all_goals go_ret
          all_goals exact ⟨ret_bool (by simp [secOK, *]), unhide HB1⟩
        · have h12b : (ha == []) = false := by simpa using h12
          go_enter Tryz.func122, Tryz.ntmps122
          go_wp2_with (first | (go_at_call 140; refine (isSecret_any _ _).mono ?_; rintro e w9 ⟨rfl, rfl⟩) | (go_at_call 113; refine (isDigest_any _ _).mono ?_; rintro e w9 ⟨rfl, rfl⟩) | (go_at_call 105; refine (isTime_any _ _).mono ?_; rintro e w9 ⟨rfl, rfl⟩) | (go_at_call 106; refine (isSpan_any _ _).mono ?_; rintro e w9 ⟨rfl, rfl⟩) | (go_at_call 102; refine (isID_any _ _).mono ?_; rintro e w9 ⟨rfl, rfl⟩) | (go_at_call 107; refine (isGen_any _ _).mono ?_; rintro e w9 ⟨rfl, rfl⟩))
          all_goals go_ret
          all_goals exact ⟨ret_bool (by simp [secOK, *]), unhide HB1⟩
    · have h9b : (ol == []) = false := by simpa using h9
      by_cases h13 : ha = []
      · subst h13
        go_enter Tryz.func122, Tryz.ntmps122
        go_wp2_with (first | (go_at_call 140; refine (isSecret_any _ _).mono ?_; rintro e w9 ⟨rfl, rfl⟩) | (go_at_call 113; refine (isDigest_any _ _).mono ?_; rintro e w9 ⟨rfl, rfl⟩) | (go_at_call 105; refine (isTime_any _ _).mono ?_; rintro e w9 ⟨rfl, rfl⟩) | (go_at_call 106; refine (isSpan_any _ _).mono ?_; rintro e w9 ⟨rfl, rfl⟩) | (go_at_call 102; refine (isID_any _ _).mono ?_; rintro e w9 ⟨rfl, rfl⟩) | (go_at_call 107; refine (isGen_any _ _).mono ?_; rintro e w9 ⟨rfl, rfl⟩))
        all_goals go_ret
        all_goals exact ⟨ret_bool (by simp [secOK, *]), unhide HB1⟩
      · have h13b : (ha == []) = false := by simpa using h13
        go_enter Tryz.func122, Tryz.ntmps122
        go_wp2_with (first | (go_at_call 140; refine (isSecret_any _ _).mono ?_; rintro e w9 ⟨rfl, rfl⟩) | (go_at_call 113; refine (isDigest_any _ _).mono ?_; rintro e w9 ⟨rfl, rfl⟩) | (go_at_call 105; refine (isTime_any _ _).mono ?_; rintro e w9 ⟨rfl, rfl⟩) | (go_at_call 106; refine (isSpan_any _ _).mono ?_; rintro e w9 ⟨rfl, rfl⟩) | (go_at_call 102; refine (isID_any _ _).mono ?_; rintro e w9 ⟨rfl, rfl⟩) | (go_at_call 107; refine (isGen_any _ _).mono ?_; rintro e w9 ⟨rfl, rfl⟩))
        all_goals go_ret
        all_goals exact ⟨ret_bool (by simp [secOK, *]), unhide HB1⟩
def cliOK (na : Bs) (pu : Bool) (ha ol : Bs) (un : Int) (sc : List Bs) (idl ab gr li : Int) : Bool := right [na] && (secOK pu ha ol un && (right sc && (spn idl && (spn ab && (tim gr && (spn li))))))
theorem rightClient_any (na : Bs) (pu of9 : Bool) (ha ol : Bs) (un : Int) (va : Option Addr) (vc : Nat) (sc : List Bs) (idl ab gr li : Int) (w : World) (hna : na.length ≤ 9223372036854775807) (hsc : Sts w va sc.length sc) (hsl : sc.length ≤ 140737488355000) (hln : Lns sc) : Calls Tryz.prog 88 #[.agg #[S na, .bool pu, .bool of9, S ha, S ol, I un, .slice va sc.length vc, I idl, I ab, I gr, I li]] w fun e w' => e = .returned (.bool (cliOK na pu ha ol un sc idl ab gr li)) ∧ Below w.heap.size w w' := by
  have hB0 : Below w.heap.size w (w.alloc (.cells #[S na, .bool pu, .bool of9, S ha, S ol, I un, .slice va sc.length vc, I idl, I ab, I gr, I li] 48)) := (Below.refl _ w).alloc (Nat.le_refl _) _
  have HB := hide hB0
  have c0 : (w.alloc (.cells #[S na, .bool pu, .bool of9, S ha, S ol, I un, .slice va sc.length vc, I idl, I ab, I gr, I li] 48)).cell? ⟨w.heap.size, 0, none⟩ = some (S na) := cell_new _ _ _ _ _ rfl
  have c1 : (w.alloc (.cells #[S na, .bool pu, .bool of9, S ha, S ol, I un, .slice va sc.length vc, I idl, I ab, I gr, I li] 48)).cell? ⟨w.heap.size, 1, none⟩ = some (.bool pu) := cell_new _ _ _ _ _ rfl
  have c2 : (w.alloc (.cells #[S na, .bool pu, .bool of9, S ha, S ol, I un, .slice va sc.length vc, I idl, I ab, I gr, I li] 48)).cell? ⟨w.heap.size, 2, none⟩ = some (.bool of9) := cell_new _ _ _ _ _ rfl
  have c3 : (w.alloc (.cells #[S na, .bool pu, .bool of9, S ha, S ol, I un, .slice va sc.length vc, I idl, I ab, I gr, I li] 48)).cell? ⟨w.heap.size, 3, none⟩ = some (S ha) := cell_new _ _ _ _ _ rfl
  have c4 : (w.alloc (.cells #[S na, .bool pu, .bool of9, S ha, S ol, I un, .slice va sc.length vc, I idl, I ab, I gr, I li] 48)).cell? ⟨w.heap.size, 4, none⟩ = some (S ol) := cell_new _ _ _ _ _ rfl
  have c5 : (w.alloc (.cells #[S na, .bool pu, .bool of9, S ha, S ol, I un, .slice va sc.length vc, I idl, I ab, I gr, I li] 48)).cell? ⟨w.heap.size, 5, none⟩ = some (I un) := cell_new _ _ _ _ _ rfl
  have c6 : (w.alloc (.cells #[S na, .bool pu, .bool of9, S ha, S ol, I un, .slice va sc.length vc, I idl, I ab, I gr, I li] 48)).cell? ⟨w.heap.size, 6, none⟩ = some (.slice va sc.length vc) := cell_new _ _ _ _ _ rfl
  have c7 : (w.alloc (.cells #[S na, .bool pu, .bool of9, S ha, S ol, I un, .slice va sc.length vc, I idl, I ab, I gr, I li] 48)).cell? ⟨w.heap.size, 7, none⟩ = some (I idl) := cell_new _ _ _ _ _ rfl
  have c8 : (w.alloc (.cells #[S na, .bool pu, .bool of9, S ha, S ol, I un, .slice va sc.length vc, I idl, I ab, I gr, I li] 48)).cell? ⟨w.heap.size, 8, none⟩ = some (I ab) := cell_new _ _ _ _ _ rfl
  have c9 : (w.alloc (.cells #[S na, .bool pu, .bool of9, S ha, S ol, I un, .slice va sc.length vc, I idl, I ab, I gr, I li] 48)).cell? ⟨w.heap.size, 9, none⟩ = some (I gr) := cell_new _ _ _ _ _ rfl
  have c10 : (w.alloc (.cells #[S na, .bool pu, .bool of9, S ha, S ol, I un, .slice va sc.length vc, I idl, I ab, I gr, I li] 48)).cell? ⟨w.heap.size, 10, none⟩ = some (I li) := cell_new _ _ _ _ _ rfl
  have hlt : w.heap.size < (w.alloc (.cells #[S na, .bool pu, .bool of9, S ha, S ol, I un, .slice va sc.length vc, I idl, I ab, I gr, I li] 48)).heap.size := by simp
  generalize hW1 : w.alloc (.cells #[S na, .bool pu, .bool of9, S ha, S ol, I un, .slice va sc.length vc, I idl, I ab, I gr, I li] 48) = W1 at *
  clear hB0
  obtain ⟨R, hR⟩ : ∃ R, R = cliOK na pu ha ol un sc idl ab gr li := ⟨_, rfl⟩
  have HR := hide hR
  rw [← hR]
  clear hR
  go_enter Tryz.func88, Tryz.ntmps88
  go_wp2_with fail
  refine (isNm_any na _ (by assumption)).mono ?_
  rintro e v1 ⟨rfl, hv⟩
  replace c0 := cell_below c0 hv hlt
  replace c1 := cell_below c1 hv hlt
  replace c2 := cell_below c2 hv hlt
  replace c3 := cell_below c3 hv hlt
  replace c4 := cell_below c4 hv hlt
  replace c5 := cell_below c5 hv hlt
  replace c6 := cell_below c6 hv hlt
  replace c7 := cell_below c7 hv hlt
  replace c8 := cell_below c8 hv hlt
  replace c9 := cell_below c9 hv hlt
  replace c10 := cell_below c10 hv hlt
  replace hlt : w.heap.size < v1.heap.size := Nat.lt_of_lt_of_le hlt hv.size
  replace HB := hide ((unhide HB).trans (hv.mono (unhide HB).size))
  clear hv
  cases h1 : right [na]
  ·
    go_wp2
    all_goals go_ret
    all_goals exact ⟨ret_bool (by rw [unhide HR]; simp [cliOK, *]), unhide HB⟩
  ·
    go_wp2_with fail
    refine (rightSecrets_any na pu of9 ha ol un va vc sc idl ab gr li _).mono ?_
    rintro e v2 ⟨rfl, hv⟩
    replace c0 := cell_below c0 hv hlt
    replace c1 := cell_below c1 hv hlt
    replace c2 := cell_below c2 hv hlt
    replace c3 := cell_below c3 hv hlt
    replace c4 := cell_below c4 hv hlt
    replace c5 := cell_below c5 hv hlt
    replace c6 := cell_below c6 hv hlt
    replace c7 := cell_below c7 hv hlt
    replace c8 := cell_below c8 hv hlt
    replace c9 := cell_below c9 hv hlt
    replace c10 := cell_below c10 hv hlt
    replace hlt : w.heap.size < v2.heap.size := Nat.lt_of_lt_of_le hlt hv.size
    replace HB := hide ((unhide HB).trans (hv.mono (unhide HB).size))
    clear hv
    cases h2 : secOK pu ha ol un
    ·
      go_wp2
      all_goals go_ret
      all_goals exact ⟨ret_bool (by rw [unhide HR]; simp [cliOK, *]), unhide HB⟩
    ·
      go_wp2_with fail
      refine (Right_any va sc.length vc sc _ (Sts.bel hsc (unhide HB)) hsl hln).mono ?_
      rintro e v3 ⟨rfl, hv⟩
      replace c0 := cell_below c0 hv hlt
      replace c1 := cell_below c1 hv hlt
      replace c2 := cell_below c2 hv hlt
      replace c3 := cell_below c3 hv hlt
      replace c4 := cell_below c4 hv hlt
      replace c5 := cell_below c5 hv hlt
      replace c6 := cell_below c6 hv hlt
      replace c7 := cell_below c7 hv hlt
      replace c8 := cell_below c8 hv hlt
      replace c9 := cell_below c9 hv hlt
      replace c10 := cell_below c10 hv hlt
      replace hlt : w.heap.size < v3.heap.size := Nat.lt_of_lt_of_le hlt hv.size
      replace HB := hide ((unhide HB).trans (hv.mono (unhide HB).size))
      clear hv
      cases h3 : right sc
      ·
        go_wp2
        all_goals go_ret
        all_goals exact ⟨ret_bool (by rw [unhide HR]; simp [cliOK, *]), unhide HB⟩
      ·
        go_wp2_with fail
        refine (isSpan_any _ _).mono ?_
        rintro e w9 ⟨rfl, hw9⟩
        rw [hw9]
        clear hw9
        cases h4 : spn idl
        ·
          go_wp2
          all_goals go_ret
          all_goals exact ⟨ret_bool (by rw [unhide HR]; simp [cliOK, *]), unhide HB⟩
        ·
          go_wp2_with fail
          refine (isSpan_any _ _).mono ?_
          rintro e w9 ⟨rfl, hw9⟩
          rw [hw9]
          clear hw9
          cases h5 : spn ab
          ·
            go_wp2
            all_goals go_ret
            all_goals exact ⟨ret_bool (by rw [unhide HR]; simp [cliOK, *]), unhide HB⟩
          ·
            go_wp2_with fail
            refine (isTime_any _ _).mono ?_
            rintro e w9 ⟨rfl, hw9⟩
            rw [hw9]
            clear hw9
            cases h6 : tim gr
            ·
              go_wp2
              all_goals go_ret
              all_goals exact ⟨ret_bool (by rw [unhide HR]; simp [cliOK, *]), unhide HB⟩
            ·
              go_wp2_with fail
              refine (isSpan_any _ _).mono ?_
              rintro e w9 ⟨rfl, hw9⟩
              rw [hw9]
              clear hw9
              cases h7 : spn li
              ·
                go_wp2
                all_goals go_ret
                all_goals exact ⟨ret_bool (by rw [unhide HR]; simp [cliOK, *]), unhide HB⟩
              ·
                go_wp2
                all_goals go_ret
                all_goals exact ⟨ret_bool (by rw [unhide HR]; simp [cliOK, *]), unhide HB⟩
end Go.Proofs.YtmjaobddgaglhaaGreatDoor
