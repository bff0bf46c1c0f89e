import Derived.Test.YtpidmpefodnffaaGreatDoorZrgof
import Derived.Test.YtpidmpefodnffaaGreatDoorZsmc
import Derived.Test.YtpidmpefodnffaaGreatDoorRdo
namespace Go.Proofs.YtpidmpefodnffaaGreatDoor
open Go.RowKit Go.Lib
set_option maxHeartbeats 4000000
set_option maxRecDepth 8000
def vrre3 (X : Nat) (a1 b1 nb rr : Int) (_c : Unit) (i : Nat) : Value := match i with
  | 0 => (.pointer (some ⟨X, 4, none⟩))
  | 1 => (I a1)
  | 2 => (.pointer (some ⟨X, 7, none⟩))
  | 3 => (I b1)
  | 4 => (I nb)
  | 5 => (I rr)
  | 6 => (I rr)
  | _ => undef
def rre3T : List (Op × Option Tmp × Option (Nat × Bool)) := [
  (.fieldAddr 40 (.tmp 1) 4, some 11, none),
  (.load 3 (.tmp 11), some 12, none),
  (.fieldAddr 40 (.tmp 1) 7, some 13, none),
  (.load 3 (.tmp 13), some 14, none),
  (.call { callee := .value (.func 84), args := #[(.tmp 14)], argTypes := #[3] }, some 15, none),
  (.call { callee := .value (.func 85), args := #[(.tmp 12), (.tmp 15)], argTypes := #[3, 3] }, some 16, none),
  (.assign (.tmp 16), some 3, none)]
def rre3D : List (Nat × Nat) := [(1, 0), (3, 2), (4, 3), (5, 1), (5, 4), (6, 5)]
set_option maxHeartbeats 4000000 in
theorem rre3 {ops : Array Oper} {id : Nat} {Q : Exit → Act → World → Prop} (X : Nat) (a1 b1 nb rr : Int) (htab : ops.toList.map (fun o => (o.op, o.dst, o.guard)) = rre3T) (hdep : deplB rre3D ops = true) (hac : acB ops = true)
    (a0 : Act) (w : World) (hsz : 17 ≤ a0.tmps.size) (o1 : a0.tmps[1]? = some (.pointer (some ⟨X, 0, none⟩)))
    (Wd : Unit → (Nat → Bool) → World → Prop) (h0 : ∃ c, Wd c (fun _ => false) w.drew) (hpure : ∀ i, i ∉ ([4, 5] : List Nat) → ∀ c L W, Wd c L W → Wd c (upd L i) W)
    (r1 : ∀ c L W, Wd c L W → L 1 = false → L 0 = true → (Instr.loadAt 3 (.pointer (some ⟨X, 4, none⟩))).run Tryz.prog W = .ok (I a1) W)
    (r3 : ∀ c L W, Wd c L W → L 3 = false → L 2 = true → (Instr.loadAt 3 (.pointer (some ⟨X, 7, none⟩))).run Tryz.prog W = .ok (I b1) W)
    (r4 : ∀ c L W, Wd c L W → L 4 = false → L 3 = true → Calls Tryz.prog 84 #[(I b1)] W fun eg w' => ∃ c', (∀ j, L j = true → vrre3 X a1 b1 nb rr c' j = vrre3 X a1 b1 nb rr c j) ∧ eg = .returned (vrre3 X a1 b1 nb rr c' 4) ∧ Wd c' (upd L 4) w')
    (r5 : ∀ c L W, Wd c L W → L 5 = false → L 1 = true → L 4 = true → Calls Tryz.prog 85 #[(I a1), (I nb)] W fun eg w' => ∃ c', (∀ j, L j = true → vrre3 X a1 b1 nb rr c' j = vrre3 X a1 b1 nb rr c j) ∧ eg = .returned (vrre3 X a1 b1 nb rr c' 5) ∧ Wd c' (upd L 5) w')
    (hend : ∀ c L W, (∀ i, i < 7 → L i = true) → Wd c L W → Q .normal (((((((a0.put (some 11) (.pointer (some ⟨X, 4, none⟩))).put (some 12) (I a1)).put (some 13) (.pointer (some ⟨X, 7, none⟩))).put (some 14) (I b1)).put (some 15) (I nb)).put (some 16) (I rr)).put (some 3) (I rr)) W) : (Code.region id ops true).wp Tryz.prog Q a0 w := by
  let val : Unit → Nat → Value := vrre3 X a1 b1 nb rr
  have hosz : ops.size = 7 := by
    have := congrArg List.length htab
    simpa [rre3T] using this
  have hds : ∀ i s, (rre3T[i]?).bind (·.2.1) = some s → dstOf ops i = some s := fun i s hi => by rw [tab_dst htab, hi]
  have hdisB : disL rre3T = true := by rfl
  have hdis := disL_of htab hdisB
  have hold : ∀ s, rre3T.all (fun x => !(x.2.1 == some s)) = true → (List.range ops.size).all (fun j => !(dstOf ops j == some s)) = true := fun s h => holdL htab s h
  refine region_detX val Wd (hac_of hac) hdis h0 ?_ ?_
  rotate_left
  · intro c L W hall hW
    have := hend c L W (by rw [← hosz]; exact hall) hW
    have e : frm ops a0 (val c) (fun _ => true) ops.size = (((((((a0.put (some 11) (.pointer (some ⟨X, 4, none⟩))).put (some 12) (I a1)).put (some 13) (.pointer (some ⟨X, 7, none⟩))).put (some 14) (I b1)).put (some 15) (I nb)).put (some 16) (I rr)).put (some 3) (I rr)) := by
      rw [hosz]
      simp only [frm, if_true]
      rw [tab_dst htab 0, tab_dst htab 1, tab_dst htab 2, tab_dst htab 3, tab_dst htab 4, tab_dst htab 5, tab_dst htab 6]
      rfl
    rw [e]
    exact this
  intro i o ho c L a w' hL hd ha hW
  have hi : i < 7 := by rw [← hosz]; exact (Array.getElem?_eq_some_iff.1 ho).1
  have G : ∀ j s : Nat, (rre3T[j]?).bind (·.2.1) = some s → s < 17 → (i, j) ∈ rre3D → a.tmps[s]? = some (val c j) := fun j s h1 h2 h3 => frm_at hdis ha j s (hds j s h1) (by omega) (depl_of hdep i j h3 ho hd)
  match i, ho, hL, hi, G with
  | 0, ho, hL, _, G =>
    obtain ⟨hop, hgd⟩ := tab3 htab ho rfl
    have h0 := frm_old ha 1 _ (hold 1 rfl) o1
    exact (dXr ho hgd (hpure 0 (by decide) c L w' hW) (g_field hop (eval_of h0) (by kernel_rfl)))
  | 1, ho, hL, _, G =>
    obtain ⟨hop, hgd⟩ := tab3 htab ho rfl
    have h0 := G 0 11 rfl (by decide) (by decide)
    exact (dXr ho hgd (hpure 1 (by decide) c L w' hW) (g_load hop (eval_of h0) (r1 c L w' hW hL (depl_of hdep 1 0 (by decide) ho hd))))
  | 2, ho, hL, _, G =>
    obtain ⟨hop, hgd⟩ := tab3 htab ho rfl
    have h0 := frm_old ha 1 _ (hold 1 rfl) o1
    exact (dXr ho hgd (hpure 2 (by decide) c L w' hW) (g_field hop (eval_of h0) (by kernel_rfl)))
  | 3, ho, hL, _, G =>
    obtain ⟨hop, hgd⟩ := tab3 htab ho rfl
    have h0 := G 2 13 rfl (by decide) (by decide)
    exact (dXr ho hgd (hpure 3 (by decide) c L w' hW) (g_load hop (eval_of h0) (r3 c L w' hW hL (depl_of hdep 3 2 (by decide) ho hd))))
  | 4, ho, hL, _, G =>
    obtain ⟨hop, hgd⟩ := tab3 htab ho rfl
    have h0 := G 3 14 rfl (by decide) (by decide)
    refine doesX_call ho (wanted_none hgd) 84 #[(I b1)] ?_ (r4 c L w' hW hL (depl_of hdep 4 3 (by decide) ho hd))
    rw [run_calls Tryz.func84 (by kernel_rfl) rfl _ _ _ _ hop rfl]
    simp only [List.map_toArray, List.map_cons, List.map_nil, eval_of h0]
    all_goals rfl
  | 5, ho, hL, _, G =>
    obtain ⟨hop, hgd⟩ := tab3 htab ho rfl
    have h0 := G 1 12 rfl (by decide) (by decide)
    have h1 := G 4 15 rfl (by decide) (by decide)
    refine doesX_call ho (wanted_none hgd) 85 #[(I a1), (I nb)] ?_ (r5 c L w' hW hL (depl_of hdep 5 1 (by decide) ho hd) (depl_of hdep 5 4 (by decide) ho hd))
    rw [run_calls Tryz.func85 (by kernel_rfl) rfl _ _ _ _ hop rfl]
    simp only [List.map_toArray, List.map_cons, List.map_nil, eval_of h0, eval_of h1]
    all_goals rfl
  | 6, ho, hL, _, G =>
    obtain ⟨hop, hgd⟩ := tab3 htab ho rfl
    have h0 := G 5 16 rfl (by decide) (by decide)
    exact (dXr ho hgd (hpure 6 (by decide) c L w' hW) (by rw [run_assign _ _ _ hop]; exact congrArg (fun v => Result.ok (Next.value v) w') (eval_of h0)))
  | (i + 7), ho, hL, hi, _ => exact absurd hi (by omega)
def vrre4 (X : Nat) (a1 b1 nb rr : Int) (_c : Unit) (i : Nat) : Value := match i with
  | 0 => (.pointer (some ⟨X, 5, none⟩))
  | 1 => (I a1)
  | 2 => (.pointer (some ⟨X, 6, none⟩))
  | 3 => (I b1)
  | 4 => (I nb)
  | 5 => (I rr)
  | 6 => (I rr)
  | _ => undef
def rre4T : List (Op × Option Tmp × Option (Nat × Bool)) := [
  (.fieldAddr 40 (.tmp 1) 5, some 17, none),
  (.load 3 (.tmp 17), some 18, none),
  (.fieldAddr 40 (.tmp 1) 6, some 19, none),
  (.load 3 (.tmp 19), some 20, none),
  (.call { callee := .value (.func 84), args := #[(.tmp 20)], argTypes := #[3] }, some 21, none),
  (.call { callee := .value (.func 85), args := #[(.tmp 18), (.tmp 21)], argTypes := #[3, 3] }, some 22, none),
  (.assign (.tmp 22), some 4, none)]
def rre4D : List (Nat × Nat) := [(1, 0), (3, 2), (4, 3), (5, 1), (5, 4), (6, 5)]
set_option maxHeartbeats 4000000 in
theorem rre4 {ops : Array Oper} {id : Nat} {Q : Exit → Act → World → Prop} (X : Nat) (a1 b1 nb rr : Int) (htab : ops.toList.map (fun o => (o.op, o.dst, o.guard)) = rre4T) (hdep : deplB rre4D ops = true) (hac : acB ops = true)
    (a0 : Act) (w : World) (hsz : 23 ≤ a0.tmps.size) (o1 : a0.tmps[1]? = some (.pointer (some ⟨X, 0, none⟩)))
    (Wd : Unit → (Nat → Bool) → World → Prop) (h0 : ∃ c, Wd c (fun _ => false) w.drew) (hpure : ∀ i, i ∉ ([4, 5] : List Nat) → ∀ c L W, Wd c L W → Wd c (upd L i) W)
    (r1 : ∀ c L W, Wd c L W → L 1 = false → L 0 = true → (Instr.loadAt 3 (.pointer (some ⟨X, 5, none⟩))).run Tryz.prog W = .ok (I a1) W)
    (r3 : ∀ c L W, Wd c L W → L 3 = false → L 2 = true → (Instr.loadAt 3 (.pointer (some ⟨X, 6, none⟩))).run Tryz.prog W = .ok (I b1) W)
    (r4 : ∀ c L W, Wd c L W → L 4 = false → L 3 = true → Calls Tryz.prog 84 #[(I b1)] W fun eg w' => ∃ c', (∀ j, L j = true → vrre4 X a1 b1 nb rr c' j = vrre4 X a1 b1 nb rr c j) ∧ eg = .returned (vrre4 X a1 b1 nb rr c' 4) ∧ Wd c' (upd L 4) w')
    (r5 : ∀ c L W, Wd c L W → L 5 = false → L 1 = true → L 4 = true → Calls Tryz.prog 85 #[(I a1), (I nb)] W fun eg w' => ∃ c', (∀ j, L j = true → vrre4 X a1 b1 nb rr c' j = vrre4 X a1 b1 nb rr c j) ∧ eg = .returned (vrre4 X a1 b1 nb rr c' 5) ∧ Wd c' (upd L 5) w')
    (hend : ∀ c L W, (∀ i, i < 7 → L i = true) → Wd c L W → Q .normal (((((((a0.put (some 17) (.pointer (some ⟨X, 5, none⟩))).put (some 18) (I a1)).put (some 19) (.pointer (some ⟨X, 6, none⟩))).put (some 20) (I b1)).put (some 21) (I nb)).put (some 22) (I rr)).put (some 4) (I rr)) W) : (Code.region id ops true).wp Tryz.prog Q a0 w := by
  let val : Unit → Nat → Value := vrre4 X a1 b1 nb rr
  have hosz : ops.size = 7 := by
    have := congrArg List.length htab
    simpa [rre4T] using this
  have hds : ∀ i s, (rre4T[i]?).bind (·.2.1) = some s → dstOf ops i = some s := fun i s hi => by rw [tab_dst htab, hi]
  have hdisB : disL rre4T = true := by rfl
  have hdis := disL_of htab hdisB
  have hold : ∀ s, rre4T.all (fun x => !(x.2.1 == some s)) = true → (List.range ops.size).all (fun j => !(dstOf ops j == some s)) = true := fun s h => holdL htab s h
  refine region_detX val Wd (hac_of hac) hdis h0 ?_ ?_
  rotate_left
  · intro c L W hall hW
    have := hend c L W (by rw [← hosz]; exact hall) hW
    have e : frm ops a0 (val c) (fun _ => true) ops.size = (((((((a0.put (some 17) (.pointer (some ⟨X, 5, none⟩))).put (some 18) (I a1)).put (some 19) (.pointer (some ⟨X, 6, none⟩))).put (some 20) (I b1)).put (some 21) (I nb)).put (some 22) (I rr)).put (some 4) (I rr)) := by
      rw [hosz]
      simp only [frm, if_true]
      rw [tab_dst htab 0, tab_dst htab 1, tab_dst htab 2, tab_dst htab 3, tab_dst htab 4, tab_dst htab 5, tab_dst htab 6]
      rfl
    rw [e]
    exact this
  intro i o ho c L a w' hL hd ha hW
  have hi : i < 7 := by rw [← hosz]; exact (Array.getElem?_eq_some_iff.1 ho).1
  have G : ∀ j s : Nat, (rre4T[j]?).bind (·.2.1) = some s → s < 23 → (i, j) ∈ rre4D → a.tmps[s]? = some (val c j) := fun j s h1 h2 h3 => frm_at hdis ha j s (hds j s h1) (by omega) (depl_of hdep i j h3 ho hd)
  match i, ho, hL, hi, G with
  | 0, ho, hL, _, G =>
    obtain ⟨hop, hgd⟩ := tab3 htab ho rfl
    have h0 := frm_old ha 1 _ (hold 1 rfl) o1
    exact (dXr ho hgd (hpure 0 (by decide) c L w' hW) (g_field hop (eval_of h0) (by kernel_rfl)))
  | 1, ho, hL, _, G =>
    obtain ⟨hop, hgd⟩ := tab3 htab ho rfl
    have h0 := G 0 17 rfl (by decide) (by decide)
    exact (dXr ho hgd (hpure 1 (by decide) c L w' hW) (g_load hop (eval_of h0) (r1 c L w' hW hL (depl_of hdep 1 0 (by decide) ho hd))))
  | 2, ho, hL, _, G =>
    obtain ⟨hop, hgd⟩ := tab3 htab ho rfl
    have h0 := frm_old ha 1 _ (hold 1 rfl) o1
    exact (dXr ho hgd (hpure 2 (by decide) c L w' hW) (g_field hop (eval_of h0) (by kernel_rfl)))
  | 3, ho, hL, _, G =>
    obtain ⟨hop, hgd⟩ := tab3 htab ho rfl
    have h0 := G 2 19 rfl (by decide) (by decide)
    exact (dXr ho hgd (hpure 3 (by decide) c L w' hW) (g_load hop (eval_of h0) (r3 c L w' hW hL (depl_of hdep 3 2 (by decide) ho hd))))
  | 4, ho, hL, _, G =>
    obtain ⟨hop, hgd⟩ := tab3 htab ho rfl
    have h0 := G 3 20 rfl (by decide) (by decide)
    refine doesX_call ho (wanted_none hgd) 84 #[(I b1)] ?_ (r4 c L w' hW hL (depl_of hdep 4 3 (by decide) ho hd))
    rw [run_calls Tryz.func84 (by kernel_rfl) rfl _ _ _ _ hop rfl]
    simp only [List.map_toArray, List.map_cons, List.map_nil, eval_of h0]
    all_goals rfl
  | 5, ho, hL, _, G =>
    obtain ⟨hop, hgd⟩ := tab3 htab ho rfl
    have h0 := G 1 18 rfl (by decide) (by decide)
    have h1 := G 4 21 rfl (by decide) (by decide)
    refine doesX_call ho (wanted_none hgd) 85 #[(I a1), (I nb)] ?_ (r5 c L w' hW hL (depl_of hdep 5 1 (by decide) ho hd) (depl_of hdep 5 4 (by decide) ho hd))
    rw [run_calls Tryz.func85 (by kernel_rfl) rfl _ _ _ _ hop rfl]
    simp only [List.map_toArray, List.map_cons, List.map_nil, eval_of h0, eval_of h1]
    all_goals rfl
  | 6, ho, hL, _, G =>
    obtain ⟨hop, hgd⟩ := tab3 htab ho rfl
    have h0 := G 5 22 rfl (by decide) (by decide)
    exact (dXr ho hgd (hpure 6 (by decide) c L w' hW) (by rw [run_assign _ _ _ hop]; exact congrArg (fun v => Result.ok (Next.value v) w') (eval_of h0)))
  | (i + 7), ho, hL, hi, _ => exact absurd hi (by omega)
def vrro4 (X : Nat) (F : Array Value) (en ii : Int) (su q1 q2 : Bs) (c : Nat) (i : Nat) : Value := match i with
  | 0 => (.agg F)
  | 1 => (I en)
  | 2 => (.pointer (some ⟨X, 0, none⟩))
  | 3 => (I ii)
  | 4 => (.agg #[S q1, S []])
  | 5 => (.pointer (some ⟨X, 2, none⟩))
  | 6 => (S su)
  | 7 => (.pointer (some ⟨X, 0, none⟩))
  | 8 => (I ii)
  | 9 => (.agg #[S q2, S []])
  | 10 => (.slice (some ⟨c, 0, none⟩) 2 2)
  | 11 => (.slice (some ⟨c, 0, none⟩) 2 2)
  | 12 => (I 0)
  | _ => undef
def rro4T : List (Op × Option Tmp × Option (Nat × Bool)) := [
  (.load 40 (.tmp 1), some 9, none),
  (.call { callee := .value (.func 24), args := #[(.tmp 9)], argTypes := #[40] }, some 10, none),
  (.fieldAddr 40 (.tmp 1) 0, some 11, none),
  (.load 3 (.tmp 11), some 12, none),
  (.call { callee := .value (.func 79), args := #[(.tmp 10), (.tmp 12)], argTypes := #[3, 3] }, some 13, none),
  (.fieldAddr 40 (.tmp 1) 2, some 14, none),
  (.load 9 (.tmp 14), some 15, none),
  (.fieldAddr 40 (.tmp 1) 0, some 16, none),
  (.load 3 (.tmp 16), some 17, none),
  (.call { callee := .value (.func 80), args := #[(.tmp 15), (.tmp 17)], argTypes := #[9, 3] }, some 18, none),
  (.buildSlice 43 2 #[(0, (.tmp 13)), (1, (.tmp 18))], some 19, none),
  (.assign (.tmp 19), some 2, none),
  (.assign (.const (I 0)), some 3, none)]
def rro4D : List (Nat × Nat) := [(1, 0), (3, 2), (4, 1), (4, 3), (6, 5), (8, 7), (9, 6), (9, 8), (10, 4), (10, 9), (11, 10)]
set_option maxHeartbeats 4000000 in
theorem rro4 {ops : Array Oper} {id : Nat} {Q : Exit → Act → World → Prop} (X : Nat) (F : Array Value) (en ii : Int) (su q1 q2 : Bs) (htab : ops.toList.map (fun o => (o.op, o.dst, o.guard)) = rro4T) (hdep : deplB rro4D ops = true) (hac : acB ops = true)
    (a0 : Act) (w : World) (hsz : 20 ≤ a0.tmps.size) (o1 : a0.tmps[1]? = some (.pointer (some ⟨X, 0, none⟩)))
    (Wd : Nat → (Nat → Bool) → World → Prop) (h0 : ∃ c, Wd c (fun _ => false) w.drew) (hpure : ∀ i, i ∉ ([1, 4, 9, 10, 11] : List Nat) → ∀ c L W, Wd c L W → Wd c (upd L i) W)
    (r0 : ∀ c L W, Wd c L W → L 0 = false → (Instr.loadAt 40 (.pointer (some ⟨X, 0, none⟩))).run Tryz.prog W = .ok (.agg F) W)
    (r1 : ∀ c L W, Wd c L W → L 1 = false → L 0 = true → Calls Tryz.prog 24 #[(.agg F)] W fun eg w' => ∃ c', (∀ j, L j = true → vrro4 X F en ii su q1 q2 c' j = vrro4 X F en ii su q1 q2 c j) ∧ eg = .returned (vrro4 X F en ii su q1 q2 c' 1) ∧ Wd c' (upd L 1) w')
    (r3 : ∀ c L W, Wd c L W → L 3 = false → L 2 = true → (Instr.loadAt 3 (.pointer (some ⟨X, 0, none⟩))).run Tryz.prog W = .ok (I ii) W)
    (r4 : ∀ c L W, Wd c L W → L 4 = false → L 1 = true → L 3 = true → Calls Tryz.prog 79 #[(I en), (I ii)] W fun eg w' => ∃ c', (∀ j, L j = true → vrro4 X F en ii su q1 q2 c' j = vrro4 X F en ii su q1 q2 c j) ∧ eg = .returned (vrro4 X F en ii su q1 q2 c' 4) ∧ Wd c' (upd L 4) w')
    (r6 : ∀ c L W, Wd c L W → L 6 = false → L 5 = true → (Instr.loadAt 9 (.pointer (some ⟨X, 2, none⟩))).run Tryz.prog W = .ok (S su) W)
    (r8 : ∀ c L W, Wd c L W → L 8 = false → L 7 = true → (Instr.loadAt 3 (.pointer (some ⟨X, 0, none⟩))).run Tryz.prog W = .ok (I ii) W)
    (r9 : ∀ c L W, Wd c L W → L 9 = false → L 6 = true → L 8 = true → Calls Tryz.prog 80 #[(S su), (I ii)] W fun eg w' => ∃ c', (∀ j, L j = true → vrro4 X F en ii su q1 q2 c' j = vrro4 X F en ii su q1 q2 c j) ∧ eg = .returned (vrro4 X F en ii su q1 q2 c' 9) ∧ Wd c' (upd L 9) w')
    (r10 : ∀ c L W, Wd c L W → L 10 = false → L 4 = true → L 9 = true → ∃ c' W', (∀ j, L j = true → vrro4 X F en ii su q1 q2 c' j = vrro4 X F en ii su q1 q2 c j) ∧ (Instr.buildSlice 43 2 #[(0, (.agg #[S q1, S []])), (1, (.agg #[S q2, S []]))]).run Tryz.prog W = .ok (vrro4 X F en ii su q1 q2 c' 10) W' ∧ Wd c' (upd L 10) W')
    (r11 : ∀ c L W, Wd c L W → L 11 = false → L 10 = true → Wd c (upd L 11) W)
    (hend : ∀ c L W, (∀ i, i < 13 → L i = true) → Wd c L W → Q .normal (((((((((((((a0.put (some 9) (.agg F)).put (some 10) (I en)).put (some 11) (.pointer (some ⟨X, 0, none⟩))).put (some 12) (I ii)).put (some 13) (.agg #[S q1, S []])).put (some 14) (.pointer (some ⟨X, 2, none⟩))).put (some 15) (S su)).put (some 16) (.pointer (some ⟨X, 0, none⟩))).put (some 17) (I ii)).put (some 18) (.agg #[S q2, S []])).put (some 19) (.slice (some ⟨c, 0, none⟩) 2 2)).put (some 2) (.slice (some ⟨c, 0, none⟩) 2 2)).put (some 3) (I 0)) W) : (Code.region id ops true).wp Tryz.prog Q a0 w := by
  let val : Nat → Nat → Value := vrro4 X F en ii su q1 q2
  have hosz : ops.size = 13 := by
    have := congrArg List.length htab
    simpa [rro4T] using this
  have hds : ∀ i s, (rro4T[i]?).bind (·.2.1) = some s → dstOf ops i = some s := fun i s hi => by rw [tab_dst htab, hi]
  have hdisB : disL rro4T = true := by rfl
  have hdis := disL_of htab hdisB
  have hold : ∀ s, rro4T.all (fun x => !(x.2.1 == some s)) = true → (List.range ops.size).all (fun j => !(dstOf ops j == some s)) = true := fun s h => holdL htab s h
  refine region_detX val Wd (hac_of hac) hdis h0 ?_ ?_
  rotate_left
  · intro c L W hall hW
    have := hend c L W (by rw [← hosz]; exact hall) hW
    have e : frm ops a0 (val c) (fun _ => true) ops.size = (((((((((((((a0.put (some 9) (.agg F)).put (some 10) (I en)).put (some 11) (.pointer (some ⟨X, 0, none⟩))).put (some 12) (I ii)).put (some 13) (.agg #[S q1, S []])).put (some 14) (.pointer (some ⟨X, 2, none⟩))).put (some 15) (S su)).put (some 16) (.pointer (some ⟨X, 0, none⟩))).put (some 17) (I ii)).put (some 18) (.agg #[S q2, S []])).put (some 19) (.slice (some ⟨c, 0, none⟩) 2 2)).put (some 2) (.slice (some ⟨c, 0, none⟩) 2 2)).put (some 3) (I 0)) := by
      rw [hosz]
      simp only [frm, if_true]
      rw [tab_dst htab 0, tab_dst htab 1, tab_dst htab 2, tab_dst htab 3, tab_dst htab 4, tab_dst htab 5, tab_dst htab 6, tab_dst htab 7, tab_dst htab 8, tab_dst htab 9, tab_dst htab 10, tab_dst htab 11, tab_dst htab 12]
      rfl
    rw [e]
    exact this
  intro i o ho c L a w' hL hd ha hW
  have hi : i < 13 := by rw [← hosz]; exact (Array.getElem?_eq_some_iff.1 ho).1
  have G : ∀ j s : Nat, (rro4T[j]?).bind (·.2.1) = some s → s < 20 → (i, j) ∈ rro4D → a.tmps[s]? = some (val c j) := fun j s h1 h2 h3 => frm_at hdis ha j s (hds j s h1) (by omega) (depl_of hdep i j h3 ho hd)
  match i, ho, hL, hi, G with
  | 0, ho, hL, _, G =>
    obtain ⟨hop, hgd⟩ := tab3 htab ho rfl
    have h0 := frm_old ha 1 _ (hold 1 rfl) o1
    exact (dXr ho hgd (hpure 0 (by decide) c L w' hW) (g_load hop (eval_of h0) (r0 c L w' hW hL)))
  | 1, ho, hL, _, G =>
    obtain ⟨hop, hgd⟩ := tab3 htab ho rfl
    have h0 := G 0 9 rfl (by decide) (by decide)
    refine doesX_call ho (wanted_none hgd) 24 #[(.agg F)] ?_ (r1 c L w' hW hL (depl_of hdep 1 0 (by decide) ho hd))
    rw [run_calls Tryz.func24 (by kernel_rfl) rfl _ _ _ _ hop rfl]
    simp only [List.map_toArray, List.map_cons, List.map_nil, eval_of h0]
    all_goals rfl
  | 2, ho, hL, _, G =>
    obtain ⟨hop, hgd⟩ := tab3 htab ho rfl
    have h0 := frm_old ha 1 _ (hold 1 rfl) o1
    exact (dXr ho hgd (hpure 2 (by decide) c L w' hW) (g_field hop (eval_of h0) (by kernel_rfl)))
  | 3, ho, hL, _, G =>
    obtain ⟨hop, hgd⟩ := tab3 htab ho rfl
    have h0 := G 2 11 rfl (by decide) (by decide)
    exact (dXr ho hgd (hpure 3 (by decide) c L w' hW) (g_load hop (eval_of h0) (r3 c L w' hW hL (depl_of hdep 3 2 (by decide) ho hd))))
  | 4, ho, hL, _, G =>
    obtain ⟨hop, hgd⟩ := tab3 htab ho rfl
    have h0 := G 1 10 rfl (by decide) (by decide)
    have h1 := G 3 12 rfl (by decide) (by decide)
    refine doesX_call ho (wanted_none hgd) 79 #[(I en), (I ii)] ?_ (r4 c L w' hW hL (depl_of hdep 4 1 (by decide) ho hd) (depl_of hdep 4 3 (by decide) ho hd))
    rw [run_calls Tryz.func79 (by kernel_rfl) rfl _ _ _ _ hop rfl]
    simp only [List.map_toArray, List.map_cons, List.map_nil, eval_of h0, eval_of h1]
    all_goals rfl
  | 5, ho, hL, _, G =>
    obtain ⟨hop, hgd⟩ := tab3 htab ho rfl
    have h0 := frm_old ha 1 _ (hold 1 rfl) o1
    exact (dXr ho hgd (hpure 5 (by decide) c L w' hW) (g_field hop (eval_of h0) (by kernel_rfl)))
  | 6, ho, hL, _, G =>
    obtain ⟨hop, hgd⟩ := tab3 htab ho rfl
    have h0 := G 5 14 rfl (by decide) (by decide)
    exact (dXr ho hgd (hpure 6 (by decide) c L w' hW) (g_load hop (eval_of h0) (r6 c L w' hW hL (depl_of hdep 6 5 (by decide) ho hd))))
  | 7, ho, hL, _, G =>
    obtain ⟨hop, hgd⟩ := tab3 htab ho rfl
    have h0 := frm_old ha 1 _ (hold 1 rfl) o1
    exact (dXr ho hgd (hpure 7 (by decide) c L w' hW) (g_field hop (eval_of h0) (by kernel_rfl)))
  | 8, ho, hL, _, G =>
    obtain ⟨hop, hgd⟩ := tab3 htab ho rfl
    have h0 := G 7 16 rfl (by decide) (by decide)
    exact (dXr ho hgd (hpure 8 (by decide) c L w' hW) (g_load hop (eval_of h0) (r8 c L w' hW hL (depl_of hdep 8 7 (by decide) ho hd))))
  | 9, ho, hL, _, G =>
    obtain ⟨hop, hgd⟩ := tab3 htab ho rfl
    have h0 := G 6 15 rfl (by decide) (by decide)
    have h1 := G 8 17 rfl (by decide) (by decide)
    refine doesX_call ho (wanted_none hgd) 80 #[(S su), (I ii)] ?_ (r9 c L w' hW hL (depl_of hdep 9 6 (by decide) ho hd) (depl_of hdep 9 8 (by decide) ho hd))
    rw [run_calls Tryz.func80 (by kernel_rfl) rfl _ _ _ _ hop rfl]
    simp only [List.map_toArray, List.map_cons, List.map_nil, eval_of h0, eval_of h1]
    all_goals rfl
  | 10, ho, hL, _, G =>
    obtain ⟨hop, hgd⟩ := tab3 htab ho rfl
    have h0 := G 4 13 rfl (by decide) (by decide)
    have h1 := G 9 18 rfl (by decide) (by decide)
    obtain ⟨c', W', q0, q1, q2⟩ := r10 c L w' hW hL (depl_of hdep 10 4 (by decide) ho hd) (depl_of hdep 10 9 (by decide) ho hd)
    exact doesX_runw ho (wanted_none hgd) c' q0 q2 (g_bs hop (by simp only [List.map_toArray, List.map_cons, List.map_nil, eval_of h0, eval_of h1]; first | done | rfl) q1)
  | 11, ho, hL, _, G =>
    obtain ⟨hop, hgd⟩ := tab3 htab ho rfl
    have h0 := G 10 19 rfl (by decide) (by decide)
    exact (dXr ho hgd (r11 c L w' hW hL (depl_of hdep 11 10 (by decide) ho hd)) (by rw [run_assign _ _ _ hop]; exact congrArg (fun v => Result.ok (Next.value v) w') (eval_of h0)))
  | 12, ho, hL, _, G =>
    obtain ⟨hop, hgd⟩ := tab3 htab ho rfl
    exact (dXr ho hgd (hpure 12 (by decide) c L w' hW) (by rw [run_assign _ _ _ hop]; exact congrArg (fun v => Result.ok (Next.value v) w') rfl))
  | (i + 13), ho, hL, hi, _ => exact absurd hi (by omega)
end Go.Proofs.YtpidmpefodnffaaGreatDoor
namespace Go.Proofs.YtpidmpefodnffaaGreatDoor
open Go.RowKit Go.Lib
set_option maxHeartbeats 4000000
set_option maxRecDepth 8000
theorem rNear84 (n : Int) (w : World) : Calls Tryz.prog 84 #[I n] w fun e w' => e = .returned (I (nr n)) ∧ w' = w := by
  unfold nr
  by_cases h1 : n < 0
  · rw [if_pos h1]
    go_enter Tryz.func84, Tryz.ntmps84
    go_wp2
    go_ret
    exact ⟨rfl, rfl⟩
  · rw [if_neg h1]
    by_cases h2 : 1099511627776 < n
    · rw [if_pos h2]
      go_enter Tryz.func84, Tryz.ntmps84
      go_wp2
      go_ret
      exact ⟨rfl, rfl⟩
    · rw [if_neg h2]
      go_enter Tryz.func84, Tryz.ntmps84
      go_wp2
      go_ret
      exact ⟨rfl, rfl⟩
theorem addv_hi (t d : Int) (h : 1099511627776 < d) : addv t d = 1099511627776 := by
  have b := nr_b t
  unfold addv st
  rw [if_neg (by omega), if_pos h]
  generalize nr t = x at *
  unfold nr
  split
  · omega
  · split <;> omega
theorem addv_lo (t d : Int) (h : d < -1099511627776) : addv t d = 0 := by
  have b := nr_b t
  unfold addv st
  rw [if_pos h]
  generalize nr t = x at *
  unfold nr
  split
  · rfl
  · split <;> omega
theorem addv_mid (t d : Int) (h1 : ¬ 1099511627776 < d) (h2 : ¬ d < -1099511627776) : addv t d = nr (nr t + d) := by
  unfold addv st
  rw [if_neg h2, if_neg h1]
theorem rAdd85 (t d : Int) (w : World) : Calls Tryz.prog 85 #[I t, I d] w fun e w' => e = .returned (I (addv t d)) ∧ w' = w := by
  by_cases h1 : 1099511627776 < d
  · rw [addv_hi t d h1]
    go_enter Tryz.func85, Tryz.ntmps85
    go_wp2
    go_ret
    exact ⟨rfl, rfl⟩
  · by_cases h2 : d < -1099511627776
    · rw [addv_lo t d h2]
      go_enter Tryz.func85, Tryz.ntmps85
      go_wp2
      go_ret
      exact ⟨rfl, rfl⟩
    · rw [addv_mid t d h1 h2]
      have b := nr_b t
      have X1 := hide (rNear84 t w)
      have X2 := hide (rNear84 (nr t + d) w)
      generalize nr (nr t + d) = r at *
      generalize nr t = x at *
      have q0 : 0 ≤ x := b.1
      have q1 : x ≤ 1099511627776 := b.2
      clear b
      go_enter Tryz.func85, Tryz.ntmps85
      go_wp2_with fail
      refine (unhide X1).mono ?_
      rintro e w9 ⟨rfl, hw9⟩
      rw [hw9]
      clear hw9 w9 X1
      go_wp2_with fail
      refine (unhide X2).mono ?_
      rintro e w9 ⟨rfl, hw9⟩
      rw [hw9]
      clear hw9 w9 X2
      go_wp2
      go_ret
      exact ⟨rfl, rfl⟩
theorem nr_id {x : Int} (h : 0 ≤ x ∧ x ≤ 1099511627776) : nr x = x := by
  unfold nr
  rw [if_neg (by omega), if_neg (by omega)]
theorem first_two {a b : Int} (ha : 0 ≤ a ∧ a ≤ 1099511627776) (hb : 0 ≤ b ∧ b ≤ 1099511627776) : firstv [a, b] = if b < a then b else a := by
  unfold firstv mn
  simp only [List.foldl_cons, List.foldl_nil, nr_id ha, nr_id hb]
  split <;> split <;> omega
/-- Between two operations that only read, or call what leaves the world below. -/
theorem rEnd24 (id9 : Int) (cl su : Bs) (va : Option Addr) (vc : Nat) (sc : List Bs) (cr us idl ab gr ge tk9 st en co : Int) (w : World) : Calls Tryz.prog 24 #[.agg #[I id9, S cl, S su, .slice va sc.length vc, I cr, I us, I idl, I ab, I gr, I ge, I tk9, I st, I en, I co]] w fun e w' => e = .returned (I (endV cr us idl ab st en)) ∧ Below w.heap.size w w' := by
  have HB := hide (show Below w.heap.size w (w.alloc (.cells #[I id9, S cl, S su, .slice va sc.length vc, I cr, I us, I idl, I ab, I gr, I ge, I tk9, I st, I en, I co] 40)) from (Below.refl _ w).alloc (Nat.le_refl _) _)
  have HR := hide (heap_alloc_new w (.cells #[I id9, S cl, S su, .slice va sc.length vc, I cr, I us, I idl, I ab, I gr, I ge, I tk9, I st, I en, I co] 40))
  generalize hW1 : w.alloc (.cells #[I id9, S cl, S su, .slice va sc.length vc, I cr, I us, I idl, I ab, I gr, I ge, I tk9, I st, I en, I co] 40) = W1 at *
  have c11 : W1.cell? ⟨w.heap.size, 11, none⟩ = some (I st) := cellr (unhide HR) rfl
  have c12 : W1.cell? ⟨w.heap.size, 12, none⟩ = some (I en) := cellr (unhide HR) rfl
  by_cases h1 : st = 1
  · have e1 : (st != 1) = false := by rw [bne_eq_false_iff_eq]; exact h1
    have E : endV cr us idl ab st en = if addv us (nr idl) < addv cr (nr ab) then addv us (nr idl) else addv cr (nr ab) := by
      unfold endV
      rw [if_pos h1, first_two]
      · unfold addv; exact nr_b _
      · unfold addv; exact nr_b _
    obtain ⟨m, hm⟩ : ∃ m, m = endV cr us idl ab st en := ⟨_, rfl⟩
    rw [← hm]
    rw [E] at hm
    have X1 := hide (fun W => rNear84 ab W)
    have X2 := hide (fun W => rAdd85 cr (nr ab) W)
    have X3 := hide (fun W => rNear84 idl W)
    have X4 := hide (fun W => rAdd85 us (nr idl) W)
    generalize addv us (nr idl) = r2 at *
    generalize addv cr (nr ab) = r1 at *
    generalize nr ab = n1 at *
    generalize nr idl = n2 at *
    have HMN : Hid (min r1 r2 = m) := hide (by
      rw [hm, Int.min_def]
      split <;> split <;> omega)
    have hl := lt_of_row (unhide HR)
    have HC : Hid (∀ W, Below W1.heap.size W1 W → ∀ j v, (#[I id9, S cl, S su, .slice va sc.length vc, I cr, I us, I idl, I ab, I gr, I ge, I tk9, I st, I en, I co] : Array Value)[j]? = some v → W.cell? ⟨w.heap.size, j, none⟩ = some v) := hide (fun W hW j v hv => cellr ((hW.block _ hl).trans (unhide HR)) hv)
    clear E h1 hm
    go_enter Tryz.func24, Tryz.ntmps24
    go_upto_region 3 with fail
    refine rre3 w.heap.size cr ab n1 r1 rfl (by rfl) (by rfl) _ W1 (by simp) rfl (fun _ _ W => Below W1.heap.size W1 W) ⟨(), (Below.refl _ _).drew⟩ (fun _ _ _ _ _ hW => hW)
      (fun c L W hW _ _ => s_ld (T := 3) (fun _ => by kernel_rfl) (unhide HC W hW 4 _ rfl))
      (fun c L W hW _ _ => s_ld (T := 3) (fun _ => by kernel_rfl) (unhide HC W hW 7 _ rfl))
      (fun c L W hW _ _ => (unhide X1 W).mono fun e w' q => ⟨c, fun _ _ => rfl, q.1, by rw [q.2]; exact hW⟩)
      (fun c L W hW _ _ _ => (unhide X2 W).mono fun e w' q => ⟨c, fun _ _ => rfl, q.1, by rw [q.2]; exact hW⟩) ?_
    intro c L W hall hW
    simp only [Act.put, List.setIfInBounds_toArray, List.set_cons_succ, List.set_cons_zero]
    have HW := hide hW
    clear hW hall X1 X2
    go_upto_region 4 with fail
    refine rre4 w.heap.size us idl n2 r2 rfl (by rfl) (by rfl) _ W (by simp) rfl (fun _ _ W' => Below W1.heap.size W1 W') ⟨(), (unhide HW).drew⟩ (fun _ _ _ _ _ hW => hW)
      (fun c L W hW _ _ => s_ld (T := 3) (fun _ => by kernel_rfl) (unhide HC W hW 5 _ rfl))
      (fun c L W hW _ _ => s_ld (T := 3) (fun _ => by kernel_rfl) (unhide HC W hW 6 _ rfl))
      (fun c L W hW _ _ => (unhide X3 W).mono fun e w' q => ⟨c, fun _ _ => rfl, q.1, by rw [q.2]; exact hW⟩)
      (fun c L W hW _ _ _ => (unhide X4 W).mono fun e w' q => ⟨c, fun _ _ => rfl, q.1, by rw [q.2]; exact hW⟩) ?_
    intro c' L' W' hall hW
    simp only [Act.put, List.setIfInBounds_toArray, List.set_cons_succ, List.set_cons_zero]
    have HW2 := hide ((unhide HB).trans (hW.mono (unhide HB).size))
    clear hW hall X3 X4 HC HB HR hW1
    go_wp2
    go_ret
    rw [← unhide HMN]
    exact ⟨rfl, unhide HW2⟩
  · have e1 : (st != 1) = true := by rw [bne_iff_ne]; exact h1
    have E : endV cr us idl ab st en = nr en := by
      unfold endV
      rw [if_neg h1]
    rw [E]
    have X1 := hide (rNear84 en W1)
    generalize nr en = r at *
    clear E h1
    go_enter Tryz.func24, Tryz.ntmps24
    go_wp2_with fail
    refine (unhide X1).mono ?_
    rintro e w9 ⟨rfl, hw9⟩
    rw [hw9]
    clear hw9 w9 X1
    go_wp2
    go_ret
    exact ⟨rfl, unhide HB⟩
/-- While the document's list is laid. -/
def Wof (W1 : World) (q1 q2 : Bs) (c : Nat) (L : Nat → Bool) (W : World) : Prop := Below W1.heap.size W1 W ∧ (L 10 = true → W1.heap.size ≤ c ∧ W.heap[c]? = some (.cells #[S q1, S [], S q2, S []] 30 (0, 0))) ∧ (L 11 = true → L 10 = true)
theorem Wof.step {W1 : World} {q1 q2 : Bs} {c : Nat} {L : Nat → Bool} {W W2 : World} (h : Wof W1 q1 q2 c L W) (hb : Below W.heap.size W W2) (i : Nat) (h10 : i ≠ 10) (h11 : i ≠ 11) : Wof W1 q1 q2 c (upd L i) W2 := by
  refine ⟨h.1.trans (hb.mono h.1.size), fun q => ?_, fun q => ?_⟩
  · rw [upd_ne (Ne.symm h10)] at q
    exact ⟨(h.2.1 q).1, (hb.block _ (lt_of_row (h.2.1 q).2)).trans (h.2.1 q).2⟩
  · rw [upd_ne (Ne.symm h11)] at q
    rw [upd_ne (Ne.symm h10)]
    exact h.2.2 q
theorem vro_ne (X : Nat) (F : Array Value) (en ii : Int) (su q1 q2 : Bs) (c c' : Nat) (L : Nat → Bool) (h : L 10 = false) (hp : L 11 = true → L 10 = true) : ∀ j, L j = true → vrro4 X F en ii su q1 q2 c' j = vrro4 X F en ii su q1 q2 c j := fun j hj => by
  have h1 : j ≠ 10 := fun e => by rw [e, h] at hj; cases hj
  have h2 : j ≠ 11 := fun e => by rw [e] at hj; rw [hp hj] at h; cases h
  unfold vrro4
  split <;> first | rfl | exact absurd rfl h1 | exact absurd rfl h2
theorem rOf22 (id9 : Int) (cl su : Bs) (va : Option Addr) (vc : Nat) (sc : List Bs) (cr us idl ab gr ge tk9 st en co : Int) (w : World) (hcl : cl.length ≤ 9223372036854775807) (hsu : su.length ≤ 9223372036854775807) (hsc : Sts w va sc.length sc) (hsl : sc.length ≤ 140737488355000) (hln : Lns sc) : Calls Tryz.prog 22 #[.agg #[I id9, S cl, S su, .slice va sc.length vc, I cr, I us, I idl, I ab, I gr, I ge, I tk9, I st, I en, I co]] w fun e w' => ofz.OfF w.heap.size (famOK id9 cl su sc cr us idl ab gr ge tk9 st en co) (cat (lx (endKl (endV cr us idl ab st en) id9)) 3) (cat (lx (endVl (endV cr us idl ab st en) id9)) 0) (cat (lx (subKl su id9)) 4) (cat (lx (subVl su id9)) 0) e w' ∧ Below w.heap.size w w' := by
  have hb0 : Below w.heap.size w (w.alloc (.cells #[I id9, S cl, S su, .slice va sc.length vc, I cr, I us, I idl, I ab, I gr, I ge, I tk9, I st, I en, I co] 40)) := (Below.refl _ w).alloc (Nat.le_refl _) _
  have HB := hide hb0
  have HR := hide (heap_alloc_new w (.cells #[I id9, S cl, S su, .slice va sc.length vc, I cr, I us, I idl, I ab, I gr, I ge, I tk9, I st, I en, I co] 40))
  have HM := hide (rMay75 id9 cl su va vc sc cr us idl ab gr ge tk9 st en co (w.alloc (.cells #[I id9, S cl, S su, .slice va sc.length vc, I cr, I us, I idl, I ab, I gr, I ge, I tk9, I st, I en, I co] 40)) hcl hsu (Sts.bel hsc hb0) hsl hln)
  have HE := hide (fun W => rEnd24 id9 cl su va vc sc cr us idl ab gr ge tk9 st en co W)
  have HF : Hid (famOK id9 cl su sc cr us idl ab gr ge tk9 st en co = true → (0 ≤ id9 ∧ id9 ≤ 9223372036854775807) ∧ su.length ≤ 16) := hide (fun h => by
    have b := famB h
    exact ⟨⟨b.1.1, b.1.2.2⟩, b.2.2.1⟩)
  have HV := hide (endV_b cr us idl ab st en)
  clear hb0 hcl hsu hsc hsl hln
  generalize hW1 : w.alloc (.cells #[I id9, S cl, S su, .slice va sc.length vc, I cr, I us, I idl, I ab, I gr, I ge, I tk9, I st, I en, I co] 40) = W1 at *
  generalize famOK id9 cl su sc cr us idl ab gr ge tk9 st en co = OK at *
  generalize hev : endV cr us idl ab st en = ev at *
  have c0 : W1.cell? ⟨w.heap.size, 0, none⟩ = some (I id9) := cellr (unhide HR) rfl
  have c1 : W1.cell? ⟨w.heap.size, 1, none⟩ = some (S cl) := cellr (unhide HR) rfl
  have c2 : W1.cell? ⟨w.heap.size, 2, none⟩ = some (S su) := cellr (unhide HR) rfl
  have c3 : W1.cell? ⟨w.heap.size, 3, none⟩ = some (.slice va sc.length vc) := cellr (unhide HR) rfl
  have c4 : W1.cell? ⟨w.heap.size, 4, none⟩ = some (I cr) := cellr (unhide HR) rfl
  have c5 : W1.cell? ⟨w.heap.size, 5, none⟩ = some (I us) := cellr (unhide HR) rfl
  have c6 : W1.cell? ⟨w.heap.size, 6, none⟩ = some (I idl) := cellr (unhide HR) rfl
  have c7 : W1.cell? ⟨w.heap.size, 7, none⟩ = some (I ab) := cellr (unhide HR) rfl
  have c8 : W1.cell? ⟨w.heap.size, 8, none⟩ = some (I gr) := cellr (unhide HR) rfl
  have c9 : W1.cell? ⟨w.heap.size, 9, none⟩ = some (I ge) := cellr (unhide HR) rfl
  have c10 : W1.cell? ⟨w.heap.size, 10, none⟩ = some (I tk9) := cellr (unhide HR) rfl
  have c11 : W1.cell? ⟨w.heap.size, 11, none⟩ = some (I st) := cellr (unhide HR) rfl
  have c12 : W1.cell? ⟨w.heap.size, 12, none⟩ = some (I en) := cellr (unhide HR) rfl
  have c13 : W1.cell? ⟨w.heap.size, 13, none⟩ = some (I co) := cellr (unhide HR) rfl
  go_enter Tryz.func22, Tryz.ntmps22
  go_wp2_with fail
  refine (unhide HM).mono ?_
  rintro e w2 ⟨rfl, hw2⟩
  have HB2 := hide ((unhide HB).trans (hw2.mono (unhide HB).size))
  have hT2 := (hw2.block _ (lt_of_row (unhide HR))).trans (unhide HR)
  clear hw2 HM HB HR c0 c1 c2 c3 c4 c5 c6 c7 c8 c9 c10 c11 c12 c13 hW1
  cases OK
  · clear hT2
    go_wp2
    go_ret2
    exact ⟨rfl, unhide HB2⟩
  · obtain ⟨hid, hsu⟩ := unhide HF rfl
    have hv := unhide HV
    have hc := fun (W : World) (hW : Below w2.heap.size w2 W) => (hW.block _ (lt_of_row hT2)).trans hT2
    have X1 := hide (fun W => rEnds79 ev id9 W ⟨by omega, by omega⟩ ⟨by omega, hid.2⟩)
    have X2 := hide (fun W => rSubs80 su id9 W (by omega) ⟨by omega, hid.2⟩)
    have E1 : (120 :: (byz 6 ev ++ byz 8 id9) : Bs) = cat (lx (endKl ev id9)) 3 := by
      unfold byz
      rw [if_neg (by omega), if_neg (by omega)]
      simp [cat, lx, endKl]
    have E2 : (115 :: (su ++ 0 :: byz 8 id9) : Bs) = cat (lx (subKl su id9)) 4 := by
      unfold byz
      rw [if_neg (by omega)]
      simp [cat, lx, subKl]
    rw [E1] at X1
    rw [E2] at X2
    clear E1 E2 hv hid hsu HF HV
    go_upto_region 4 with fail
    refine rro4 w.heap.size #[I id9, S cl, S su, .slice va sc.length vc, I cr, I us, I idl, I ab, I gr, I ge, I tk9, I st, I en, I co] ev id9 su (cat (lx (endKl ev id9)) 3) (cat (lx (subKl su id9)) 4) rfl (by rfl) (by rfl) _ w2 (by simp) rfl (Wof w2 (cat (lx (endKl ev id9)) 3) (cat (lx (subKl su id9)) 4)) ⟨0, (Below.refl _ _).drew, (fun e => by cases e), (fun e => by cases e)⟩
      (fun i hi c L W hW => hW.step (Below.refl _ _) i (fun e => hi (by simp [e])) (fun e => hi (by simp [e])))
      (fun c L W hW _ => s_ldr (T := 40) (n := 14) (fun _ => by kernel_rfl) (fun _ => by kernel_rfl) (o := 0) (hc W hW.1) _ rfl rfl)
      (fun c L W hW _ _ => (unhide HE W).mono fun e w' q => ⟨c, fun _ _ => rfl, q.1, hW.step q.2 1 (by decide) (by decide)⟩)
      (fun c L W hW _ _ => s_ld (T := 3) (fun _ => by kernel_rfl) (cellr (hc W hW.1) rfl))
      (fun c L W hW _ _ _ => (unhide X1 W).mono fun e w' q => ⟨c, fun _ _ => rfl, q.1, hW.step q.2 4 (by decide) (by decide)⟩)
      (fun c L W hW _ _ => s_ld (T := 9) (fun _ => by kernel_rfl) (cellr (hc W hW.1) rfl))
      (fun c L W hW _ _ => s_ld (T := 3) (fun _ => by kernel_rfl) (cellr (hc W hW.1) rfl))
      (fun c L W hW _ _ _ => (unhide X2 W).mono fun e w' q => ⟨c, fun _ _ => rfl, q.1, hW.step q.2 9 (by decide) (by decide)⟩)
      (fun c L W hW hL _ _ => ⟨W.heap.size, W.alloc (.cells #[S (cat (lx (endKl ev id9)) 3), S [], S (cat (lx (subKl su id9)) 4), S []] 30), vro_ne _ _ _ _ _ _ _ c _ L hL hW.2.2, by kernel_rfl, hW.1.alloc hW.1.size _, fun _ => ⟨hW.1.size, heap_alloc_new _ _⟩, fun _ => by simp [upd]⟩)
      (fun c L W hW _ h10 => ⟨hW.1, fun _ => hW.2.1 h10, fun _ => by rwa [upd_ne (by decide)]⟩) ?_
    intro c L W hall hW
    simp only [Act.put, List.setIfInBounds_toArray, List.set_cons_succ, List.set_cons_zero]
    obtain ⟨hs1, hs2⟩ := hW.2.1 (hall 10 (by decide))
    have hs3 : w.heap.size ≤ c := Nat.le_trans (unhide HB2).size hs1
    have HW := hide ((unhide HB2).trans (hW.1.mono (unhide HB2).size))
    clear hW hall hc hT2 HB2 X1 X2 HE hs1
    go_wp2
    go_ret2
    exact ⟨⟨c, hs3, rfl, hs2⟩, unhide HW⟩
end Go.Proofs.YtpidmpefodnffaaGreatDoor
