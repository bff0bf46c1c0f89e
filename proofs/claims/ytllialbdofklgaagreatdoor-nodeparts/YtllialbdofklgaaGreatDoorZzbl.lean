import Derived.Test.YtllialbdofklgaaGreatDoorZzbe
import Derived.Test.YtllialbdofklgaaGreatDoorZzbk
import Derived.Deep.CutRange
namespace Go.Proofs.YtllialbdofklgaaGreatDoor
open Go.RowKit
theorem run_build114 (ρ : Operand → Value) (o : Oper) (a b : Operand) (ho : o.op = .build 114 #[(0, a), (1, b)]) (x y : Int) (ha : ρ a = I x) (hb : ρ b = I y) (w : World) : (execOp ρ o).run Tryz.prog w = .ok (.value (.agg #[I x, I y])) w := by
  unfold execOp
  simp only [ho]
  simp [go_sem, ha, hb]
theorem run_ia111 (ρ : Operand → Value) (o : Oper) (x y : Operand) (ho : o.op = .indexAddr 111 x y) (g q n cap k : Nat) (hk : k < n) (hx : ρ x = .slice (some ⟨g, q, none⟩) n cap) (hy : ρ y = .int .i64 (k : Int)) (w : World) : (execOp ρ o).run Tryz.prog w = .ok (.value (.pointer (some ⟨g, q + k * 2, none⟩))) w := by
  unfold execOp
  simp only [ho, hx, hy]
  have h1 : (k : Int) < (n : Int) := by omega
  have u := Tryz.underlying111
  have z := Tryz.sizeOf114
  simp [go_sem, u, z, h1]
theorem run_st114 (ρ : Operand → Value) (o : Oper) (x y : Operand) (ho : o.op = .store 114 x y) (g q : Nat) (a b : Value) (ha : ρ x = .pointer (some ⟨g, q, none⟩)) (hy : ρ y = .agg #[a, b]) (w : World) (h : ∃ cs : Array Value, w.heap[g]? = some (.cells cs 114 (0, 0)) ∧ q + 1 < cs.size) (h1 : a.oneCell' = true ∧ b.oneCell' = true) : (execOp ρ o).run Tryz.prog w = .ok .skip ((w.setCell ⟨g, q, none⟩ a).setCell ⟨g, q + 1, none⟩ b) := by
  obtain ⟨cs, h, hq⟩ := h
  have q0 := heap_setCell_same w g q _ 114 a h
  have s0 : (store ⟨g, q, none⟩ a).run Tryz.prog w = .ok () (w.setCell ⟨g, q, none⟩ a) := by
    rw [run_store _ _ _ _ _ h1.1, cell_of_row _ g q _ 114 (0, 0) h, Array.getElem?_eq_getElem (show q < cs.size by omega)]
    simp [frozen_of_row _ g q _ 114 h]
  have s1 : (store ⟨g, q + 1, none⟩ b).run Tryz.prog (w.setCell ⟨g, q, none⟩ a) = .ok () ((w.setCell ⟨g, q, none⟩ a).setCell ⟨g, q + 1, none⟩ b) := by
    rw [run_store _ _ _ _ _ h1.2, cell_of_row _ g (q + 1) _ 114 (0, 0) q0, Array.getElem?_eq_getElem (show q + 1 < (cs.setIfInBounds q a).size by simpa using hq)]
    simp [frozen_of_row _ g (q + 1) _ 114 q0]
  unfold execOp
  simp only [ho, ha, hy]
  simp [go_sem, s0, s1, Result.andThen]
def raeT : List (Op × Option Tmp × Option (Nat × Bool)) := [
  (.move (.tmp 4), some 31, none),
  (.move (.tmp 5), some 32, none),
  (.load 25 (.tmp 6), some 33, none),
  (.call { callee := .value (.func 43), args := #[(.tmp 33)], argTypes := #[25] }, some 34, none),
  (.load 25 (.tmp 7), some 35, none),
  (.call { callee := .value (.func 43), args := #[(.tmp 35)], argTypes := #[25] }, some 36, none),
  (.build 114 #[(0, (.tmp 34)), (1, (.tmp 36))], some 37, none),
  (.indexAddr 111 (.tmp 31) (.tmp 32), some 38, none),
  (.store 114 (.tmp 38) (.tmp 37), none, none)]
def raeD : List (Nat × Nat) := [(3, 2), (5, 4), (6, 3), (6, 5), (7, 0), (7, 1), (8, 6), (8, 7)]
set_option maxHeartbeats 2000000 in
theorem rae {ops : Array Oper} {id : Nat} {Q : Exit → Act → World → Prop} (G Y Z n k a1 a2 a3 b1 b2 b3 d1 d2 d3 e1 e2 e3 x y : Nat) (p1 p2 p3 q1 q2 q3 : Option Addr) (lf : Bool) (hk : k < n) (htab : ops.toList.map (fun o => (o.op, o.dst, o.guard)) = raeT) (hdep : deplB raeD ops = true) (hac : acB ops = true)
    (a0 : Act) (w : World) (hsz : 39 ≤ a0.tmps.size) (o4 : a0.tmps[4]? = some (.slice (some ⟨G, 0, none⟩) n n)) (o5 : a0.tmps[5]? = some (.int .i64 (k : Int))) (o6 : a0.tmps[6]? = some (.pointer (some ⟨Y, 0, none⟩))) (o7 : a0.tmps[7]? = some (.pointer (some ⟨Z, 0, none⟩)))
    (Wd : (Nat → Bool) → World → Prop) (h0 : Wd (fun _ => false) w.drew) (hpure : ∀ i, i ∉ ([3, 5, 8] : List Nat) → ∀ L W, Wd L W → Wd (upd L i) W)
    (l2 : ∀ L W, Wd L W → W.cell? ⟨Y, 0, none⟩ = some (.bool lf) ∧ W.cell? ⟨Y, 1, none⟩ = some (.slice p1 a1 d1) ∧ W.cell? ⟨Y, 2, none⟩ = some (.slice p2 a2 d2) ∧ W.cell? ⟨Y, 3, none⟩ = some (.slice p3 a3 d3))
    (l4 : ∀ L W, Wd L W → W.cell? ⟨Z, 0, none⟩ = some (.bool lf) ∧ W.cell? ⟨Z, 1, none⟩ = some (.slice q1 b1 e1) ∧ W.cell? ⟨Z, 2, none⟩ = some (.slice q2 b2 e2) ∧ W.cell? ⟨Z, 3, none⟩ = some (.slice q3 b3 e3))
    (c3 : ∀ L W, Wd L W → L 3 = false → Calls Tryz.prog 43 #[(.agg #[.bool lf, .slice p1 a1 d1, .slice p2 a2 d2, .slice p3 a3 d3])] W fun e w' => e = .returned (I x) ∧ Wd (upd L 3) w')
    (c5 : ∀ L W, Wd L W → L 5 = false → Calls Tryz.prog 43 #[(.agg #[.bool lf, .slice q1 b1 e1, .slice q2 b2 e2, .slice q3 b3 e3])] W fun e w' => e = .returned (I y) ∧ Wd (upd L 5) w')
    (n8 : ∀ L W, Wd L W → L 8 = false → L 6 = true → L 7 = true → Wd (upd L 8) ((W.setCell ⟨G, 0 + k * 2, none⟩ (I x)).setCell ⟨G, 0 + k * 2 + 1, none⟩ (I y)) ∧ ∃ cs : Array Value, W.heap[G]? = some (.cells cs 114 (0, 0)) ∧ 0 + k * 2 + 1 < cs.size)
    (hend : ∀ L W, (∀ i, i < 9 → L i = true) → Wd L W → Q .normal ((((((((a0.put (some 31) (.slice (some ⟨G, 0, none⟩) n n)).put (some 32) (.int .i64 (k : Int))).put (some 33) (.agg #[.bool lf, .slice p1 a1 d1, .slice p2 a2 d2, .slice p3 a3 d3])).put (some 34) (I x)).put (some 35) (.agg #[.bool lf, .slice q1 b1 e1, .slice q2 b2 e2, .slice q3 b3 e3])).put (some 36) (I y)).put (some 37) (.agg #[I x, I y])).put (some 38) (.pointer (some ⟨G, 0 + k * 2, none⟩))) W) : (Code.region id ops true).wp Tryz.prog Q a0 w := by
  let val : Nat → Value := fun i => match i with
    | 0 => (.slice (some ⟨G, 0, none⟩) n n)
    | 1 => (.int .i64 (k : Int))
    | 2 => (.agg #[.bool lf, .slice p1 a1 d1, .slice p2 a2 d2, .slice p3 a3 d3])
    | 3 => (I x)
    | 4 => (.agg #[.bool lf, .slice q1 b1 e1, .slice q2 b2 e2, .slice q3 b3 e3])
    | 5 => (I y)
    | 6 => (.agg #[I x, I y])
    | 7 => (.pointer (some ⟨G, 0 + k * 2, none⟩))
    | 8 => undef
    | _ => undef
  have hosz : ops.size = 9 := by
    have := congrArg List.length htab
    simpa [raeT] using this
  have hds : ∀ i s, (raeT[i]?).bind (·.2.1) = some s → dstOf ops i = some s := fun i s hi => by rw [tab_dst htab, hi]
  have hdisB : disL raeT = true := by rfl
  have hdis := disL_of htab hdisB
  have hold : ∀ s, raeT.all (fun x => !(x.2.1 == some s)) = true → (List.range ops.size).all (fun j => !(dstOf ops j == some s)) = true := fun s h => holdL htab s h
  refine region_detL val Wd (hac_of hac) hdis h0 ?_ ?_
  rotate_left
  · intro L W hall hW
    have := hend L W (by rw [← hosz]; exact hall) hW
    have e : frm ops a0 val (fun _ => true) ops.size = ((((((((a0.put (some 31) (.slice (some ⟨G, 0, none⟩) n n)).put (some 32) (.int .i64 (k : Int))).put (some 33) (.agg #[.bool lf, .slice p1 a1 d1, .slice p2 a2 d2, .slice p3 a3 d3])).put (some 34) (I x)).put (some 35) (.agg #[.bool lf, .slice q1 b1 e1, .slice q2 b2 e2, .slice q3 b3 e3])).put (some 36) (I y)).put (some 37) (.agg #[I x, I y])).put (some 38) (.pointer (some ⟨G, 0 + k * 2, none⟩))) := by
      rw [hosz]
      simp only [frm, if_true]
      rw [tab_dst htab 0, tab_dst htab 1, tab_dst htab 2, tab_dst htab 3, tab_dst htab 4, tab_dst htab 5, tab_dst htab 6, tab_dst htab 7, (show dstOf ops 8 = none from (tab_dst htab 8).trans rfl), put_none]
      rfl
    rw [e]
    exact this
  intro i o ho L a w' hL hd ha hW
  have hi : i < 9 := by rw [← hosz]; exact (Array.getElem?_eq_some_iff.1 ho).1
  match i, ho, hL, hi with
  | 0, ho, hL, _ =>
    obtain ⟨hop, hdst, hgd⟩ := tab_at htab ho (show raeT[0]? = _ from rfl)
    simp only at hop hgd
    have h0 := frm_old ha 4 _ (hold 4 rfl) o4
    exact doesL_run ho (wanted_none hgd) (hpure 0 (by decide) L w' hW) (by rw [run_move _ _ _ hop]; exact congrArg (fun v => Result.ok (Next.value v) w') (eval_of h0))
  | 1, ho, hL, _ =>
    obtain ⟨hop, hdst, hgd⟩ := tab_at htab ho (show raeT[1]? = _ from rfl)
    simp only at hop hgd
    have h0 := frm_old ha 5 _ (hold 5 rfl) o5
    exact doesL_run ho (wanted_none hgd) (hpure 1 (by decide) L w' hW) (by rw [run_move _ _ _ hop]; exact congrArg (fun v => Result.ok (Next.value v) w') (eval_of h0))
  | 2, ho, hL, _ =>
    obtain ⟨hop, hdst, hgd⟩ := tab_at htab ho (show raeT[2]? = _ from rfl)
    simp only at hop hgd
    have h0 := frm_old ha 6 _ (hold 6 rfl) o6
    exact doesL_run ho (wanted_none hgd) (hpure 2 (by decide) L w' hW) (run_ld25 _ _ _ hop _ _ _ _ _ (eval_of h0) _ (l2 L w' hW).1 (l2 L w' hW).2.1 (l2 L w' hW).2.2.1 (l2 L w' hW).2.2.2)
  | 3, ho, hL, _ =>
    obtain ⟨hop, hdst, hgd⟩ := tab_at htab ho (show raeT[3]? = _ from rfl)
    simp only at hop hgd
    have h0 := frm_at hdis ha 2 33 (hds 2 33 rfl) (by omega) (depl_of hdep 3 2 (by decide) ho hd)
    refine doesL_call ho (wanted_none hgd) 43 #[.agg #[.bool lf, .slice p1 a1 d1, .slice p2 a2 d2, .slice p3 a3 d3]] ?_ (c3 L w' hW hL)
    rw [run_calls Tryz.func43 (by kernel_rfl) rfl _ _ _ _ hop rfl]
    simp only [List.map_toArray, List.map_cons, List.map_nil, eval_of h0]
    all_goals rfl
  | 4, ho, hL, _ =>
    obtain ⟨hop, hdst, hgd⟩ := tab_at htab ho (show raeT[4]? = _ from rfl)
    simp only at hop hgd
    have h0 := frm_old ha 7 _ (hold 7 rfl) o7
    exact doesL_run ho (wanted_none hgd) (hpure 4 (by decide) L w' hW) (run_ld25 _ _ _ hop _ _ _ _ _ (eval_of h0) _ (l4 L w' hW).1 (l4 L w' hW).2.1 (l4 L w' hW).2.2.1 (l4 L w' hW).2.2.2)
  | 5, ho, hL, _ =>
    obtain ⟨hop, hdst, hgd⟩ := tab_at htab ho (show raeT[5]? = _ from rfl)
    simp only at hop hgd
    have h0 := frm_at hdis ha 4 35 (hds 4 35 rfl) (by omega) (depl_of hdep 5 4 (by decide) ho hd)
    refine doesL_call ho (wanted_none hgd) 43 #[.agg #[.bool lf, .slice q1 b1 e1, .slice q2 b2 e2, .slice q3 b3 e3]] ?_ (c5 L w' hW hL)
    rw [run_calls Tryz.func43 (by kernel_rfl) rfl _ _ _ _ hop rfl]
    simp only [List.map_toArray, List.map_cons, List.map_nil, eval_of h0]
    all_goals rfl
  | 6, ho, hL, _ =>
    obtain ⟨hop, hdst, hgd⟩ := tab_at htab ho (show raeT[6]? = _ from rfl)
    simp only at hop hgd
    have h0 := frm_at hdis ha 3 34 (hds 3 34 rfl) (by omega) (depl_of hdep 6 3 (by decide) ho hd)
    have h1 := frm_at hdis ha 5 36 (hds 5 36 rfl) (by omega) (depl_of hdep 6 5 (by decide) ho hd)
    exact doesL_run ho (wanted_none hgd) (hpure 6 (by decide) L w' hW) (run_build114 _ _ _ _ hop _ _ (eval_of h0) (eval_of h1) _)
  | 7, ho, hL, _ =>
    obtain ⟨hop, hdst, hgd⟩ := tab_at htab ho (show raeT[7]? = _ from rfl)
    simp only at hop hgd
    have h0 := frm_at hdis ha 0 31 (hds 0 31 rfl) (by omega) (depl_of hdep 7 0 (by decide) ho hd)
    have h1 := frm_at hdis ha 1 32 (hds 1 32 rfl) (by omega) (depl_of hdep 7 1 (by decide) ho hd)
    exact doesL_run ho (wanted_none hgd) (hpure 7 (by decide) L w' hW) (run_ia111 _ _ _ _ hop _ _ _ _ _ hk (eval_of h0) (eval_of h1) _)
  | 8, ho, hL, _ =>
    obtain ⟨hop, hdst, hgd⟩ := tab_at htab ho (show raeT[8]? = _ from rfl)
    simp only at hop hgd
    have h0 := frm_at hdis ha 7 38 (hds 7 38 rfl) (by omega) (depl_of hdep 8 7 (by decide) ho hd)
    have h1 := frm_at hdis ha 6 37 (hds 6 37 rfl) (by omega) (depl_of hdep 8 6 (by decide) ho hd)
    obtain ⟨s1, s2⟩ := n8 L w' hW hL (depl_of hdep 8 6 (by decide) ho hd) (depl_of hdep 8 7 (by decide) ho hd)
    exact doesL_skp ho (wanted_none hgd) rfl s1 (run_st114 _ _ _ _ hop _ _ _ _ (eval_of h0) (eval_of h1) _ s2 ⟨rfl, rfl⟩)
  | (i + 9), ho, hL, hi => exact absurd hi (by omega)
end Go.Proofs.YtllialbdofklgaaGreatDoor
namespace Go.Proofs.YtllialbdofklgaaGreatDoor
open Go.RowKit
set_option maxHeartbeats 16000000
set_option maxRecDepth 8000
theorem info114 : (Tryz.prog.info? 114).map (fun i => (i.zero, i.size, i.bytes)) = some (some (.agg #[I 0, I 0]), 2, 16) := by kernel_rfl
/-- Ends that are being laid. -/
structure Enk (w : World) (G n k : Nat) (e : Nat → Nat × Nat) : Prop where
  blk : ∃ cs, w.heap[G]? = some (.cells cs 114 (0, 0)) ∧ cs.size = n * 2 ∧ (∀ j, j < k → cs[j * 2]? = some (I (e j).1) ∧ cs[j * 2 + 1]? = some (I (e j).2)) ∧ ∀ j, j < n * 2 → ∃ z : Int, cs[j]? = some (I z)
theorem Enk.below {w w' : World} {G n k : Nat} {e : Nat → Nat × Nat} (h : Enk w G n k e) (hb : Below w.heap.size w w') : Enk w' G n k e := by
  obtain ⟨cs, h1, h2, h3⟩ := h.blk
  exact ⟨cs, (hb.block _ (lt_of_row h1)).trans h1, h2, h3⟩
theorem Enk.done {w : World} {G n : Nat} {e : Nat → Nat × Nat} (h : Enk w G n n e) : Ens w G n e := by
  obtain ⟨cs, h1, h2, h3, -⟩ := h.blk
  refine ⟨lt_of_row h1, fun j hj => ?_, fun j hj => ?_⟩
  · rw [cell_of_row w G _ cs 114 (0, 0) h1]; exact (h3 j hj).1
  · rw [cell_of_row w G _ cs 114 (0, 0) h1]; exact (h3 j hj).2
theorem Enk.first {w : World} {G n : Nat} (e : Nat → Nat × Nat) (h : w.ownsRow 0 114 2 (.slice (some ⟨G, 0, none⟩) n n) n (madeCells (Value.agg #[I 0, I 0]).cells (n * 2)).toList) : Enk w G n 0 e := by
  rcases h.2 with q | ⟨g, cap, cur, q1, q2, q3, q4, q5, q6, q7⟩
  · cases q.1
  · cases q1
    refine ⟨cur, q3, q6, fun j hj => by omega, fun j hj => ⟨0, ?_⟩⟩
    have h1 : (cur.toList.take (n * 2))[j]? = cur[j]? := by
      rw [List.getElem?_take, if_pos hj]
      simp
    rw [← h1, q7]
    have h2 : (madeCells (Value.agg #[I 0, I 0]).cells (n * 2))[j]? = some (I 0) := by
      show (madeCells #[I 0, I 0] (n * 2))[j]? = some (I 0)
      unfold madeCells
      rw [Array.getElem?_map, Array.getElem?_range, if_pos hj]
      rcases Nat.mod_two_eq_zero_or_one j with q | q
      · simp [q]
      · simp [q]
    simpa using h2
theorem Enk.set {w : World} {G n k : Nat} {e : Nat → Nat × Nat} (h : Enk w G n k e) (hk : k < n) : Enk ((w.setCell ⟨G, k * 2, none⟩ (I (e k).1)).setCell ⟨G, k * 2 + 1, none⟩ (I (e k).2)) G n (k + 1) e ∧ Only (fun j => j = G) w ((w.setCell ⟨G, k * 2, none⟩ (I (e k).1)).setCell ⟨G, k * 2 + 1, none⟩ (I (e k).2)) := by
  obtain ⟨cs, h1, h2, h3, h4⟩ := h.blk
  have r1 := heap_setCell_same w G (k * 2) _ 114 (I (e k).1) h1
  have r2 := heap_setCell_same _ G (k * 2 + 1) _ 114 (I (e k).2) r1
  refine ⟨⟨_, r2, by simpa using h2, fun j hj => ?_, fun j hj => ?_⟩, (Only.setCell w ⟨G, k * 2, none⟩ (I (e k).1)).put ⟨G, k * 2 + 1, none⟩ (I (e k).2) (.inl rfl)⟩
  · simp only [Array.getElem?_setIfInBounds, Array.size_setIfInBounds, h2]
    rcases Nat.lt_or_ge j k with q | q
    · rw [if_neg (by omega), if_neg (by omega), if_neg (by omega), if_neg (by omega)]
      exact h3 j q
    · obtain rfl : j = k := by omega
      rw [if_neg (by omega), if_pos rfl, if_pos (by omega), if_pos rfl, if_pos (by omega)]
      exact ⟨rfl, rfl⟩
  · simp only [Array.getElem?_setIfInBounds, Array.size_setIfInBounds, h2]
    split
    · rw [if_pos (by omega)]; exact ⟨_, rfl⟩
    · split
      · rw [if_pos (by omega)]; exact ⟨_, rfl⟩
      · exact h4 j hj
theorem Enk.facts {w : World} {G n k : Nat} {e : Nat → Nat × Nat} (h : Enk w G n k e) (hk : k < n) : ∃ x y : Int, G < w.heap.size ∧ w.cell? ⟨G, k * 2, none⟩ = some (I x) ∧ w.cell? ⟨G, k * 2 + 1, none⟩ = some (I y) ∧ w.frozen? ⟨G, k * 2, none⟩ = false ∧ w.frozen? ⟨G, k * 2 + 1, none⟩ = false := by
  obtain ⟨cs, h1, h2, h3, h4⟩ := h.blk
  obtain ⟨x, hx⟩ := h4 (k * 2) (by omega)
  obtain ⟨y, hy⟩ := h4 (k * 2 + 1) (by omega)
  exact ⟨x, y, lt_of_row h1, (cell_of_row w G _ cs 114 (0, 0) h1).trans hx, (cell_of_row w G _ cs 114 (0, 0) h1).trans hy, frz h1 _, frz h1 _⟩
/-- A slice, as three. -/
abbrev Sl := Option Addr × Nat × Nat
def agv4 (lf : Bool) (x y z : Sl) : Value := .agg #[.bool lf, .slice x.1 x.2.1 x.2.2, .slice y.1 y.2.1 y.2.2, .slice z.1 z.2.1 z.2.2]
/-- Between two operations of allEnds' region: base Wb, the row G. -/
structure Wae (Wb : World) (G n k : Nat) (e : Nat → Nat × Nat) (L : Nat → Bool) (W : World) : Prop where
  only : Only (fun j => j = G) Wb W
  enk : Enk W G n (if L 8 then k + 1 else k) e
theorem allEnds_gen (lf : Bool) (ka va ia : Option Addr) (m kc vl vc il ic last : Nat) (lx ly lz rx ry rz : Nat → Sl) (e : Nat → Nat × Nat) (w : World) (hlast : last = if lf then m - 1 else m - 2) (hl1 : 1 ≤ last) (hm : m ≤ 4294967296)
    (hS : ∀ i W, 1 ≤ i → i ≤ last → Calls Tryz.prog 66 #[.agg #[.bool lf, .slice ka m kc, .slice va vl vc, .slice ia il ic], I i] W fun r w' => r = .returned (.tuple #[agv4 lf (lx i) (ly i) (lz i), agv4 lf (rx i) (ry i) (rz i)]) ∧ Below W.heap.size W w')
    (hL : ∀ i W, Below w.heap.size w W → 1 ≤ i → i ≤ last → Calls Tryz.prog 43 #[agv4 lf (lx i) (ly i) (lz i)] W fun r w' => r = .returned (I (e (i - 1)).1) ∧ Below W.heap.size W w')
    (hR : ∀ i W, Below w.heap.size w W → 1 ≤ i → i ≤ last → Calls Tryz.prog 43 #[agv4 lf (rx i) (ry i) (rz i)] W fun r w' => r = .returned (I (e (i - 1)).2) ∧ Below W.heap.size W w') :
    Calls Tryz.prog 96 #[.agg #[.bool lf, .slice ka m kc, .slice va vl vc, .slice ia il ic]] w fun r w' => ∃ G, r = .returned (.slice (some ⟨G, 0, none⟩) last last) ∧ Ens w' G last e ∧ Below w.heap.size w w' := by
  have hA := (Below.refl w.heap.size w).alloc (Nat.le_refl _) (.cells #[.bool lf, .slice ka m kc, .slice va vl vc, .slice ia il ic] 25)
  have hg := heap_alloc_new w (.cells #[.bool lf, .slice ka m kc, .slice va vl vc, .slice ia il ic] 25)
  have hs := size_alloc w (.cells #[.bool lf, .slice ka m kc, .slice va vl vc, .slice ia il ic] 25)
  generalize hW1 : w.alloc (.cells #[.bool lf, .slice ka m kc, .slice va vl vc, .slice ia il ic] 25) = W1 at hA hg hs
  have HA := hide hA
  have HG := hide hg
  have HS0 := hide hs
  have hz1 := lt_of_row hg
  have HSd := hide hS
  have HL := hide hL
  have HR := hide hR
  obtain ⟨c0, c1, c2, c3⟩ := box4 hg (Below.refl _ _) hz1
  clear hA hg hs hS hL hR
  go_enter Tryz.func96, Tryz.ntmps96
  go_upto_if 14 with fail
  clear hW1
  go_cut [3] from 15 to 16 (fun s3 wx => s3 = .int .i64 (last : Int) ∧ wx = W1)
  case first =>
    clear HSd HL HR
    cases lf
    · simp only [Bool.false_eq_true, if_false] at hlast
      have hq : IntKind.i64.wrap ((m : Int) - 1 - 1) = (last : Int) := by rw [IntKind.wrap_i64]; omega
      go_wp2
      go_meet
      refine ⟨?_, by first | rfl | trivial⟩
      congr 1
      omega
    · simp only [if_true] at hlast
      go_wp2
      go_meet
      refine ⟨?_, by first | rfl | trivial⟩
      congr 1
      omega
  case rest =>
    obtain ⟨rfl, rfl⟩ := hcut
    have hll : last ≤ 4294967296 := by split at hlast <;> omega
    clear hlast
    go_wp2_with (refine make_own 111 114 (.agg #[I 0, I 0]) 2 16 Tryz.underlying111 info114 rfl (.tmp 17) (.tmp 17) rfl (last : Int) (last : Int) last (by rfl) (by rfl) rfl rfl (by omega) (by omega) ?_; intro w2 r2 b2 l2; have HE0 := hide (Enk.first e r2); have HB0 := hide b2; clear r2 b2)
    generalize hGe : wc.heap.size = G at *
    have HGe := hide hGe
    clear hGe c0 c1 c2 c3
    go_loopw [21] (fun i wr => ∃ k : Nat, k ≤ last ∧ i = .int .i64 k ∧ Enk wr G last k e ∧ Below G wc wr) (fun i _ => last - (Go.RowKit.intOf i).toNat)
    case atStart => exact ⟨0, by omega, rfl, unhide HE0, unhide HB0⟩
    case round =>
      clear HE0 HB0
      obtain ⟨k, hk, rfl, hE, hB⟩ := hrel
      by_cases hlt : k < last
      · have hlt' : (k : Int) < (last : Int) := by omega
        obtain ⟨c0, c1, c2, c3⟩ := box4 (unhide HG) hB (by omega)
        have hGw : G ≤ wr.heap.size := by have := hB.size; have := unhide HGe; omega
        have l1 : w.heap.size < wr.heap.size := by omega
        have HS1 := hide (unhide HSd (k + 1) wr (by omega) (by omega))
        have HL1 := hide (fun W (q : Below w.heap.size w W) => unhide HL (k + 1) W q (by omega) (by omega))
        have HR1 := hide (fun W (q : Below w.heap.size w W) => unhide HR (k + 1) W q (by omega) (by omega))
        simp only [Nat.add_sub_cancel] at HL1 HR1
        have HE := hide hE
        have HB := hide hB
        clear hE hB
        generalize lx (k + 1) = X1 at *
        generalize ly (k + 1) = X2 at *
        generalize lz (k + 1) = X3 at *
        generalize rx (k + 1) = Y1 at *
        generalize ry (k + 1) = Y2 at *
        generalize rz (k + 1) = Y3 at *
        obtain ⟨p1, a1, d1⟩ := X1
        obtain ⟨p2, a2, d2⟩ := X2
        obtain ⟨p3, a3, d3⟩ := X3
        obtain ⟨q1, b1, e1⟩ := Y1
        obtain ⟨q2, b2, e2⟩ := Y2
        obtain ⟨q3, b3, e3⟩ := Y3
        unfold agv4 at HS1 HL1 HR1
        simp only at HS1 HL1 HR1
        rw [show ((k + 1 : Nat) : Int) = (k : Int) + 1 by omega] at HS1
        go_wp2_with fail
        refine (unhide HS1).mono ?_
        rintro r w5 ⟨rfl, b5⟩
        have HB5 := hide b5
        clear b5 c0 c1 c2 c3 l1 HS1
        go_wp2
        have hy0 := heap_alloc_new w5 (.cells #[.bool lf, .slice p1 a1 d1, .slice p2 a2 d2, .slice p3 a3 d3] 25)
        have hsy := size_alloc w5 (.cells #[.bool lf, .slice p1 a1 d1, .slice p2 a2 d2, .slice p3 a3 d3] 25)
        have hby := (Below.refl w5.heap.size w5).alloc (Nat.le_refl _) (.cells #[.bool lf, .slice p1 a1 d1, .slice p2 a2 d2, .slice p3 a3 d3] 25)
        generalize w5.alloc (.cells #[.bool lf, .slice p1 a1 d1, .slice p2 a2 d2, .slice p3 a3 d3] 25) = W6 at hy0 hsy hby ⊢
        have hz0 := heap_alloc_new W6 (.cells #[.bool lf, .slice q1 b1 e1, .slice q2 b2 e2, .slice q3 b3 e3] 25)
        have hy1 := (alloc_old W6 (.cells #[.bool lf, .slice q1 b1 e1, .slice q2 b2 e2, .slice q3 b3 e3] 25) (lt_of_row hy0)).trans hy0
        have hbz := hby.alloc hby.size (.cells #[.bool lf, .slice q1 b1 e1, .slice q2 b2 e2, .slice q3 b3 e3] 25)
        rw [hsy] at hz0
        generalize W6.alloc (.cells #[.bool lf, .slice q1 b1 e1, .slice q2 b2 e2, .slice q3 b3 e3] 25) = Wb at hz0 hy1 hbz ⊢
        have hbb := (unhide HB5).trans (hbz.mono (unhide HB5).size)
        have HEb := hide ((unhide HE).below hbb)
        have hG5 : G < w5.heap.size := by
          obtain ⟨cs, q1, _⟩ := (unhide HE).blk
          exact Nat.lt_of_lt_of_le (lt_of_row q1) (unhide HB5).size
        have hGc := (unhide HB).trans (hbb.mono hGw)
        have HGC := hide hGc
        have HBW := hide ((unhide HA).trans (hGc.mono (show w.heap.size ≤ G by omega)))
        have hGb : G ≤ Wb.heap.size := Nat.le_trans hGw hbb.size
        have HY := hide hy1
        have HZ := hide hz0
        clear hy0 hsy hby hz0 hy1 hbz hbb hGc
        refine rae G w5.heap.size (w5.heap.size + 1) last k a1 a2 a3 b1 b2 b3 d1 d2 d3 e1 e2 e3 (e k).1 (e k).2 p1 p2 p3 q1 q2 q3 lf hlt (by kernel_rfl) (by kernel_rfl) (by kernel_rfl) _ _ (by show 39 ≤ Array.size _; simp) rfl rfl rfl rfl (Wae Wb G last k e) ?_ ?_ ?_ ?_ ?_ ?_ ?_ ?_
        · exact ⟨⟨rfl, rfl, rfl, Nat.le_refl _, fun _ _ _ => rfl⟩, (unhide HEb).below ((Below.refl _ _).drew)⟩
        · intro i hi L W hW
          simp only [List.mem_cons, List.not_mem_nil, or_false, not_or] at hi
          exact ⟨hW.only, by rw [upd_ne (Ne.symm hi.2.2)]; exact hW.enk⟩
        · intro L W hW
          have g := (hW.only.block _ (lt_of_row (unhide HY)) (fun q => by omega)).trans (unhide HY)
          exact box4 g (Below.refl _ _) (lt_of_row g)
        · intro L W hW
          have g := (hW.only.block _ (lt_of_row (unhide HZ)) (fun q => by omega)).trans (unhide HZ)
          exact box4 g (Below.refl _ _) (lt_of_row g)
        · intro L W hW _
          refine (unhide HL1 W (hW.only.below (unhide HBW) (unhide HBW).size (fun j q => by omega))).mono ?_
          rintro r w' ⟨rfl, b⟩
          exact ⟨rfl, hW.only.trans (Only.of_below b) (fun _ _ q => q), by rw [upd_ne (by decide)]; exact hW.enk.below b⟩
        · intro L W hW _
          refine (unhide HR1 W (hW.only.below (unhide HBW) (unhide HBW).size (fun j q => by omega))).mono ?_
          rintro r w' ⟨rfl, b⟩
          exact ⟨rfl, hW.only.trans (Only.of_below b) (fun _ _ q => q), by rw [upd_ne (by decide)]; exact hW.enk.below b⟩
        · intro L W hW h8 _ _
          have hE := hW.enk
          rw [h8] at hE
          obtain ⟨r1, r2⟩ := hE.set hlt
          simp only [Nat.zero_add]
          obtain ⟨cs, g1, g2, -⟩ := hE.blk
          exact ⟨⟨hW.only.trans r2 (fun _ _ q => q), by rw [upd_eq]; exact r1⟩, cs, g1, by omega⟩
        · intro L W hall hW
          have hE := hW.enk
          rw [hall 8 (by omega)] at hE
          have HE9 := hide hE
          have HO := hide hW.only
          clear hE hW hall HL1 HR1
          simp only [Act.put, List.setIfInBounds_toArray, List.set_cons_succ, List.set_cons_zero]
          go_wp2
          go_roundw
          case rel => exact ⟨k + 1, by omega, by go_num, unhide HE9, (unhide HO).below (unhide HGC) hGb (fun j q => by omega)⟩
          case measure => simp [Go.RowKit.intOf]; omega
      · have hlt' : ¬ (k : Int) < (last : Int) := by omega
        obtain rfl : k = last := by omega
        have HE := hide hE.done
        have HB := hide ((unhide HA).trans (hB.mono (show w.heap.size ≤ G by omega)))
        clear hE hB
        go_wp2
        go_ret
        exact ⟨G, rfl, unhide HE, unhide HB⟩
end Go.Proofs.YtllialbdofklgaaGreatDoor
