import Derived.Test.YtllialbdofklgaaGreatDoorZrgnd
import Derived.Test.YtllialbdofklgaaGreatDoorZndg
namespace Go.Proofs.YtllialbdofklgaaGreatDoor
open Go.RowKit
theorem run_ld25 (ρ : Operand → Value) (o : Oper) (x : Operand) (ho : o.op = .load 25 x) (g : Nat) (v0 v1 v2 v3 : Value) (ha : ρ x = .pointer (some ⟨g, 0, none⟩)) (w : World) (h0 : w.cell? ⟨g, 0, none⟩ = some v0) (h1 : w.cell? ⟨g, 1, none⟩ = some v1) (h2 : w.cell? ⟨g, 2, none⟩ = some v2) (h3 : w.cell? ⟨g, 3, none⟩ = some v3) : (execOp ρ o).run Tryz.prog w = .ok (.value (.agg #[v0, v1, v2, v3])) w := by
  unfold execOp
  simp only [ho, ha]
  simp [Instr.loadAt, go_sem, h0, h1, h2, h3, Tryz.isAgg25]
end Go.Proofs.YtllialbdofklgaaGreatDoor
namespace Go.Proofs.YtllialbdofklgaaGreatDoor
open Go.RowKit
/-- What comes up as three rows are made: where they lie; and where lists of lists lie. -/
structure Ch3 where
  p1 : Option Addr
  c1 : Nat
  p2 : Option Addr
  c2 : Nat
  p3 : Option Addr
  c3 : Nat
  g1 : Nat
  g2 : Nat
  g3 : Nat
def vcq (X kl kc vl vc il ic : Nat) (ka va ia : Option Addr) (lf : Bool) (c : Ch3) (i : Nat) : Value := match i with
  | 0 => (.pointer (some ⟨X, 0 + 0, none⟩))
  | 1 => (.bool lf)
  | 2 => (.pointer (some ⟨X, 0 + 1, none⟩))
  | 3 => (.slice ka kl kc)
  | 4 => (.slice c.p1 kl c.c1)
  | 5 => (.pointer (some ⟨X, 0 + 2, none⟩))
  | 6 => (.slice va vl vc)
  | 7 => (.slice c.p2 vl c.c2)
  | 8 => (.pointer (some ⟨X, 0 + 3, none⟩))
  | 9 => (.slice ia il ic)
  | 10 => (.slice c.p3 il c.c3)
  | 11 => (.agg #[.bool lf, .slice c.p1 kl c.c1, .slice c.p2 vl c.c2, .slice c.p3 il c.c3])
  | 12 => undef
  | _ => undef
def rcqT : List (Op × Option Tmp × Option (Nat × Bool)) := [
  (.fieldAddr 25 (.tmp 1) 0, some 3, none),
  (.load 4 (.tmp 3), some 4, none),
  (.fieldAddr 25 (.tmp 1) 1, some 5, none),
  (.load 22 (.tmp 5), some 6, none),
  (.call { callee := .value (.func 100), args := #[(.tmp 6)], argTypes := #[22] }, some 7, none),
  (.fieldAddr 25 (.tmp 1) 2, some 8, none),
  (.load 22 (.tmp 8), some 9, none),
  (.call { callee := .value (.func 100), args := #[(.tmp 9)], argTypes := #[22] }, some 10, none),
  (.fieldAddr 25 (.tmp 1) 3, some 11, none),
  (.load 23 (.tmp 11), some 12, none),
  (.call { callee := .value (.func 61), args := #[(.tmp 12)], argTypes := #[23] }, some 13, none),
  (.build 25 #[(0, (.tmp 4)), (1, (.tmp 7)), (2, (.tmp 10)), (3, (.tmp 13))], some 14, none),
  (.store 25 (.tmp 2) (.tmp 14), none, none)]
def rcqD : List (Nat × Nat) := [(1, 0), (3, 2), (4, 3), (6, 5), (7, 6), (9, 8), (10, 9), (11, 1), (11, 4), (11, 7), (11, 10), (12, 11)]
set_option maxHeartbeats 2000000 in
theorem rcq {ops : Array Oper} {id : Nat} {Q : Exit → Act → World → Prop} (X A kl kc vl vc il ic : Nat) (ka va ia : Option Addr) (lf : Bool) (htab : ops.toList.map (fun o => (o.op, o.dst, o.guard)) = rcqT) (hdep : deplB rcqD ops = true) (hac : acB ops = true)
    (a0 : Act) (w : World) (hsz : 15 ≤ a0.tmps.size) (o1 : a0.tmps[1]? = some (.pointer (some ⟨X, 0, none⟩))) (o2 : a0.tmps[2]? = some (.pointer (some ⟨A, 0, none⟩)))
    (Wd : Ch3 → (Nat → Bool) → World → Prop) (h0 : ∃ c, Wd c (fun _ => false) w.drew) (hpure : ∀ i, i ∉ ([4, 7, 10, 12, 11] : List Nat) → ∀ c L W, Wd c L W → Wd c (upd L i) W)
    (l1 : ∀ c L W, Wd c L W → W.cell? ⟨X, 0 + 0, none⟩ = some (.bool lf))
    (l3 : ∀ c L W, Wd c L W → W.cell? ⟨X, 0 + 1, none⟩ = some (.slice ka kl kc))
    (l6 : ∀ c L W, Wd c L W → W.cell? ⟨X, 0 + 2, none⟩ = some (.slice va vl vc))
    (l9 : ∀ c L W, Wd c L W → W.cell? ⟨X, 0 + 3, none⟩ = some (.slice ia il ic))
    (hpure11 : ∀ c L W, Wd c L W → L 4 = true → L 7 = true → L 10 = true → Wd c (upd L 11) W)
    (c4 : ∀ c L W, Wd c L W → L 4 = false → Calls Tryz.prog 100 #[.slice ka kl kc] W fun e w' => ∃ c' : Ch3, (∀ j, L j = true → vcq X kl kc vl vc il ic ka va ia lf c' j = vcq X kl kc vl vc il ic ka va ia lf c j) ∧ e = .returned (.slice c'.p1 kl c'.c1) ∧ Wd c' (upd L 4) w')
    (c7 : ∀ c L W, Wd c L W → L 7 = false → Calls Tryz.prog 100 #[.slice va vl vc] W fun e w' => ∃ c' : Ch3, (∀ j, L j = true → vcq X kl kc vl vc il ic ka va ia lf c' j = vcq X kl kc vl vc il ic ka va ia lf c j) ∧ e = .returned (.slice c'.p2 vl c'.c2) ∧ Wd c' (upd L 7) w')
    (c10 : ∀ c L W, Wd c L W → L 10 = false → Calls Tryz.prog 61 #[.slice ia il ic] W fun e w' => ∃ c' : Ch3, (∀ j, L j = true → vcq X kl kc vl vc il ic ka va ia lf c' j = vcq X kl kc vl vc il ic ka va ia lf c j) ∧ e = .returned (.slice c'.p3 il c'.c3) ∧ Wd c' (upd L 10) w')
    (n12 : ∀ c L W, Wd c L W → L 12 = false → L 11 = true → Wd c (upd L 12) ((((W.setCell ⟨A, 0, none⟩ (.bool lf)).setCell ⟨A, 1, none⟩ (.slice c.p1 kl c.c1)).setCell ⟨A, 2, none⟩ (.slice c.p2 vl c.c2)).setCell ⟨A, 3, none⟩ (.slice c.p3 il c.c3)) ∧ W.heap[A]? = some (.cells #[.bool false, .slice none 0 0, .slice none 0 0, .slice none 0 0] 25 (0, 0)))
    (hend : ∀ c L W, (∀ i, i < 13 → L i = true) → Wd c L W → Q .normal ((((((((((((a0.put (some 3) (.pointer (some ⟨X, 0 + 0, none⟩))).put (some 4) (.bool lf)).put (some 5) (.pointer (some ⟨X, 0 + 1, none⟩))).put (some 6) (.slice ka kl kc)).put (some 7) (.slice c.p1 kl c.c1)).put (some 8) (.pointer (some ⟨X, 0 + 2, none⟩))).put (some 9) (.slice va vl vc)).put (some 10) (.slice c.p2 vl c.c2)).put (some 11) (.pointer (some ⟨X, 0 + 3, none⟩))).put (some 12) (.slice ia il ic)).put (some 13) (.slice c.p3 il c.c3)).put (some 14) (.agg #[.bool lf, .slice c.p1 kl c.c1, .slice c.p2 vl c.c2, .slice c.p3 il c.c3])) W) : (Code.region id ops true).wp Tryz.prog Q a0 w := by
  let val : Ch3 → Nat → Value := vcq X kl kc vl vc il ic ka va ia lf
  have hosz : ops.size = 13 := by
    have := congrArg List.length htab
    simpa [rcqT] using this
  have hds : ∀ i s, (rcqT[i]?).bind (·.2.1) = some s → dstOf ops i = some s := fun i s hi => by rw [tab_dst htab, hi]
  have hdisB : disL rcqT = true := by rfl
  have hdis := disL_of htab hdisB
  have hold : ∀ s, rcqT.all (fun x => !(x.2.1 == some s)) = true → (List.range ops.size).all (fun j => !(dstOf ops j == some s)) = true := fun s h => holdL htab s h
  refine region_detX val Wd (hac_of hac) hdis h0 ?_ ?_
  rotate_left
  · intro c L W hall hW
    have := hend c L W (by rw [← hosz]; exact hall) hW
    have e : frm ops a0 (val c) (fun _ => true) ops.size = ((((((((((((a0.put (some 3) (.pointer (some ⟨X, 0 + 0, none⟩))).put (some 4) (.bool lf)).put (some 5) (.pointer (some ⟨X, 0 + 1, none⟩))).put (some 6) (.slice ka kl kc)).put (some 7) (.slice c.p1 kl c.c1)).put (some 8) (.pointer (some ⟨X, 0 + 2, none⟩))).put (some 9) (.slice va vl vc)).put (some 10) (.slice c.p2 vl c.c2)).put (some 11) (.pointer (some ⟨X, 0 + 3, none⟩))).put (some 12) (.slice ia il ic)).put (some 13) (.slice c.p3 il c.c3)).put (some 14) (.agg #[.bool lf, .slice c.p1 kl c.c1, .slice c.p2 vl c.c2, .slice c.p3 il c.c3])) := by
      rw [hosz]
      simp only [frm, if_true]
      rw [tab_dst htab 0, tab_dst htab 1, tab_dst htab 2, tab_dst htab 3, tab_dst htab 4, tab_dst htab 5, tab_dst htab 6, tab_dst htab 7, tab_dst htab 8, tab_dst htab 9, tab_dst htab 10, tab_dst htab 11, (show dstOf ops 12 = none from (tab_dst htab 12).trans rfl), put_none]
      rfl
    rw [e]
    exact this
  intro i o ho c L a w' hL hd ha hW
  have hi : i < 13 := by rw [← hosz]; exact (Array.getElem?_eq_some_iff.1 ho).1
  match i, ho, hL, hi with
  | 0, ho, hL, _ =>
    obtain ⟨hop, hdst, hgd⟩ := tab_at htab ho (show rcqT[0]? = _ from rfl)
    simp only at hop hgd
    have h0 := frm_old (val := val c) ha 1 _ (hold 1 rfl) o1
    exact doesX_of (doesL_run ho (wanted_none hgd) (hpure 0 (by decide) c L w' hW) (run_f25_0 _ _ _ hop _ _ (eval_of h0) _))
  | 1, ho, hL, _ =>
    obtain ⟨hop, hdst, hgd⟩ := tab_at htab ho (show rcqT[1]? = _ from rfl)
    simp only at hop hgd
    have h0 := frm_at (val := val c) hdis ha 0 3 (hds 0 3 rfl) (by omega) (depl_of hdep 1 0 (by decide) ho hd)
    exact doesX_of (doesL_run ho (wanted_none hgd) (hpure 1 (by decide) c L w' hW) (run_ld4 _ _ _ hop _ _ (eval_of h0) _ (l1 c L w' hW)))
  | 2, ho, hL, _ =>
    obtain ⟨hop, hdst, hgd⟩ := tab_at htab ho (show rcqT[2]? = _ from rfl)
    simp only at hop hgd
    have h0 := frm_old (val := val c) ha 1 _ (hold 1 rfl) o1
    exact doesX_of (doesL_run ho (wanted_none hgd) (hpure 2 (by decide) c L w' hW) (run_f25_1 _ _ _ hop _ _ (eval_of h0) _))
  | 3, ho, hL, _ =>
    obtain ⟨hop, hdst, hgd⟩ := tab_at htab ho (show rcqT[3]? = _ from rfl)
    simp only at hop hgd
    have h0 := frm_at (val := val c) hdis ha 2 5 (hds 2 5 rfl) (by omega) (depl_of hdep 3 2 (by decide) ho hd)
    exact doesX_of (doesL_run ho (wanted_none hgd) (hpure 3 (by decide) c L w' hW) (run_ld22 _ _ _ hop _ _ (eval_of h0) _ (l3 c L w' hW)))
  | 4, ho, hL, _ =>
    obtain ⟨hop, hdst, hgd⟩ := tab_at htab ho (show rcqT[4]? = _ from rfl)
    simp only at hop hgd
    have h0 := frm_at (val := val c) hdis ha 3 6 (hds 3 6 rfl) (by omega) (depl_of hdep 4 3 (by decide) ho hd)
    refine doesX_call ho (wanted_none hgd) 100 #[.slice ka kl kc] ?_ (c4 c L w' hW hL)
    rw [run_calls Tryz.func100 (by kernel_rfl) rfl _ _ _ _ hop rfl]
    simp only [List.map_toArray, List.map_cons, List.map_nil, eval_of h0]
    all_goals rfl
  | 5, ho, hL, _ =>
    obtain ⟨hop, hdst, hgd⟩ := tab_at htab ho (show rcqT[5]? = _ from rfl)
    simp only at hop hgd
    have h0 := frm_old (val := val c) ha 1 _ (hold 1 rfl) o1
    exact doesX_of (doesL_run ho (wanted_none hgd) (hpure 5 (by decide) c L w' hW) (run_f25_2 _ _ _ hop _ _ (eval_of h0) _))
  | 6, ho, hL, _ =>
    obtain ⟨hop, hdst, hgd⟩ := tab_at htab ho (show rcqT[6]? = _ from rfl)
    simp only at hop hgd
    have h0 := frm_at (val := val c) hdis ha 5 8 (hds 5 8 rfl) (by omega) (depl_of hdep 6 5 (by decide) ho hd)
    exact doesX_of (doesL_run ho (wanted_none hgd) (hpure 6 (by decide) c L w' hW) (run_ld22 _ _ _ hop _ _ (eval_of h0) _ (l6 c L w' hW)))
  | 7, ho, hL, _ =>
    obtain ⟨hop, hdst, hgd⟩ := tab_at htab ho (show rcqT[7]? = _ from rfl)
    simp only at hop hgd
    have h0 := frm_at (val := val c) hdis ha 6 9 (hds 6 9 rfl) (by omega) (depl_of hdep 7 6 (by decide) ho hd)
    refine doesX_call ho (wanted_none hgd) 100 #[.slice va vl vc] ?_ (c7 c L w' hW hL)
    rw [run_calls Tryz.func100 (by kernel_rfl) rfl _ _ _ _ hop rfl]
    simp only [List.map_toArray, List.map_cons, List.map_nil, eval_of h0]
    all_goals rfl
  | 8, ho, hL, _ =>
    obtain ⟨hop, hdst, hgd⟩ := tab_at htab ho (show rcqT[8]? = _ from rfl)
    simp only at hop hgd
    have h0 := frm_old (val := val c) ha 1 _ (hold 1 rfl) o1
    exact doesX_of (doesL_run ho (wanted_none hgd) (hpure 8 (by decide) c L w' hW) (run_f25_3 _ _ _ hop _ _ (eval_of h0) _))
  | 9, ho, hL, _ =>
    obtain ⟨hop, hdst, hgd⟩ := tab_at htab ho (show rcqT[9]? = _ from rfl)
    simp only at hop hgd
    have h0 := frm_at (val := val c) hdis ha 8 11 (hds 8 11 rfl) (by omega) (depl_of hdep 9 8 (by decide) ho hd)
    exact doesX_of (doesL_run ho (wanted_none hgd) (hpure 9 (by decide) c L w' hW) (run_ld23 _ _ _ hop _ _ (eval_of h0) _ (l9 c L w' hW)))
  | 10, ho, hL, _ =>
    obtain ⟨hop, hdst, hgd⟩ := tab_at htab ho (show rcqT[10]? = _ from rfl)
    simp only at hop hgd
    have h0 := frm_at (val := val c) hdis ha 9 12 (hds 9 12 rfl) (by omega) (depl_of hdep 10 9 (by decide) ho hd)
    refine doesX_call ho (wanted_none hgd) 61 #[.slice ia il ic] ?_ (c10 c L w' hW hL)
    rw [run_calls Tryz.func61 (by kernel_rfl) rfl _ _ _ _ hop rfl]
    simp only [List.map_toArray, List.map_cons, List.map_nil, eval_of h0]
    all_goals rfl
  | 11, ho, hL, _ =>
    obtain ⟨hop, hdst, hgd⟩ := tab_at htab ho (show rcqT[11]? = _ from rfl)
    simp only at hop hgd
    have h0 := frm_at (val := val c) hdis ha 1 4 (hds 1 4 rfl) (by omega) (depl_of hdep 11 1 (by decide) ho hd)
    have h1 := frm_at (val := val c) hdis ha 4 7 (hds 4 7 rfl) (by omega) (depl_of hdep 11 4 (by decide) ho hd)
    have h2 := frm_at (val := val c) hdis ha 7 10 (hds 7 10 rfl) (by omega) (depl_of hdep 11 7 (by decide) ho hd)
    have h3 := frm_at (val := val c) hdis ha 10 13 (hds 10 13 rfl) (by omega) (depl_of hdep 11 10 (by decide) ho hd)
    exact doesX_of (doesL_run ho (wanted_none hgd) (hpure11 c L w' hW (depl_of hdep 11 4 (by decide) ho hd) (depl_of hdep 11 7 (by decide) ho hd) (depl_of hdep 11 10 (by decide) ho hd)) (run_build25 _ _ _ _ _ _ hop _ _ _ _ _ _ _ _ _ _ (eval_of h0) (eval_of h1) (eval_of h2) (eval_of h3) _))
  | 12, ho, hL, _ =>
    obtain ⟨hop, hdst, hgd⟩ := tab_at htab ho (show rcqT[12]? = _ from rfl)
    simp only at hop hgd
    have h0 := frm_old (val := val c) ha 2 _ (hold 2 rfl) o2
    have h1 := frm_at (val := val c) hdis ha 11 14 (hds 11 14 rfl) (by omega) (depl_of hdep 12 11 (by decide) ho hd)
    obtain ⟨s1, s2⟩ := n12 c L w' hW hL (depl_of hdep 12 11 (by decide) ho hd)
    exact doesX_of (doesL_skp ho (wanted_none hgd) rfl s1 (run_st25 _ _ _ _ hop _ _ _ _ _ (eval_of h0) (eval_of h1) _ _ _ _ _ s2 ⟨rfl, rfl, rfl, rfl⟩))
  | (i + 13), ho, hL, hi => exact absurd hi (by omega)
end Go.Proofs.YtllialbdofklgaaGreatDoor
namespace Go.Proofs.YtllialbdofklgaaGreatDoor
open Go.RowKit
theorem run_bs22_1 (ρ : Operand → Value) (o : Oper) (a : Operand) (ho : o.op = .buildSlice 22 1 #[(0, a)]) (x : Bs) (ha : ρ a = S x) (w : World) : (execOp ρ o).run Tryz.prog w = .ok (.value (.slice (some ⟨w.heap.size, 0, none⟩) 1 1)) (w.alloc (.cells #[S x] 9)) := by
  unfold execOp
  simp only [ho]
  simp [go_sem, ha, Tryz.zeroValue9, Tryz.sizeOf9]
theorem run_bs33_3 (ρ : Operand → Value) (o : Oper) (a b c : Operand) (ho : o.op = .buildSlice 33 3 #[(0, a), (1, b), (2, c)]) (p1 p2 p3 : Option Addr) (n1 c1 n2 c2 n3 c3 : Nat) (ha : ρ a = .slice p1 n1 c1) (hb : ρ b = .slice p2 n2 c2) (hc : ρ c = .slice p3 n3 c3) (w : World) : (execOp ρ o).run Tryz.prog w = .ok (.value (.slice (some ⟨w.heap.size, 0, none⟩) 3 3)) (w.alloc (.cells #[.slice p1 n1 c1, .slice p2 n2 c2, .slice p3 n3 c3] 22)) := by
  unfold execOp
  simp only [ho]
  simp [go_sem, ha, hb, hc, Tryz.zeroValue22, Tryz.sizeOf22]
theorem run_bs34_2 (ρ : Operand → Value) (o : Oper) (a b : Operand) (ho : o.op = .buildSlice 34 2 #[(0, a), (1, b)]) (p1 p2 : Option Addr) (n1 c1 n2 c2 : Nat) (ha : ρ a = .slice p1 n1 c1) (hb : ρ b = .slice p2 n2 c2) (w : World) : (execOp ρ o).run Tryz.prog w = .ok (.value (.slice (some ⟨w.heap.size, 0, none⟩) 2 2)) (w.alloc (.cells #[.slice p1 n1 c1, .slice p2 n2 c2] 23)) := by
  unfold execOp
  simp only [ho]
  simp [go_sem, ha, hb, Tryz.zeroValue23, Tryz.sizeOf23]
theorem run_build25i (ρ : Operand → Value) (o : Oper) (b d : Operand) (ho : o.op = .build 25 #[(1, b), (3, d)]) (p1 p3 : Option Addr) (n1 c1 n3 c3 : Nat) (hb : ρ b = .slice p1 n1 c1) (hd : ρ d = .slice p3 n3 c3) (w : World) : (execOp ρ o).run Tryz.prog w = .ok (.value (.agg #[.bool false, .slice p1 n1 c1, .slice none 0 0, .slice p3 n3 c3])) w := by
  unfold execOp
  simp only [ho]
  simp [go_sem, hb, hd, Tryz.zeroValue25]
def vji (X Y k1 k2 i1 i2 kc kd ic jd kl il : Nat) (ka kb ia ib : Option Addr) (key : Bs) (c : Ch3) (i : Nat) : Value := match i with
  | 0 => (.pointer (some ⟨X, 0 + 1, none⟩))
  | 1 => (.slice ka k1 kc)
  | 2 => (S key)
  | 3 => (.slice (some ⟨c.g1, 0, none⟩) 1 1)
  | 4 => (.pointer (some ⟨Y, 0 + 1, none⟩))
  | 5 => (.slice kb k2 kd)
  | 6 => (.slice (some ⟨c.g2, 0, none⟩) 3 3)
  | 7 => (.slice c.p1 kl c.c1)
  | 8 => (.pointer (some ⟨X, 0 + 3, none⟩))
  | 9 => (.slice ia i1 ic)
  | 10 => (.pointer (some ⟨Y, 0 + 3, none⟩))
  | 11 => (.slice ib i2 jd)
  | 12 => (.slice (some ⟨c.g3, 0, none⟩) 2 2)
  | 13 => (.slice c.p3 il c.c3)
  | 14 => (.agg #[.bool false, .slice c.p1 kl c.c1, .slice none 0 0, .slice c.p3 il c.c3])
  | 15 => undef
  | _ => undef
def rjiT : List (Op × Option Tmp × Option (Nat × Bool)) := [
  (.fieldAddr 25 (.tmp 3) 1, some 22, none),
  (.load 22 (.tmp 22), some 23, none),
  (.move (.tmp 1), some 24, none),
  (.buildSlice 22 1 #[(0, (.tmp 24))], some 25, none),
  (.fieldAddr 25 (.tmp 5) 1, some 26, none),
  (.load 22 (.tmp 26), some 27, none),
  (.buildSlice 33 3 #[(0, (.tmp 23)), (1, (.tmp 25)), (2, (.tmp 27))], some 28, none),
  (.call { callee := .value (.func 105), args := #[(.tmp 28)], argTypes := #[33] }, some 29, none),
  (.fieldAddr 25 (.tmp 3) 3, some 30, none),
  (.load 23 (.tmp 30), some 31, none),
  (.fieldAddr 25 (.tmp 5) 3, some 32, none),
  (.load 23 (.tmp 32), some 33, none),
  (.buildSlice 34 2 #[(0, (.tmp 31)), (1, (.tmp 33))], some 34, none),
  (.call { callee := .value (.func 104), args := #[(.tmp 34)], argTypes := #[34] }, some 35, none),
  (.build 25 #[(1, (.tmp 29)), (3, (.tmp 35))], some 36, none),
  (.store 25 (.tmp 6) (.tmp 36), none, none)]
def rjiD : List (Nat × Nat) := [(1, 0), (3, 2), (5, 4), (6, 1), (6, 3), (6, 5), (7, 6), (9, 8), (11, 10), (12, 9), (12, 11), (13, 12), (14, 7), (14, 13), (15, 14)]
set_option maxHeartbeats 2000000 in
theorem rji {ops : Array Oper} {id : Nat} {Q : Exit → Act → World → Prop} (X Y A k1 k2 i1 i2 kc kd ic jd kl il : Nat) (ka kb ia ib : Option Addr) (key : Bs) (htab : ops.toList.map (fun o => (o.op, o.dst, o.guard)) = rjiT) (hdep : deplB rjiD ops = true) (hac : acB ops = true)
    (a0 : Act) (w : World) (hsz : 37 ≤ a0.tmps.size) (o1 : a0.tmps[1]? = some (S key)) (o3 : a0.tmps[3]? = some (.pointer (some ⟨X, 0, none⟩))) (o5 : a0.tmps[5]? = some (.pointer (some ⟨Y, 0, none⟩))) (o6 : a0.tmps[6]? = some (.pointer (some ⟨A, 0, none⟩)))
    (Wd : Ch3 → (Nat → Bool) → World → Prop) (h0 : ∃ c, Wd c (fun _ => false) w.drew) (hpure : ∀ i, i ∉ ([3, 6, 7, 12, 13, 15, 14] : List Nat) → ∀ c L W, Wd c L W → Wd c (upd L i) W)
    (l1 : ∀ c L W, Wd c L W → W.cell? ⟨X, 0 + 1, none⟩ = some (.slice ka k1 kc))
    (l5 : ∀ c L W, Wd c L W → W.cell? ⟨Y, 0 + 1, none⟩ = some (.slice kb k2 kd))
    (l9 : ∀ c L W, Wd c L W → W.cell? ⟨X, 0 + 3, none⟩ = some (.slice ia i1 ic))
    (l11 : ∀ c L W, Wd c L W → W.cell? ⟨Y, 0 + 3, none⟩ = some (.slice ib i2 jd))
    (hpure14 : ∀ c L W, Wd c L W → L 7 = true → L 13 = true → Wd c (upd L 14) W)
    (n3 : ∀ c L W, Wd c L W → L 3 = false → ∃ c' : Ch3, (∀ j, L j = true → vji X Y k1 k2 i1 i2 kc kd ic jd kl il ka kb ia ib key c' j = vji X Y k1 k2 i1 i2 kc kd ic jd kl il ka kb ia ib key c j) ∧ c'.g1 = W.heap.size ∧ Wd c' (upd L 3) (W.alloc (.cells #[S key] 9)))
    (n6 : ∀ c L W, Wd c L W → L 6 = false → L 3 = true → ∃ c' : Ch3, (∀ j, L j = true → vji X Y k1 k2 i1 i2 kc kd ic jd kl il ka kb ia ib key c' j = vji X Y k1 k2 i1 i2 kc kd ic jd kl il ka kb ia ib key c j) ∧ c'.g2 = W.heap.size ∧ Wd c' (upd L 6) (W.alloc (.cells #[.slice ka k1 kc, .slice (some ⟨c.g1, 0, none⟩) 1 1, .slice kb k2 kd] 22)))
    (n12 : ∀ c L W, Wd c L W → L 12 = false → ∃ c' : Ch3, (∀ j, L j = true → vji X Y k1 k2 i1 i2 kc kd ic jd kl il ka kb ia ib key c' j = vji X Y k1 k2 i1 i2 kc kd ic jd kl il ka kb ia ib key c j) ∧ c'.g3 = W.heap.size ∧ Wd c' (upd L 12) (W.alloc (.cells #[.slice ia i1 ic, .slice ib i2 jd] 23)))
    (c7 : ∀ c L W, Wd c L W → L 7 = false → L 6 = true → Calls Tryz.prog 105 #[.slice (some ⟨c.g2, 0, none⟩) 3 3] W fun e w' => ∃ c' : Ch3, (∀ j, L j = true → vji X Y k1 k2 i1 i2 kc kd ic jd kl il ka kb ia ib key c' j = vji X Y k1 k2 i1 i2 kc kd ic jd kl il ka kb ia ib key c j) ∧ e = .returned (.slice c'.p1 kl c'.c1) ∧ Wd c' (upd L 7) w')
    (c13 : ∀ c L W, Wd c L W → L 13 = false → L 12 = true → Calls Tryz.prog 104 #[.slice (some ⟨c.g3, 0, none⟩) 2 2] W fun e w' => ∃ c' : Ch3, (∀ j, L j = true → vji X Y k1 k2 i1 i2 kc kd ic jd kl il ka kb ia ib key c' j = vji X Y k1 k2 i1 i2 kc kd ic jd kl il ka kb ia ib key c j) ∧ e = .returned (.slice c'.p3 il c'.c3) ∧ Wd c' (upd L 13) w')
    (n15 : ∀ c L W, Wd c L W → L 15 = false → L 14 = true → Wd c (upd L 15) ((((W.setCell ⟨A, 0, none⟩ (.bool false)).setCell ⟨A, 1, none⟩ (.slice c.p1 kl c.c1)).setCell ⟨A, 2, none⟩ (.slice none 0 0)).setCell ⟨A, 3, none⟩ (.slice c.p3 il c.c3)) ∧ W.heap[A]? = some (.cells #[.bool false, .slice none 0 0, .slice none 0 0, .slice none 0 0] 25 (0, 0)))
    (hend : ∀ c L W, (∀ i, i < 16 → L i = true) → Wd c L W → Q .normal (((((((((((((((a0.put (some 22) (.pointer (some ⟨X, 0 + 1, none⟩))).put (some 23) (.slice ka k1 kc)).put (some 24) (S key)).put (some 25) (.slice (some ⟨c.g1, 0, none⟩) 1 1)).put (some 26) (.pointer (some ⟨Y, 0 + 1, none⟩))).put (some 27) (.slice kb k2 kd)).put (some 28) (.slice (some ⟨c.g2, 0, none⟩) 3 3)).put (some 29) (.slice c.p1 kl c.c1)).put (some 30) (.pointer (some ⟨X, 0 + 3, none⟩))).put (some 31) (.slice ia i1 ic)).put (some 32) (.pointer (some ⟨Y, 0 + 3, none⟩))).put (some 33) (.slice ib i2 jd)).put (some 34) (.slice (some ⟨c.g3, 0, none⟩) 2 2)).put (some 35) (.slice c.p3 il c.c3)).put (some 36) (.agg #[.bool false, .slice c.p1 kl c.c1, .slice none 0 0, .slice c.p3 il c.c3])) W) : (Code.region id ops true).wp Tryz.prog Q a0 w := by
  let val : Ch3 → Nat → Value := vji X Y k1 k2 i1 i2 kc kd ic jd kl il ka kb ia ib key
  have hosz : ops.size = 16 := by
    have := congrArg List.length htab
    simpa [rjiT] using this
  have hds : ∀ i s, (rjiT[i]?).bind (·.2.1) = some s → dstOf ops i = some s := fun i s hi => by rw [tab_dst htab, hi]
  have hdisB : disL rjiT = true := by rfl
  have hdis := disL_of htab hdisB
  have hold : ∀ s, rjiT.all (fun x => !(x.2.1 == some s)) = true → (List.range ops.size).all (fun j => !(dstOf ops j == some s)) = true := fun s h => holdL htab s h
  refine region_detX val Wd (hac_of hac) hdis h0 ?_ ?_
  rotate_left
  · intro c L W hall hW
    have := hend c L W (by rw [← hosz]; exact hall) hW
    have e : frm ops a0 (val c) (fun _ => true) ops.size = (((((((((((((((a0.put (some 22) (.pointer (some ⟨X, 0 + 1, none⟩))).put (some 23) (.slice ka k1 kc)).put (some 24) (S key)).put (some 25) (.slice (some ⟨c.g1, 0, none⟩) 1 1)).put (some 26) (.pointer (some ⟨Y, 0 + 1, none⟩))).put (some 27) (.slice kb k2 kd)).put (some 28) (.slice (some ⟨c.g2, 0, none⟩) 3 3)).put (some 29) (.slice c.p1 kl c.c1)).put (some 30) (.pointer (some ⟨X, 0 + 3, none⟩))).put (some 31) (.slice ia i1 ic)).put (some 32) (.pointer (some ⟨Y, 0 + 3, none⟩))).put (some 33) (.slice ib i2 jd)).put (some 34) (.slice (some ⟨c.g3, 0, none⟩) 2 2)).put (some 35) (.slice c.p3 il c.c3)).put (some 36) (.agg #[.bool false, .slice c.p1 kl c.c1, .slice none 0 0, .slice c.p3 il c.c3])) := by
      rw [hosz]
      simp only [frm, if_true]
      rw [tab_dst htab 0, tab_dst htab 1, tab_dst htab 2, tab_dst htab 3, tab_dst htab 4, tab_dst htab 5, tab_dst htab 6, tab_dst htab 7, tab_dst htab 8, tab_dst htab 9, tab_dst htab 10, tab_dst htab 11, tab_dst htab 12, tab_dst htab 13, tab_dst htab 14, (show dstOf ops 15 = none from (tab_dst htab 15).trans rfl), put_none]
      rfl
    rw [e]
    exact this
  intro i o ho c L a w' hL hd ha hW
  have hi : i < 16 := by rw [← hosz]; exact (Array.getElem?_eq_some_iff.1 ho).1
  match i, ho, hL, hi with
  | 0, ho, hL, _ =>
    obtain ⟨hop, hdst, hgd⟩ := tab_at htab ho (show rjiT[0]? = _ from rfl)
    simp only at hop hgd
    have h0 := frm_old (val := val c) ha 3 _ (hold 3 rfl) o3
    exact doesX_of (doesL_run ho (wanted_none hgd) (hpure 0 (by decide) c L w' hW) (run_f25_1 _ _ _ hop _ _ (eval_of h0) _))
  | 1, ho, hL, _ =>
    obtain ⟨hop, hdst, hgd⟩ := tab_at htab ho (show rjiT[1]? = _ from rfl)
    simp only at hop hgd
    have h0 := frm_at (val := val c) hdis ha 0 22 (hds 0 22 rfl) (by omega) (depl_of hdep 1 0 (by decide) ho hd)
    exact doesX_of (doesL_run ho (wanted_none hgd) (hpure 1 (by decide) c L w' hW) (run_ld22 _ _ _ hop _ _ (eval_of h0) _ (l1 c L w' hW)))
  | 2, ho, hL, _ =>
    obtain ⟨hop, hdst, hgd⟩ := tab_at htab ho (show rjiT[2]? = _ from rfl)
    simp only at hop hgd
    have h0 := frm_old (val := val c) ha 1 _ (hold 1 rfl) o1
    exact doesX_of (doesL_run ho (wanted_none hgd) (hpure 2 (by decide) c L w' hW) (by rw [run_move _ _ _ hop]; exact congrArg (fun v => Result.ok (Next.value v) w') (eval_of h0)))
  | 3, ho, hL, _ =>
    obtain ⟨hop, hdst, hgd⟩ := tab_at htab ho (show rjiT[3]? = _ from rfl)
    simp only at hop hgd
    have h0 := frm_at (val := val c) hdis ha 2 24 (hds 2 24 rfl) (by omega) (depl_of hdep 3 2 (by decide) ho hd)
    obtain ⟨c', q0, q1, q2⟩ := n3 c L w' hW hL
    refine doesX_runw ho (wanted_none hgd) c' q0 q2 ((run_bs22_1 _ _ _ hop _ (eval_of h0) _).trans (by rw [← q1]; rfl))
  | 4, ho, hL, _ =>
    obtain ⟨hop, hdst, hgd⟩ := tab_at htab ho (show rjiT[4]? = _ from rfl)
    simp only at hop hgd
    have h0 := frm_old (val := val c) ha 5 _ (hold 5 rfl) o5
    exact doesX_of (doesL_run ho (wanted_none hgd) (hpure 4 (by decide) c L w' hW) (run_f25_1 _ _ _ hop _ _ (eval_of h0) _))
  | 5, ho, hL, _ =>
    obtain ⟨hop, hdst, hgd⟩ := tab_at htab ho (show rjiT[5]? = _ from rfl)
    simp only at hop hgd
    have h0 := frm_at (val := val c) hdis ha 4 26 (hds 4 26 rfl) (by omega) (depl_of hdep 5 4 (by decide) ho hd)
    exact doesX_of (doesL_run ho (wanted_none hgd) (hpure 5 (by decide) c L w' hW) (run_ld22 _ _ _ hop _ _ (eval_of h0) _ (l5 c L w' hW)))
  | 6, ho, hL, _ =>
    obtain ⟨hop, hdst, hgd⟩ := tab_at htab ho (show rjiT[6]? = _ from rfl)
    simp only at hop hgd
    have h0 := frm_at (val := val c) hdis ha 1 23 (hds 1 23 rfl) (by omega) (depl_of hdep 6 1 (by decide) ho hd)
    have h1 := frm_at (val := val c) hdis ha 3 25 (hds 3 25 rfl) (by omega) (depl_of hdep 6 3 (by decide) ho hd)
    have h2 := frm_at (val := val c) hdis ha 5 27 (hds 5 27 rfl) (by omega) (depl_of hdep 6 5 (by decide) ho hd)
    obtain ⟨c', q0, q1, q2⟩ := n6 c L w' hW hL (depl_of hdep 6 3 (by decide) ho hd)
    refine doesX_runw ho (wanted_none hgd) c' q0 q2 ((run_bs33_3 _ _ _ _ _ hop _ _ _ _ _ _ _ _ _ (eval_of h0) (eval_of h1) (eval_of h2) _).trans (by rw [← q1]; rfl))
  | 7, ho, hL, _ =>
    obtain ⟨hop, hdst, hgd⟩ := tab_at htab ho (show rjiT[7]? = _ from rfl)
    simp only at hop hgd
    have h0 := frm_at (val := val c) hdis ha 6 28 (hds 6 28 rfl) (by omega) (depl_of hdep 7 6 (by decide) ho hd)
    refine doesX_call ho (wanted_none hgd) 105 #[.slice (some ⟨c.g2, 0, none⟩) 3 3] ?_ (c7 c L w' hW hL (depl_of hdep 7 6 (by decide) ho hd))
    rw [run_calls Tryz.func105 (by kernel_rfl) rfl _ _ _ _ hop rfl]
    simp only [List.map_toArray, List.map_cons, List.map_nil, eval_of h0]
    all_goals rfl
  | 8, ho, hL, _ =>
    obtain ⟨hop, hdst, hgd⟩ := tab_at htab ho (show rjiT[8]? = _ from rfl)
    simp only at hop hgd
    have h0 := frm_old (val := val c) ha 3 _ (hold 3 rfl) o3
    exact doesX_of (doesL_run ho (wanted_none hgd) (hpure 8 (by decide) c L w' hW) (run_f25_3 _ _ _ hop _ _ (eval_of h0) _))
  | 9, ho, hL, _ =>
    obtain ⟨hop, hdst, hgd⟩ := tab_at htab ho (show rjiT[9]? = _ from rfl)
    simp only at hop hgd
    have h0 := frm_at (val := val c) hdis ha 8 30 (hds 8 30 rfl) (by omega) (depl_of hdep 9 8 (by decide) ho hd)
    exact doesX_of (doesL_run ho (wanted_none hgd) (hpure 9 (by decide) c L w' hW) (run_ld23 _ _ _ hop _ _ (eval_of h0) _ (l9 c L w' hW)))
  | 10, ho, hL, _ =>
    obtain ⟨hop, hdst, hgd⟩ := tab_at htab ho (show rjiT[10]? = _ from rfl)
    simp only at hop hgd
    have h0 := frm_old (val := val c) ha 5 _ (hold 5 rfl) o5
    exact doesX_of (doesL_run ho (wanted_none hgd) (hpure 10 (by decide) c L w' hW) (run_f25_3 _ _ _ hop _ _ (eval_of h0) _))
  | 11, ho, hL, _ =>
    obtain ⟨hop, hdst, hgd⟩ := tab_at htab ho (show rjiT[11]? = _ from rfl)
    simp only at hop hgd
    have h0 := frm_at (val := val c) hdis ha 10 32 (hds 10 32 rfl) (by omega) (depl_of hdep 11 10 (by decide) ho hd)
    exact doesX_of (doesL_run ho (wanted_none hgd) (hpure 11 (by decide) c L w' hW) (run_ld23 _ _ _ hop _ _ (eval_of h0) _ (l11 c L w' hW)))
  | 12, ho, hL, _ =>
    obtain ⟨hop, hdst, hgd⟩ := tab_at htab ho (show rjiT[12]? = _ from rfl)
    simp only at hop hgd
    have h0 := frm_at (val := val c) hdis ha 9 31 (hds 9 31 rfl) (by omega) (depl_of hdep 12 9 (by decide) ho hd)
    have h1 := frm_at (val := val c) hdis ha 11 33 (hds 11 33 rfl) (by omega) (depl_of hdep 12 11 (by decide) ho hd)
    obtain ⟨c', q0, q1, q2⟩ := n12 c L w' hW hL
    refine doesX_runw ho (wanted_none hgd) c' q0 q2 ((run_bs34_2 _ _ _ _ hop _ _ _ _ _ _ (eval_of h0) (eval_of h1) _).trans (by rw [← q1]; rfl))
  | 13, ho, hL, _ =>
    obtain ⟨hop, hdst, hgd⟩ := tab_at htab ho (show rjiT[13]? = _ from rfl)
    simp only at hop hgd
    have h0 := frm_at (val := val c) hdis ha 12 34 (hds 12 34 rfl) (by omega) (depl_of hdep 13 12 (by decide) ho hd)
    refine doesX_call ho (wanted_none hgd) 104 #[.slice (some ⟨c.g3, 0, none⟩) 2 2] ?_ (c13 c L w' hW hL (depl_of hdep 13 12 (by decide) ho hd))
    rw [run_calls Tryz.func104 (by kernel_rfl) rfl _ _ _ _ hop rfl]
    simp only [List.map_toArray, List.map_cons, List.map_nil, eval_of h0]
    all_goals rfl
  | 14, ho, hL, _ =>
    obtain ⟨hop, hdst, hgd⟩ := tab_at htab ho (show rjiT[14]? = _ from rfl)
    simp only at hop hgd
    have h0 := frm_at (val := val c) hdis ha 7 29 (hds 7 29 rfl) (by omega) (depl_of hdep 14 7 (by decide) ho hd)
    have h1 := frm_at (val := val c) hdis ha 13 35 (hds 13 35 rfl) (by omega) (depl_of hdep 14 13 (by decide) ho hd)
    exact doesX_of (doesL_run ho (wanted_none hgd) (hpure14 c L w' hW (depl_of hdep 14 7 (by decide) ho hd) (depl_of hdep 14 13 (by decide) ho hd)) (run_build25i _ _ _ _ hop _ _ _ _ _ _ (eval_of h0) (eval_of h1) _))
  | 15, ho, hL, _ =>
    obtain ⟨hop, hdst, hgd⟩ := tab_at htab ho (show rjiT[15]? = _ from rfl)
    simp only at hop hgd
    have h0 := frm_old (val := val c) ha 6 _ (hold 6 rfl) o6
    have h1 := frm_at (val := val c) hdis ha 14 36 (hds 14 36 rfl) (by omega) (depl_of hdep 15 14 (by decide) ho hd)
    obtain ⟨s1, s2⟩ := n15 c L w' hW hL (depl_of hdep 15 14 (by decide) ho hd)
    exact doesX_of (doesL_skp ho (wanted_none hgd) rfl s1 (run_st25 _ _ _ _ hop _ _ _ _ _ (eval_of h0) (eval_of h1) _ _ _ _ _ s2 ⟨rfl, rfl, rfl, rfl⟩))
  | (i + 16), ho, hL, hi => exact absurd hi (by omega)
end Go.Proofs.YtllialbdofklgaaGreatDoor
namespace Go.Proofs.YtllialbdofklgaaGreatDoor
open Go.RowKit
theorem run_al25 (ρ : Operand → Value) (o : Oper) (ho : o.op = .alloc 25) (w : World) : (execOp ρ o).run Tryz.prog w = .ok (.value (.pointer (some ⟨w.heap.size, 0, none⟩))) (w.alloc (.cells #[.bool false, .slice none 0 0, .slice none 0 0, .slice none 0 0] 25)) := by
  unfold execOp
  simp only [ho]
  simp [go_sem, Tryz.zeroValue25]
end Go.Proofs.YtllialbdofklgaaGreatDoor
namespace Go.Proofs.YtllialbdofklgaaGreatDoor
open Go.RowKit
/-- Where two nodes' lists come to lie. -/
structure Ch6 where
  p1 : Option Addr
  c1 : Nat
  p2 : Option Addr
  c2 : Nat
  p3 : Option Addr
  c3 : Nat
  q1 : Option Addr
  d1 : Nat
  q2 : Option Addr
  d2 : Nat
  q3 : Option Addr
  d3 : Nat
end Go.Proofs.YtllialbdofklgaaGreatDoor
namespace Go.Proofs.YtllialbdofklgaaGreatDoor
open Go.RowKit
theorem run_ia22 (ρ : Operand → Value) (o : Oper) (x y : Operand) (ho : o.op = .indexAddr 22 x y) (g q n cap k : Nat) (hk : k < n) (hx : ρ x = .slice (some ⟨g, q, none⟩) n cap) (hy : ρ y = .int .i64 (k : Int)) (w : World) : (execOp ρ o).run Tryz.prog w = .ok (.value (.pointer (some ⟨g, q + k, none⟩))) w := by
  unfold execOp
  simp only [ho, hx, hy]
  have h1 : (k : Int) < (n : Int) := by omega
  have u := Tryz.underlying22
  have z := Tryz.sizeOf9
  simp [go_sem, u, z, h1]
end Go.Proofs.YtllialbdofklgaaGreatDoor
namespace Go.Proofs.YtllialbdofklgaaGreatDoor
open Go.RowKit
def vjr (X kl kc vl vc il ic : Nat) (ka va ia : Option Addr) (lf : Bool) (c : Ch3) (i : Nat) : Value := match i with
  | 0 => (.pointer (some ⟨X, 0 + 0, none⟩))
  | 1 => (.bool lf)
  | 2 => (.pointer (some ⟨X, 0 + 1, none⟩))
  | 3 => (.slice ka kl kc)
  | 4 => (.slice c.p1 kl c.c1)
  | 5 => (.pointer (some ⟨X, 0 + 2, none⟩))
  | 6 => (.slice va vl vc)
  | 7 => (.slice c.p2 vl c.c2)
  | 8 => (.pointer (some ⟨X, 0 + 3, none⟩))
  | 9 => (.slice ia il ic)
  | 10 => (.slice c.p3 il c.c3)
  | 11 => (.agg #[.bool lf, (.slice c.p1 kl c.c1), (.slice c.p2 vl c.c2), (.slice c.p3 il c.c3)])
  | 12 => (.pointer (some ⟨c.g1, 0, none⟩))
  | 13 => undef
  | _ => undef
def rjrT : List (Op × Option Tmp × Option (Nat × Bool)) := [
  (.fieldAddr 25 (.tmp 3) 0, some 109, none),
  (.load 4 (.tmp 109), some 110, none),
  (.fieldAddr 25 (.tmp 3) 1, some 111, none),
  (.load 22 (.tmp 111), some 112, none),
  (.call { callee := .value (.func 82), args := #[(.tmp 112)], argTypes := #[22] }, some 113, none),
  (.fieldAddr 25 (.tmp 3) 2, some 114, none),
  (.load 22 (.tmp 114), some 115, none),
  (.call { callee := .value (.func 82), args := #[(.tmp 115)], argTypes := #[22] }, some 116, none),
  (.fieldAddr 25 (.tmp 3) 3, some 117, none),
  (.load 23 (.tmp 117), some 118, none),
  (.call { callee := .value (.func 83), args := #[(.tmp 118)], argTypes := #[23] }, some 119, none),
  (.build 25 #[(0, (.tmp 110)), (1, (.tmp 113)), (2, (.tmp 116)), (3, (.tmp 119))], some 120, none),
  (.alloc 25, some 12, none),
  (.store 25 (.tmp 12) (.tmp 120), none, none)]
def rjrD : List (Nat × Nat) := [(1, 0), (3, 2), (4, 3), (6, 5), (7, 6), (9, 8), (10, 9), (11, 1), (11, 4), (11, 7), (11, 10), (13, 11), (13, 12)]
set_option maxHeartbeats 2000000 in
theorem rjr {ops : Array Oper} {id : Nat} {Q : Exit → Act → World → Prop} (X kl kc vl vc il ic : Nat) (ka va ia : Option Addr) (lf : Bool) (htab : ops.toList.map (fun o => (o.op, o.dst, o.guard)) = rjrT) (hdep : deplB rjrD ops = true) (hac : acB ops = true)
    (a0 : Act) (w : World) (hsz : 121 ≤ a0.tmps.size) (o3 : a0.tmps[3]? = some (.pointer (some ⟨X, 0, none⟩)))
    (Wd : Ch3 → (Nat → Bool) → World → Prop) (h0 : ∃ c, Wd c (fun _ => false) w.drew) (hpure : ∀ i, i ∉ ([4, 7, 10, 12, 13, 11] : List Nat) → ∀ c L W, Wd c L W → Wd c (upd L i) W)
    (l1 : ∀ c L W, Wd c L W → W.cell? ⟨X, 0 + 0, none⟩ = some (.bool lf))
    (l3 : ∀ c L W, Wd c L W → W.cell? ⟨X, 0 + 1, none⟩ = some (.slice ka kl kc))
    (l6 : ∀ c L W, Wd c L W → W.cell? ⟨X, 0 + 2, none⟩ = some (.slice va vl vc))
    (l9 : ∀ c L W, Wd c L W → W.cell? ⟨X, 0 + 3, none⟩ = some (.slice ia il ic))
    (hpure11 : ∀ c L W, Wd c L W → L 4 = true → L 7 = true → L 10 = true → Wd c (upd L 11) W)
    (c4 : ∀ c L W, Wd c L W → L 4 = false → Calls Tryz.prog 82 #[.slice ka kl kc] W fun e w' => ∃ c' : Ch3, (∀ j, L j = true → vjr X kl kc vl vc il ic ka va ia lf c' j = vjr X kl kc vl vc il ic ka va ia lf c j) ∧ e = .returned (.slice c'.p1 kl c'.c1) ∧ Wd c' (upd L 4) w')
    (c7 : ∀ c L W, Wd c L W → L 7 = false → Calls Tryz.prog 82 #[.slice va vl vc] W fun e w' => ∃ c' : Ch3, (∀ j, L j = true → vjr X kl kc vl vc il ic ka va ia lf c' j = vjr X kl kc vl vc il ic ka va ia lf c j) ∧ e = .returned (.slice c'.p2 vl c'.c2) ∧ Wd c' (upd L 7) w')
    (c10 : ∀ c L W, Wd c L W → L 10 = false → Calls Tryz.prog 83 #[.slice ia il ic] W fun e w' => ∃ c' : Ch3, (∀ j, L j = true → vjr X kl kc vl vc il ic ka va ia lf c' j = vjr X kl kc vl vc il ic ka va ia lf c j) ∧ e = .returned (.slice c'.p3 il c'.c3) ∧ Wd c' (upd L 10) w')
    (n12 : ∀ c L W, Wd c L W → L 12 = false → ∃ c' : Ch3, (∀ j, L j = true → vjr X kl kc vl vc il ic ka va ia lf c' j = vjr X kl kc vl vc il ic ka va ia lf c j) ∧ c'.g1 = W.heap.size ∧ Wd c' (upd L 12) (W.alloc (.cells #[.bool false, .slice none 0 0, .slice none 0 0, .slice none 0 0] 25)))
    (n13 : ∀ c L W, Wd c L W → L 13 = false → L 11 = true → L 12 = true → Wd c (upd L 13) ((((W.setCell ⟨c.g1, 0, none⟩ (.bool lf)).setCell ⟨c.g1, 1, none⟩ (.slice c.p1 kl c.c1)).setCell ⟨c.g1, 2, none⟩ (.slice c.p2 vl c.c2)).setCell ⟨c.g1, 3, none⟩ (.slice c.p3 il c.c3)) ∧ W.heap[c.g1]? = some (.cells #[.bool false, .slice none 0 0, .slice none 0 0, .slice none 0 0] 25 (0, 0)))
    (hend : ∀ c L W, (∀ i, i < 14 → L i = true) → Wd c L W → Q .normal (((((((((((((a0.put (some 109) (.pointer (some ⟨X, 0 + 0, none⟩))).put (some 110) (.bool lf)).put (some 111) (.pointer (some ⟨X, 0 + 1, none⟩))).put (some 112) (.slice ka kl kc)).put (some 113) (.slice c.p1 kl c.c1)).put (some 114) (.pointer (some ⟨X, 0 + 2, none⟩))).put (some 115) (.slice va vl vc)).put (some 116) (.slice c.p2 vl c.c2)).put (some 117) (.pointer (some ⟨X, 0 + 3, none⟩))).put (some 118) (.slice ia il ic)).put (some 119) (.slice c.p3 il c.c3)).put (some 120) (.agg #[.bool lf, (.slice c.p1 kl c.c1), (.slice c.p2 vl c.c2), (.slice c.p3 il c.c3)])).put (some 12) (.pointer (some ⟨c.g1, 0, none⟩))) W) : (Code.region id ops true).wp Tryz.prog Q a0 w := by
  let val : Ch3 → Nat → Value := vjr X kl kc vl vc il ic ka va ia lf
  have hosz : ops.size = 14 := by
    have := congrArg List.length htab
    simpa [rjrT] using this
  have hds : ∀ i s, (rjrT[i]?).bind (·.2.1) = some s → dstOf ops i = some s := fun i s hi => by rw [tab_dst htab, hi]
  have hdisB : disL rjrT = true := by rfl
  have hdis := disL_of htab hdisB
  have hold : ∀ s, rjrT.all (fun x => !(x.2.1 == some s)) = true → (List.range ops.size).all (fun j => !(dstOf ops j == some s)) = true := fun s h => holdL htab s h
  refine region_detX val Wd (hac_of hac) hdis h0 ?_ ?_
  rotate_left
  · intro c L W hall hW
    have := hend c L W (by rw [← hosz]; exact hall) hW
    have e : frm ops a0 (val c) (fun _ => true) ops.size = (((((((((((((a0.put (some 109) (.pointer (some ⟨X, 0 + 0, none⟩))).put (some 110) (.bool lf)).put (some 111) (.pointer (some ⟨X, 0 + 1, none⟩))).put (some 112) (.slice ka kl kc)).put (some 113) (.slice c.p1 kl c.c1)).put (some 114) (.pointer (some ⟨X, 0 + 2, none⟩))).put (some 115) (.slice va vl vc)).put (some 116) (.slice c.p2 vl c.c2)).put (some 117) (.pointer (some ⟨X, 0 + 3, none⟩))).put (some 118) (.slice ia il ic)).put (some 119) (.slice c.p3 il c.c3)).put (some 120) (.agg #[.bool lf, (.slice c.p1 kl c.c1), (.slice c.p2 vl c.c2), (.slice c.p3 il c.c3)])).put (some 12) (.pointer (some ⟨c.g1, 0, none⟩))) := by
      rw [hosz]
      simp only [frm, if_true]
      rw [tab_dst htab 0, tab_dst htab 1, tab_dst htab 2, tab_dst htab 3, tab_dst htab 4, tab_dst htab 5, tab_dst htab 6, tab_dst htab 7, tab_dst htab 8, tab_dst htab 9, tab_dst htab 10, tab_dst htab 11, tab_dst htab 12, (show dstOf ops 13 = none from (tab_dst htab 13).trans rfl), put_none]
      rfl
    rw [e]
    exact this
  intro i o ho c L a w' hL hd ha hW
  have hi : i < 14 := by rw [← hosz]; exact (Array.getElem?_eq_some_iff.1 ho).1
  match i, ho, hL, hi with
  | 0, ho, hL, _ =>
    obtain ⟨hop, hdst, hgd⟩ := tab_at htab ho (show rjrT[0]? = _ from rfl)
    simp only at hop hgd
    have h0 := frm_old (val := val c) ha 3 _ (hold 3 rfl) o3
    exact doesX_of (doesL_run ho (wanted_none hgd) (hpure 0 (by decide) c L w' hW) (run_f25_0 _ _ _ hop _ _ (eval_of h0) _))
  | 1, ho, hL, _ =>
    obtain ⟨hop, hdst, hgd⟩ := tab_at htab ho (show rjrT[1]? = _ from rfl)
    simp only at hop hgd
    have h0 := frm_at (val := val c) hdis ha 0 109 (hds 0 109 rfl) (by omega) (depl_of hdep 1 0 (by decide) ho hd)
    exact doesX_of (doesL_run ho (wanted_none hgd) (hpure 1 (by decide) c L w' hW) (run_ld4 _ _ _ hop _ _ (eval_of h0) _ (l1 c L w' hW)))
  | 2, ho, hL, _ =>
    obtain ⟨hop, hdst, hgd⟩ := tab_at htab ho (show rjrT[2]? = _ from rfl)
    simp only at hop hgd
    have h0 := frm_old (val := val c) ha 3 _ (hold 3 rfl) o3
    exact doesX_of (doesL_run ho (wanted_none hgd) (hpure 2 (by decide) c L w' hW) (run_f25_1 _ _ _ hop _ _ (eval_of h0) _))
  | 3, ho, hL, _ =>
    obtain ⟨hop, hdst, hgd⟩ := tab_at htab ho (show rjrT[3]? = _ from rfl)
    simp only at hop hgd
    have h0 := frm_at (val := val c) hdis ha 2 111 (hds 2 111 rfl) (by omega) (depl_of hdep 3 2 (by decide) ho hd)
    exact doesX_of (doesL_run ho (wanted_none hgd) (hpure 3 (by decide) c L w' hW) (run_ld22 _ _ _ hop _ _ (eval_of h0) _ (l3 c L w' hW)))
  | 4, ho, hL, _ =>
    obtain ⟨hop, hdst, hgd⟩ := tab_at htab ho (show rjrT[4]? = _ from rfl)
    simp only at hop hgd
    have h0 := frm_at (val := val c) hdis ha 3 112 (hds 3 112 rfl) (by omega) (depl_of hdep 4 3 (by decide) ho hd)
    refine doesX_call ho (wanted_none hgd) 82 #[.slice ka kl kc] ?_ (c4 c L w' hW hL)
    rw [run_calls Tryz.func82 (by kernel_rfl) rfl _ _ _ _ hop rfl]
    simp only [List.map_toArray, List.map_cons, List.map_nil, eval_of h0]
    all_goals rfl
  | 5, ho, hL, _ =>
    obtain ⟨hop, hdst, hgd⟩ := tab_at htab ho (show rjrT[5]? = _ from rfl)
    simp only at hop hgd
    have h0 := frm_old (val := val c) ha 3 _ (hold 3 rfl) o3
    exact doesX_of (doesL_run ho (wanted_none hgd) (hpure 5 (by decide) c L w' hW) (run_f25_2 _ _ _ hop _ _ (eval_of h0) _))
  | 6, ho, hL, _ =>
    obtain ⟨hop, hdst, hgd⟩ := tab_at htab ho (show rjrT[6]? = _ from rfl)
    simp only at hop hgd
    have h0 := frm_at (val := val c) hdis ha 5 114 (hds 5 114 rfl) (by omega) (depl_of hdep 6 5 (by decide) ho hd)
    exact doesX_of (doesL_run ho (wanted_none hgd) (hpure 6 (by decide) c L w' hW) (run_ld22 _ _ _ hop _ _ (eval_of h0) _ (l6 c L w' hW)))
  | 7, ho, hL, _ =>
    obtain ⟨hop, hdst, hgd⟩ := tab_at htab ho (show rjrT[7]? = _ from rfl)
    simp only at hop hgd
    have h0 := frm_at (val := val c) hdis ha 6 115 (hds 6 115 rfl) (by omega) (depl_of hdep 7 6 (by decide) ho hd)
    refine doesX_call ho (wanted_none hgd) 82 #[.slice va vl vc] ?_ (c7 c L w' hW hL)
    rw [run_calls Tryz.func82 (by kernel_rfl) rfl _ _ _ _ hop rfl]
    simp only [List.map_toArray, List.map_cons, List.map_nil, eval_of h0]
    all_goals rfl
  | 8, ho, hL, _ =>
    obtain ⟨hop, hdst, hgd⟩ := tab_at htab ho (show rjrT[8]? = _ from rfl)
    simp only at hop hgd
    have h0 := frm_old (val := val c) ha 3 _ (hold 3 rfl) o3
    exact doesX_of (doesL_run ho (wanted_none hgd) (hpure 8 (by decide) c L w' hW) (run_f25_3 _ _ _ hop _ _ (eval_of h0) _))
  | 9, ho, hL, _ =>
    obtain ⟨hop, hdst, hgd⟩ := tab_at htab ho (show rjrT[9]? = _ from rfl)
    simp only at hop hgd
    have h0 := frm_at (val := val c) hdis ha 8 117 (hds 8 117 rfl) (by omega) (depl_of hdep 9 8 (by decide) ho hd)
    exact doesX_of (doesL_run ho (wanted_none hgd) (hpure 9 (by decide) c L w' hW) (run_ld23 _ _ _ hop _ _ (eval_of h0) _ (l9 c L w' hW)))
  | 10, ho, hL, _ =>
    obtain ⟨hop, hdst, hgd⟩ := tab_at htab ho (show rjrT[10]? = _ from rfl)
    simp only at hop hgd
    have h0 := frm_at (val := val c) hdis ha 9 118 (hds 9 118 rfl) (by omega) (depl_of hdep 10 9 (by decide) ho hd)
    refine doesX_call ho (wanted_none hgd) 83 #[.slice ia il ic] ?_ (c10 c L w' hW hL)
    rw [run_calls Tryz.func83 (by kernel_rfl) rfl _ _ _ _ hop rfl]
    simp only [List.map_toArray, List.map_cons, List.map_nil, eval_of h0]
    all_goals rfl
  | 11, ho, hL, _ =>
    obtain ⟨hop, hdst, hgd⟩ := tab_at htab ho (show rjrT[11]? = _ from rfl)
    simp only at hop hgd
    have h0 := frm_at (val := val c) hdis ha 1 110 (hds 1 110 rfl) (by omega) (depl_of hdep 11 1 (by decide) ho hd)
    have h1 := frm_at (val := val c) hdis ha 4 113 (hds 4 113 rfl) (by omega) (depl_of hdep 11 4 (by decide) ho hd)
    have h2 := frm_at (val := val c) hdis ha 7 116 (hds 7 116 rfl) (by omega) (depl_of hdep 11 7 (by decide) ho hd)
    have h3 := frm_at (val := val c) hdis ha 10 119 (hds 10 119 rfl) (by omega) (depl_of hdep 11 10 (by decide) ho hd)
    exact doesX_of (doesL_run ho (wanted_none hgd) (hpure11 c L w' hW (depl_of hdep 11 4 (by decide) ho hd) (depl_of hdep 11 7 (by decide) ho hd) (depl_of hdep 11 10 (by decide) ho hd)) (run_build25 _ _ _ _ _ _ hop _ _ _ _ _ _ _ _ _ _ (eval_of h0) (eval_of h1) (eval_of h2) (eval_of h3) _))
  | 12, ho, hL, _ =>
    obtain ⟨hop, hdst, hgd⟩ := tab_at htab ho (show rjrT[12]? = _ from rfl)
    simp only at hop hgd
    obtain ⟨c', q0, q1, q2⟩ := n12 c L w' hW hL
    refine doesX_runw ho (wanted_none hgd) c' q0 q2 ((run_al25 _ _ hop _).trans (by rw [← q1]; rfl))
  | 13, ho, hL, _ =>
    obtain ⟨hop, hdst, hgd⟩ := tab_at htab ho (show rjrT[13]? = _ from rfl)
    simp only at hop hgd
    have h0 := frm_at (val := val c) hdis ha 12 12 (hds 12 12 rfl) (by omega) (depl_of hdep 13 12 (by decide) ho hd)
    have h1 := frm_at (val := val c) hdis ha 11 120 (hds 11 120 rfl) (by omega) (depl_of hdep 13 11 (by decide) ho hd)
    obtain ⟨s1, s2⟩ := n13 c L w' hW hL (depl_of hdep 13 11 (by decide) ho hd) (depl_of hdep 13 12 (by decide) ho hd)
    exact doesX_of (doesL_skp ho (wanted_none hgd) rfl s1 (run_st25 _ _ _ _ hop _ _ _ _ _ (eval_of h0) (eval_of h1) _ _ _ _ _ s2 ⟨rfl, rfl, rfl, rfl⟩))
  | (i + 14), ho, hL, hi => exact absurd hi (by omega)
end Go.Proofs.YtllialbdofklgaaGreatDoor
namespace Go.Proofs.YtllialbdofklgaaGreatDoor
open Go.RowKit
theorem run_f36_0 (ρ : Operand → Value) (o : Oper) (x : Operand) (ho : o.op = .fieldAddr 36 x 0) (g q : Nat) (hx : ρ x = .pointer (some ⟨g, q, none⟩)) (w : World) : (execOp ρ o).run Tryz.prog w = .ok (.value (.pointer (some ⟨g, q + 0, none⟩))) w := by
  unfold execOp
  simp only [ho, hx]
  kernel_rfl
theorem run_f36_1 (ρ : Operand → Value) (o : Oper) (x : Operand) (ho : o.op = .fieldAddr 36 x 1) (g q : Nat) (hx : ρ x = .pointer (some ⟨g, q, none⟩)) (w : World) : (execOp ρ o).run Tryz.prog w = .ok (.value (.pointer (some ⟨g, q + 1, none⟩))) w := by
  unfold execOp
  simp only [ho, hx]
  kernel_rfl
theorem run_f36_2 (ρ : Operand → Value) (o : Oper) (x : Operand) (ho : o.op = .fieldAddr 36 x 2) (g q : Nat) (hx : ρ x = .pointer (some ⟨g, q, none⟩)) (w : World) : (execOp ρ o).run Tryz.prog w = .ok (.value (.pointer (some ⟨g, q + 2, none⟩))) w := by
  unfold execOp
  simp only [ho, hx]
  kernel_rfl
theorem run_f36_3 (ρ : Operand → Value) (o : Oper) (x : Operand) (ho : o.op = .fieldAddr 36 x 3) (g q : Nat) (hx : ρ x = .pointer (some ⟨g, q, none⟩)) (w : World) : (execOp ρ o).run Tryz.prog w = .ok (.value (.pointer (some ⟨g, q + 3, none⟩))) w := by
  unfold execOp
  simp only [ho, hx]
  kernel_rfl
theorem run_ld33 (ρ : Operand → Value) (o : Oper) (x : Operand) (ho : o.op = .load 33 x) (p : Addr) (v : Value) (ha : ρ x = .pointer (some p)) (w : World) (hc : w.cell? p = some v) : (execOp ρ o).run Tryz.prog w = .ok (.value v) w := by
  unfold execOp
  simp only [ho, ha]
  simp [Instr.loadAt, go_sem, hc, Tryz.isAgg33]
theorem run_ld34 (ρ : Operand → Value) (o : Oper) (x : Operand) (ho : o.op = .load 34 x) (p : Addr) (v : Value) (ha : ρ x = .pointer (some p)) (w : World) (hc : w.cell? p = some v) : (execOp ρ o).run Tryz.prog w = .ok (.value v) w := by
  unfold execOp
  simp only [ho, ha]
  simp [Instr.loadAt, go_sem, hc, Tryz.isAgg34]
theorem run_ia33 (ρ : Operand → Value) (o : Oper) (x y : Operand) (ho : o.op = .indexAddr 33 x y) (g q n cap k : Nat) (hk : k < n) (hx : ρ x = .slice (some ⟨g, q, none⟩) n cap) (hy : ρ y = .int .i64 (k : Int)) (w : World) : (execOp ρ o).run Tryz.prog w = .ok (.value (.pointer (some ⟨g, q + k, none⟩))) w := by
  unfold execOp
  simp only [ho, hx, hy]
  have h1 : (k : Int) < (n : Int) := by omega
  have u := Tryz.underlying33
  have z := Tryz.sizeOf22
  simp [go_sem, u, z, h1]
theorem run_ia34 (ρ : Operand → Value) (o : Oper) (x y : Operand) (ho : o.op = .indexAddr 34 x y) (g q n cap k : Nat) (hk : k < n) (hx : ρ x = .slice (some ⟨g, q, none⟩) n cap) (hy : ρ y = .int .i64 (k : Int)) (w : World) : (execOp ρ o).run Tryz.prog w = .ok (.value (.pointer (some ⟨g, q + k, none⟩))) w := by
  unfold execOp
  simp only [ho, hx, hy]
  have h1 : (k : Int) < (n : Int) := by omega
  have u := Tryz.underlying34
  have z := Tryz.sizeOf23
  simp [go_sem, u, z, h1]
theorem run_st9 (ρ : Operand → Value) (o : Oper) (x y : Operand) (ho : o.op = .store 9 x y) (p : Addr) (v : ByteArray) (ha : ρ x = .pointer (some p)) (hy : ρ y = .string v) (w : World) (hc : ∃ u, w.cell? p = some u) (hf : w.frozen? p = false) : (execOp ρ o).run Tryz.prog w = .ok .skip (w.setCell p (.string v)) := by
  obtain ⟨u, hc⟩ := hc
  have h1 : (Value.string v).oneCell' = true := rfl
  have s0 : (store p (.string v)).run Tryz.prog w = .ok () (w.setCell p (.string v)) := by
    rw [run_store _ _ _ _ _ h1, hc]
    simp [hf]
  unfold execOp
  simp only [ho, ha, hy]
  simp [go_sem, s0, Result.andThen]
theorem run_neqS (ρ : Operand → Value) (o : Oper) (t u : TypeId) (x y : Operand) (ho : o.op = .binOp .neq t x y u) (a : List UInt8) (ha : ρ x = .string ⟨a.toArray⟩) (hb : ρ y = .string ⟨a.toArray⟩) (w : World) : (execOp ρ o).run Tryz.prog w = .ok (.value (.bool false)) w := by
  unfold execOp
  simp only [ho, ha, hb]
  simp [go_sem]
theorem run_quo20 (ρ : Operand → Value) (o : Oper) (x : Operand) (ho : o.op = .binOp .quo 3 x (.const (.int .i64 20)) 3) (a : Nat) (ha : a ≤ 1000000000000) (hx : ρ x = .int .i64 (a : Int)) (hy : ρ (.const (.int .i64 20)) = .int .i64 20) (w : World) : (execOp ρ o).run Tryz.prog w = .ok (.value (.int .i64 ((a / 20 : Nat) : Int))) w := by
  unfold execOp
  simp only [ho, hx, hy]
  simp [go_sem]
  rw [IntKind.wrap_i64]
  omega
def rsaT : List (Op × Option Tmp × Option (Nat × Bool)) := [
  (.move (.tmp 0), some 32, none),
  (.nilCheck (.tmp 32), some 33, none),
  (.fieldAddr 36 (.tmp 33) 0, some 34, none),
  (.load 33 (.tmp 34), some 35, none),
  (.move (.tmp 3), some 36, none),
  (.indexAddr 33 (.tmp 35) (.tmp 36), some 37, none),
  (.load 22 (.tmp 37), some 38, none),
  (.move (.tmp 0), some 39, none),
  (.nilCheck (.tmp 39), some 40, none),
  (.fieldAddr 36 (.tmp 40) 1, some 41, none),
  (.load 33 (.tmp 41), some 42, none),
  (.move (.tmp 3), some 43, none),
  (.indexAddr 33 (.tmp 42) (.tmp 43), some 44, none),
  (.load 22 (.tmp 44), some 45, none),
  (.call { callee := .value (.func 50), args := #[(.tmp 38), (.tmp 45)], argTypes := #[22, 22] }, some 46, none),
  (.assign (.tmp 46), some 4, none)]
def rsaD : List (Nat × Nat) := [(1, 0), (2, 1), (3, 2), (5, 3), (5, 4), (6, 5), (8, 7), (9, 8), (10, 9), (12, 10), (12, 11), (13, 12), (14, 6), (14, 13), (15, 14)]
set_option maxHeartbeats 2000000 in
theorem rsa {ops : Array Oper} {id : Nat} {Q : Exit → Act → World → Prop} (Z G n cap H n2 cap2 r : Nat) (V1 V2 : Value) (htab : ops.toList.map (fun o => (o.op, o.dst, o.guard)) = rsaT) (hdep : deplB rsaD ops = true) (hac : acB ops = true)
    (a0 : Act) (w : World) (hsz : 47 ≤ a0.tmps.size) (o0 : a0.tmps[0]? = some (.pointer (some ⟨Z, 0, none⟩))) (o3 : a0.tmps[3]? = some (.int .i64 (r : Int)))
    (Wd : (Nat → Bool) → World → Prop) (h0 : Wd (fun _ => false) w.drew) (hpure : ∀ i, i ∉ ([14] : List Nat) → ∀ L W, Wd L W → Wd (upd L i) W)
    (i5 : r < n) (i12 : r < n2) (l3 : ∀ L W, Wd L W → W.cell? ⟨Z, 0 + 0, none⟩ = some (.slice (some ⟨G, 0, none⟩) n cap))
    (l6 : ∀ L W, Wd L W → W.cell? ⟨G, 0 + r, none⟩ = some V1) (l10 : ∀ L W, Wd L W → W.cell? ⟨Z, 0 + 1, none⟩ = some (.slice (some ⟨H, 0, none⟩) n2 cap2))
    (l13 : ∀ L W, Wd L W → W.cell? ⟨H, 0 + r, none⟩ = some V2)
    (c14 : ∀ L W, Wd L W → L 14 = false → Calls Tryz.prog 50 #[V1, V2] W fun e w' => e = .returned (.bool true) ∧ Wd (upd L 14) w')
    (hend : ∀ L W, (∀ i, i < 16 → L i = true) → Wd L W → Q .normal ((((((((((((((((a0.put (some 32) (.pointer (some ⟨Z, 0, none⟩))).put (some 33) (.pointer (some ⟨Z, 0, none⟩))).put (some 34) (.pointer (some ⟨Z, 0 + 0, none⟩))).put (some 35) (.slice (some ⟨G, 0, none⟩) n cap)).put (some 36) (.int .i64 (r : Int))).put (some 37) (.pointer (some ⟨G, 0 + r, none⟩))).put (some 38) V1).put (some 39) (.pointer (some ⟨Z, 0, none⟩))).put (some 40) (.pointer (some ⟨Z, 0, none⟩))).put (some 41) (.pointer (some ⟨Z, 0 + 1, none⟩))).put (some 42) (.slice (some ⟨H, 0, none⟩) n2 cap2)).put (some 43) (.int .i64 (r : Int))).put (some 44) (.pointer (some ⟨H, 0 + r, none⟩))).put (some 45) V2).put (some 46) (.bool true)).put (some 4) (.bool true)) W) : (Code.region id ops true).wp Tryz.prog Q a0 w := by
  let val : Nat → Value := fun i => match i with
    | 0 => (.pointer (some ⟨Z, 0, none⟩))
    | 1 => (.pointer (some ⟨Z, 0, none⟩))
    | 2 => (.pointer (some ⟨Z, 0 + 0, none⟩))
    | 3 => (.slice (some ⟨G, 0, none⟩) n cap)
    | 4 => (.int .i64 (r : Int))
    | 5 => (.pointer (some ⟨G, 0 + r, none⟩))
    | 6 => V1
    | 7 => (.pointer (some ⟨Z, 0, none⟩))
    | 8 => (.pointer (some ⟨Z, 0, none⟩))
    | 9 => (.pointer (some ⟨Z, 0 + 1, none⟩))
    | 10 => (.slice (some ⟨H, 0, none⟩) n2 cap2)
    | 11 => (.int .i64 (r : Int))
    | 12 => (.pointer (some ⟨H, 0 + r, none⟩))
    | 13 => V2
    | 14 => (.bool true)
    | 15 => (.bool true)
    | _ => undef
  have hosz : ops.size = 16 := by
    have := congrArg List.length htab
    simpa [rsaT] using this
  have hds : ∀ i s, (rsaT[i]?).bind (·.2.1) = some s → dstOf ops i = some s := fun i s hi => by rw [tab_dst htab, hi]
  have hdisB : disL rsaT = true := by rfl
  have hdis := disL_of htab hdisB
  have hold : ∀ s, rsaT.all (fun x => !(x.2.1 == some s)) = true → (List.range ops.size).all (fun j => !(dstOf ops j == some s)) = true := fun s h => holdL htab s h
  refine region_detL val Wd (hac_of hac) hdis h0 ?_ ?_
  rotate_left
  · intro L W hall hW
    have := hend L W (by rw [← hosz]; exact hall) hW
    have e : frm ops a0 val (fun _ => true) ops.size = ((((((((((((((((a0.put (some 32) (.pointer (some ⟨Z, 0, none⟩))).put (some 33) (.pointer (some ⟨Z, 0, none⟩))).put (some 34) (.pointer (some ⟨Z, 0 + 0, none⟩))).put (some 35) (.slice (some ⟨G, 0, none⟩) n cap)).put (some 36) (.int .i64 (r : Int))).put (some 37) (.pointer (some ⟨G, 0 + r, none⟩))).put (some 38) V1).put (some 39) (.pointer (some ⟨Z, 0, none⟩))).put (some 40) (.pointer (some ⟨Z, 0, none⟩))).put (some 41) (.pointer (some ⟨Z, 0 + 1, none⟩))).put (some 42) (.slice (some ⟨H, 0, none⟩) n2 cap2)).put (some 43) (.int .i64 (r : Int))).put (some 44) (.pointer (some ⟨H, 0 + r, none⟩))).put (some 45) V2).put (some 46) (.bool true)).put (some 4) (.bool true)) := by
      rw [hosz]
      simp only [frm, if_true]
      rw [tab_dst htab 0, tab_dst htab 1, tab_dst htab 2, tab_dst htab 3, tab_dst htab 4, tab_dst htab 5, tab_dst htab 6, tab_dst htab 7, tab_dst htab 8, tab_dst htab 9, tab_dst htab 10, tab_dst htab 11, tab_dst htab 12, tab_dst htab 13, tab_dst htab 14, tab_dst htab 15]
      rfl
    rw [e]
    exact this
  intro i o ho L a w' hL hd ha hW
  have hi : i < 16 := by rw [← hosz]; exact (Array.getElem?_eq_some_iff.1 ho).1
  match i, ho, hL, hi with
  | 0, ho, hL, _ =>
    obtain ⟨hop, hdst, hgd⟩ := tab_at htab ho (show rsaT[0]? = _ from rfl)
    simp only at hop hgd
    have h0 := frm_old ha 0 _ (hold 0 rfl) o0
    exact doesL_run ho (wanted_none hgd) (hpure 0 (by decide) L w' hW) (by rw [run_move _ _ _ hop]; exact congrArg (fun v => Result.ok (Next.value v) w') (eval_of h0))
  | 1, ho, hL, _ =>
    obtain ⟨hop, hdst, hgd⟩ := tab_at htab ho (show rsaT[1]? = _ from rfl)
    simp only at hop hgd
    have h0 := frm_at hdis ha 0 32 (hds 0 32 rfl) (by omega) (depl_of hdep 1 0 (by decide) ho hd)
    exact doesL_run ho (wanted_none hgd) (hpure 1 (by decide) L w' hW) (run_nil _ _ _ hop _ (eval_of h0) _)
  | 2, ho, hL, _ =>
    obtain ⟨hop, hdst, hgd⟩ := tab_at htab ho (show rsaT[2]? = _ from rfl)
    simp only at hop hgd
    have h0 := frm_at hdis ha 1 33 (hds 1 33 rfl) (by omega) (depl_of hdep 2 1 (by decide) ho hd)
    exact doesL_run ho (wanted_none hgd) (hpure 2 (by decide) L w' hW) (run_f36_0 _ _ _ hop _ _ (eval_of h0) _)
  | 3, ho, hL, _ =>
    obtain ⟨hop, hdst, hgd⟩ := tab_at htab ho (show rsaT[3]? = _ from rfl)
    simp only at hop hgd
    have h0 := frm_at hdis ha 2 34 (hds 2 34 rfl) (by omega) (depl_of hdep 3 2 (by decide) ho hd)
    exact doesL_run ho (wanted_none hgd) (hpure 3 (by decide) L w' hW) (run_ld33 _ _ _ hop _ _ (eval_of h0) _ (l3 L w' hW))
  | 4, ho, hL, _ =>
    obtain ⟨hop, hdst, hgd⟩ := tab_at htab ho (show rsaT[4]? = _ from rfl)
    simp only at hop hgd
    have h0 := frm_old ha 3 _ (hold 3 rfl) o3
    exact doesL_run ho (wanted_none hgd) (hpure 4 (by decide) L w' hW) (by rw [run_move _ _ _ hop]; exact congrArg (fun v => Result.ok (Next.value v) w') (eval_of h0))
  | 5, ho, hL, _ =>
    obtain ⟨hop, hdst, hgd⟩ := tab_at htab ho (show rsaT[5]? = _ from rfl)
    simp only at hop hgd
    have h0 := frm_at hdis ha 3 35 (hds 3 35 rfl) (by omega) (depl_of hdep 5 3 (by decide) ho hd)
    have h1 := frm_at hdis ha 4 36 (hds 4 36 rfl) (by omega) (depl_of hdep 5 4 (by decide) ho hd)
    exact doesL_run ho (wanted_none hgd) (hpure 5 (by decide) L w' hW) (run_ia33 _ _ _ _ hop _ _ _ _ _ i5 (eval_of h0) (eval_of h1) _)
  | 6, ho, hL, _ =>
    obtain ⟨hop, hdst, hgd⟩ := tab_at htab ho (show rsaT[6]? = _ from rfl)
    simp only at hop hgd
    have h0 := frm_at hdis ha 5 37 (hds 5 37 rfl) (by omega) (depl_of hdep 6 5 (by decide) ho hd)
    exact doesL_run ho (wanted_none hgd) (hpure 6 (by decide) L w' hW) (run_ld22 _ _ _ hop _ _ (eval_of h0) _ (l6 L w' hW))
  | 7, ho, hL, _ =>
    obtain ⟨hop, hdst, hgd⟩ := tab_at htab ho (show rsaT[7]? = _ from rfl)
    simp only at hop hgd
    have h0 := frm_old ha 0 _ (hold 0 rfl) o0
    exact doesL_run ho (wanted_none hgd) (hpure 7 (by decide) L w' hW) (by rw [run_move _ _ _ hop]; exact congrArg (fun v => Result.ok (Next.value v) w') (eval_of h0))
  | 8, ho, hL, _ =>
    obtain ⟨hop, hdst, hgd⟩ := tab_at htab ho (show rsaT[8]? = _ from rfl)
    simp only at hop hgd
    have h0 := frm_at hdis ha 7 39 (hds 7 39 rfl) (by omega) (depl_of hdep 8 7 (by decide) ho hd)
    exact doesL_run ho (wanted_none hgd) (hpure 8 (by decide) L w' hW) (run_nil _ _ _ hop _ (eval_of h0) _)
  | 9, ho, hL, _ =>
    obtain ⟨hop, hdst, hgd⟩ := tab_at htab ho (show rsaT[9]? = _ from rfl)
    simp only at hop hgd
    have h0 := frm_at hdis ha 8 40 (hds 8 40 rfl) (by omega) (depl_of hdep 9 8 (by decide) ho hd)
    exact doesL_run ho (wanted_none hgd) (hpure 9 (by decide) L w' hW) (run_f36_1 _ _ _ hop _ _ (eval_of h0) _)
  | 10, ho, hL, _ =>
    obtain ⟨hop, hdst, hgd⟩ := tab_at htab ho (show rsaT[10]? = _ from rfl)
    simp only at hop hgd
    have h0 := frm_at hdis ha 9 41 (hds 9 41 rfl) (by omega) (depl_of hdep 10 9 (by decide) ho hd)
    exact doesL_run ho (wanted_none hgd) (hpure 10 (by decide) L w' hW) (run_ld33 _ _ _ hop _ _ (eval_of h0) _ (l10 L w' hW))
  | 11, ho, hL, _ =>
    obtain ⟨hop, hdst, hgd⟩ := tab_at htab ho (show rsaT[11]? = _ from rfl)
    simp only at hop hgd
    have h0 := frm_old ha 3 _ (hold 3 rfl) o3
    exact doesL_run ho (wanted_none hgd) (hpure 11 (by decide) L w' hW) (by rw [run_move _ _ _ hop]; exact congrArg (fun v => Result.ok (Next.value v) w') (eval_of h0))
  | 12, ho, hL, _ =>
    obtain ⟨hop, hdst, hgd⟩ := tab_at htab ho (show rsaT[12]? = _ from rfl)
    simp only at hop hgd
    have h0 := frm_at hdis ha 10 42 (hds 10 42 rfl) (by omega) (depl_of hdep 12 10 (by decide) ho hd)
    have h1 := frm_at hdis ha 11 43 (hds 11 43 rfl) (by omega) (depl_of hdep 12 11 (by decide) ho hd)
    exact doesL_run ho (wanted_none hgd) (hpure 12 (by decide) L w' hW) (run_ia33 _ _ _ _ hop _ _ _ _ _ i12 (eval_of h0) (eval_of h1) _)
  | 13, ho, hL, _ =>
    obtain ⟨hop, hdst, hgd⟩ := tab_at htab ho (show rsaT[13]? = _ from rfl)
    simp only at hop hgd
    have h0 := frm_at hdis ha 12 44 (hds 12 44 rfl) (by omega) (depl_of hdep 13 12 (by decide) ho hd)
    exact doesL_run ho (wanted_none hgd) (hpure 13 (by decide) L w' hW) (run_ld22 _ _ _ hop _ _ (eval_of h0) _ (l13 L w' hW))
  | 14, ho, hL, _ =>
    obtain ⟨hop, hdst, hgd⟩ := tab_at htab ho (show rsaT[14]? = _ from rfl)
    simp only at hop hgd
    have h0 := frm_at hdis ha 6 38 (hds 6 38 rfl) (by omega) (depl_of hdep 14 6 (by decide) ho hd)
    have h1 := frm_at hdis ha 13 45 (hds 13 45 rfl) (by omega) (depl_of hdep 14 13 (by decide) ho hd)
    refine doesL_call ho (wanted_none hgd) 50 #[V1, V2] ?_ (c14 L w' hW hL)
    rw [run_calls Tryz.func50 (by kernel_rfl) rfl _ _ _ _ hop rfl]
    simp only [List.map_toArray, List.map_cons, List.map_nil, eval_of h0, eval_of h1]
    all_goals rfl
  | 15, ho, hL, _ =>
    obtain ⟨hop, hdst, hgd⟩ := tab_at htab ho (show rsaT[15]? = _ from rfl)
    simp only at hop hgd
    have h0 := frm_at hdis ha 14 46 (hds 14 46 rfl) (by omega) (depl_of hdep 15 14 (by decide) ho hd)
    exact doesL_run ho (wanted_none hgd) (hpure 15 (by decide) L w' hW) (by rw [run_assign _ _ _ hop]; exact congrArg (fun v => Result.ok (Next.value v) w') (eval_of h0))
  | (i + 16), ho, hL, hi => exact absurd hi (by omega)
def rswT : List (Op × Option Tmp × Option (Nat × Bool)) := [
  (.move (.tmp 0), some 58, none),
  (.nilCheck (.tmp 58), some 59, none),
  (.fieldAddr 36 (.tmp 59) 2, some 60, none),
  (.load 34 (.tmp 60), some 61, none),
  (.move (.tmp 5), some 62, none),
  (.indexAddr 34 (.tmp 61) (.tmp 62), some 63, none),
  (.load 23 (.tmp 63), some 64, none),
  (.move (.tmp 0), some 65, none),
  (.nilCheck (.tmp 65), some 66, none),
  (.fieldAddr 36 (.tmp 66) 3, some 67, none),
  (.load 34 (.tmp 67), some 68, none),
  (.move (.tmp 5), some 69, none),
  (.indexAddr 34 (.tmp 68) (.tmp 69), some 70, none),
  (.load 23 (.tmp 70), some 71, none),
  (.call { callee := .value (.func 49), args := #[(.tmp 64), (.tmp 71)], argTypes := #[23, 23] }, some 72, none),
  (.assign (.tmp 72), some 6, none)]
def rswD : List (Nat × Nat) := [(1, 0), (2, 1), (3, 2), (5, 3), (5, 4), (6, 5), (8, 7), (9, 8), (10, 9), (12, 10), (12, 11), (13, 12), (14, 6), (14, 13), (15, 14)]
set_option maxHeartbeats 2000000 in
theorem rsw {ops : Array Oper} {id : Nat} {Q : Exit → Act → World → Prop} (Z G n cap H n2 cap2 r : Nat) (V1 V2 : Value) (htab : ops.toList.map (fun o => (o.op, o.dst, o.guard)) = rswT) (hdep : deplB rswD ops = true) (hac : acB ops = true)
    (a0 : Act) (w : World) (hsz : 73 ≤ a0.tmps.size) (o0 : a0.tmps[0]? = some (.pointer (some ⟨Z, 0, none⟩))) (o5 : a0.tmps[5]? = some (.int .i64 (r : Int)))
    (Wd : (Nat → Bool) → World → Prop) (h0 : Wd (fun _ => false) w.drew) (hpure : ∀ i, i ∉ ([14] : List Nat) → ∀ L W, Wd L W → Wd (upd L i) W)
    (i5 : r < n) (i12 : r < n2) (l3 : ∀ L W, Wd L W → W.cell? ⟨Z, 0 + 2, none⟩ = some (.slice (some ⟨G, 0, none⟩) n cap))
    (l6 : ∀ L W, Wd L W → W.cell? ⟨G, 0 + r, none⟩ = some V1) (l10 : ∀ L W, Wd L W → W.cell? ⟨Z, 0 + 3, none⟩ = some (.slice (some ⟨H, 0, none⟩) n2 cap2))
    (l13 : ∀ L W, Wd L W → W.cell? ⟨H, 0 + r, none⟩ = some V2)
    (c14 : ∀ L W, Wd L W → L 14 = false → Calls Tryz.prog 49 #[V1, V2] W fun e w' => e = .returned (.bool true) ∧ Wd (upd L 14) w')
    (hend : ∀ L W, (∀ i, i < 16 → L i = true) → Wd L W → Q .normal ((((((((((((((((a0.put (some 58) (.pointer (some ⟨Z, 0, none⟩))).put (some 59) (.pointer (some ⟨Z, 0, none⟩))).put (some 60) (.pointer (some ⟨Z, 0 + 2, none⟩))).put (some 61) (.slice (some ⟨G, 0, none⟩) n cap)).put (some 62) (.int .i64 (r : Int))).put (some 63) (.pointer (some ⟨G, 0 + r, none⟩))).put (some 64) V1).put (some 65) (.pointer (some ⟨Z, 0, none⟩))).put (some 66) (.pointer (some ⟨Z, 0, none⟩))).put (some 67) (.pointer (some ⟨Z, 0 + 3, none⟩))).put (some 68) (.slice (some ⟨H, 0, none⟩) n2 cap2)).put (some 69) (.int .i64 (r : Int))).put (some 70) (.pointer (some ⟨H, 0 + r, none⟩))).put (some 71) V2).put (some 72) (.bool true)).put (some 6) (.bool true)) W) : (Code.region id ops true).wp Tryz.prog Q a0 w := by
  let val : Nat → Value := fun i => match i with
    | 0 => (.pointer (some ⟨Z, 0, none⟩))
    | 1 => (.pointer (some ⟨Z, 0, none⟩))
    | 2 => (.pointer (some ⟨Z, 0 + 2, none⟩))
    | 3 => (.slice (some ⟨G, 0, none⟩) n cap)
    | 4 => (.int .i64 (r : Int))
    | 5 => (.pointer (some ⟨G, 0 + r, none⟩))
    | 6 => V1
    | 7 => (.pointer (some ⟨Z, 0, none⟩))
    | 8 => (.pointer (some ⟨Z, 0, none⟩))
    | 9 => (.pointer (some ⟨Z, 0 + 3, none⟩))
    | 10 => (.slice (some ⟨H, 0, none⟩) n2 cap2)
    | 11 => (.int .i64 (r : Int))
    | 12 => (.pointer (some ⟨H, 0 + r, none⟩))
    | 13 => V2
    | 14 => (.bool true)
    | 15 => (.bool true)
    | _ => undef
  have hosz : ops.size = 16 := by
    have := congrArg List.length htab
    simpa [rswT] using this
  have hds : ∀ i s, (rswT[i]?).bind (·.2.1) = some s → dstOf ops i = some s := fun i s hi => by rw [tab_dst htab, hi]
  have hdisB : disL rswT = true := by rfl
  have hdis := disL_of htab hdisB
  have hold : ∀ s, rswT.all (fun x => !(x.2.1 == some s)) = true → (List.range ops.size).all (fun j => !(dstOf ops j == some s)) = true := fun s h => holdL htab s h
  refine region_detL val Wd (hac_of hac) hdis h0 ?_ ?_
  rotate_left
  · intro L W hall hW
    have := hend L W (by rw [← hosz]; exact hall) hW
    have e : frm ops a0 val (fun _ => true) ops.size = ((((((((((((((((a0.put (some 58) (.pointer (some ⟨Z, 0, none⟩))).put (some 59) (.pointer (some ⟨Z, 0, none⟩))).put (some 60) (.pointer (some ⟨Z, 0 + 2, none⟩))).put (some 61) (.slice (some ⟨G, 0, none⟩) n cap)).put (some 62) (.int .i64 (r : Int))).put (some 63) (.pointer (some ⟨G, 0 + r, none⟩))).put (some 64) V1).put (some 65) (.pointer (some ⟨Z, 0, none⟩))).put (some 66) (.pointer (some ⟨Z, 0, none⟩))).put (some 67) (.pointer (some ⟨Z, 0 + 3, none⟩))).put (some 68) (.slice (some ⟨H, 0, none⟩) n2 cap2)).put (some 69) (.int .i64 (r : Int))).put (some 70) (.pointer (some ⟨H, 0 + r, none⟩))).put (some 71) V2).put (some 72) (.bool true)).put (some 6) (.bool true)) := by
      rw [hosz]
      simp only [frm, if_true]
      rw [tab_dst htab 0, tab_dst htab 1, tab_dst htab 2, tab_dst htab 3, tab_dst htab 4, tab_dst htab 5, tab_dst htab 6, tab_dst htab 7, tab_dst htab 8, tab_dst htab 9, tab_dst htab 10, tab_dst htab 11, tab_dst htab 12, tab_dst htab 13, tab_dst htab 14, tab_dst htab 15]
      rfl
    rw [e]
    exact this
  intro i o ho L a w' hL hd ha hW
  have hi : i < 16 := by rw [← hosz]; exact (Array.getElem?_eq_some_iff.1 ho).1
  match i, ho, hL, hi with
  | 0, ho, hL, _ =>
    obtain ⟨hop, hdst, hgd⟩ := tab_at htab ho (show rswT[0]? = _ from rfl)
    simp only at hop hgd
    have h0 := frm_old ha 0 _ (hold 0 rfl) o0
    exact doesL_run ho (wanted_none hgd) (hpure 0 (by decide) L w' hW) (by rw [run_move _ _ _ hop]; exact congrArg (fun v => Result.ok (Next.value v) w') (eval_of h0))
  | 1, ho, hL, _ =>
    obtain ⟨hop, hdst, hgd⟩ := tab_at htab ho (show rswT[1]? = _ from rfl)
    simp only at hop hgd
    have h0 := frm_at hdis ha 0 58 (hds 0 58 rfl) (by omega) (depl_of hdep 1 0 (by decide) ho hd)
    exact doesL_run ho (wanted_none hgd) (hpure 1 (by decide) L w' hW) (run_nil _ _ _ hop _ (eval_of h0) _)
  | 2, ho, hL, _ =>
    obtain ⟨hop, hdst, hgd⟩ := tab_at htab ho (show rswT[2]? = _ from rfl)
    simp only at hop hgd
    have h0 := frm_at hdis ha 1 59 (hds 1 59 rfl) (by omega) (depl_of hdep 2 1 (by decide) ho hd)
    exact doesL_run ho (wanted_none hgd) (hpure 2 (by decide) L w' hW) (run_f36_2 _ _ _ hop _ _ (eval_of h0) _)
  | 3, ho, hL, _ =>
    obtain ⟨hop, hdst, hgd⟩ := tab_at htab ho (show rswT[3]? = _ from rfl)
    simp only at hop hgd
    have h0 := frm_at hdis ha 2 60 (hds 2 60 rfl) (by omega) (depl_of hdep 3 2 (by decide) ho hd)
    exact doesL_run ho (wanted_none hgd) (hpure 3 (by decide) L w' hW) (run_ld34 _ _ _ hop _ _ (eval_of h0) _ (l3 L w' hW))
  | 4, ho, hL, _ =>
    obtain ⟨hop, hdst, hgd⟩ := tab_at htab ho (show rswT[4]? = _ from rfl)
    simp only at hop hgd
    have h0 := frm_old ha 5 _ (hold 5 rfl) o5
    exact doesL_run ho (wanted_none hgd) (hpure 4 (by decide) L w' hW) (by rw [run_move _ _ _ hop]; exact congrArg (fun v => Result.ok (Next.value v) w') (eval_of h0))
  | 5, ho, hL, _ =>
    obtain ⟨hop, hdst, hgd⟩ := tab_at htab ho (show rswT[5]? = _ from rfl)
    simp only at hop hgd
    have h0 := frm_at hdis ha 3 61 (hds 3 61 rfl) (by omega) (depl_of hdep 5 3 (by decide) ho hd)
    have h1 := frm_at hdis ha 4 62 (hds 4 62 rfl) (by omega) (depl_of hdep 5 4 (by decide) ho hd)
    exact doesL_run ho (wanted_none hgd) (hpure 5 (by decide) L w' hW) (run_ia34 _ _ _ _ hop _ _ _ _ _ i5 (eval_of h0) (eval_of h1) _)
  | 6, ho, hL, _ =>
    obtain ⟨hop, hdst, hgd⟩ := tab_at htab ho (show rswT[6]? = _ from rfl)
    simp only at hop hgd
    have h0 := frm_at hdis ha 5 63 (hds 5 63 rfl) (by omega) (depl_of hdep 6 5 (by decide) ho hd)
    exact doesL_run ho (wanted_none hgd) (hpure 6 (by decide) L w' hW) (run_ld23 _ _ _ hop _ _ (eval_of h0) _ (l6 L w' hW))
  | 7, ho, hL, _ =>
    obtain ⟨hop, hdst, hgd⟩ := tab_at htab ho (show rswT[7]? = _ from rfl)
    simp only at hop hgd
    have h0 := frm_old ha 0 _ (hold 0 rfl) o0
    exact doesL_run ho (wanted_none hgd) (hpure 7 (by decide) L w' hW) (by rw [run_move _ _ _ hop]; exact congrArg (fun v => Result.ok (Next.value v) w') (eval_of h0))
  | 8, ho, hL, _ =>
    obtain ⟨hop, hdst, hgd⟩ := tab_at htab ho (show rswT[8]? = _ from rfl)
    simp only at hop hgd
    have h0 := frm_at hdis ha 7 65 (hds 7 65 rfl) (by omega) (depl_of hdep 8 7 (by decide) ho hd)
    exact doesL_run ho (wanted_none hgd) (hpure 8 (by decide) L w' hW) (run_nil _ _ _ hop _ (eval_of h0) _)
  | 9, ho, hL, _ =>
    obtain ⟨hop, hdst, hgd⟩ := tab_at htab ho (show rswT[9]? = _ from rfl)
    simp only at hop hgd
    have h0 := frm_at hdis ha 8 66 (hds 8 66 rfl) (by omega) (depl_of hdep 9 8 (by decide) ho hd)
    exact doesL_run ho (wanted_none hgd) (hpure 9 (by decide) L w' hW) (run_f36_3 _ _ _ hop _ _ (eval_of h0) _)
  | 10, ho, hL, _ =>
    obtain ⟨hop, hdst, hgd⟩ := tab_at htab ho (show rswT[10]? = _ from rfl)
    simp only at hop hgd
    have h0 := frm_at hdis ha 9 67 (hds 9 67 rfl) (by omega) (depl_of hdep 10 9 (by decide) ho hd)
    exact doesL_run ho (wanted_none hgd) (hpure 10 (by decide) L w' hW) (run_ld34 _ _ _ hop _ _ (eval_of h0) _ (l10 L w' hW))
  | 11, ho, hL, _ =>
    obtain ⟨hop, hdst, hgd⟩ := tab_at htab ho (show rswT[11]? = _ from rfl)
    simp only at hop hgd
    have h0 := frm_old ha 5 _ (hold 5 rfl) o5
    exact doesL_run ho (wanted_none hgd) (hpure 11 (by decide) L w' hW) (by rw [run_move _ _ _ hop]; exact congrArg (fun v => Result.ok (Next.value v) w') (eval_of h0))
  | 12, ho, hL, _ =>
    obtain ⟨hop, hdst, hgd⟩ := tab_at htab ho (show rswT[12]? = _ from rfl)
    simp only at hop hgd
    have h0 := frm_at hdis ha 10 68 (hds 10 68 rfl) (by omega) (depl_of hdep 12 10 (by decide) ho hd)
    have h1 := frm_at hdis ha 11 69 (hds 11 69 rfl) (by omega) (depl_of hdep 12 11 (by decide) ho hd)
    exact doesL_run ho (wanted_none hgd) (hpure 12 (by decide) L w' hW) (run_ia34 _ _ _ _ hop _ _ _ _ _ i12 (eval_of h0) (eval_of h1) _)
  | 13, ho, hL, _ =>
    obtain ⟨hop, hdst, hgd⟩ := tab_at htab ho (show rswT[13]? = _ from rfl)
    simp only at hop hgd
    have h0 := frm_at hdis ha 12 70 (hds 12 70 rfl) (by omega) (depl_of hdep 13 12 (by decide) ho hd)
    exact doesL_run ho (wanted_none hgd) (hpure 13 (by decide) L w' hW) (run_ld23 _ _ _ hop _ _ (eval_of h0) _ (l13 L w' hW))
  | 14, ho, hL, _ =>
    obtain ⟨hop, hdst, hgd⟩ := tab_at htab ho (show rswT[14]? = _ from rfl)
    simp only at hop hgd
    have h0 := frm_at hdis ha 6 64 (hds 6 64 rfl) (by omega) (depl_of hdep 14 6 (by decide) ho hd)
    have h1 := frm_at hdis ha 13 71 (hds 13 71 rfl) (by omega) (depl_of hdep 14 13 (by decide) ho hd)
    refine doesL_call ho (wanted_none hgd) 49 #[V1, V2] ?_ (c14 L w' hW hL)
    rw [run_calls Tryz.func49 (by kernel_rfl) rfl _ _ _ _ hop rfl]
    simp only [List.map_toArray, List.map_cons, List.map_nil, eval_of h0, eval_of h1]
    all_goals rfl
  | 15, ho, hL, _ =>
    obtain ⟨hop, hdst, hgd⟩ := tab_at htab ho (show rswT[15]? = _ from rfl)
    simp only at hop hgd
    have h0 := frm_at hdis ha 14 72 (hds 14 72 rfl) (by omega) (depl_of hdep 15 14 (by decide) ho hd)
    exact doesL_run ho (wanted_none hgd) (hpure 15 (by decide) L w' hW) (by rw [run_assign _ _ _ hop]; exact congrArg (fun v => Result.ok (Next.value v) w') (eval_of h0))
  | (i + 16), ho, hL, hi => exact absurd hi (by omega)
def rsmT : List (Op × Option Tmp × Option (Nat × Bool)) := [
  (.move (.tmp 0), some 96, none),
  (.nilCheck (.tmp 96), some 97, none),
  (.fieldAddr 36 (.tmp 97) 0, some 98, none),
  (.load 33 (.tmp 98), some 99, none),
  (.move (.tmp 7), some 100, none),
  (.indexAddr 33 (.tmp 99) (.tmp 100), some 101, none),
  (.load 22 (.tmp 101), some 102, none),
  (.move (.tmp 8), some 103, none),
  (.move (.tmp 7), some 104, none),
  (.call { callee := .value (.func 51), args := #[(.tmp 104)], argTypes := #[3] }, some 105, none),
  (.indexAddr 22 (.tmp 102) (.tmp 103), some 106, none),
  (.store 9 (.tmp 106) (.tmp 105), none, none)]
def rsmD : List (Nat × Nat) := [(1, 0), (2, 1), (3, 2), (5, 3), (5, 4), (6, 5), (9, 8), (10, 6), (10, 7), (11, 9), (11, 10)]
set_option maxHeartbeats 2000000 in
theorem rsm {ops : Array Oper} {id : Nat} {Q : Exit → Act → World → Prop} (Z G n cap g m c r k : Nat) (mv : Bs) (htab : ops.toList.map (fun o => (o.op, o.dst, o.guard)) = rsmT) (hdep : deplB rsmD ops = true) (hac : acB ops = true)
    (a0 : Act) (w : World) (hsz : 107 ≤ a0.tmps.size) (o0 : a0.tmps[0]? = some (.pointer (some ⟨Z, 0, none⟩))) (o7 : a0.tmps[7]? = some (.int .i64 (r : Int))) (o8 : a0.tmps[8]? = some (.int .i64 (k : Int)))
    (Wd : (Nat → Bool) → World → Prop) (h0 : Wd (fun _ => false) w.drew) (hpure : ∀ i, i ∉ ([9, 11] : List Nat) → ∀ L W, Wd L W → Wd (upd L i) W)
    (i5 : r < n) (i10 : k < m) (l3 : ∀ L W, Wd L W → W.cell? ⟨Z, 0 + 0, none⟩ = some (.slice (some ⟨G, 0, none⟩) n cap))
    (l6 : ∀ L W, Wd L W → W.cell? ⟨G, 0 + r, none⟩ = some (.slice (some ⟨g, 0, none⟩) m c))
    (c9 : ∀ L W, Wd L W → L 9 = false → Calls Tryz.prog 51 #[.int .i64 (r : Int)] W fun e w' => e = .returned (S mv) ∧ Wd (upd L 9) w')
    (n11 : ∀ L W, Wd L W → L 11 = false → L 9 = true → L 10 = true → Wd (upd L 11) (W.setCell ⟨g, 0 + k, none⟩ (S mv)) ∧ (∃ u, W.cell? ⟨g, 0 + k, none⟩ = some u) ∧ W.frozen? ⟨g, 0 + k, none⟩ = false)
    (hend : ∀ L W, (∀ i, i < 12 → L i = true) → Wd L W → Q .normal (((((((((((a0.put (some 96) (.pointer (some ⟨Z, 0, none⟩))).put (some 97) (.pointer (some ⟨Z, 0, none⟩))).put (some 98) (.pointer (some ⟨Z, 0 + 0, none⟩))).put (some 99) (.slice (some ⟨G, 0, none⟩) n cap)).put (some 100) (.int .i64 (r : Int))).put (some 101) (.pointer (some ⟨G, 0 + r, none⟩))).put (some 102) (.slice (some ⟨g, 0, none⟩) m c)).put (some 103) (.int .i64 (k : Int))).put (some 104) (.int .i64 (r : Int))).put (some 105) (S mv)).put (some 106) (.pointer (some ⟨g, 0 + k, none⟩))) W) : (Code.region id ops true).wp Tryz.prog Q a0 w := by
  let val : Nat → Value := fun i => match i with
    | 0 => (.pointer (some ⟨Z, 0, none⟩))
    | 1 => (.pointer (some ⟨Z, 0, none⟩))
    | 2 => (.pointer (some ⟨Z, 0 + 0, none⟩))
    | 3 => (.slice (some ⟨G, 0, none⟩) n cap)
    | 4 => (.int .i64 (r : Int))
    | 5 => (.pointer (some ⟨G, 0 + r, none⟩))
    | 6 => (.slice (some ⟨g, 0, none⟩) m c)
    | 7 => (.int .i64 (k : Int))
    | 8 => (.int .i64 (r : Int))
    | 9 => (S mv)
    | 10 => (.pointer (some ⟨g, 0 + k, none⟩))
    | 11 => undef
    | _ => undef
  have hosz : ops.size = 12 := by
    have := congrArg List.length htab
    simpa [rsmT] using this
  have hds : ∀ i s, (rsmT[i]?).bind (·.2.1) = some s → dstOf ops i = some s := fun i s hi => by rw [tab_dst htab, hi]
  have hdisB : disL rsmT = true := by rfl
  have hdis := disL_of htab hdisB
  have hold : ∀ s, rsmT.all (fun x => !(x.2.1 == some s)) = true → (List.range ops.size).all (fun j => !(dstOf ops j == some s)) = true := fun s h => holdL htab s h
  refine region_detL val Wd (hac_of hac) hdis h0 ?_ ?_
  rotate_left
  · intro L W hall hW
    have := hend L W (by rw [← hosz]; exact hall) hW
    have e : frm ops a0 val (fun _ => true) ops.size = (((((((((((a0.put (some 96) (.pointer (some ⟨Z, 0, none⟩))).put (some 97) (.pointer (some ⟨Z, 0, none⟩))).put (some 98) (.pointer (some ⟨Z, 0 + 0, none⟩))).put (some 99) (.slice (some ⟨G, 0, none⟩) n cap)).put (some 100) (.int .i64 (r : Int))).put (some 101) (.pointer (some ⟨G, 0 + r, none⟩))).put (some 102) (.slice (some ⟨g, 0, none⟩) m c)).put (some 103) (.int .i64 (k : Int))).put (some 104) (.int .i64 (r : Int))).put (some 105) (S mv)).put (some 106) (.pointer (some ⟨g, 0 + k, none⟩))) := by
      rw [hosz]
      simp only [frm, if_true]
      rw [tab_dst htab 0, tab_dst htab 1, tab_dst htab 2, tab_dst htab 3, tab_dst htab 4, tab_dst htab 5, tab_dst htab 6, tab_dst htab 7, tab_dst htab 8, tab_dst htab 9, tab_dst htab 10, (show dstOf ops 11 = none from (tab_dst htab 11).trans rfl), put_none]
      rfl
    rw [e]
    exact this
  intro i o ho L a w' hL hd ha hW
  have hi : i < 12 := by rw [← hosz]; exact (Array.getElem?_eq_some_iff.1 ho).1
  match i, ho, hL, hi with
  | 0, ho, hL, _ =>
    obtain ⟨hop, hdst, hgd⟩ := tab_at htab ho (show rsmT[0]? = _ from rfl)
    simp only at hop hgd
    have h0 := frm_old ha 0 _ (hold 0 rfl) o0
    exact doesL_run ho (wanted_none hgd) (hpure 0 (by decide) L w' hW) (by rw [run_move _ _ _ hop]; exact congrArg (fun v => Result.ok (Next.value v) w') (eval_of h0))
  | 1, ho, hL, _ =>
    obtain ⟨hop, hdst, hgd⟩ := tab_at htab ho (show rsmT[1]? = _ from rfl)
    simp only at hop hgd
    have h0 := frm_at hdis ha 0 96 (hds 0 96 rfl) (by omega) (depl_of hdep 1 0 (by decide) ho hd)
    exact doesL_run ho (wanted_none hgd) (hpure 1 (by decide) L w' hW) (run_nil _ _ _ hop _ (eval_of h0) _)
  | 2, ho, hL, _ =>
    obtain ⟨hop, hdst, hgd⟩ := tab_at htab ho (show rsmT[2]? = _ from rfl)
    simp only at hop hgd
    have h0 := frm_at hdis ha 1 97 (hds 1 97 rfl) (by omega) (depl_of hdep 2 1 (by decide) ho hd)
    exact doesL_run ho (wanted_none hgd) (hpure 2 (by decide) L w' hW) (run_f36_0 _ _ _ hop _ _ (eval_of h0) _)
  | 3, ho, hL, _ =>
    obtain ⟨hop, hdst, hgd⟩ := tab_at htab ho (show rsmT[3]? = _ from rfl)
    simp only at hop hgd
    have h0 := frm_at hdis ha 2 98 (hds 2 98 rfl) (by omega) (depl_of hdep 3 2 (by decide) ho hd)
    exact doesL_run ho (wanted_none hgd) (hpure 3 (by decide) L w' hW) (run_ld33 _ _ _ hop _ _ (eval_of h0) _ (l3 L w' hW))
  | 4, ho, hL, _ =>
    obtain ⟨hop, hdst, hgd⟩ := tab_at htab ho (show rsmT[4]? = _ from rfl)
    simp only at hop hgd
    have h0 := frm_old ha 7 _ (hold 7 rfl) o7
    exact doesL_run ho (wanted_none hgd) (hpure 4 (by decide) L w' hW) (by rw [run_move _ _ _ hop]; exact congrArg (fun v => Result.ok (Next.value v) w') (eval_of h0))
  | 5, ho, hL, _ =>
    obtain ⟨hop, hdst, hgd⟩ := tab_at htab ho (show rsmT[5]? = _ from rfl)
    simp only at hop hgd
    have h0 := frm_at hdis ha 3 99 (hds 3 99 rfl) (by omega) (depl_of hdep 5 3 (by decide) ho hd)
    have h1 := frm_at hdis ha 4 100 (hds 4 100 rfl) (by omega) (depl_of hdep 5 4 (by decide) ho hd)
    exact doesL_run ho (wanted_none hgd) (hpure 5 (by decide) L w' hW) (run_ia33 _ _ _ _ hop _ _ _ _ _ i5 (eval_of h0) (eval_of h1) _)
  | 6, ho, hL, _ =>
    obtain ⟨hop, hdst, hgd⟩ := tab_at htab ho (show rsmT[6]? = _ from rfl)
    simp only at hop hgd
    have h0 := frm_at hdis ha 5 101 (hds 5 101 rfl) (by omega) (depl_of hdep 6 5 (by decide) ho hd)
    exact doesL_run ho (wanted_none hgd) (hpure 6 (by decide) L w' hW) (run_ld22 _ _ _ hop _ _ (eval_of h0) _ (l6 L w' hW))
  | 7, ho, hL, _ =>
    obtain ⟨hop, hdst, hgd⟩ := tab_at htab ho (show rsmT[7]? = _ from rfl)
    simp only at hop hgd
    have h0 := frm_old ha 8 _ (hold 8 rfl) o8
    exact doesL_run ho (wanted_none hgd) (hpure 7 (by decide) L w' hW) (by rw [run_move _ _ _ hop]; exact congrArg (fun v => Result.ok (Next.value v) w') (eval_of h0))
  | 8, ho, hL, _ =>
    obtain ⟨hop, hdst, hgd⟩ := tab_at htab ho (show rsmT[8]? = _ from rfl)
    simp only at hop hgd
    have h0 := frm_old ha 7 _ (hold 7 rfl) o7
    exact doesL_run ho (wanted_none hgd) (hpure 8 (by decide) L w' hW) (by rw [run_move _ _ _ hop]; exact congrArg (fun v => Result.ok (Next.value v) w') (eval_of h0))
  | 9, ho, hL, _ =>
    obtain ⟨hop, hdst, hgd⟩ := tab_at htab ho (show rsmT[9]? = _ from rfl)
    simp only at hop hgd
    have h0 := frm_at hdis ha 8 104 (hds 8 104 rfl) (by omega) (depl_of hdep 9 8 (by decide) ho hd)
    refine doesL_call ho (wanted_none hgd) 51 #[.int .i64 (r : Int)] ?_ (c9 L w' hW hL)
    rw [run_calls Tryz.func51 (by kernel_rfl) rfl _ _ _ _ hop rfl]
    simp only [List.map_toArray, List.map_cons, List.map_nil, eval_of h0]
    all_goals rfl
  | 10, ho, hL, _ =>
    obtain ⟨hop, hdst, hgd⟩ := tab_at htab ho (show rsmT[10]? = _ from rfl)
    simp only at hop hgd
    have h0 := frm_at hdis ha 6 102 (hds 6 102 rfl) (by omega) (depl_of hdep 10 6 (by decide) ho hd)
    have h1 := frm_at hdis ha 7 103 (hds 7 103 rfl) (by omega) (depl_of hdep 10 7 (by decide) ho hd)
    exact doesL_run ho (wanted_none hgd) (hpure 10 (by decide) L w' hW) (run_ia22 _ _ _ _ hop _ _ _ _ _ i10 (eval_of h0) (eval_of h1) _)
  | 11, ho, hL, _ =>
    obtain ⟨hop, hdst, hgd⟩ := tab_at htab ho (show rsmT[11]? = _ from rfl)
    simp only at hop hgd
    have h0 := frm_at hdis ha 10 106 (hds 10 106 rfl) (by omega) (depl_of hdep 11 10 (by decide) ho hd)
    have h1 := frm_at hdis ha 9 105 (hds 9 105 rfl) (by omega) (depl_of hdep 11 9 (by decide) ho hd)
    obtain ⟨s1, s2, s3⟩ := n11 L w' hW hL (depl_of hdep 11 9 (by decide) ho hd) (depl_of hdep 11 10 (by decide) ho hd)
    exact doesL_skp ho (wanted_none hgd) rfl s1 (run_st9 _ _ _ _ hop _ _ (eval_of h0) (eval_of h1) _ s2 s3)
  | (i + 12), ho, hL, hi => exact absurd hi (by omega)
def rskT : List (Op × Option Tmp × Option (Nat × Bool)) := [
  (.move (.tmp 11), some 212, none),
  (.move (.tmp 19), some 213, none),
  (.indexAddr 33 (.tmp 212) (.tmp 213), some 214, none),
  (.load 22 (.tmp 214), some 215, none),
  (.move (.tmp 20), some 216, none),
  (.indexAddr 22 (.tmp 215) (.tmp 216), some 217, none),
  (.load 9 (.tmp 217), some 218, none),
  (.move (.tmp 19), some 219, none),
  (.binOp .quo 3 (.tmp 219) (.const (.int .i64 20)) 3, some 220, none),
  (.call { callee := .value (.func 51), args := #[(.tmp 220)], argTypes := #[3] }, some 221, none),
  (.binOp .neq 9 (.tmp 218) (.tmp 221) 9, some 222, none)]
def rskD : List (Nat × Nat) := [(2, 0), (2, 1), (3, 2), (5, 3), (5, 4), (6, 5), (8, 7), (9, 8), (10, 6), (10, 9)]
set_option maxHeartbeats 2000000 in
theorem rsk {ops : Array Oper} {id : Nat} {Q : Exit → Act → World → Prop} (G n cap g m c r k : Nat) (mv : Bs) (htab : ops.toList.map (fun o => (o.op, o.dst, o.guard)) = rskT) (hdep : deplB rskD ops = true) (hac : acB ops = true)
    (a0 : Act) (w : World) (hsz : 223 ≤ a0.tmps.size) (o11 : a0.tmps[11]? = some (.slice (some ⟨G, 0, none⟩) n cap)) (o19 : a0.tmps[19]? = some (.int .i64 (r : Int))) (o20 : a0.tmps[20]? = some (.int .i64 (k : Int)))
    (Wd : (Nat → Bool) → World → Prop) (h0 : Wd (fun _ => false) w.drew) (hpure : ∀ i, i ∉ ([9] : List Nat) → ∀ L W, Wd L W → Wd (upd L i) W)
    (i2 : r < n) (i5 : k < m) (q8 : r ≤ 1000000000000)
    (l3 : ∀ L W, Wd L W → W.cell? ⟨G, 0 + r, none⟩ = some (.slice (some ⟨g, 0, none⟩) m c)) (l6 : ∀ L W, Wd L W → W.cell? ⟨g, 0 + k, none⟩ = some (S mv))
    (c9 : ∀ L W, Wd L W → L 9 = false → Calls Tryz.prog 51 #[.int .i64 ((r / 20 : Nat) : Int)] W fun e w' => e = .returned (S mv) ∧ Wd (upd L 9) w')
    (hend : ∀ L W, (∀ i, i < 11 → L i = true) → Wd L W → Q .normal (((((((((((a0.put (some 212) (.slice (some ⟨G, 0, none⟩) n cap)).put (some 213) (.int .i64 (r : Int))).put (some 214) (.pointer (some ⟨G, 0 + r, none⟩))).put (some 215) (.slice (some ⟨g, 0, none⟩) m c)).put (some 216) (.int .i64 (k : Int))).put (some 217) (.pointer (some ⟨g, 0 + k, none⟩))).put (some 218) (S mv)).put (some 219) (.int .i64 (r : Int))).put (some 220) (.int .i64 ((r / 20 : Nat) : Int))).put (some 221) (S mv)).put (some 222) (.bool false)) W) : (Code.region id ops true).wp Tryz.prog Q a0 w := by
  let val : Nat → Value := fun i => match i with
    | 0 => (.slice (some ⟨G, 0, none⟩) n cap)
    | 1 => (.int .i64 (r : Int))
    | 2 => (.pointer (some ⟨G, 0 + r, none⟩))
    | 3 => (.slice (some ⟨g, 0, none⟩) m c)
    | 4 => (.int .i64 (k : Int))
    | 5 => (.pointer (some ⟨g, 0 + k, none⟩))
    | 6 => (S mv)
    | 7 => (.int .i64 (r : Int))
    | 8 => (.int .i64 ((r / 20 : Nat) : Int))
    | 9 => (S mv)
    | 10 => (.bool false)
    | _ => undef
  have hosz : ops.size = 11 := by
    have := congrArg List.length htab
    simpa [rskT] using this
  have hds : ∀ i s, (rskT[i]?).bind (·.2.1) = some s → dstOf ops i = some s := fun i s hi => by rw [tab_dst htab, hi]
  have hdisB : disL rskT = true := by rfl
  have hdis := disL_of htab hdisB
  have hold : ∀ s, rskT.all (fun x => !(x.2.1 == some s)) = true → (List.range ops.size).all (fun j => !(dstOf ops j == some s)) = true := fun s h => holdL htab s h
  refine region_detL val Wd (hac_of hac) hdis h0 ?_ ?_
  rotate_left
  · intro L W hall hW
    have := hend L W (by rw [← hosz]; exact hall) hW
    have e : frm ops a0 val (fun _ => true) ops.size = (((((((((((a0.put (some 212) (.slice (some ⟨G, 0, none⟩) n cap)).put (some 213) (.int .i64 (r : Int))).put (some 214) (.pointer (some ⟨G, 0 + r, none⟩))).put (some 215) (.slice (some ⟨g, 0, none⟩) m c)).put (some 216) (.int .i64 (k : Int))).put (some 217) (.pointer (some ⟨g, 0 + k, none⟩))).put (some 218) (S mv)).put (some 219) (.int .i64 (r : Int))).put (some 220) (.int .i64 ((r / 20 : Nat) : Int))).put (some 221) (S mv)).put (some 222) (.bool false)) := by
      rw [hosz]
      simp only [frm, if_true]
      rw [tab_dst htab 0, tab_dst htab 1, tab_dst htab 2, tab_dst htab 3, tab_dst htab 4, tab_dst htab 5, tab_dst htab 6, tab_dst htab 7, tab_dst htab 8, tab_dst htab 9, tab_dst htab 10]
      rfl
    rw [e]
    exact this
  intro i o ho L a w' hL hd ha hW
  have hi : i < 11 := by rw [← hosz]; exact (Array.getElem?_eq_some_iff.1 ho).1
  match i, ho, hL, hi with
  | 0, ho, hL, _ =>
    obtain ⟨hop, hdst, hgd⟩ := tab_at htab ho (show rskT[0]? = _ from rfl)
    simp only at hop hgd
    have h0 := frm_old ha 11 _ (hold 11 rfl) o11
    exact doesL_run ho (wanted_none hgd) (hpure 0 (by decide) L w' hW) (by rw [run_move _ _ _ hop]; exact congrArg (fun v => Result.ok (Next.value v) w') (eval_of h0))
  | 1, ho, hL, _ =>
    obtain ⟨hop, hdst, hgd⟩ := tab_at htab ho (show rskT[1]? = _ from rfl)
    simp only at hop hgd
    have h0 := frm_old ha 19 _ (hold 19 rfl) o19
    exact doesL_run ho (wanted_none hgd) (hpure 1 (by decide) L w' hW) (by rw [run_move _ _ _ hop]; exact congrArg (fun v => Result.ok (Next.value v) w') (eval_of h0))
  | 2, ho, hL, _ =>
    obtain ⟨hop, hdst, hgd⟩ := tab_at htab ho (show rskT[2]? = _ from rfl)
    simp only at hop hgd
    have h0 := frm_at hdis ha 0 212 (hds 0 212 rfl) (by omega) (depl_of hdep 2 0 (by decide) ho hd)
    have h1 := frm_at hdis ha 1 213 (hds 1 213 rfl) (by omega) (depl_of hdep 2 1 (by decide) ho hd)
    exact doesL_run ho (wanted_none hgd) (hpure 2 (by decide) L w' hW) (run_ia33 _ _ _ _ hop _ _ _ _ _ i2 (eval_of h0) (eval_of h1) _)
  | 3, ho, hL, _ =>
    obtain ⟨hop, hdst, hgd⟩ := tab_at htab ho (show rskT[3]? = _ from rfl)
    simp only at hop hgd
    have h0 := frm_at hdis ha 2 214 (hds 2 214 rfl) (by omega) (depl_of hdep 3 2 (by decide) ho hd)
    exact doesL_run ho (wanted_none hgd) (hpure 3 (by decide) L w' hW) (run_ld22 _ _ _ hop _ _ (eval_of h0) _ (l3 L w' hW))
  | 4, ho, hL, _ =>
    obtain ⟨hop, hdst, hgd⟩ := tab_at htab ho (show rskT[4]? = _ from rfl)
    simp only at hop hgd
    have h0 := frm_old ha 20 _ (hold 20 rfl) o20
    exact doesL_run ho (wanted_none hgd) (hpure 4 (by decide) L w' hW) (by rw [run_move _ _ _ hop]; exact congrArg (fun v => Result.ok (Next.value v) w') (eval_of h0))
  | 5, ho, hL, _ =>
    obtain ⟨hop, hdst, hgd⟩ := tab_at htab ho (show rskT[5]? = _ from rfl)
    simp only at hop hgd
    have h0 := frm_at hdis ha 3 215 (hds 3 215 rfl) (by omega) (depl_of hdep 5 3 (by decide) ho hd)
    have h1 := frm_at hdis ha 4 216 (hds 4 216 rfl) (by omega) (depl_of hdep 5 4 (by decide) ho hd)
    exact doesL_run ho (wanted_none hgd) (hpure 5 (by decide) L w' hW) (run_ia22 _ _ _ _ hop _ _ _ _ _ i5 (eval_of h0) (eval_of h1) _)
  | 6, ho, hL, _ =>
    obtain ⟨hop, hdst, hgd⟩ := tab_at htab ho (show rskT[6]? = _ from rfl)
    simp only at hop hgd
    have h0 := frm_at hdis ha 5 217 (hds 5 217 rfl) (by omega) (depl_of hdep 6 5 (by decide) ho hd)
    exact doesL_run ho (wanted_none hgd) (hpure 6 (by decide) L w' hW) (run_ld _ _ _ hop _ _ (eval_of h0) _ (l6 L w' hW))
  | 7, ho, hL, _ =>
    obtain ⟨hop, hdst, hgd⟩ := tab_at htab ho (show rskT[7]? = _ from rfl)
    simp only at hop hgd
    have h0 := frm_old ha 19 _ (hold 19 rfl) o19
    exact doesL_run ho (wanted_none hgd) (hpure 7 (by decide) L w' hW) (by rw [run_move _ _ _ hop]; exact congrArg (fun v => Result.ok (Next.value v) w') (eval_of h0))
  | 8, ho, hL, _ =>
    obtain ⟨hop, hdst, hgd⟩ := tab_at htab ho (show rskT[8]? = _ from rfl)
    simp only at hop hgd
    have h0 := frm_at hdis ha 7 219 (hds 7 219 rfl) (by omega) (depl_of hdep 8 7 (by decide) ho hd)
    exact doesL_run ho (wanted_none hgd) (hpure 8 (by decide) L w' hW) (run_quo20 _ _ _ hop _ q8 (eval_of h0) rfl _)
  | 9, ho, hL, _ =>
    obtain ⟨hop, hdst, hgd⟩ := tab_at htab ho (show rskT[9]? = _ from rfl)
    simp only at hop hgd
    have h0 := frm_at hdis ha 8 220 (hds 8 220 rfl) (by omega) (depl_of hdep 9 8 (by decide) ho hd)
    refine doesL_call ho (wanted_none hgd) 51 #[.int .i64 ((r / 20 : Nat) : Int)] ?_ (c9 L w' hW hL)
    rw [run_calls Tryz.func51 (by kernel_rfl) rfl _ _ _ _ hop rfl]
    simp only [List.map_toArray, List.map_cons, List.map_nil, eval_of h0]
    all_goals rfl
  | 10, ho, hL, _ =>
    obtain ⟨hop, hdst, hgd⟩ := tab_at htab ho (show rskT[10]? = _ from rfl)
    simp only at hop hgd
    have h0 := frm_at hdis ha 6 218 (hds 6 218 rfl) (by omega) (depl_of hdep 10 6 (by decide) ho hd)
    have h1 := frm_at hdis ha 9 221 (hds 9 221 rfl) (by omega) (depl_of hdep 10 9 (by decide) ho hd)
    exact doesL_run ho (wanted_none hgd) (hpure 10 (by decide) L w' hW) (run_neqS _ _ _ _ _ _ hop _ (eval_of h0) (eval_of h1) _)
  | (i + 11), ho, hL, hi => exact absurd hi (by omega)
end Go.Proofs.YtllialbdofklgaaGreatDoor
namespace Go.Proofs.YtllialbdofklgaaGreatDoor
open Go.RowKit
theorem run_gtrI (ρ : Operand → Value) (o : Oper) (x : Operand) (ho : o.op = .binOp .gtr 3 x (.const (.int .i64 2147483647)) 3) (a : Nat) (hx : ρ x = .int .i64 (a : Int)) (hy : ρ (.const (.int .i64 2147483647)) = .int .i64 2147483647) (w : World) : (execOp ρ o).run Tryz.prog w = .ok (.value (.bool (decide ((2147483647 : Int) < (a : Int))))) w := by
  unfold execOp
  simp only [ho, hx, hy]
  simp [go_sem]
end Go.Proofs.YtllialbdofklgaaGreatDoor
namespace Go.Proofs.YtllialbdofklgaaGreatDoor
open Go.RowKit
def rnjT : List (Op × Option Tmp × Option (Nat × Bool)) := [
  (.load 25 (.tmp 4), some 21, none),
  (.call { callee := .value (.func 11), args := #[(.tmp 21)], argTypes := #[25] }, some 22, none),
  (.move (.tmp 1), some 23, none),
  (.call { callee := .builtin .len, args := #[(.tmp 23)], argTypes := #[9] }, some 24, none),
  (.call { callee := .value (.func 10), args := #[(.tmp 22), (.tmp 24)], argTypes := #[3, 3] }, some 25, none),
  (.load 25 (.tmp 6), some 26, none),
  (.call { callee := .value (.func 11), args := #[(.tmp 26)], argTypes := #[25] }, some 27, none),
  (.load 25 (.tmp 7), some 28, none),
  (.call { callee := .value (.func 11), args := #[(.tmp 28)], argTypes := #[25] }, some 29, none),
  (.call { callee := .value (.func 10), args := #[(.tmp 27), (.tmp 29)], argTypes := #[3, 3] }, some 30, none),
  (.call { callee := .value (.func 10), args := #[(.tmp 25), (.tmp 30)], argTypes := #[3, 3] }, some 31, none),
  (.binOp .gtr 3 (.tmp 31) (.const (.int .i64 2147483647)) 3, some 32, none)]
def rnjD : List (Nat × Nat) := [(1, 0), (3, 2), (4, 1), (4, 3), (6, 5), (8, 7), (9, 6), (9, 8), (10, 4), (10, 9), (11, 10)]
set_option maxHeartbeats 2000000 in
theorem rnj {ops : Array Oper} {id : Nat} {Q : Exit → Act → World → Prop} (X Y Z kl kc vl vc il ic jl kd ul vd hl jd ml kf nl vf ol jf T0 T1 T2 T3 T4 T5 : Nat) (ka va ia kb vb ib ke ve ie : Option Addr) (lf lg lh : Bool) (key : Bs) (htab : ops.toList.map (fun o => (o.op, o.dst, o.guard)) = rnjT) (hdep : deplB rnjD ops = true) (hac : acB ops = true)
    (a0 : Act) (w : World) (hsz : 33 ≤ a0.tmps.size) (o1 : a0.tmps[1]? = some (S key)) (o4 : a0.tmps[4]? = some (.pointer (some ⟨X, 0, none⟩))) (o6 : a0.tmps[6]? = some (.pointer (some ⟨Y, 0, none⟩))) (o7 : a0.tmps[7]? = some (.pointer (some ⟨Z, 0, none⟩)))
    (Wd : (Nat → Bool) → World → Prop) (h0 : Wd (fun _ => false) w.drew) (hpure : ∀ i, i ∉ ([1, 4, 6, 8, 9, 10] : List Nat) → ∀ L W, Wd L W → Wd (upd L i) W)
    (l0 : ∀ L W, Wd L W → W.cell? ⟨X, 0, none⟩ = some (.bool lf) ∧ W.cell? ⟨X, 1, none⟩ = some (.slice ka kl kc) ∧ W.cell? ⟨X, 2, none⟩ = some (.slice va vl vc) ∧ W.cell? ⟨X, 3, none⟩ = some (.slice ia il ic))
    (l5 : ∀ L W, Wd L W → W.cell? ⟨Y, 0, none⟩ = some (.bool lg) ∧ W.cell? ⟨Y, 1, none⟩ = some (.slice kb jl kd) ∧ W.cell? ⟨Y, 2, none⟩ = some (.slice vb ul vd) ∧ W.cell? ⟨Y, 3, none⟩ = some (.slice ib hl jd))
    (l7 : ∀ L W, Wd L W → W.cell? ⟨Z, 0, none⟩ = some (.bool lh) ∧ W.cell? ⟨Z, 1, none⟩ = some (.slice ke ml kf) ∧ W.cell? ⟨Z, 2, none⟩ = some (.slice ve nl vf) ∧ W.cell? ⟨Z, 3, none⟩ = some (.slice ie ol jf))
    (c1 : ∀ L W, Wd L W → L 1 = false → Calls Tryz.prog 11 #[.agg #[.bool lf, .slice ka kl kc, .slice va vl vc, .slice ia il ic]] W fun e w' => e = .returned (.int .i64 ((T0 : Nat) : Int)) ∧ Wd (upd L 1) w')
    (c4 : ∀ L W, Wd L W → L 4 = false → Calls Tryz.prog 10 #[(.int .i64 ((T0 : Nat) : Int)), (.int .i64 (key.length : Int))] W fun e w' => e = .returned (.int .i64 ((T1 : Nat) : Int)) ∧ Wd (upd L 4) w')
    (c6 : ∀ L W, Wd L W → L 6 = false → Calls Tryz.prog 11 #[.agg #[.bool lg, .slice kb jl kd, .slice vb ul vd, .slice ib hl jd]] W fun e w' => e = .returned (.int .i64 ((T2 : Nat) : Int)) ∧ Wd (upd L 6) w')
    (c8 : ∀ L W, Wd L W → L 8 = false → Calls Tryz.prog 11 #[.agg #[.bool lh, .slice ke ml kf, .slice ve nl vf, .slice ie ol jf]] W fun e w' => e = .returned (.int .i64 ((T3 : Nat) : Int)) ∧ Wd (upd L 8) w')
    (c9 : ∀ L W, Wd L W → L 9 = false → Calls Tryz.prog 10 #[(.int .i64 ((T2 : Nat) : Int)), (.int .i64 ((T3 : Nat) : Int))] W fun e w' => e = .returned (.int .i64 ((T4 : Nat) : Int)) ∧ Wd (upd L 9) w')
    (c10 : ∀ L W, Wd L W → L 10 = false → Calls Tryz.prog 10 #[(.int .i64 ((T1 : Nat) : Int)), (.int .i64 ((T4 : Nat) : Int))] W fun e w' => e = .returned (.int .i64 ((T5 : Nat) : Int)) ∧ Wd (upd L 10) w')
    (hend : ∀ L W, (∀ i, i < 12 → L i = true) → Wd L W → Q .normal ((((((((((((a0.put (some 21) (.agg #[.bool lf, .slice ka kl kc, .slice va vl vc, .slice ia il ic])).put (some 22) (.int .i64 ((T0 : Nat) : Int))).put (some 23) (S key)).put (some 24) (.int .i64 (key.length : Int))).put (some 25) (.int .i64 ((T1 : Nat) : Int))).put (some 26) (.agg #[.bool lg, .slice kb jl kd, .slice vb ul vd, .slice ib hl jd])).put (some 27) (.int .i64 ((T2 : Nat) : Int))).put (some 28) (.agg #[.bool lh, .slice ke ml kf, .slice ve nl vf, .slice ie ol jf])).put (some 29) (.int .i64 ((T3 : Nat) : Int))).put (some 30) (.int .i64 ((T4 : Nat) : Int))).put (some 31) (.int .i64 ((T5 : Nat) : Int))).put (some 32) (.bool (decide ((2147483647 : Int) < (T5 : Int))))) W) : (Code.region id ops true).wp Tryz.prog Q a0 w := by
  let val : Nat → Value := fun i => match i with
    | 0 => (.agg #[.bool lf, .slice ka kl kc, .slice va vl vc, .slice ia il ic])
    | 1 => (.int .i64 ((T0 : Nat) : Int))
    | 2 => (S key)
    | 3 => (.int .i64 (key.length : Int))
    | 4 => (.int .i64 ((T1 : Nat) : Int))
    | 5 => (.agg #[.bool lg, .slice kb jl kd, .slice vb ul vd, .slice ib hl jd])
    | 6 => (.int .i64 ((T2 : Nat) : Int))
    | 7 => (.agg #[.bool lh, .slice ke ml kf, .slice ve nl vf, .slice ie ol jf])
    | 8 => (.int .i64 ((T3 : Nat) : Int))
    | 9 => (.int .i64 ((T4 : Nat) : Int))
    | 10 => (.int .i64 ((T5 : Nat) : Int))
    | 11 => (.bool (decide ((2147483647 : Int) < (T5 : Int))))
    | _ => undef
  have hosz : ops.size = 12 := by
    have := congrArg List.length htab
    simpa [rnjT] using this
  have hds : ∀ i s, (rnjT[i]?).bind (·.2.1) = some s → dstOf ops i = some s := fun i s hi => by rw [tab_dst htab, hi]
  have hdisB : disL rnjT = true := by rfl
  have hdis := disL_of htab hdisB
  have hold : ∀ s, rnjT.all (fun x => !(x.2.1 == some s)) = true → (List.range ops.size).all (fun j => !(dstOf ops j == some s)) = true := fun s h => holdL htab s h
  refine region_detL val Wd (hac_of hac) hdis h0 ?_ ?_
  rotate_left
  · intro L W hall hW
    have := hend L W (by rw [← hosz]; exact hall) hW
    have e : frm ops a0 val (fun _ => true) ops.size = ((((((((((((a0.put (some 21) (.agg #[.bool lf, .slice ka kl kc, .slice va vl vc, .slice ia il ic])).put (some 22) (.int .i64 ((T0 : Nat) : Int))).put (some 23) (S key)).put (some 24) (.int .i64 (key.length : Int))).put (some 25) (.int .i64 ((T1 : Nat) : Int))).put (some 26) (.agg #[.bool lg, .slice kb jl kd, .slice vb ul vd, .slice ib hl jd])).put (some 27) (.int .i64 ((T2 : Nat) : Int))).put (some 28) (.agg #[.bool lh, .slice ke ml kf, .slice ve nl vf, .slice ie ol jf])).put (some 29) (.int .i64 ((T3 : Nat) : Int))).put (some 30) (.int .i64 ((T4 : Nat) : Int))).put (some 31) (.int .i64 ((T5 : Nat) : Int))).put (some 32) (.bool (decide ((2147483647 : Int) < (T5 : Int))))) := by
      rw [hosz]
      simp only [frm, if_true]
      rw [tab_dst htab 0, tab_dst htab 1, tab_dst htab 2, tab_dst htab 3, tab_dst htab 4, tab_dst htab 5, tab_dst htab 6, tab_dst htab 7, tab_dst htab 8, tab_dst htab 9, tab_dst htab 10, tab_dst htab 11]
      rfl
    rw [e]
    exact this
  intro i o ho L a w' hL hd ha hW
  have hi : i < 12 := by rw [← hosz]; exact (Array.getElem?_eq_some_iff.1 ho).1
  match i, ho, hL, hi with
  | 0, ho, hL, _ =>
    obtain ⟨hop, hdst, hgd⟩ := tab_at htab ho (show rnjT[0]? = _ from rfl)
    simp only at hop hgd
    have h0 := frm_old ha 4 _ (hold 4 rfl) o4
    exact doesL_run ho (wanted_none hgd) (hpure 0 (by decide) L w' hW) (run_ld25 _ _ _ hop _ _ _ _ _ (eval_of h0) _ (l0 L w' hW).1 (l0 L w' hW).2.1 (l0 L w' hW).2.2.1 (l0 L w' hW).2.2.2)
  | 1, ho, hL, _ =>
    obtain ⟨hop, hdst, hgd⟩ := tab_at htab ho (show rnjT[1]? = _ from rfl)
    simp only at hop hgd
    have h0 := frm_at hdis ha 0 21 (hds 0 21 rfl) (by omega) (depl_of hdep 1 0 (by decide) ho hd)
    refine doesL_call ho (wanted_none hgd) 11 #[.agg #[.bool lf, .slice ka kl kc, .slice va vl vc, .slice ia il ic]] ?_ (c1 L w' hW hL)
    rw [run_calls Tryz.func11 (by kernel_rfl) rfl _ _ _ _ hop rfl]
    simp only [List.map_toArray, List.map_cons, List.map_nil, eval_of h0]
    all_goals rfl
  | 2, ho, hL, _ =>
    obtain ⟨hop, hdst, hgd⟩ := tab_at htab ho (show rnjT[2]? = _ from rfl)
    simp only at hop hgd
    have h0 := frm_old ha 1 _ (hold 1 rfl) o1
    exact doesL_run ho (wanted_none hgd) (hpure 2 (by decide) L w' hW) (by rw [run_move _ _ _ hop]; exact congrArg (fun v => Result.ok (Next.value v) w') (eval_of h0))
  | 3, ho, hL, _ =>
    obtain ⟨hop, hdst, hgd⟩ := tab_at htab ho (show rnjT[3]? = _ from rfl)
    simp only at hop hgd
    have h0 := frm_at hdis ha 2 23 (hds 2 23 rfl) (by omega) (depl_of hdep 3 2 (by decide) ho hd)
    exact doesL_run ho (wanted_none hgd) (hpure 3 (by decide) L w' hW) (run_len _ _ _ hop _ (eval_of h0) _)
  | 4, ho, hL, _ =>
    obtain ⟨hop, hdst, hgd⟩ := tab_at htab ho (show rnjT[4]? = _ from rfl)
    simp only at hop hgd
    have h0 := frm_at hdis ha 1 22 (hds 1 22 rfl) (by omega) (depl_of hdep 4 1 (by decide) ho hd)
    have h1 := frm_at hdis ha 3 24 (hds 3 24 rfl) (by omega) (depl_of hdep 4 3 (by decide) ho hd)
    refine doesL_call ho (wanted_none hgd) 10 #[.int .i64 ((T0 : Nat) : Int), .int .i64 (key.length : Int)] ?_ (c4 L w' hW hL)
    rw [run_calls Tryz.func10 (by kernel_rfl) rfl _ _ _ _ hop rfl]
    simp only [List.map_toArray, List.map_cons, List.map_nil, eval_of h0, eval_of h1]
    all_goals rfl
  | 5, ho, hL, _ =>
    obtain ⟨hop, hdst, hgd⟩ := tab_at htab ho (show rnjT[5]? = _ from rfl)
    simp only at hop hgd
    have h0 := frm_old ha 6 _ (hold 6 rfl) o6
    exact doesL_run ho (wanted_none hgd) (hpure 5 (by decide) L w' hW) (run_ld25 _ _ _ hop _ _ _ _ _ (eval_of h0) _ (l5 L w' hW).1 (l5 L w' hW).2.1 (l5 L w' hW).2.2.1 (l5 L w' hW).2.2.2)
  | 6, ho, hL, _ =>
    obtain ⟨hop, hdst, hgd⟩ := tab_at htab ho (show rnjT[6]? = _ from rfl)
    simp only at hop hgd
    have h0 := frm_at hdis ha 5 26 (hds 5 26 rfl) (by omega) (depl_of hdep 6 5 (by decide) ho hd)
    refine doesL_call ho (wanted_none hgd) 11 #[.agg #[.bool lg, .slice kb jl kd, .slice vb ul vd, .slice ib hl jd]] ?_ (c6 L w' hW hL)
    rw [run_calls Tryz.func11 (by kernel_rfl) rfl _ _ _ _ hop rfl]
    simp only [List.map_toArray, List.map_cons, List.map_nil, eval_of h0]
    all_goals rfl
  | 7, ho, hL, _ =>
    obtain ⟨hop, hdst, hgd⟩ := tab_at htab ho (show rnjT[7]? = _ from rfl)
    simp only at hop hgd
    have h0 := frm_old ha 7 _ (hold 7 rfl) o7
    exact doesL_run ho (wanted_none hgd) (hpure 7 (by decide) L w' hW) (run_ld25 _ _ _ hop _ _ _ _ _ (eval_of h0) _ (l7 L w' hW).1 (l7 L w' hW).2.1 (l7 L w' hW).2.2.1 (l7 L w' hW).2.2.2)
  | 8, ho, hL, _ =>
    obtain ⟨hop, hdst, hgd⟩ := tab_at htab ho (show rnjT[8]? = _ from rfl)
    simp only at hop hgd
    have h0 := frm_at hdis ha 7 28 (hds 7 28 rfl) (by omega) (depl_of hdep 8 7 (by decide) ho hd)
    refine doesL_call ho (wanted_none hgd) 11 #[.agg #[.bool lh, .slice ke ml kf, .slice ve nl vf, .slice ie ol jf]] ?_ (c8 L w' hW hL)
    rw [run_calls Tryz.func11 (by kernel_rfl) rfl _ _ _ _ hop rfl]
    simp only [List.map_toArray, List.map_cons, List.map_nil, eval_of h0]
    all_goals rfl
  | 9, ho, hL, _ =>
    obtain ⟨hop, hdst, hgd⟩ := tab_at htab ho (show rnjT[9]? = _ from rfl)
    simp only at hop hgd
    have h0 := frm_at hdis ha 6 27 (hds 6 27 rfl) (by omega) (depl_of hdep 9 6 (by decide) ho hd)
    have h1 := frm_at hdis ha 8 29 (hds 8 29 rfl) (by omega) (depl_of hdep 9 8 (by decide) ho hd)
    refine doesL_call ho (wanted_none hgd) 10 #[.int .i64 ((T2 : Nat) : Int), .int .i64 ((T3 : Nat) : Int)] ?_ (c9 L w' hW hL)
    rw [run_calls Tryz.func10 (by kernel_rfl) rfl _ _ _ _ hop rfl]
    simp only [List.map_toArray, List.map_cons, List.map_nil, eval_of h0, eval_of h1]
    all_goals rfl
  | 10, ho, hL, _ =>
    obtain ⟨hop, hdst, hgd⟩ := tab_at htab ho (show rnjT[10]? = _ from rfl)
    simp only at hop hgd
    have h0 := frm_at hdis ha 4 25 (hds 4 25 rfl) (by omega) (depl_of hdep 10 4 (by decide) ho hd)
    have h1 := frm_at hdis ha 9 30 (hds 9 30 rfl) (by omega) (depl_of hdep 10 9 (by decide) ho hd)
    refine doesL_call ho (wanted_none hgd) 10 #[.int .i64 ((T1 : Nat) : Int), .int .i64 ((T4 : Nat) : Int)] ?_ (c10 L w' hW hL)
    rw [run_calls Tryz.func10 (by kernel_rfl) rfl _ _ _ _ hop rfl]
    simp only [List.map_toArray, List.map_cons, List.map_nil, eval_of h0, eval_of h1]
    all_goals rfl
  | 11, ho, hL, _ =>
    obtain ⟨hop, hdst, hgd⟩ := tab_at htab ho (show rnjT[11]? = _ from rfl)
    simp only at hop hgd
    have h0 := frm_at hdis ha 10 31 (hds 10 31 rfl) (by omega) (depl_of hdep 11 10 (by decide) ho hd)
    exact doesL_run ho (wanted_none hgd) (hpure 11 (by decide) L w' hW) (run_gtrI _ _ _ hop _ (eval_of h0) rfl _)
  | (i + 12), ho, hL, hi => exact absurd hi (by omega)
end Go.Proofs.YtllialbdofklgaaGreatDoor
