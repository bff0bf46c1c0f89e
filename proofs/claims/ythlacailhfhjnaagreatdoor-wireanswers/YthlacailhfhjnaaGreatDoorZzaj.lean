import Derived.Test.YthlacailhfhjnaaGreatDoorDetl
import Derived.Test.YthlacailhfhjnaaGreatDoorZzai
import Derived.Test.YthlacailhfhjnaaGreatDoorZzae
namespace Go.Proofs.YthlacailhfhjnaaGreatDoor
open Go.RowKit Go.Lib
theorem run_build26 (ρ : Operand → Value) (o : Oper) (a b c : Operand) (ho : o.op = .build 26 #[(0, a), (1, b), (2, c)]) (x : Int) (p : Option Addr) (n cp : Nat) (u : ByteArray) (ha : ρ a = .int .i64 x) (hb : ρ b = .slice p n cp) (hc : ρ c = .string u) (w : World) : (execOp ρ o).run Tryz.prog w = .ok (.value (.agg #[.int .i64 x, .slice p n cp, .string u])) w := by
  unfold execOp
  simp only [ho]
  simp [go_sem, ha, hb, hc, Tryz.zeroValue26]
theorem run_al26 (ρ : Operand → Value) (o : Oper) (ho : o.op = .alloc 26) (w : World) : (execOp ρ o).run Tryz.prog w = .ok (.value (.pointer (some ⟨w.heap.size, 0, none⟩))) (w.alloc (.cells #[.int .i64 0, .slice none 0 0, .string ⟨#[]⟩] 26)) := by
  unfold execOp
  simp only [ho]
  simp [go_sem, Tryz.zeroValue26]
theorem run_st26 (ρ : Operand → Value) (o : Oper) (x y : Operand) (ho : o.op = .store 26 x y) (g : Nat) (a b c : Value) (ha : ρ x = .pointer (some ⟨g, 0, none⟩)) (hy : ρ y = .agg #[a, b, c]) (w : World) (a0 b0 c0 : Value) (h : w.heap[g]? = some (.cells #[a0, b0, c0] 26 (0, 0))) (h1 : a.oneCell' = true ∧ b.oneCell' = true ∧ c.oneCell' = true) : (execOp ρ o).run Tryz.prog w = .ok .skip (((w.setCell ⟨g, 0, none⟩ a).setCell ⟨g, 1, none⟩ b).setCell ⟨g, 2, none⟩ c) := by
  have q0 := heap_setCell_same w g 0 _ 26 a h
  have q1 := heap_setCell_same _ g 1 _ 26 b q0
  have s0 : (store ⟨g, 0, none⟩ a).run Tryz.prog w = .ok () (w.setCell ⟨g, 0, none⟩ a) := by
    rw [run_store _ _ _ _ _ h1.1, cell_of_row w g 0 _ 26 (0, 0) h]
    simp [frozen_of_row w g 0 _ 26 h]
  have s1 : (store ⟨g, 1, none⟩ b).run Tryz.prog (w.setCell ⟨g, 0, none⟩ a) = .ok () ((w.setCell ⟨g, 0, none⟩ a).setCell ⟨g, 1, none⟩ b) := by
    rw [run_store _ _ _ _ _ h1.2.1, cell_of_row _ g 1 _ 26 (0, 0) q0]
    simp [frozen_of_row _ g 1 _ 26 q0]
  have s2 : (store ⟨g, 2, none⟩ c).run Tryz.prog ((w.setCell ⟨g, 0, none⟩ a).setCell ⟨g, 1, none⟩ b) = .ok () (((w.setCell ⟨g, 0, none⟩ a).setCell ⟨g, 1, none⟩ b).setCell ⟨g, 2, none⟩ c) := by
    rw [run_store _ _ _ _ _ h1.2.2, cell_of_row _ g 2 _ 26 (0, 0) q1]
    simp [frozen_of_row _ g 2 _ 26 q1]
  unfold execOp
  simp only [ho, ha, hy]
  simp [go_sem, s0, s1, s2, Result.andThen]
def rpaT : List (Op × Option Tmp × Option (Nat × Bool)) := [
  (.move (.tmp 5), some 29, none),
  (.nilCheck (.tmp 29), some 30, none),
  (.fieldAddr 91 (.tmp 30) 4, some 31, none),
  (.fieldAddr 89 (.tmp 31) 2, some 32, none),
  (.load 3 (.tmp 32), some 33, none),
  (.move (.tmp 5), some 34, none),
  (.nilCheck (.tmp 34), some 35, none),
  (.fieldAddr 91 (.tmp 35) 5, some 36, none),
  (.load 22 (.tmp 36), some 37, none),
  (.move (.tmp 5), some 38, none),
  (.nilCheck (.tmp 38), some 39, none),
  (.fieldAddr 91 (.tmp 39) 7, some 40, none),
  (.load 9 (.tmp 40), some 41, none),
  (.build 26 #[(0, (.tmp 33)), (1, (.tmp 37)), (2, (.tmp 41))], some 42, none),
  (.alloc 26, some 8, none),
  (.store 26 (.tmp 8) (.tmp 42), none, none)]
def rpaD : List (Nat × Nat) := [(1, 0), (2, 1), (3, 2), (4, 3), (6, 5), (7, 6), (8, 7), (10, 9), (11, 10), (12, 11), (13, 4), (13, 8), (13, 12), (15, 13), (15, 14)]
set_option maxHeartbeats 2000000 in
theorem rpa {ops : Array Oper} {id : Nat} {Q : Exit → Act → World → Prop} (P F m ca : Nat) (st : Int) (pa : Option Addr) (d : Bs) (htab : ops.toList.map (fun o => (o.op, o.dst, o.guard)) = rpaT) (hdep : deplB rpaD ops = true) (hac : acB ops = true)
    (a0 : Act) (w : World) (hsz : 43 ≤ a0.tmps.size) (o5 : a0.tmps[5]? = some (.pointer (some ⟨P, 0, none⟩)))
    (Wd : (Nat → Bool) → World → Prop) (h0 : Wd (fun _ => false) w.drew) (hpure : ∀ i, i ∉ ([14, 15] : List Nat) → ∀ L W, Wd L W → Wd (upd L i) W)
    (l4 : ∀ L W, Wd L W → W.cell? ⟨P, 0 + 4 + 2, none⟩ = some (.int .i64 st)) (l8 : ∀ L W, Wd L W → W.cell? ⟨P, 0 + 7, none⟩ = some (.slice pa m ca)) (l12 : ∀ L W, Wd L W → W.cell? ⟨P, 0 + 9, none⟩ = some (S d))
    (n14 : ∀ L W, Wd L W → L 14 = false → Wd (upd L 14) (W.alloc (.cells #[.int .i64 0, .slice none 0 0, .string ⟨#[]⟩] 26)) ∧ W.heap.size = F)
    (n15 : ∀ L W, Wd L W → L 15 = false → L 13 = true → L 14 = true → Wd (upd L 15) (((W.setCell ⟨F, 0, none⟩ (.int .i64 st)).setCell ⟨F, 1, none⟩ (.slice pa m ca)).setCell ⟨F, 2, none⟩ (S d)) ∧ W.heap[F]? = some (.cells #[.int .i64 0, .slice none 0 0, .string ⟨#[]⟩] 26 (0, 0)))
    (hend : ∀ L W, (∀ i, i < 16 → L i = true) → Wd L W → Q .normal (((((((((((((((a0.put (some 29) (.pointer (some ⟨P, 0, none⟩))).put (some 30) (.pointer (some ⟨P, 0, none⟩))).put (some 31) (.pointer (some ⟨P, 0 + 4, none⟩))).put (some 32) (.pointer (some ⟨P, 0 + 4 + 2, none⟩))).put (some 33) (.int .i64 st)).put (some 34) (.pointer (some ⟨P, 0, none⟩))).put (some 35) (.pointer (some ⟨P, 0, none⟩))).put (some 36) (.pointer (some ⟨P, 0 + 7, none⟩))).put (some 37) (.slice pa m ca)).put (some 38) (.pointer (some ⟨P, 0, none⟩))).put (some 39) (.pointer (some ⟨P, 0, none⟩))).put (some 40) (.pointer (some ⟨P, 0 + 9, none⟩))).put (some 41) (S d)).put (some 42) (.agg #[.int .i64 st, .slice pa m ca, S d])).put (some 8) (.pointer (some ⟨F, 0, none⟩))) W) : (Code.region id ops true).wp Tryz.prog Q a0 w := by
  let val : Nat → Value := fun i => match i with
    | 0 => (.pointer (some ⟨P, 0, none⟩))
    | 1 => (.pointer (some ⟨P, 0, none⟩))
    | 2 => (.pointer (some ⟨P, 0 + 4, none⟩))
    | 3 => (.pointer (some ⟨P, 0 + 4 + 2, none⟩))
    | 4 => (.int .i64 st)
    | 5 => (.pointer (some ⟨P, 0, none⟩))
    | 6 => (.pointer (some ⟨P, 0, none⟩))
    | 7 => (.pointer (some ⟨P, 0 + 7, none⟩))
    | 8 => (.slice pa m ca)
    | 9 => (.pointer (some ⟨P, 0, none⟩))
    | 10 => (.pointer (some ⟨P, 0, none⟩))
    | 11 => (.pointer (some ⟨P, 0 + 9, none⟩))
    | 12 => (S d)
    | 13 => (.agg #[.int .i64 st, .slice pa m ca, S d])
    | 14 => (.pointer (some ⟨F, 0, none⟩))
    | 15 => undef
    | _ => undef
  have hosz : ops.size = 16 := by
    have := congrArg List.length htab
    simpa [rpaT] using this
  have hds : ∀ i s, (rpaT[i]?).bind (·.2.1) = some s → dstOf ops i = some s := fun i s hi => by rw [tab_dst htab, hi]
  have hdisB : disL rpaT = true := by rfl
  have hdis := disL_of htab hdisB
  have hold : ∀ s, rpaT.all (fun x => !(x.2.1 == some s)) = true → (List.range ops.size).all (fun j => !(dstOf ops j == some s)) = true := fun s h => holdL htab s h
  refine region_detL val Wd (hac_of hac) hdis h0 ?_ ?_
  rotate_left
  · intro L W hall hW
    have := hend L W (by rw [← hosz]; exact hall) hW
    have e : frm ops a0 val (fun _ => true) ops.size = (((((((((((((((a0.put (some 29) (.pointer (some ⟨P, 0, none⟩))).put (some 30) (.pointer (some ⟨P, 0, none⟩))).put (some 31) (.pointer (some ⟨P, 0 + 4, none⟩))).put (some 32) (.pointer (some ⟨P, 0 + 4 + 2, none⟩))).put (some 33) (.int .i64 st)).put (some 34) (.pointer (some ⟨P, 0, none⟩))).put (some 35) (.pointer (some ⟨P, 0, none⟩))).put (some 36) (.pointer (some ⟨P, 0 + 7, none⟩))).put (some 37) (.slice pa m ca)).put (some 38) (.pointer (some ⟨P, 0, none⟩))).put (some 39) (.pointer (some ⟨P, 0, none⟩))).put (some 40) (.pointer (some ⟨P, 0 + 9, none⟩))).put (some 41) (S d)).put (some 42) (.agg #[.int .i64 st, .slice pa m ca, S d])).put (some 8) (.pointer (some ⟨F, 0, none⟩))) := by
      rw [hosz]
      simp only [frm, if_true]
      rw [tab_dst htab 0, tab_dst htab 1, tab_dst htab 2, tab_dst htab 3, tab_dst htab 4, tab_dst htab 5, tab_dst htab 6, tab_dst htab 7, tab_dst htab 8, tab_dst htab 9, tab_dst htab 10, tab_dst htab 11, tab_dst htab 12, tab_dst htab 13, tab_dst htab 14, (show dstOf ops 15 = none from (tab_dst htab 15).trans rfl), put_none]
      rfl
    rw [e]
    exact this
  intro i o ho L a w' hL hd ha hW
  have hi : i < 16 := by rw [← hosz]; exact (Array.getElem?_eq_some_iff.1 ho).1
  match i, ho, hL, hi with
  | 0, ho, hL, _ =>
    obtain ⟨hop, hdst, hgd⟩ := tab_at htab ho (show rpaT[0]? = _ from rfl)
    simp only at hop hgd
    have h0 := frm_old ha 5 _ (hold 5 rfl) o5
    exact doesL_run ho (wanted_none hgd) (hpure 0 (by decide) L w' hW) (by rw [run_move _ _ _ hop]; exact congrArg (fun v => Result.ok (Next.value v) w') (eval_of h0))
  | 1, ho, hL, _ =>
    obtain ⟨hop, hdst, hgd⟩ := tab_at htab ho (show rpaT[1]? = _ from rfl)
    simp only at hop hgd
    have h0 := frm_at hdis ha 0 29 (hds 0 29 rfl) (by omega) (depl_of hdep 1 0 (by decide) ho hd)
    exact doesL_run ho (wanted_none hgd) (hpure 1 (by decide) L w' hW) (run_nil _ _ _ hop _ (eval_of h0) _)
  | 2, ho, hL, _ =>
    obtain ⟨hop, hdst, hgd⟩ := tab_at htab ho (show rpaT[2]? = _ from rfl)
    simp only at hop hgd
    have h0 := frm_at hdis ha 1 30 (hds 1 30 rfl) (by omega) (depl_of hdep 2 1 (by decide) ho hd)
    exact doesL_run ho (wanted_none hgd) (hpure 2 (by decide) L w' hW) (run_f91_4 _ _ _ hop _ _ (eval_of h0) _)
  | 3, ho, hL, _ =>
    obtain ⟨hop, hdst, hgd⟩ := tab_at htab ho (show rpaT[3]? = _ from rfl)
    simp only at hop hgd
    have h0 := frm_at hdis ha 2 31 (hds 2 31 rfl) (by omega) (depl_of hdep 3 2 (by decide) ho hd)
    exact doesL_run ho (wanted_none hgd) (hpure 3 (by decide) L w' hW) (run_f89_2 _ _ _ hop _ _ (eval_of h0) _)
  | 4, ho, hL, _ =>
    obtain ⟨hop, hdst, hgd⟩ := tab_at htab ho (show rpaT[4]? = _ from rfl)
    simp only at hop hgd
    have h0 := frm_at hdis ha 3 32 (hds 3 32 rfl) (by omega) (depl_of hdep 4 3 (by decide) ho hd)
    exact doesL_run ho (wanted_none hgd) (hpure 4 (by decide) L w' hW) (run_ld3 _ _ _ hop _ _ (eval_of h0) _ (l4 L w' hW))
  | 5, ho, hL, _ =>
    obtain ⟨hop, hdst, hgd⟩ := tab_at htab ho (show rpaT[5]? = _ from rfl)
    simp only at hop hgd
    have h0 := frm_old ha 5 _ (hold 5 rfl) o5
    exact doesL_run ho (wanted_none hgd) (hpure 5 (by decide) L w' hW) (by rw [run_move _ _ _ hop]; exact congrArg (fun v => Result.ok (Next.value v) w') (eval_of h0))
  | 6, ho, hL, _ =>
    obtain ⟨hop, hdst, hgd⟩ := tab_at htab ho (show rpaT[6]? = _ from rfl)
    simp only at hop hgd
    have h0 := frm_at hdis ha 5 34 (hds 5 34 rfl) (by omega) (depl_of hdep 6 5 (by decide) ho hd)
    exact doesL_run ho (wanted_none hgd) (hpure 6 (by decide) L w' hW) (run_nil _ _ _ hop _ (eval_of h0) _)
  | 7, ho, hL, _ =>
    obtain ⟨hop, hdst, hgd⟩ := tab_at htab ho (show rpaT[7]? = _ from rfl)
    simp only at hop hgd
    have h0 := frm_at hdis ha 6 35 (hds 6 35 rfl) (by omega) (depl_of hdep 7 6 (by decide) ho hd)
    exact doesL_run ho (wanted_none hgd) (hpure 7 (by decide) L w' hW) (run_f91_5 _ _ _ hop _ _ (eval_of h0) _)
  | 8, ho, hL, _ =>
    obtain ⟨hop, hdst, hgd⟩ := tab_at htab ho (show rpaT[8]? = _ from rfl)
    simp only at hop hgd
    have h0 := frm_at hdis ha 7 36 (hds 7 36 rfl) (by omega) (depl_of hdep 8 7 (by decide) ho hd)
    exact doesL_run ho (wanted_none hgd) (hpure 8 (by decide) L w' hW) (run_ld22 _ _ _ hop _ _ (eval_of h0) _ (l8 L w' hW))
  | 9, ho, hL, _ =>
    obtain ⟨hop, hdst, hgd⟩ := tab_at htab ho (show rpaT[9]? = _ from rfl)
    simp only at hop hgd
    have h0 := frm_old ha 5 _ (hold 5 rfl) o5
    exact doesL_run ho (wanted_none hgd) (hpure 9 (by decide) L w' hW) (by rw [run_move _ _ _ hop]; exact congrArg (fun v => Result.ok (Next.value v) w') (eval_of h0))
  | 10, ho, hL, _ =>
    obtain ⟨hop, hdst, hgd⟩ := tab_at htab ho (show rpaT[10]? = _ from rfl)
    simp only at hop hgd
    have h0 := frm_at hdis ha 9 38 (hds 9 38 rfl) (by omega) (depl_of hdep 10 9 (by decide) ho hd)
    exact doesL_run ho (wanted_none hgd) (hpure 10 (by decide) L w' hW) (run_nil _ _ _ hop _ (eval_of h0) _)
  | 11, ho, hL, _ =>
    obtain ⟨hop, hdst, hgd⟩ := tab_at htab ho (show rpaT[11]? = _ from rfl)
    simp only at hop hgd
    have h0 := frm_at hdis ha 10 39 (hds 10 39 rfl) (by omega) (depl_of hdep 11 10 (by decide) ho hd)
    exact doesL_run ho (wanted_none hgd) (hpure 11 (by decide) L w' hW) (run_f91_7 _ _ _ hop _ _ (eval_of h0) _)
  | 12, ho, hL, _ =>
    obtain ⟨hop, hdst, hgd⟩ := tab_at htab ho (show rpaT[12]? = _ from rfl)
    simp only at hop hgd
    have h0 := frm_at hdis ha 11 40 (hds 11 40 rfl) (by omega) (depl_of hdep 12 11 (by decide) ho hd)
    exact doesL_run ho (wanted_none hgd) (hpure 12 (by decide) L w' hW) (run_ld _ _ _ hop _ _ (eval_of h0) _ (l12 L w' hW))
  | 13, ho, hL, _ =>
    obtain ⟨hop, hdst, hgd⟩ := tab_at htab ho (show rpaT[13]? = _ from rfl)
    simp only at hop hgd
    have h0 := frm_at hdis ha 4 33 (hds 4 33 rfl) (by omega) (depl_of hdep 13 4 (by decide) ho hd)
    have h1 := frm_at hdis ha 8 37 (hds 8 37 rfl) (by omega) (depl_of hdep 13 8 (by decide) ho hd)
    have h2 := frm_at hdis ha 12 41 (hds 12 41 rfl) (by omega) (depl_of hdep 13 12 (by decide) ho hd)
    exact doesL_run ho (wanted_none hgd) (hpure 13 (by decide) L w' hW) (run_build26 _ _ _ _ _ hop _ _ _ _ _ (eval_of h0) (eval_of h1) (eval_of h2) _)
  | 14, ho, hL, _ =>
    obtain ⟨hop, hdst, hgd⟩ := tab_at htab ho (show rpaT[14]? = _ from rfl)
    simp only at hop hgd
    exact doesL_runw ho (wanted_none hgd) (n14 L w' hW hL).1 ((run_al26 _ _ hop _).trans (by rw [(n14 L w' hW hL).2]; rfl))
  | 15, ho, hL, _ =>
    obtain ⟨hop, hdst, hgd⟩ := tab_at htab ho (show rpaT[15]? = _ from rfl)
    simp only at hop hgd
    have h0 := frm_at hdis ha 14 8 (hds 14 8 rfl) (by omega) (depl_of hdep 15 14 (by decide) ho hd)
    have h1 := frm_at hdis ha 13 42 (hds 13 42 rfl) (by omega) (depl_of hdep 15 13 (by decide) ho hd)
    obtain ⟨s1, s2⟩ := n15 L w' hW hL (depl_of hdep 15 13 (by decide) ho hd) (depl_of hdep 15 14 (by decide) ho hd)
    exact doesL_skp ho (wanted_none hgd) rfl s1 (run_st26 _ _ _ _ hop _ _ _ _ (eval_of h0) (eval_of h1) _ _ _ _ s2 ⟨rfl, rfl, rfl⟩)
  | (i + 16), ho, hL, hi => exact absurd hi (by omega)
end Go.Proofs.YthlacailhfhjnaaGreatDoor
namespace Go.Proofs.YthlacailhfhjnaaGreatDoor
open Go.RowKit Go.Lib
theorem run_ld26 (ρ : Operand → Value) (o : Oper) (x : Operand) (ho : o.op = .load 26 x) (g : Nat) (a b c : Value) (ha : ρ x = .pointer (some ⟨g, 0, none⟩)) (w : World) (h0 : w.cell? ⟨g, 0, none⟩ = some a) (h1 : w.cell? ⟨g, 1, none⟩ = some b) (h2 : w.cell? ⟨g, 2, none⟩ = some c) : (execOp ρ o).run Tryz.prog w = .ok (.value (.agg #[a, b, c])) w := by
  unfold execOp
  simp only [ho, ha]
  simp [Instr.loadAt, go_sem, h0, h1, h2, Tryz.isAgg26]
theorem run_addi (ρ : Operand → Value) (o : Oper) (x y : Operand) (ho : o.op = .binOp .add 3 x y 3) (a b : Int) (hx : ρ x = .int .i64 a) (hy : ρ y = .int .i64 b) (h0 : -9223372036854775808 ≤ a + b) (h1 : a + b ≤ 9223372036854775807) (w : World) : (execOp ρ o).run Tryz.prog w = .ok (.value (.int .i64 (a + b))) w := by
  unfold execOp
  simp only [ho, hx, hy]
  simp [go_sem]
  rw [IntKind.wrap_i64]
  omega
theorem run_cutlo (ρ : Operand → Value) (o : Oper) (x y : Operand) (ho : o.op = .slice 9 x (some y) none none) (s : List UInt8) (k : Nat) (hk : k ≤ s.length) (_hs : s.length ≤ 9223372036854775807) (hx : ρ x = .string ⟨s.toArray⟩) (hy : ρ y = .int .i64 (k : Int)) (w : World) : (execOp ρ o).run Tryz.prog w = .ok (.value (.string ⟨(s.drop k).toArray⟩)) w := by
  unfold execOp
  simp only [ho, hx, Option.map_some, Option.map_none, hy]
  have h1 : (k : Int) ≤ (s.length : Int) := by omega
  have e : (ByteArray.mk s.toArray).extract k s.length = ⟨(s.drop k).toArray⟩ := by
    rw [extract_eq, List.take_of_length_le (by simp)]
  simp [Instr.sliceAt, go_sem, h1, e]
def rpbT : List (Op × Option Tmp × Option (Nat × Bool)) := [
  (.load 26 (.tmp 8), some 43, none),
  (.move (.tmp 0), some 44, none),
  (.move (.tmp 6), some 45, none),
  (.binOp .add 3 (.tmp 45) (.const (.int .i64 1)) 3, some 46, none),
  (.slice 9 (.tmp 44) (some (.tmp 46)) none none, some 47, none),
  (.call { callee := .value (.func 44), args := #[(.tmp 47)], argTypes := #[9] }, some 48, none),
  (.store 26 (.tmp 2) (.tmp 43), none, none),
  (.assign (.tmp 48), some 3, none),
  (.assign (.const (.int .i64 0)), some 4, none)]
def rpbD : List (Nat × Nat) := [(3, 2), (4, 1), (4, 3), (5, 4), (6, 0), (6, 5), (7, 5)]
set_option maxHeartbeats 2000000 in
theorem rpb {ops : Array Oper} {id : Nat} {Q : Exit → Act → World → Prop} (A F m ca k : Nat) (st : Int) (pa : Option Addr) (d s : Bs) (htab : ops.toList.map (fun o => (o.op, o.dst, o.guard)) = rpbT) (hdep : deplB rpbD ops = true) (hac : acB ops = true)
    (a0 : Act) (w : World) (hsz : 49 ≤ a0.tmps.size) (o0 : a0.tmps[0]? = some (S s)) (o2 : a0.tmps[2]? = some (.pointer (some ⟨A, 0, none⟩))) (o6 : a0.tmps[6]? = some (.int .i64 (k : Int))) (o8 : a0.tmps[8]? = some (.pointer (some ⟨F, 0, none⟩)))
    (Wd : (Nat → Bool) → World → Prop) (h0 : Wd (fun _ => false) w.drew) (hpure : ∀ i, i ∉ ([5, 6] : List Nat) → ∀ L W, Wd L W → Wd (upd L i) W)
    (l0 : ∀ L W, Wd L W → W.cell? ⟨F, 0, none⟩ = some (.int .i64 st) ∧ W.cell? ⟨F, 1, none⟩ = some (.slice pa m ca) ∧ W.cell? ⟨F, 2, none⟩ = some (S d))
    (a3 : -9223372036854775808 ≤ (k : Int) + 1 ∧ (k : Int) + 1 ≤ 9223372036854775807) (s4 : k + 1 ≤ s.length ∧ s.length ≤ 9223372036854775807)
    (c5 : ∀ L W, Wd L W → L 5 = false → Calls Tryz.prog 44 #[S (s.drop (k + 1))] W fun e w' => e = .returned (S (s.drop (k + 1))) ∧ Wd (upd L 5) w')
    (n6 : ∀ L W, Wd L W → L 6 = false → L 0 = true → L 5 = true → Wd (upd L 6) (((W.setCell ⟨A, 0, none⟩ (.int .i64 st)).setCell ⟨A, 1, none⟩ (.slice pa m ca)).setCell ⟨A, 2, none⟩ (S d)) ∧ W.heap[A]? = some (.cells #[.int .i64 0, .slice none 0 0, .string ⟨#[]⟩] 26 (0, 0)))
    (hend : ∀ L W, (∀ i, i < 9 → L i = true) → Wd L W → Q .normal ((((((((a0.put (some 43) (.agg #[.int .i64 st, .slice pa m ca, S d])).put (some 44) (S s)).put (some 45) (.int .i64 (k : Int))).put (some 46) (.int .i64 ((k + 1 : Nat) : Int))).put (some 47) (S (s.drop (k + 1)))).put (some 48) (S (s.drop (k + 1)))).put (some 3) (S (s.drop (k + 1)))).put (some 4) (.int .i64 0)) W) : (Code.region id ops true).wp Tryz.prog Q a0 w := by
  let val : Nat → Value := fun i => match i with
    | 0 => (.agg #[.int .i64 st, .slice pa m ca, S d])
    | 1 => (S s)
    | 2 => (.int .i64 (k : Int))
    | 3 => (.int .i64 ((k + 1 : Nat) : Int))
    | 4 => (S (s.drop (k + 1)))
    | 5 => (S (s.drop (k + 1)))
    | 6 => undef
    | 7 => (S (s.drop (k + 1)))
    | 8 => (.int .i64 0)
    | _ => undef
  have hosz : ops.size = 9 := by
    have := congrArg List.length htab
    simpa [rpbT] using this
  have hds : ∀ i s, (rpbT[i]?).bind (·.2.1) = some s → dstOf ops i = some s := fun i s hi => by rw [tab_dst htab, hi]
  have hdisB : disL rpbT = true := by rfl
  have hdis := disL_of htab hdisB
  have hold : ∀ s, rpbT.all (fun x => !(x.2.1 == some s)) = true → (List.range ops.size).all (fun j => !(dstOf ops j == some s)) = true := fun s h => holdL htab s h
  refine region_detL val Wd (hac_of hac) hdis h0 ?_ ?_
  rotate_left
  · intro L W hall hW
    have := hend L W (by rw [← hosz]; exact hall) hW
    have e : frm ops a0 val (fun _ => true) ops.size = ((((((((a0.put (some 43) (.agg #[.int .i64 st, .slice pa m ca, S d])).put (some 44) (S s)).put (some 45) (.int .i64 (k : Int))).put (some 46) (.int .i64 ((k + 1 : Nat) : Int))).put (some 47) (S (s.drop (k + 1)))).put (some 48) (S (s.drop (k + 1)))).put (some 3) (S (s.drop (k + 1)))).put (some 4) (.int .i64 0)) := by
      rw [hosz]
      simp only [frm, if_true]
      rw [tab_dst htab 0, tab_dst htab 1, tab_dst htab 2, tab_dst htab 3, tab_dst htab 4, tab_dst htab 5, (show dstOf ops 6 = none from (tab_dst htab 6).trans rfl), put_none, tab_dst htab 7, tab_dst htab 8]
      rfl
    rw [e]
    exact this
  intro i o ho L a w' hL hd ha hW
  have hi : i < 9 := by rw [← hosz]; exact (Array.getElem?_eq_some_iff.1 ho).1
  match i, ho, hL, hi with
  | 0, ho, hL, _ =>
    obtain ⟨hop, hdst, hgd⟩ := tab_at htab ho (show rpbT[0]? = _ from rfl)
    simp only at hop hgd
    have h0 := frm_old ha 8 _ (hold 8 rfl) o8
    exact doesL_run ho (wanted_none hgd) (hpure 0 (by decide) L w' hW) (run_ld26 _ _ _ hop _ _ _ _ (eval_of h0) _ (l0 L w' hW).1 (l0 L w' hW).2.1 (l0 L w' hW).2.2)
  | 1, ho, hL, _ =>
    obtain ⟨hop, hdst, hgd⟩ := tab_at htab ho (show rpbT[1]? = _ from rfl)
    simp only at hop hgd
    have h0 := frm_old ha 0 _ (hold 0 rfl) o0
    exact doesL_run ho (wanted_none hgd) (hpure 1 (by decide) L w' hW) (by rw [run_move _ _ _ hop]; exact congrArg (fun v => Result.ok (Next.value v) w') (eval_of h0))
  | 2, ho, hL, _ =>
    obtain ⟨hop, hdst, hgd⟩ := tab_at htab ho (show rpbT[2]? = _ from rfl)
    simp only at hop hgd
    have h0 := frm_old ha 6 _ (hold 6 rfl) o6
    exact doesL_run ho (wanted_none hgd) (hpure 2 (by decide) L w' hW) (by rw [run_move _ _ _ hop]; exact congrArg (fun v => Result.ok (Next.value v) w') (eval_of h0))
  | 3, ho, hL, _ =>
    obtain ⟨hop, hdst, hgd⟩ := tab_at htab ho (show rpbT[3]? = _ from rfl)
    simp only at hop hgd
    have h0 := frm_at hdis ha 2 45 (hds 2 45 rfl) (by omega) (depl_of hdep 3 2 (by decide) ho hd)
    exact doesL_run ho (wanted_none hgd) (hpure 3 (by decide) L w' hW) (run_addi _ _ _ _ hop _ _ (eval_of h0) rfl (a3).1 (a3).2 _)
  | 4, ho, hL, _ =>
    obtain ⟨hop, hdst, hgd⟩ := tab_at htab ho (show rpbT[4]? = _ from rfl)
    simp only at hop hgd
    have h0 := frm_at hdis ha 1 44 (hds 1 44 rfl) (by omega) (depl_of hdep 4 1 (by decide) ho hd)
    have h1 := frm_at hdis ha 3 46 (hds 3 46 rfl) (by omega) (depl_of hdep 4 3 (by decide) ho hd)
    exact doesL_run ho (wanted_none hgd) (hpure 4 (by decide) L w' hW) (run_cutlo _ _ _ _ hop _ _ (s4).1 (s4).2 (eval_of h0) (eval_of h1) _)
  | 5, ho, hL, _ =>
    obtain ⟨hop, hdst, hgd⟩ := tab_at htab ho (show rpbT[5]? = _ from rfl)
    simp only at hop hgd
    have h0 := frm_at hdis ha 4 47 (hds 4 47 rfl) (by omega) (depl_of hdep 5 4 (by decide) ho hd)
    refine doesL_call ho (wanted_none hgd) 44 #[S (s.drop (k + 1))] ?_ (c5 L w' hW hL)
    rw [run_calls Tryz.func44 (by kernel_rfl) rfl _ _ _ _ hop rfl]
    simp only [List.map_toArray, List.map_cons, List.map_nil, eval_of h0]
    all_goals rfl
  | 6, ho, hL, _ =>
    obtain ⟨hop, hdst, hgd⟩ := tab_at htab ho (show rpbT[6]? = _ from rfl)
    simp only at hop hgd
    have h0 := frm_old ha 2 _ (hold 2 rfl) o2
    have h1 := frm_at hdis ha 0 43 (hds 0 43 rfl) (by omega) (depl_of hdep 6 0 (by decide) ho hd)
    obtain ⟨s1, s2⟩ := n6 L w' hW hL (depl_of hdep 6 0 (by decide) ho hd) (depl_of hdep 6 5 (by decide) ho hd)
    exact doesL_skp ho (wanted_none hgd) rfl s1 (run_st26 _ _ _ _ hop _ _ _ _ (eval_of h0) (eval_of h1) _ _ _ _ s2 ⟨rfl, rfl, rfl⟩)
  | 7, ho, hL, _ =>
    obtain ⟨hop, hdst, hgd⟩ := tab_at htab ho (show rpbT[7]? = _ from rfl)
    simp only at hop hgd
    have h0 := frm_at hdis ha 5 48 (hds 5 48 rfl) (by omega) (depl_of hdep 7 5 (by decide) ho hd)
    exact doesL_run ho (wanted_none hgd) (hpure 7 (by decide) L w' hW) (by rw [run_assign _ _ _ hop]; exact congrArg (fun v => Result.ok (Next.value v) w') (eval_of h0))
  | 8, ho, hL, _ =>
    obtain ⟨hop, hdst, hgd⟩ := tab_at htab ho (show rpbT[8]? = _ from rfl)
    simp only at hop hgd
    exact doesL_run ho (wanted_none hgd) (hpure 8 (by decide) L w' hW) (by rw [run_assign _ _ _ hop]; exact congrArg (fun v => Result.ok (Next.value v) w') rfl)
  | (i + 9), ho, hL, hi => exact absurd hi (by omega)
end Go.Proofs.YthlacailhfhjnaaGreatDoor
