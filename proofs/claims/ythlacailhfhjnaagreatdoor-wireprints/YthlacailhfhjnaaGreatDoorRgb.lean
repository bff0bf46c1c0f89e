import Derived.Test.YthlacailhfhjnaaGreatDoorRga
import Derived.Test.YthlacailhfhjnaaGreatDoorWbz
namespace Go.Proofs.YthlacailhfhjnaaGreatDoor
open Go.RowKit Go.Lib
theorem run_ld26 (ρ : Operand → Value) (o : Oper) (x : Operand) (ho : o.op = .load 26 x) (g : Nat) (a b c : Value) (ha : ρ x = .pointer (some ⟨g, 0, none⟩)) (w : World) (h0 : w.cell? ⟨g, 0, none⟩ = some a) (h1 : w.cell? ⟨g, 1, none⟩ = some b) (h2 : w.cell? ⟨g, 2, none⟩ = some c) : (execOp ρ o).run Tryz.prog w = .ok (.value (.agg #[a, b, c])) w := by
  unfold execOp
  simp only [ho, ha]
  simp [Instr.loadAt, go_sem, h0, h1, h2, Tryz.isAgg26]
theorem run_addi (ρ : Operand → Value) (o : Oper) (x y : Operand) (ho : o.op = .binOp .add 3 x y 3) (a b : Int) (hx : ρ x = .int .i64 a) (hy : ρ y = .int .i64 b) (h0 : -9223372036854775808 ≤ a + b) (h1 : a + b ≤ 9223372036854775807) (w : World) : (execOp ρ o).run Tryz.prog w = .ok (.value (.int .i64 (a + b))) w := by
  unfold execOp
  simp only [ho, hx, hy]
  simp [go_sem]
  rw [IntKind.wrap_i64]
  omega
theorem run_cutlo (ρ : Operand → Value) (o : Oper) (x y : Operand) (ho : o.op = .slice 9 x (some y) none none) (s : List UInt8) (k : Nat) (hk : k ≤ s.length) (_hs : s.length ≤ 9223372036854775807) (hx : ρ x = .string ⟨s.toArray⟩) (hy : ρ y = .int .i64 (k : Int)) (w : World) : (execOp ρ o).run Tryz.prog w = .ok (.value (.string ⟨(s.drop k).toArray⟩)) w := by
  unfold execOp
  simp only [ho, hx, Option.map_some, Option.map_none, hy]
  have h1 : (k : Int) ≤ (s.length : Int) := by omega
  have e : (ByteArray.mk s.toArray).extract k s.length = ⟨(s.drop k).toArray⟩ := by
    rw [extract_eq, List.take_of_length_le (by simp)]
  simp [Instr.sliceAt, go_sem, h1, e]
def rpbT : List (Op × Option Tmp × Option (Nat × Bool)) := [
  (.load 26 (.tmp 8), some 43, none),
  (.move (.tmp 0), some 44, none),
  (.move (.tmp 6), some 45, none),
  (.binOp .add 3 (.tmp 45) (.const (.int .i64 1)) 3, some 46, none),
  (.slice 9 (.tmp 44) (some (.tmp 46)) none none, some 47, none),
  (.call { callee := .value (.func 44), args := #[(.tmp 47)], argTypes := #[9] }, some 48, none),
  (.store 26 (.tmp 2) (.tmp 43), none, none),
  (.assign (.tmp 48), some 3, none),
  (.assign (.const (.int .i64 0)), some 4, none)]
def rpbD : List (Nat × Nat) := [(3, 2), (4, 1), (4, 3), (5, 4), (6, 0), (6, 5), (7, 5)]
set_option maxHeartbeats 2000000 in
theorem rpb {ops : Array Oper} {id : Nat} {Q : Exit → Act → World → Prop} (A F m ca k : Nat) (st : Int) (pa : Option Addr) (d s : Bs) (htab : ops.toList.map (fun o => (o.op, o.dst, o.guard)) = rpbT) (hdep : deplB rpbD ops = true) (hac : acB ops = true)
    (a0 : Act) (w : World) (hsz : 49 ≤ a0.tmps.size) (o0 : a0.tmps[0]? = some (S s)) (o2 : a0.tmps[2]? = some (.pointer (some ⟨A, 0, none⟩))) (o6 : a0.tmps[6]? = some (.int .i64 (k : Int))) (o8 : a0.tmps[8]? = some (.pointer (some ⟨F, 0, none⟩)))
    (Wd : (Nat → Bool) → World → Prop) (h0 : Wd (fun _ => false) w.drew) (hpure : ∀ i, i ∉ ([5, 6] : List Nat) → ∀ L W, Wd L W → Wd (upd L i) W)
    (l0 : ∀ L W, Wd L W → W.cell? ⟨F, 0, none⟩ = some (.int .i64 st) ∧ W.cell? ⟨F, 1, none⟩ = some (.slice pa m ca) ∧ W.cell? ⟨F, 2, none⟩ = some (S d))
    (a3 : -9223372036854775808 ≤ (k : Int) + 1 ∧ (k : Int) + 1 ≤ 9223372036854775807) (s4 : k + 1 ≤ s.length ∧ s.length ≤ 9223372036854775807)
    (c5 : ∀ L W, Wd L W → L 5 = false → Calls Tryz.prog 44 #[S (s.drop (k + 1))] W fun e w' => e = .returned (S (s.drop (k + 1))) ∧ Wd (upd L 5) w')
    (n6 : ∀ L W, Wd L W → L 6 = false → L 0 = true → L 5 = true → Wd (upd L 6) (((W.setCell ⟨A, 0, none⟩ (.int .i64 st)).setCell ⟨A, 1, none⟩ (.slice pa m ca)).setCell ⟨A, 2, none⟩ (S d)) ∧ W.heap[A]? = some (.cells #[.int .i64 0, .slice none 0 0, .string ⟨#[]⟩] 26 (0, 0)))
    (hend : ∀ L W, (∀ i, i < 9 → L i = true) → Wd L W → Q .normal ((((((((a0.put (some 43) (.agg #[.int .i64 st, .slice pa m ca, S d])).put (some 44) (S s)).put (some 45) (.int .i64 (k : Int))).put (some 46) (.int .i64 ((k + 1 : Nat) : Int))).put (some 47) (S (s.drop (k + 1)))).put (some 48) (S (s.drop (k + 1)))).put (some 3) (S (s.drop (k + 1)))).put (some 4) (.int .i64 0)) W) : (Code.region id ops true).wp Tryz.prog Q a0 w := by
  let val : Nat → Value := fun i => match i with
    | 0 => (.agg #[.int .i64 st, .slice pa m ca, S d])
    | 1 => (S s)
    | 2 => (.int .i64 (k : Int))
    | 3 => (.int .i64 ((k + 1 : Nat) : Int))
    | 4 => (S (s.drop (k + 1)))
    | 5 => (S (s.drop (k + 1)))
    | 6 => undef
    | 7 => (S (s.drop (k + 1)))
    | 8 => (.int .i64 0)
    | _ => undef
  have hosz : ops.size = 9 := by
    have := congrArg List.length htab
    simpa [rpbT] using this
  have hds : ∀ i s, (rpbT[i]?).bind (·.2.1) = some s → dstOf ops i = some s := fun i s hi => by rw [tab_dst htab, hi]
  have hdisB : disL rpbT = true := by rfl
  have hdis := disL_of htab hdisB
  have hold : ∀ s, rpbT.all (fun x => !(x.2.1 == some s)) = true → (List.range ops.size).all (fun j => !(dstOf ops j == some s)) = true := fun s h => holdL htab s h
  refine region_detL val Wd (hac_of hac) hdis h0 ?_ ?_
  rotate_left
  · intro L W hall hW
    have := hend L W (by rw [← hosz]; exact hall) hW
    have e : frm ops a0 val (fun _ => true) ops.size = ((((((((a0.put (some 43) (.agg #[.int .i64 st, .slice pa m ca, S d])).put (some 44) (S s)).put (some 45) (.int .i64 (k : Int))).put (some 46) (.int .i64 ((k + 1 : Nat) : Int))).put (some 47) (S (s.drop (k + 1)))).put (some 48) (S (s.drop (k + 1)))).put (some 3) (S (s.drop (k + 1)))).put (some 4) (.int .i64 0)) := by
      rw [hosz]
      simp only [frm, if_true]
      rw [tab_dst htab 0, tab_dst htab 1, tab_dst htab 2, tab_dst htab 3, tab_dst htab 4, tab_dst htab 5, (show dstOf ops 6 = none from (tab_dst htab 6).trans rfl), put_none, tab_dst htab 7, tab_dst htab 8]
      rfl
    rw [e]
    exact this
  intro i o ho L a w' hL hd ha hW
  have hi : i < 9 := by rw [← hosz]; exact (Array.getElem?_eq_some_iff.1 ho).1
  match i, ho, hL, hi with
  | 0, ho, hL, _ =>
    obtain ⟨hop, hdst, hgd⟩ := tab_at htab ho (show rpbT[0]? = _ from rfl)
    simp only at hop hgd
    have h0 := frm_old ha 8 _ (hold 8 rfl) o8
    exact doesL_run ho (wanted_none hgd) (hpure 0 (by decide) L w' hW) (run_ld26 _ _ _ hop _ _ _ _ (eval_of h0) _ (l0 L w' hW).1 (l0 L w' hW).2.1 (l0 L w' hW).2.2)
  | 1, ho, hL, _ =>
    obtain ⟨hop, hdst, hgd⟩ := tab_at htab ho (show rpbT[1]? = _ from rfl)
    simp only at hop hgd
    have h0 := frm_old ha 0 _ (hold 0 rfl) o0
    exact doesL_run ho (wanted_none hgd) (hpure 1 (by decide) L w' hW) (by rw [run_move _ _ _ hop]; exact congrArg (fun v => Result.ok (Next.value v) w') (eval_of h0))
  | 2, ho, hL, _ =>
    obtain ⟨hop, hdst, hgd⟩ := tab_at htab ho (show rpbT[2]? = _ from rfl)
    simp only at hop hgd
    have h0 := frm_old ha 6 _ (hold 6 rfl) o6
    exact doesL_run ho (wanted_none hgd) (hpure 2 (by decide) L w' hW) (by rw [run_move _ _ _ hop]; exact congrArg (fun v => Result.ok (Next.value v) w') (eval_of h0))
  | 3, ho, hL, _ =>
    obtain ⟨hop, hdst, hgd⟩ := tab_at htab ho (show rpbT[3]? = _ from rfl)
    simp only at hop hgd
    have h0 := frm_at hdis ha 2 45 (hds 2 45 rfl) (by omega) (depl_of hdep 3 2 (by decide) ho hd)
    exact doesL_run ho (wanted_none hgd) (hpure 3 (by decide) L w' hW) (run_addi _ _ _ _ hop _ _ (eval_of h0) rfl (a3).1 (a3).2 _)
  | 4, ho, hL, _ =>
    obtain ⟨hop, hdst, hgd⟩ := tab_at htab ho (show rpbT[4]? = _ from rfl)
    simp only at hop hgd
    have h0 := frm_at hdis ha 1 44 (hds 1 44 rfl) (by omega) (depl_of hdep 4 1 (by decide) ho hd)
    have h1 := frm_at hdis ha 3 46 (hds 3 46 rfl) (by omega) (depl_of hdep 4 3 (by decide) ho hd)
    exact doesL_run ho (wanted_none hgd) (hpure 4 (by decide) L w' hW) (run_cutlo _ _ _ _ hop _ _ (s4).1 (s4).2 (eval_of h0) (eval_of h1) _)
  | 5, ho, hL, _ =>
    obtain ⟨hop, hdst, hgd⟩ := tab_at htab ho (show rpbT[5]? = _ from rfl)
    simp only at hop hgd
    have h0 := frm_at hdis ha 4 47 (hds 4 47 rfl) (by omega) (depl_of hdep 5 4 (by decide) ho hd)
    refine doesL_call ho (wanted_none hgd) 44 #[S (s.drop (k + 1))] ?_ (c5 L w' hW hL)
    rw [run_calls Tryz.func44 (by kernel_rfl) rfl _ _ _ _ hop rfl]
    simp only [List.map_toArray, List.map_cons, List.map_nil, eval_of h0]
    all_goals rfl
  | 6, ho, hL, _ =>
    obtain ⟨hop, hdst, hgd⟩ := tab_at htab ho (show rpbT[6]? = _ from rfl)
    simp only at hop hgd
    have h0 := frm_old ha 2 _ (hold 2 rfl) o2
    have h1 := frm_at hdis ha 0 43 (hds 0 43 rfl) (by omega) (depl_of hdep 6 0 (by decide) ho hd)
    obtain ⟨s1, s2⟩ := n6 L w' hW hL (depl_of hdep 6 0 (by decide) ho hd) (depl_of hdep 6 5 (by decide) ho hd)
    exact doesL_skp ho (wanted_none hgd) rfl s1 (run_st26 _ _ _ _ hop _ _ _ _ (eval_of h0) (eval_of h1) _ _ _ _ s2 ⟨rfl, rfl, rfl⟩)
  | 7, ho, hL, _ =>
    obtain ⟨hop, hdst, hgd⟩ := tab_at htab ho (show rpbT[7]? = _ from rfl)
    simp only at hop hgd
    have h0 := frm_at hdis ha 5 48 (hds 5 48 rfl) (by omega) (depl_of hdep 7 5 (by decide) ho hd)
    exact doesL_run ho (wanted_none hgd) (hpure 7 (by decide) L w' hW) (by rw [run_assign _ _ _ hop]; exact congrArg (fun v => Result.ok (Next.value v) w') (eval_of h0))
  | 8, ho, hL, _ =>
    obtain ⟨hop, hdst, hgd⟩ := tab_at htab ho (show rpbT[8]? = _ from rfl)
    simp only at hop hgd
    exact doesL_run ho (wanted_none hgd) (hpure 8 (by decide) L w' hW) (by rw [run_assign _ _ _ hop]; exact congrArg (fun v => Result.ok (Next.value v) w') rfl)
  | (i + 9), ho, hL, hi => exact absurd hi (by omega)
end Go.Proofs.YthlacailhfhjnaaGreatDoor
