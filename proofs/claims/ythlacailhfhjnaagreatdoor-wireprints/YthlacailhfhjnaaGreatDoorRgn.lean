import Derived.Test.YthlacailhfhjnaaGreatDoorDetx
import Derived.Test.YthlacailhfhjnaaGreatDoorRgb
import Derived.Test.YthlacailhfhjnaaGreatDoorWgb
namespace Go.Proofs.YthlacailhfhjnaaGreatDoor
open Go.RowKit Go.Lib
/-- What comes up as an answer is made: its headers' slice. -/
structure ChA where
  a : Option Addr
  n : Nat
  k : Nat
def van (X : Nat) (pa : Option Addr) (nn cc q : Nat) (st : Int) (b : Bs) (c : ChA) (i : Nat) : Value := match i with
  | 0 => (.pointer (some ⟨X, 0 + 0, none⟩))
  | 1 => (.int .i64 st)
  | 2 => (.int .i64 (q : Int))
  | 3 => (.int .i64 ((100 + q : Nat) : Int))
  | 4 => (.pointer (some ⟨X, 0 + 1, none⟩))
  | 5 => (.slice pa nn cc)
  | 6 => (.slice c.a c.n c.k)
  | 7 => (.pointer (some ⟨X, 0 + 2, none⟩))
  | 8 => (S b)
  | 9 => (S (b.take 4000))
  | 10 => (.agg #[.int .i64 ((100 + q : Nat) : Int), .slice c.a c.n c.k, S (b.take 4000)])
  | 11 => undef
  | _ => undef
def ranT : List (Op × Option Tmp × Option (Nat × Bool)) := [
  (.fieldAddr 26 (.tmp 1) 0, some 3, none),
  (.load 3 (.tmp 3), some 4, none),
  (.call { callee := .value (.func 15), args := #[(.tmp 4), (.const (.int .i64 500))], argTypes := #[3, 3] }, some 5, none),
  (.binOp .add 3 (.const (.int .i64 100)) (.tmp 5) 3, some 6, none),
  (.fieldAddr 26 (.tmp 1) 1, some 7, none),
  (.load 22 (.tmp 7), some 8, none),
  (.call { callee := .value (.func 40), args := #[(.tmp 8)], argTypes := #[22] }, some 9, none),
  (.fieldAddr 26 (.tmp 1) 2, some 10, none),
  (.load 9 (.tmp 10), some 11, none),
  (.call { callee := .value (.func 41), args := #[(.tmp 11), (.const (.int .i64 4000))], argTypes := #[9, 3] }, some 12, none),
  (.build 26 #[(0, (.tmp 6)), (1, (.tmp 9)), (2, (.tmp 12))], some 13, none),
  (.store 26 (.tmp 2) (.tmp 13), none, none)]
def ranD : List (Nat × Nat) := [(1, 0), (2, 1), (3, 2), (5, 4), (6, 5), (8, 7), (9, 8), (10, 3), (10, 6), (10, 9), (11, 10)]
set_option maxHeartbeats 2000000 in
theorem ran {ops : Array Oper} {id : Nat} {Q : Exit → Act → World → Prop} (X A nn cc q : Nat) (st : Int) (pa : Option Addr) (b : Bs) (htab : ops.toList.map (fun o => (o.op, o.dst, o.guard)) = ranT) (hdep : deplB ranD ops = true) (hac : acB ops = true)
    (a0 : Act) (w : World) (hsz : 14 ≤ a0.tmps.size) (o1 : a0.tmps[1]? = some (.pointer (some ⟨X, 0, none⟩))) (o2 : a0.tmps[2]? = some (.pointer (some ⟨A, 0, none⟩)))
    (Wd : ChA → (Nat → Bool) → World → Prop) (h0 : ∃ c, Wd c (fun _ => false) w.drew) (hpure : ∀ i, i ∉ ([2, 6, 9, 11, 10] : List Nat) → ∀ c L W, Wd c L W → Wd c (upd L i) W)
    (l1 : ∀ c L W, Wd c L W → W.cell? ⟨X, 0 + 0, none⟩ = some (.int .i64 st)) (l5 : ∀ c L W, Wd c L W → W.cell? ⟨X, 0 + 1, none⟩ = some (.slice pa nn cc)) (l8 : ∀ c L W, Wd c L W → W.cell? ⟨X, 0 + 2, none⟩ = some (S b))
    (a3 : -9223372036854775808 ≤ (100 : Int) + (q : Int) ∧ (100 : Int) + (q : Int) ≤ 9223372036854775807) (hpure10 : ∀ c L W, Wd c L W → L 6 = true → Wd c (upd L 10) W)
    (c2 : ∀ c L W, Wd c L W → L 2 = false → Calls Tryz.prog 15 #[.int .i64 st, .int .i64 500] W fun e w' => e = .returned (.int .i64 (q : Int)) ∧ Wd c (upd L 2) w')
    (c6 : ∀ c L W, Wd c L W → L 6 = false → Calls Tryz.prog 40 #[.slice pa nn cc] W fun e w' => ∃ c' : ChA, (∀ j, L j = true → van X pa nn cc q st b c' j = van X pa nn cc q st b c j) ∧ e = .returned (.slice c'.a c'.n c'.k) ∧ Wd c' (upd L 6) w')
    (c9 : ∀ c L W, Wd c L W → L 9 = false → Calls Tryz.prog 41 #[S b, .int .i64 4000] W fun e w' => e = .returned (S (b.take 4000)) ∧ Wd c (upd L 9) w')
    (n11 : ∀ c L W, Wd c L W → L 11 = false → L 10 = true → Wd c (upd L 11) (((W.setCell ⟨A, 0, none⟩ (.int .i64 ((100 + q : Nat) : Int))).setCell ⟨A, 1, none⟩ (.slice c.a c.n c.k)).setCell ⟨A, 2, none⟩ (S (b.take 4000))) ∧ W.heap[A]? = some (.cells #[.int .i64 0, .slice none 0 0, .string ⟨#[]⟩] 26 (0, 0)))
    (hend : ∀ c L W, (∀ i, i < 12 → L i = true) → Wd c L W → Q .normal (((((((((((a0.put (some 3) (.pointer (some ⟨X, 0 + 0, none⟩))).put (some 4) (.int .i64 st)).put (some 5) (.int .i64 (q : Int))).put (some 6) (.int .i64 ((100 + q : Nat) : Int))).put (some 7) (.pointer (some ⟨X, 0 + 1, none⟩))).put (some 8) (.slice pa nn cc)).put (some 9) (.slice c.a c.n c.k)).put (some 10) (.pointer (some ⟨X, 0 + 2, none⟩))).put (some 11) (S b)).put (some 12) (S (b.take 4000))).put (some 13) (.agg #[.int .i64 ((100 + q : Nat) : Int), .slice c.a c.n c.k, S (b.take 4000)])) W) : (Code.region id ops true).wp Tryz.prog Q a0 w := by
  let val : ChA → Nat → Value := van X pa nn cc q st b
  have hosz : ops.size = 12 := by
    have := congrArg List.length htab
    simpa [ranT] using this
  have hds : ∀ i s, (ranT[i]?).bind (·.2.1) = some s → dstOf ops i = some s := fun i s hi => by rw [tab_dst htab, hi]
  have hdisB : disL ranT = true := by rfl
  have hdis := disL_of htab hdisB
  have hold : ∀ s, ranT.all (fun x => !(x.2.1 == some s)) = true → (List.range ops.size).all (fun j => !(dstOf ops j == some s)) = true := fun s h => holdL htab s h
  refine region_detX val Wd (hac_of hac) hdis h0 ?_ ?_
  rotate_left
  · intro c L W hall hW
    have := hend c L W (by rw [← hosz]; exact hall) hW
    have e : frm ops a0 (val c) (fun _ => true) ops.size = (((((((((((a0.put (some 3) (.pointer (some ⟨X, 0 + 0, none⟩))).put (some 4) (.int .i64 st)).put (some 5) (.int .i64 (q : Int))).put (some 6) (.int .i64 ((100 + q : Nat) : Int))).put (some 7) (.pointer (some ⟨X, 0 + 1, none⟩))).put (some 8) (.slice pa nn cc)).put (some 9) (.slice c.a c.n c.k)).put (some 10) (.pointer (some ⟨X, 0 + 2, none⟩))).put (some 11) (S b)).put (some 12) (S (b.take 4000))).put (some 13) (.agg #[.int .i64 ((100 + q : Nat) : Int), .slice c.a c.n c.k, S (b.take 4000)])) := by
      rw [hosz]
      simp only [frm, if_true]
      rw [tab_dst htab 0, tab_dst htab 1, tab_dst htab 2, tab_dst htab 3, tab_dst htab 4, tab_dst htab 5, tab_dst htab 6, tab_dst htab 7, tab_dst htab 8, tab_dst htab 9, tab_dst htab 10, (show dstOf ops 11 = none from (tab_dst htab 11).trans rfl), put_none]
      rfl
    rw [e]
    exact this
  intro i o ho c L a w' hL hd ha hW
  have hi : i < 12 := by rw [← hosz]; exact (Array.getElem?_eq_some_iff.1 ho).1
  match i, ho, hL, hi with
  | 0, ho, hL, _ =>
    obtain ⟨hop, hdst, hgd⟩ := tab_at htab ho (show ranT[0]? = _ from rfl)
    simp only at hop hgd
    have h0 := frm_old (val := val c) ha 1 _ (hold 1 rfl) o1
    exact doesX_of (doesL_run ho (wanted_none hgd) (hpure 0 (by decide) c L w' hW) (run_f26_0 _ _ _ hop _ _ (eval_of h0) _))
  | 1, ho, hL, _ =>
    obtain ⟨hop, hdst, hgd⟩ := tab_at htab ho (show ranT[1]? = _ from rfl)
    simp only at hop hgd
    have h0 := frm_at (val := val c) hdis ha 0 3 (hds 0 3 rfl) (by omega) (depl_of hdep 1 0 (by decide) ho hd)
    exact doesX_of (doesL_run ho (wanted_none hgd) (hpure 1 (by decide) c L w' hW) (run_ld3 _ _ _ hop _ _ (eval_of h0) _ (l1 c L w' hW)))
  | 2, ho, hL, _ =>
    obtain ⟨hop, hdst, hgd⟩ := tab_at htab ho (show ranT[2]? = _ from rfl)
    simp only at hop hgd
    have h0 := frm_at (val := val c) hdis ha 1 4 (hds 1 4 rfl) (by omega) (depl_of hdep 2 1 (by decide) ho hd)
    refine doesX_of (doesL_call ho (wanted_none hgd) 15 #[.int .i64 st, .int .i64 500] ?_ (c2 c L w' hW hL))
    rw [run_calls Tryz.func15 (by kernel_rfl) rfl _ _ _ _ hop rfl]
    simp only [List.map_toArray, List.map_cons, List.map_nil, eval_of h0]
    all_goals rfl
  | 3, ho, hL, _ =>
    obtain ⟨hop, hdst, hgd⟩ := tab_at htab ho (show ranT[3]? = _ from rfl)
    simp only at hop hgd
    have h1 := frm_at (val := val c) hdis ha 2 5 (hds 2 5 rfl) (by omega) (depl_of hdep 3 2 (by decide) ho hd)
    exact doesX_of (doesL_run ho (wanted_none hgd) (hpure 3 (by decide) c L w' hW) (run_addi _ _ _ _ hop _ _ rfl (eval_of h1) (a3).1 (a3).2 _))
  | 4, ho, hL, _ =>
    obtain ⟨hop, hdst, hgd⟩ := tab_at htab ho (show ranT[4]? = _ from rfl)
    simp only at hop hgd
    have h0 := frm_old (val := val c) ha 1 _ (hold 1 rfl) o1
    exact doesX_of (doesL_run ho (wanted_none hgd) (hpure 4 (by decide) c L w' hW) (run_f26_1 _ _ _ hop _ _ (eval_of h0) _))
  | 5, ho, hL, _ =>
    obtain ⟨hop, hdst, hgd⟩ := tab_at htab ho (show ranT[5]? = _ from rfl)
    simp only at hop hgd
    have h0 := frm_at (val := val c) hdis ha 4 7 (hds 4 7 rfl) (by omega) (depl_of hdep 5 4 (by decide) ho hd)
    exact doesX_of (doesL_run ho (wanted_none hgd) (hpure 5 (by decide) c L w' hW) (run_ld22 _ _ _ hop _ _ (eval_of h0) _ (l5 c L w' hW)))
  | 6, ho, hL, _ =>
    obtain ⟨hop, hdst, hgd⟩ := tab_at htab ho (show ranT[6]? = _ from rfl)
    simp only at hop hgd
    have h0 := frm_at (val := val c) hdis ha 5 8 (hds 5 8 rfl) (by omega) (depl_of hdep 6 5 (by decide) ho hd)
    refine doesX_call ho (wanted_none hgd) 40 #[.slice pa nn cc] ?_ (c6 c L w' hW hL)
    rw [run_calls Tryz.func40 (by kernel_rfl) rfl _ _ _ _ hop rfl]
    simp only [List.map_toArray, List.map_cons, List.map_nil, eval_of h0]
    all_goals rfl
  | 7, ho, hL, _ =>
    obtain ⟨hop, hdst, hgd⟩ := tab_at htab ho (show ranT[7]? = _ from rfl)
    simp only at hop hgd
    have h0 := frm_old (val := val c) ha 1 _ (hold 1 rfl) o1
    exact doesX_of (doesL_run ho (wanted_none hgd) (hpure 7 (by decide) c L w' hW) (run_f26_2 _ _ _ hop _ _ (eval_of h0) _))
  | 8, ho, hL, _ =>
    obtain ⟨hop, hdst, hgd⟩ := tab_at htab ho (show ranT[8]? = _ from rfl)
    simp only at hop hgd
    have h0 := frm_at (val := val c) hdis ha 7 10 (hds 7 10 rfl) (by omega) (depl_of hdep 8 7 (by decide) ho hd)
    exact doesX_of (doesL_run ho (wanted_none hgd) (hpure 8 (by decide) c L w' hW) (run_ld _ _ _ hop _ _ (eval_of h0) _ (l8 c L w' hW)))
  | 9, ho, hL, _ =>
    obtain ⟨hop, hdst, hgd⟩ := tab_at htab ho (show ranT[9]? = _ from rfl)
    simp only at hop hgd
    have h0 := frm_at (val := val c) hdis ha 8 11 (hds 8 11 rfl) (by omega) (depl_of hdep 9 8 (by decide) ho hd)
    refine doesX_of (doesL_call ho (wanted_none hgd) 41 #[S b, .int .i64 4000] ?_ (c9 c L w' hW hL))
    rw [run_calls Tryz.func41 (by kernel_rfl) rfl _ _ _ _ hop rfl]
    simp only [List.map_toArray, List.map_cons, List.map_nil, eval_of h0]
    all_goals rfl
  | 10, ho, hL, _ =>
    obtain ⟨hop, hdst, hgd⟩ := tab_at htab ho (show ranT[10]? = _ from rfl)
    simp only at hop hgd
    have h0 := frm_at (val := val c) hdis ha 3 6 (hds 3 6 rfl) (by omega) (depl_of hdep 10 3 (by decide) ho hd)
    have h1 := frm_at (val := val c) hdis ha 6 9 (hds 6 9 rfl) (by omega) (depl_of hdep 10 6 (by decide) ho hd)
    have h2 := frm_at (val := val c) hdis ha 9 12 (hds 9 12 rfl) (by omega) (depl_of hdep 10 9 (by decide) ho hd)
    exact doesX_of (doesL_run ho (wanted_none hgd) (hpure10 c L w' hW (depl_of hdep 10 6 (by decide) ho hd)) (run_build26 _ _ _ _ _ hop _ _ _ _ _ (eval_of h0) (eval_of h1) (eval_of h2) _))
  | 11, ho, hL, _ =>
    obtain ⟨hop, hdst, hgd⟩ := tab_at htab ho (show ranT[11]? = _ from rfl)
    simp only at hop hgd
    have h0 := frm_old (val := val c) ha 2 _ (hold 2 rfl) o2
    have h1 := frm_at (val := val c) hdis ha 10 13 (hds 10 13 rfl) (by omega) (depl_of hdep 11 10 (by decide) ho hd)
    obtain ⟨s1, s2⟩ := n11 c L w' hW hL (depl_of hdep 11 10 (by decide) ho hd)
    exact doesX_of (doesL_skp ho (wanted_none hgd) rfl s1 (run_st26 _ _ _ _ hop _ _ _ _ (eval_of h0) (eval_of h1) _ _ _ _ s2 ⟨rfl, rfl, rfl⟩))
  | (i + 12), ho, hL, hi => exact absurd hi (by omega)
end Go.Proofs.YthlacailhfhjnaaGreatDoor
