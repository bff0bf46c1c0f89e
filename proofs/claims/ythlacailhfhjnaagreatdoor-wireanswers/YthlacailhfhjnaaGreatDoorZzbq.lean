import Derived.Test.YthlacailhfhjnaaGreatDoorZzak
import Derived.Test.YthlacailhfhjnaaGreatDoorZzaj
import Derived.Test.YthlacailhfhjnaaGreatDoorZzap
import Derived.Test.YthlacailhfhjnaaGreatDoorWdl
namespace Go.Proofs.YthlacailhfhjnaaGreatDoor
open Go.RowKit Go.Lib
/-- What comes up as an answer is made: its headers' slice. -/
structure ChA where
  a : Option Addr
  n : Nat
  k : Nat
def van (X : Nat) (pa : Option Addr) (nn cc q : Nat) (st : Int) (b : Bs) (c : ChA) (i : Nat) : Value := match i with
  | 0 => (.pointer (some ⟨X, 0 + 0, none⟩))
  | 1 => (.int .i64 st)
  | 2 => (.int .i64 (q : Int))
  | 3 => (.int .i64 ((100 + q : Nat) : Int))
  | 4 => (.pointer (some ⟨X, 0 + 1, none⟩))
  | 5 => (.slice pa nn cc)
  | 6 => (.slice c.a c.n c.k)
  | 7 => (.pointer (some ⟨X, 0 + 2, none⟩))
  | 8 => (S b)
  | 9 => (S (b.take 4000))
  | 10 => (.agg #[.int .i64 ((100 + q : Nat) : Int), .slice c.a c.n c.k, S (b.take 4000)])
  | 11 => undef
  | _ => undef
def ranT : List (Op × Option Tmp × Option (Nat × Bool)) := [
  (.fieldAddr 26 (.tmp 1) 0, some 3, none),
  (.load 3 (.tmp 3), some 4, none),
  (.call { callee := .value (.func 15), args := #[(.tmp 4), (.const (.int .i64 500))], argTypes := #[3, 3] }, some 5, none),
  (.binOp .add 3 (.const (.int .i64 100)) (.tmp 5) 3, some 6, none),
  (.fieldAddr 26 (.tmp 1) 1, some 7, none),
  (.load 22 (.tmp 7), some 8, none),
  (.call { callee := .value (.func 40), args := #[(.tmp 8)], argTypes := #[22] }, some 9, none),
  (.fieldAddr 26 (.tmp 1) 2, some 10, none),
  (.load 9 (.tmp 10), some 11, none),
  (.call { callee := .value (.func 41), args := #[(.tmp 11), (.const (.int .i64 4000))], argTypes := #[9, 3] }, some 12, none),
  (.build 26 #[(0, (.tmp 6)), (1, (.tmp 9)), (2, (.tmp 12))], some 13, none),
  (.store 26 (.tmp 2) (.tmp 13), none, none)]
def ranD : List (Nat × Nat) := [(1, 0), (2, 1), (3, 2), (5, 4), (6, 5), (8, 7), (9, 8), (10, 3), (10, 6), (10, 9), (11, 10)]
set_option maxHeartbeats 2000000 in
theorem ran {ops : Array Oper} {id : Nat} {Q : Exit → Act → World → Prop} (X A nn cc q : Nat) (st : Int) (pa : Option Addr) (b : Bs) (htab : ops.toList.map (fun o => (o.op, o.dst, o.guard)) = ranT) (hdep : deplB ranD ops = true) (hac : acB ops = true)
    (a0 : Act) (w : World) (hsz : 14 ≤ a0.tmps.size) (o1 : a0.tmps[1]? = some (.pointer (some ⟨X, 0, none⟩))) (o2 : a0.tmps[2]? = some (.pointer (some ⟨A, 0, none⟩)))
    (Wd : ChA → (Nat → Bool) → World → Prop) (h0 : ∃ c, Wd c (fun _ => false) w.drew) (hpure : ∀ i, i ∉ ([2, 6, 9, 11, 10] : List Nat) → ∀ c L W, Wd c L W → Wd c (upd L i) W)
    (l1 : ∀ c L W, Wd c L W → W.cell? ⟨X, 0 + 0, none⟩ = some (.int .i64 st)) (l5 : ∀ c L W, Wd c L W → W.cell? ⟨X, 0 + 1, none⟩ = some (.slice pa nn cc)) (l8 : ∀ c L W, Wd c L W → W.cell? ⟨X, 0 + 2, none⟩ = some (S b))
    (a3 : -9223372036854775808 ≤ (100 : Int) + (q : Int) ∧ (100 : Int) + (q : Int) ≤ 9223372036854775807) (hpure10 : ∀ c L W, Wd c L W → L 6 = true → Wd c (upd L 10) W)
    (c2 : ∀ c L W, Wd c L W → L 2 = false → Calls Tryz.prog 15 #[.int .i64 st, .int .i64 500] W fun e w' => e = .returned (.int .i64 (q : Int)) ∧ Wd c (upd L 2) w')
    (c6 : ∀ c L W, Wd c L W → L 6 = false → Calls Tryz.prog 40 #[.slice pa nn cc] W fun e w' => ∃ c' : ChA, (∀ j, L j = true → van X pa nn cc q st b c' j = van X pa nn cc q st b c j) ∧ e = .returned (.slice c'.a c'.n c'.k) ∧ Wd c' (upd L 6) w')
    (c9 : ∀ c L W, Wd c L W → L 9 = false → Calls Tryz.prog 41 #[S b, .int .i64 4000] W fun e w' => e = .returned (S (b.take 4000)) ∧ Wd c (upd L 9) w')
    (n11 : ∀ c L W, Wd c L W → L 11 = false → L 10 = true → Wd c (upd L 11) (((W.setCell ⟨A, 0, none⟩ (.int .i64 ((100 + q : Nat) : Int))).setCell ⟨A, 1, none⟩ (.slice c.a c.n c.k)).setCell ⟨A, 2, none⟩ (S (b.take 4000))) ∧ W.heap[A]? = some (.cells #[.int .i64 0, .slice none 0 0, .string ⟨#[]⟩] 26 (0, 0)))
    (hend : ∀ c L W, (∀ i, i < 12 → L i = true) → Wd c L W → Q .normal (((((((((((a0.put (some 3) (.pointer (some ⟨X, 0 + 0, none⟩))).put (some 4) (.int .i64 st)).put (some 5) (.int .i64 (q : Int))).put (some 6) (.int .i64 ((100 + q : Nat) : Int))).put (some 7) (.pointer (some ⟨X, 0 + 1, none⟩))).put (some 8) (.slice pa nn cc)).put (some 9) (.slice c.a c.n c.k)).put (some 10) (.pointer (some ⟨X, 0 + 2, none⟩))).put (some 11) (S b)).put (some 12) (S (b.take 4000))).put (some 13) (.agg #[.int .i64 ((100 + q : Nat) : Int), .slice c.a c.n c.k, S (b.take 4000)])) W) : (Code.region id ops true).wp Tryz.prog Q a0 w := by
  let val : ChA → Nat → Value := van X pa nn cc q st b
  have hosz : ops.size = 12 := by
    have := congrArg List.length htab
    simpa [ranT] using this
  have hds : ∀ i s, (ranT[i]?).bind (·.2.1) = some s → dstOf ops i = some s := fun i s hi => by rw [tab_dst htab, hi]
  have hdisB : disL ranT = true := by rfl
  have hdis := disL_of htab hdisB
  have hold : ∀ s, ranT.all (fun x => !(x.2.1 == some s)) = true → (List.range ops.size).all (fun j => !(dstOf ops j == some s)) = true := fun s h => holdL htab s h
  refine region_detX val Wd (hac_of hac) hdis h0 ?_ ?_
  rotate_left
  · intro c L W hall hW
    have := hend c L W (by rw [← hosz]; exact hall) hW
    have e : frm ops a0 (val c) (fun _ => true) ops.size = (((((((((((a0.put (some 3) (.pointer (some ⟨X, 0 + 0, none⟩))).put (some 4) (.int .i64 st)).put (some 5) (.int .i64 (q : Int))).put (some 6) (.int .i64 ((100 + q : Nat) : Int))).put (some 7) (.pointer (some ⟨X, 0 + 1, none⟩))).put (some 8) (.slice pa nn cc)).put (some 9) (.slice c.a c.n c.k)).put (some 10) (.pointer (some ⟨X, 0 + 2, none⟩))).put (some 11) (S b)).put (some 12) (S (b.take 4000))).put (some 13) (.agg #[.int .i64 ((100 + q : Nat) : Int), .slice c.a c.n c.k, S (b.take 4000)])) := by
      rw [hosz]
      simp only [frm, if_true]
      rw [tab_dst htab 0, tab_dst htab 1, tab_dst htab 2, tab_dst htab 3, tab_dst htab 4, tab_dst htab 5, tab_dst htab 6, tab_dst htab 7, tab_dst htab 8, tab_dst htab 9, tab_dst htab 10, (show dstOf ops 11 = none from (tab_dst htab 11).trans rfl), put_none]
      rfl
    rw [e]
    exact this
  intro i o ho c L a w' hL hd ha hW
  have hi : i < 12 := by rw [← hosz]; exact (Array.getElem?_eq_some_iff.1 ho).1
  match i, ho, hL, hi with
  | 0, ho, hL, _ =>
    obtain ⟨hop, hdst, hgd⟩ := tab_at htab ho (show ranT[0]? = _ from rfl)
    simp only at hop hgd
    have h0 := frm_old (val := val c) ha 1 _ (hold 1 rfl) o1
    exact doesX_of (doesL_run ho (wanted_none hgd) (hpure 0 (by decide) c L w' hW) (run_f26_0 _ _ _ hop _ _ (eval_of h0) _))
  | 1, ho, hL, _ =>
    obtain ⟨hop, hdst, hgd⟩ := tab_at htab ho (show ranT[1]? = _ from rfl)
    simp only at hop hgd
    have h0 := frm_at (val := val c) hdis ha 0 3 (hds 0 3 rfl) (by omega) (depl_of hdep 1 0 (by decide) ho hd)
    exact doesX_of (doesL_run ho (wanted_none hgd) (hpure 1 (by decide) c L w' hW) (run_ld3 _ _ _ hop _ _ (eval_of h0) _ (l1 c L w' hW)))
  | 2, ho, hL, _ =>
    obtain ⟨hop, hdst, hgd⟩ := tab_at htab ho (show ranT[2]? = _ from rfl)
    simp only at hop hgd
    have h0 := frm_at (val := val c) hdis ha 1 4 (hds 1 4 rfl) (by omega) (depl_of hdep 2 1 (by decide) ho hd)
    refine doesX_of (doesL_call ho (wanted_none hgd) 15 #[.int .i64 st, .int .i64 500] ?_ (c2 c L w' hW hL))
    rw [run_calls Tryz.func15 (by kernel_rfl) rfl _ _ _ _ hop rfl]
    simp only [List.map_toArray, List.map_cons, List.map_nil, eval_of h0]
    all_goals rfl
  | 3, ho, hL, _ =>
    obtain ⟨hop, hdst, hgd⟩ := tab_at htab ho (show ranT[3]? = _ from rfl)
    simp only at hop hgd
    have h1 := frm_at (val := val c) hdis ha 2 5 (hds 2 5 rfl) (by omega) (depl_of hdep 3 2 (by decide) ho hd)
    exact doesX_of (doesL_run ho (wanted_none hgd) (hpure 3 (by decide) c L w' hW) (run_addi _ _ _ _ hop _ _ rfl (eval_of h1) (a3).1 (a3).2 _))
  | 4, ho, hL, _ =>
    obtain ⟨hop, hdst, hgd⟩ := tab_at htab ho (show ranT[4]? = _ from rfl)
    simp only at hop hgd
    have h0 := frm_old (val := val c) ha 1 _ (hold 1 rfl) o1
    exact doesX_of (doesL_run ho (wanted_none hgd) (hpure 4 (by decide) c L w' hW) (run_f26_1 _ _ _ hop _ _ (eval_of h0) _))
  | 5, ho, hL, _ =>
    obtain ⟨hop, hdst, hgd⟩ := tab_at htab ho (show ranT[5]? = _ from rfl)
    simp only at hop hgd
    have h0 := frm_at (val := val c) hdis ha 4 7 (hds 4 7 rfl) (by omega) (depl_of hdep 5 4 (by decide) ho hd)
    exact doesX_of (doesL_run ho (wanted_none hgd) (hpure 5 (by decide) c L w' hW) (run_ld22 _ _ _ hop _ _ (eval_of h0) _ (l5 c L w' hW)))
  | 6, ho, hL, _ =>
    obtain ⟨hop, hdst, hgd⟩ := tab_at htab ho (show ranT[6]? = _ from rfl)
    simp only at hop hgd
    have h0 := frm_at (val := val c) hdis ha 5 8 (hds 5 8 rfl) (by omega) (depl_of hdep 6 5 (by decide) ho hd)
    refine doesX_call ho (wanted_none hgd) 40 #[.slice pa nn cc] ?_ (c6 c L w' hW hL)
    rw [run_calls Tryz.func40 (by kernel_rfl) rfl _ _ _ _ hop rfl]
    simp only [List.map_toArray, List.map_cons, List.map_nil, eval_of h0]
    all_goals rfl
  | 7, ho, hL, _ =>
    obtain ⟨hop, hdst, hgd⟩ := tab_at htab ho (show ranT[7]? = _ from rfl)
    simp only at hop hgd
    have h0 := frm_old (val := val c) ha 1 _ (hold 1 rfl) o1
    exact doesX_of (doesL_run ho (wanted_none hgd) (hpure 7 (by decide) c L w' hW) (run_f26_2 _ _ _ hop _ _ (eval_of h0) _))
  | 8, ho, hL, _ =>
    obtain ⟨hop, hdst, hgd⟩ := tab_at htab ho (show ranT[8]? = _ from rfl)
    simp only at hop hgd
    have h0 := frm_at (val := val c) hdis ha 7 10 (hds 7 10 rfl) (by omega) (depl_of hdep 8 7 (by decide) ho hd)
    exact doesX_of (doesL_run ho (wanted_none hgd) (hpure 8 (by decide) c L w' hW) (run_ld _ _ _ hop _ _ (eval_of h0) _ (l8 c L w' hW)))
  | 9, ho, hL, _ =>
    obtain ⟨hop, hdst, hgd⟩ := tab_at htab ho (show ranT[9]? = _ from rfl)
    simp only at hop hgd
    have h0 := frm_at (val := val c) hdis ha 8 11 (hds 8 11 rfl) (by omega) (depl_of hdep 9 8 (by decide) ho hd)
    refine doesX_of (doesL_call ho (wanted_none hgd) 41 #[S b, .int .i64 4000] ?_ (c9 c L w' hW hL))
    rw [run_calls Tryz.func41 (by kernel_rfl) rfl _ _ _ _ hop rfl]
    simp only [List.map_toArray, List.map_cons, List.map_nil, eval_of h0]
    all_goals rfl
  | 10, ho, hL, _ =>
    obtain ⟨hop, hdst, hgd⟩ := tab_at htab ho (show ranT[10]? = _ from rfl)
    simp only at hop hgd
    have h0 := frm_at (val := val c) hdis ha 3 6 (hds 3 6 rfl) (by omega) (depl_of hdep 10 3 (by decide) ho hd)
    have h1 := frm_at (val := val c) hdis ha 6 9 (hds 6 9 rfl) (by omega) (depl_of hdep 10 6 (by decide) ho hd)
    have h2 := frm_at (val := val c) hdis ha 9 12 (hds 9 12 rfl) (by omega) (depl_of hdep 10 9 (by decide) ho hd)
    exact doesX_of (doesL_run ho (wanted_none hgd) (hpure10 c L w' hW (depl_of hdep 10 6 (by decide) ho hd)) (run_build26 _ _ _ _ _ hop _ _ _ _ _ (eval_of h0) (eval_of h1) (eval_of h2) _))
  | 11, ho, hL, _ =>
    obtain ⟨hop, hdst, hgd⟩ := tab_at htab ho (show ranT[11]? = _ from rfl)
    simp only at hop hgd
    have h0 := frm_old (val := val c) ha 2 _ (hold 2 rfl) o2
    have h1 := frm_at (val := val c) hdis ha 10 13 (hds 10 13 rfl) (by omega) (depl_of hdep 11 10 (by decide) ho hd)
    obtain ⟨s1, s2⟩ := n11 c L w' hW hL (depl_of hdep 11 10 (by decide) ho hd)
    exact doesX_of (doesL_skp ho (wanted_none hgd) rfl s1 (run_st26 _ _ _ _ hop _ _ _ _ (eval_of h0) (eval_of h1) _ _ _ _ s2 ⟨rfl, rfl, rfl⟩))
  | (i + 12), ho, hL, hi => exact absurd hi (by omega)
end Go.Proofs.YthlacailhfhjnaaGreatDoor
namespace Go.Proofs.YthlacailhfhjnaaGreatDoor
open Go.RowKit Go.Lib
theorem van_h (X : Nat) (pa : Option Addr) (nn cc q : Nat) (st : Int) (b : Bs) (c c' : ChA) : ∀ (j : Nat) (_ : j ≠ 6) (_ : j ≠ 10), van X pa nn cc q st b c' j = van X pa nn cc q st b c j := by
  intro j h6 h10
  match j, h6, h10 with
  | 0, _, _ => rfl
  | 1, _, _ => rfl
  | 2, _, _ => rfl
  | 3, _, _ => rfl
  | 4, _, _ => rfl
  | 5, _, _ => rfl
  | 6, h6, _ => exact absurd rfl h6
  | 7, _, _ => rfl
  | 8, _, _ => rfl
  | 9, _, _ => rfl
  | 10, _, h10 => exact absurd rfl h10
  | 11, _, _ => rfl
  | (n + 12), _, _ => rfl
def set3 (W : World) (A : Nat) (c : ChA) (q : Nat) (b : Bs) : World := ((W.setCell ⟨A, 0, none⟩ (.int .i64 ((100 + q : Nat) : Int))).setCell ⟨A, 1, none⟩ (.slice c.a c.n c.k)).setCell ⟨A, 2, none⟩ (S (b.take 4000))
/-- What holds as an answer is made. -/
structure WdN (W0 : World) (A q : Nat) (b : Bs) (c : ChA) (L : Nat → Bool) (W : World) : Prop where
  d11 : L 11 = true → L 10 = true
  d10 : L 10 = true → L 6 = true
  hd : L 6 = true → ∃ hs, c.n = hs.length ∧ W.ownsRow 0 35 2 (.slice c.a c.n c.k) hs.length (cellsF hs) ∧ (∀ k, (Value.slice c.a c.n c.k).ownBlock = some k → W0.heap.size ≤ k) ∧ hs.length ≤ 32 ∧ hs.all hdr = true
  wd0 : L 11 = false → Below W0.heap.size W0 W
  wd1 : L 11 = true → ∃ Wp, Below W0.heap.size W0 Wp ∧ W = set3 Wp A c q b
theorem set3_other (W : World) (A : Nat) (c : ChA) (q : Nat) (b : Bs) (j : Nat) (h : j ≠ A) : (set3 W A c q b).heap[j]? = W.heap[j]? := by
  unfold set3
  rw [heap_setCell_other _ _ _ _ h, heap_setCell_other _ _ _ _ h, heap_setCell_other _ _ _ _ h]
section
variable {W0 : World} {A q : Nat} {b : Bs} {c : ChA} {L : Nat → Bool} {W : World}
theorem WdN.old (h : WdN W0 A q b c L W) {j : Nat} (hj : j < W0.heap.size) (hA : j ≠ A) : W.heap[j]? = W0.heap[j]? := by
  cases e : L 11 with
  | false => exact (h.wd0 e).block j hj
  | true =>
    obtain ⟨Wp, h1, rfl⟩ := h.wd1 e
    rw [set3_other _ _ _ _ _ _ hA]
    exact h1.block j hj
theorem WdN.pure (h : WdN W0 A q b c L W) (i : Nat) (hi : i ≠ 6 ∧ i ≠ 10 ∧ i ≠ 11) : WdN W0 A q b c (upd L i) W := by
  refine ⟨?_, ?_, ?_, ?_, ?_⟩
  · rw [upd_ne (j := 11) (by omega), upd_ne (j := 10) (by omega)]; exact h.d11
  · rw [upd_ne (j := 10) (by omega), upd_ne (j := 6) (by omega)]; exact h.d10
  · rw [upd_ne (j := 6) (by omega)]; exact h.hd
  · rw [upd_ne (j := 11) (by omega)]; exact h.wd0
  · rw [upd_ne (j := 11) (by omega)]; exact h.wd1
theorem WdN.no11 (h : WdN W0 A q b c L W) (hz : L 6 = false) : L 10 = false ∧ L 11 = false := by
  have h10 : L 10 = false := by
    cases e : L 10 with
    | false => rfl
    | true => rw [h.d10 e] at hz; cases hz
  refine ⟨h10, ?_⟩
  cases e : L 11 with
  | false => rfl
  | true => rw [h.d11 e] at h10; cases h10
theorem WdN.third (h : WdN W0 A q b c L W) (h6 : L 6 = false) {a : Option Addr} {k : Nat} {hs : List Fl} {W' : World} (g : Hds (.slice a hs.length k) hs W W') : WdN W0 A q b ⟨a, hs.length, k⟩ (upd L 6) W' := by
  have hn := h.no11 h6
  have hb0 := h.wd0 hn.2
  refine ⟨?_, ?_, fun _ => ⟨hs, rfl, g.row, fun j hj => Nat.le_trans hb0.size (g.new j hj), g.few, g.all⟩, ?_, ?_⟩
  · rw [upd_ne (j := 11) (by omega), hn.2]; intro q; cases q
  · rw [upd_ne (j := 10) (by omega), hn.1]; intro q; cases q
  · intro _; exact hb0.trans (g.bel.mono hb0.size)
  · rw [upd_ne (j := 11) (by omega), hn.2]; intro q; cases q
theorem WdN.built (h : WdN W0 A q b c L W) (h6 : L 6 = true) : WdN W0 A q b c (upd L 10) W := by
  refine ⟨?_, ?_, ?_, ?_, ?_⟩
  · intro _; exact upd_eq
  · intro _; rw [upd_ne (j := 6) (by omega)]; exact h6
  · rw [upd_ne (j := 6) (by omega)]; exact h.hd
  · rw [upd_ne (j := 11) (by omega)]; exact h.wd0
  · rw [upd_ne (j := 11) (by omega)]; exact h.wd1
theorem WdN.stored (h : WdN W0 A q b c L W) (h11 : L 11 = false) (h10 : L 10 = true) (hA : W.heap[A]? = some (.cells #[.int .i64 0, .slice none 0 0, S []] 26 (0, 0))) : WdN W0 A q b c (upd L 11) (set3 W A c q b) := by
  refine ⟨?_, ?_, ?_, ?_, ?_⟩
  · intro _; rw [upd_ne (j := 10) (by omega)]; exact h10
  · rw [upd_ne (j := 10) (by omega), upd_ne (j := 6) (by omega)]; exact h.d10
  · rw [upd_ne (j := 6) (by omega)]
    intro q
    obtain ⟨hs, e, r, s⟩ := h.hd q
    exact ⟨hs, e, owns_same r (fun k hk => set3_other _ _ _ _ _ _ (fun z => by
      obtain ⟨cs, z2⟩ := owns_lt r k hk
      rw [z, hA] at z2
      simp at z2)), s⟩
  · rw [upd_eq]; intro q; cases q
  · intro _; exact ⟨W, h.wd0 h11, rfl⟩
end
/-- An answer that may be, in memory. -/
structure Aok (n : Nat) (hs : List Fl) (b : Bs) (a : Option Addr) (k : Nat) (w w' : World) : Prop where
  st : 100 ≤ n ∧ n ≤ 599
  flw : flw hs b = true
  row : w'.ownsRow 0 35 2 (.slice a hs.length k) hs.length (cellsF hs)
  new : ∀ j, (Value.slice a hs.length k).ownBlock = some j → w.heap.size ≤ j
  bel : Below w.heap.size w w'
set_option maxHeartbeats 8000000 in
set_option maxRecDepth 8000 in
theorem answer_any (st : Int) (hs0 : List Fl) (b : Bs) (pa : Option Addr) (nn cc : Nat) (w : World) (hp : Fls w pa nn hs0) (hL : Lens hs0) (hn : nn ≤ 140737488351232) (h3 : b.length ≤ 140737488351232) (s1 : -9223372036854775808 ≤ st) (s2 : st ≤ 9223372036854775807) :
    Calls Tryz.prog 14 #[.agg #[.int .i64 st, .slice pa nn cc, S b]] w fun e w' => ∃ n hs b' a k, e = .returned (.agg #[.int .i64 (n : Nat), .slice a hs.length k, S b']) ∧ Aok n hs b' a k w w' := by
  have b0 : Below w.heap.size w ((w.alloc (.cells #[.int .i64 st, .slice pa nn cc, S b] 26)).alloc (.cells #[.int .i64 0, .slice none 0 0, S []] 26)) := ((Below.refl _ _).alloc (Nat.le_refl _) _).alloc (by simp) _
  have z0 : ((w.alloc (.cells #[.int .i64 st, .slice pa nn cc, S b] 26)).alloc (.cells #[.int .i64 0, .slice none 0 0, S []] 26)).heap.size = w.heap.size + 2 := by simp
  have x0 : ((w.alloc (.cells #[.int .i64 st, .slice pa nn cc, S b] 26)).alloc (.cells #[.int .i64 0, .slice none 0 0, S []] 26)).heap[w.heap.size]? = some (.cells #[.int .i64 st, .slice pa nn cc, S b] 26 (0, 0)) := by rw [heap_alloc_old _ _ (by simp)]; exact heap_alloc_new _ _
  have x1 : ((w.alloc (.cells #[.int .i64 st, .slice pa nn cc, S b] 26)).alloc (.cells #[.int .i64 0, .slice none 0 0, S []] 26)).heap[w.heap.size + 1]? = some (.cells #[.int .i64 0, .slice none 0 0, S []] 26 (0, 0)) := by
    have := heap_alloc_new (w.alloc (.cells #[.int .i64 st, .slice pa nn cc, S b] 26)) (.cells #[.int .i64 0, .slice none 0 0, S []] 26)
    simpa using this
  have HH := hide (And.intro b0 (And.intro z0 (And.intro x0 (And.intro x1 (And.intro hp hL)))))
  have hq := pkv_lt st 500 (by decide)
  have HPK := hide (fun W => pick_any st 500 W (by decide) (by decide) s1 s2)
  generalize pkv st 500 = q at *
  clear b0 z0 x0 x1 hp hL
  go_enter Tryz.func14, Tryz.ntmps14
  go_wp2
  generalize (w.alloc (.cells #[.int .i64 st, .slice pa nn cc, S b] 26)).alloc (.cells #[.int .i64 0, .slice none 0 0, S []] 26) = W0 at *
  obtain ⟨b0, z0, x0, x1, hp, hL⟩ := unhide HH
  have hX : ∀ c L W, WdN W0 (w.heap.size + 1) q b c L W → W.heap[w.heap.size]? = some (.cells #[.int .i64 st, .slice pa nn cc, S b] 26 (0, 0)) := fun c L W h => (h.old (by omega) (by omega)).trans x0
  have hWb : ∀ c L W, WdN W0 (w.heap.size + 1) q b c L W → L 11 = false → Below w.heap.size w W := fun c L W h h14 => b0.trans ((h.wd0 h14).mono (by omega))
  refine ran w.heap.size (w.heap.size + 1) nn cc q st pa b rfl rfl rfl _ _ (show 14 ≤ 14 from by decide) rfl rfl (WdN W0 (w.heap.size + 1) q b) ⟨⟨none, 0, 0⟩, ?_⟩ ?_ ?_ ?_ ?_ ⟨by omega, by omega⟩ ?_ ?_ ?_ ?_ ?_ ?_
  · exact ⟨(fun q => nomatch q), (fun q => nomatch q), (fun q => nomatch q), fun _ => (Below.refl _ _).drew, (fun q => nomatch q)⟩
  · exact fun i hi c L W hW => hW.pure i (by simp at hi; omega)
  · exact fun c L W hW => cell_of_row W _ 0 _ 26 (0, 0) (hX c L W hW)
  · exact fun c L W hW => cell_of_row W _ 1 _ 26 (0, 0) (hX c L W hW)
  · exact fun c L W hW => cell_of_row W _ 2 _ 26 (0, 0) (hX c L W hW)
  · exact fun c L W hW h6 => hW.built h6
  · intro c L W hW hc
    refine (unhide HPK W).mono ?_
    rintro e w' ⟨rfl, rfl⟩
    exact ⟨rfl, hW.pure 2 (by omega)⟩
  · intro c L W hW hc
    have hbw := hWb c L W hW (hW.no11 hc).2
    refine (headers_any pa nn cc hs0 W (hp.below hbw) hL hn).mono ?_
    rintro e w' ⟨v, hs, rfl, hh⟩
    obtain ⟨a, k, rfl⟩ := owns_form hh.row
    refine ⟨⟨a, hs.length, k⟩, fun j hj => van_h _ _ _ _ _ _ _ c ⟨a, hs.length, k⟩ j (fun e => by rw [e, hc] at hj; cases hj) (fun e => by rw [e, (hW.no11 hc).1] at hj; cases hj), rfl, hW.third hc hh⟩
  · intro c L W hW hc
    refine (cut4_any b W (by omega)).mono ?_
    rintro e w' ⟨rfl, rfl⟩
    exact ⟨rfl, hW.pure 9 (by omega)⟩
  · intro c L W hW h14 h13
    have hA : W.heap[w.heap.size + 1]? = _ := ((hW.wd0 h14).block _ (by omega)).trans x1
    exact ⟨hW.stored h14 h13 hA, hA⟩
  intro c L W hall hW
  obtain ⟨Wp, hb, hWe⟩ := hW.wd1 (hall 11 (by decide))
  obtain ⟨hs, hcn, hrow, hnew, hfew, hall2⟩ := hW.hd (hall 6 (by decide))
  have hA : Wp.heap[w.heap.size + 1]? = _ := (hb.block _ (by omega)).trans x1
  have hAs := row3 hA (.int .i64 ((100 + q : Nat) : Int)) (.slice c.a c.n c.k) (S (b.take 4000))
  have hWs : W.heap[w.heap.size + 1]? = some (.cells #[.int .i64 ((100 + q : Nat) : Int), .slice c.a c.n c.k, S (b.take 4000)] 26 (0, 0)) := by rw [hWe]; exact hAs
  have e0 : W.cell? ⟨w.heap.size + 1, 0, none⟩ = some (.int .i64 ((100 + q : Nat) : Int)) := cell_of_row W _ 0 _ 26 (0, 0) hWs
  have e1 : W.cell? ⟨w.heap.size + 1, 1, none⟩ = some (.slice c.a c.n c.k) := cell_of_row W _ 1 _ 26 (0, 0) hWs
  have e2 : W.cell? ⟨w.heap.size + 1, 2, none⟩ = some (S (b.take 4000)) := cell_of_row W _ 2 _ 26 (0, 0) hWs
  have HBW := hide (show Below w.heap.size w W by
    rw [hWe]
    unfold set3
    exact (((b0.trans (hb.mono (by omega))).setCell (by show w.heap.size ≤ w.heap.size + 1; omega) _).setCell (by show w.heap.size ≤ w.heap.size + 1; omega) _).setCell (by show w.heap.size ≤ w.heap.size + 1; omega) _)
  have HFIN := hide (And.intro hcn (And.intro hrow (And.intro (fun j hj => Nat.le_trans (show w.heap.size ≤ W0.heap.size by omega) (hnew j hj)) (And.intro hfew hall2))))
  clear hX hWb hWe hWs hAs hA hrow hnew hfew hall2 hcn hb hW hall x0 x1 b0 z0 hp hL HH
  simp only [Act.put, List.setIfInBounds_toArray, List.set_cons_succ, List.set_cons_zero]
  have hq2 : Hid (100 ≤ 100 + q ∧ 100 + q ≤ 599) := hide (by omega)
  generalize 100 + q = nq at *
  go_wp2
  refine bodyPost_ret (v := .agg #[.int .i64 (nq : Nat), .slice c.a c.n c.k, S (b.take 4000)]) (by simp [results, Tryz.results14, go_sem, e0, e1, e2]) rfl ?_
  obtain ⟨hcn, hrow, hnew, hfew, hall2⟩ := unhide HFIN
  refine ⟨nq, hs, b.take 4000, c.a, c.k, by rw [hcn], ⟨unhide hq2, ?_, by have q := hrow; rw [hcn] at q; exact q, by have q := hnew; rw [hcn] at q; exact q, unhide HBW⟩⟩
  unfold flw
  rw [hall2, decide_eq_true ⟨hfew, by simp; omega⟩]
  rfl
end Go.Proofs.YthlacailhfhjnaaGreatDoor
