import Derived.Test.YtllialbdofklgaaGreatDoorRgsd
namespace Go.Proofs.YtllialbdofklgaaGreatDoor
open Go.RowKit
/-- What comes up as three rows are made: where they lie; and where lists of lists lie. -/
structure Ch3 where
  p1 : Option Addr
  c1 : Nat
  p2 : Option Addr
  c2 : Nat
  p3 : Option Addr
  c3 : Nat
  g1 : Nat
  g2 : Nat
  g3 : Nat
def vcq (X kl kc vl vc il ic : Nat) (ka va ia : Option Addr) (lf : Bool) (c : Ch3) (i : Nat) : Value := match i with
  | 0 => (.pointer (some ⟨X, 0 + 0, none⟩))
  | 1 => (.bool lf)
  | 2 => (.pointer (some ⟨X, 0 + 1, none⟩))
  | 3 => (.slice ka kl kc)
  | 4 => (.slice c.p1 kl c.c1)
  | 5 => (.pointer (some ⟨X, 0 + 2, none⟩))
  | 6 => (.slice va vl vc)
  | 7 => (.slice c.p2 vl c.c2)
  | 8 => (.pointer (some ⟨X, 0 + 3, none⟩))
  | 9 => (.slice ia il ic)
  | 10 => (.slice c.p3 il c.c3)
  | 11 => (.agg #[.bool lf, .slice c.p1 kl c.c1, .slice c.p2 vl c.c2, .slice c.p3 il c.c3])
  | 12 => undef
  | _ => undef
def rcqT : List (Op × Option Tmp × Option (Nat × Bool)) := [
  (.fieldAddr 25 (.tmp 1) 0, some 3, none),
  (.load 4 (.tmp 3), some 4, none),
  (.fieldAddr 25 (.tmp 1) 1, some 5, none),
  (.load 22 (.tmp 5), some 6, none),
  (.call { callee := .value (.func 100), args := #[(.tmp 6)], argTypes := #[22] }, some 7, none),
  (.fieldAddr 25 (.tmp 1) 2, some 8, none),
  (.load 22 (.tmp 8), some 9, none),
  (.call { callee := .value (.func 100), args := #[(.tmp 9)], argTypes := #[22] }, some 10, none),
  (.fieldAddr 25 (.tmp 1) 3, some 11, none),
  (.load 23 (.tmp 11), some 12, none),
  (.call { callee := .value (.func 61), args := #[(.tmp 12)], argTypes := #[23] }, some 13, none),
  (.build 25 #[(0, (.tmp 4)), (1, (.tmp 7)), (2, (.tmp 10)), (3, (.tmp 13))], some 14, none),
  (.store 25 (.tmp 2) (.tmp 14), none, none)]
def rcqD : List (Nat × Nat) := [(1, 0), (3, 2), (4, 3), (6, 5), (7, 6), (9, 8), (10, 9), (11, 1), (11, 4), (11, 7), (11, 10), (12, 11)]
set_option maxHeartbeats 2000000 in
theorem rcq {ops : Array Oper} {id : Nat} {Q : Exit → Act → World → Prop} (X A kl kc vl vc il ic : Nat) (ka va ia : Option Addr) (lf : Bool) (htab : ops.toList.map (fun o => (o.op, o.dst, o.guard)) = rcqT) (hdep : deplB rcqD ops = true) (hac : acB ops = true)
    (a0 : Act) (w : World) (hsz : 15 ≤ a0.tmps.size) (o1 : a0.tmps[1]? = some (.pointer (some ⟨X, 0, none⟩))) (o2 : a0.tmps[2]? = some (.pointer (some ⟨A, 0, none⟩)))
    (Wd : Ch3 → (Nat → Bool) → World → Prop) (h0 : ∃ c, Wd c (fun _ => false) w.drew) (hpure : ∀ i, i ∉ ([4, 7, 10, 12, 11] : List Nat) → ∀ c L W, Wd c L W → Wd c (upd L i) W)
    (l1 : ∀ c L W, Wd c L W → W.cell? ⟨X, 0 + 0, none⟩ = some (.bool lf))
    (l3 : ∀ c L W, Wd c L W → W.cell? ⟨X, 0 + 1, none⟩ = some (.slice ka kl kc))
    (l6 : ∀ c L W, Wd c L W → W.cell? ⟨X, 0 + 2, none⟩ = some (.slice va vl vc))
    (l9 : ∀ c L W, Wd c L W → W.cell? ⟨X, 0 + 3, none⟩ = some (.slice ia il ic))
    (hpure11 : ∀ c L W, Wd c L W → L 4 = true → L 7 = true → L 10 = true → Wd c (upd L 11) W)
    (c4 : ∀ c L W, Wd c L W → L 4 = false → Calls Tryz.prog 100 #[.slice ka kl kc] W fun e w' => ∃ c' : Ch3, (∀ j, L j = true → vcq X kl kc vl vc il ic ka va ia lf c' j = vcq X kl kc vl vc il ic ka va ia lf c j) ∧ e = .returned (.slice c'.p1 kl c'.c1) ∧ Wd c' (upd L 4) w')
    (c7 : ∀ c L W, Wd c L W → L 7 = false → Calls Tryz.prog 100 #[.slice va vl vc] W fun e w' => ∃ c' : Ch3, (∀ j, L j = true → vcq X kl kc vl vc il ic ka va ia lf c' j = vcq X kl kc vl vc il ic ka va ia lf c j) ∧ e = .returned (.slice c'.p2 vl c'.c2) ∧ Wd c' (upd L 7) w')
    (c10 : ∀ c L W, Wd c L W → L 10 = false → Calls Tryz.prog 61 #[.slice ia il ic] W fun e w' => ∃ c' : Ch3, (∀ j, L j = true → vcq X kl kc vl vc il ic ka va ia lf c' j = vcq X kl kc vl vc il ic ka va ia lf c j) ∧ e = .returned (.slice c'.p3 il c'.c3) ∧ Wd c' (upd L 10) w')
    (n12 : ∀ c L W, Wd c L W → L 12 = false → L 11 = true → Wd c (upd L 12) ((((W.setCell ⟨A, 0, none⟩ (.bool lf)).setCell ⟨A, 1, none⟩ (.slice c.p1 kl c.c1)).setCell ⟨A, 2, none⟩ (.slice c.p2 vl c.c2)).setCell ⟨A, 3, none⟩ (.slice c.p3 il c.c3)) ∧ W.heap[A]? = some (.cells #[.bool false, .slice none 0 0, .slice none 0 0, .slice none 0 0] 25 (0, 0)))
    (hend : ∀ c L W, (∀ i, i < 13 → L i = true) → Wd c L W → Q .normal ((((((((((((a0.put (some 3) (.pointer (some ⟨X, 0 + 0, none⟩))).put (some 4) (.bool lf)).put (some 5) (.pointer (some ⟨X, 0 + 1, none⟩))).put (some 6) (.slice ka kl kc)).put (some 7) (.slice c.p1 kl c.c1)).put (some 8) (.pointer (some ⟨X, 0 + 2, none⟩))).put (some 9) (.slice va vl vc)).put (some 10) (.slice c.p2 vl c.c2)).put (some 11) (.pointer (some ⟨X, 0 + 3, none⟩))).put (some 12) (.slice ia il ic)).put (some 13) (.slice c.p3 il c.c3)).put (some 14) (.agg #[.bool lf, .slice c.p1 kl c.c1, .slice c.p2 vl c.c2, .slice c.p3 il c.c3])) W) : (Code.region id ops true).wp Tryz.prog Q a0 w := by
  let val : Ch3 → Nat → Value := vcq X kl kc vl vc il ic ka va ia lf
  have hosz : ops.size = 13 := by
    have := congrArg List.length htab
    simpa [rcqT] using this
  have hds : ∀ i s, (rcqT[i]?).bind (·.2.1) = some s → dstOf ops i = some s := fun i s hi => by rw [tab_dst htab, hi]
  have hdisB : disL rcqT = true := by rfl
  have hdis := disL_of htab hdisB
  have hold : ∀ s, rcqT.all (fun x => !(x.2.1 == some s)) = true → (List.range ops.size).all (fun j => !(dstOf ops j == some s)) = true := fun s h => holdL htab s h
  refine region_detX val Wd (hac_of hac) hdis h0 ?_ ?_
  rotate_left
  · intro c L W hall hW
    have := hend c L W (by rw [← hosz]; exact hall) hW
    have e : frm ops a0 (val c) (fun _ => true) ops.size = ((((((((((((a0.put (some 3) (.pointer (some ⟨X, 0 + 0, none⟩))).put (some 4) (.bool lf)).put (some 5) (.pointer (some ⟨X, 0 + 1, none⟩))).put (some 6) (.slice ka kl kc)).put (some 7) (.slice c.p1 kl c.c1)).put (some 8) (.pointer (some ⟨X, 0 + 2, none⟩))).put (some 9) (.slice va vl vc)).put (some 10) (.slice c.p2 vl c.c2)).put (some 11) (.pointer (some ⟨X, 0 + 3, none⟩))).put (some 12) (.slice ia il ic)).put (some 13) (.slice c.p3 il c.c3)).put (some 14) (.agg #[.bool lf, .slice c.p1 kl c.c1, .slice c.p2 vl c.c2, .slice c.p3 il c.c3])) := by
      rw [hosz]
      simp only [frm, if_true]
      rw [tab_dst htab 0, tab_dst htab 1, tab_dst htab 2, tab_dst htab 3, tab_dst htab 4, tab_dst htab 5, tab_dst htab 6, tab_dst htab 7, tab_dst htab 8, tab_dst htab 9, tab_dst htab 10, tab_dst htab 11, (show dstOf ops 12 = none from (tab_dst htab 12).trans rfl), put_none]
      rfl
    rw [e]
    exact this
  intro i o ho c L a w' hL hd ha hW
  have hi : i < 13 := by rw [← hosz]; exact (Array.getElem?_eq_some_iff.1 ho).1
  match i, ho, hL, hi with
  | 0, ho, hL, _ =>
    obtain ⟨hop, hdst, hgd⟩ := tab_at htab ho (show rcqT[0]? = _ from rfl)
    simp only at hop hgd
    have h0 := frm_old (val := val c) ha 1 _ (hold 1 rfl) o1
    exact doesX_of (doesL_run ho (wanted_none hgd) (hpure 0 (by decide) c L w' hW) (run_f25_0 _ _ _ hop _ _ (eval_of h0) _))
  | 1, ho, hL, _ =>
    obtain ⟨hop, hdst, hgd⟩ := tab_at htab ho (show rcqT[1]? = _ from rfl)
    simp only at hop hgd
    have h0 := frm_at (val := val c) hdis ha 0 3 (hds 0 3 rfl) (by omega) (depl_of hdep 1 0 (by decide) ho hd)
    exact doesX_of (doesL_run ho (wanted_none hgd) (hpure 1 (by decide) c L w' hW) (run_ld4 _ _ _ hop _ _ (eval_of h0) _ (l1 c L w' hW)))
  | 2, ho, hL, _ =>
    obtain ⟨hop, hdst, hgd⟩ := tab_at htab ho (show rcqT[2]? = _ from rfl)
    simp only at hop hgd
    have h0 := frm_old (val := val c) ha 1 _ (hold 1 rfl) o1
    exact doesX_of (doesL_run ho (wanted_none hgd) (hpure 2 (by decide) c L w' hW) (run_f25_1 _ _ _ hop _ _ (eval_of h0) _))
  | 3, ho, hL, _ =>
    obtain ⟨hop, hdst, hgd⟩ := tab_at htab ho (show rcqT[3]? = _ from rfl)
    simp only at hop hgd
    have h0 := frm_at (val := val c) hdis ha 2 5 (hds 2 5 rfl) (by omega) (depl_of hdep 3 2 (by decide) ho hd)
    exact doesX_of (doesL_run ho (wanted_none hgd) (hpure 3 (by decide) c L w' hW) (run_ld22 _ _ _ hop _ _ (eval_of h0) _ (l3 c L w' hW)))
  | 4, ho, hL, _ =>
    obtain ⟨hop, hdst, hgd⟩ := tab_at htab ho (show rcqT[4]? = _ from rfl)
    simp only at hop hgd
    have h0 := frm_at (val := val c) hdis ha 3 6 (hds 3 6 rfl) (by omega) (depl_of hdep 4 3 (by decide) ho hd)
    refine doesX_call ho (wanted_none hgd) 100 #[.slice ka kl kc] ?_ (c4 c L w' hW hL)
    rw [run_calls Tryz.func100 (by kernel_rfl) rfl _ _ _ _ hop rfl]
    simp only [List.map_toArray, List.map_cons, List.map_nil, eval_of h0]
    all_goals rfl
  | 5, ho, hL, _ =>
    obtain ⟨hop, hdst, hgd⟩ := tab_at htab ho (show rcqT[5]? = _ from rfl)
    simp only at hop hgd
    have h0 := frm_old (val := val c) ha 1 _ (hold 1 rfl) o1
    exact doesX_of (doesL_run ho (wanted_none hgd) (hpure 5 (by decide) c L w' hW) (run_f25_2 _ _ _ hop _ _ (eval_of h0) _))
  | 6, ho, hL, _ =>
    obtain ⟨hop, hdst, hgd⟩ := tab_at htab ho (show rcqT[6]? = _ from rfl)
    simp only at hop hgd
    have h0 := frm_at (val := val c) hdis ha 5 8 (hds 5 8 rfl) (by omega) (depl_of hdep 6 5 (by decide) ho hd)
    exact doesX_of (doesL_run ho (wanted_none hgd) (hpure 6 (by decide) c L w' hW) (run_ld22 _ _ _ hop _ _ (eval_of h0) _ (l6 c L w' hW)))
  | 7, ho, hL, _ =>
    obtain ⟨hop, hdst, hgd⟩ := tab_at htab ho (show rcqT[7]? = _ from rfl)
    simp only at hop hgd
    have h0 := frm_at (val := val c) hdis ha 6 9 (hds 6 9 rfl) (by omega) (depl_of hdep 7 6 (by decide) ho hd)
    refine doesX_call ho (wanted_none hgd) 100 #[.slice va vl vc] ?_ (c7 c L w' hW hL)
    rw [run_calls Tryz.func100 (by kernel_rfl) rfl _ _ _ _ hop rfl]
    simp only [List.map_toArray, List.map_cons, List.map_nil, eval_of h0]
    all_goals rfl
  | 8, ho, hL, _ =>
    obtain ⟨hop, hdst, hgd⟩ := tab_at htab ho (show rcqT[8]? = _ from rfl)
    simp only at hop hgd
    have h0 := frm_old (val := val c) ha 1 _ (hold 1 rfl) o1
    exact doesX_of (doesL_run ho (wanted_none hgd) (hpure 8 (by decide) c L w' hW) (run_f25_3 _ _ _ hop _ _ (eval_of h0) _))
  | 9, ho, hL, _ =>
    obtain ⟨hop, hdst, hgd⟩ := tab_at htab ho (show rcqT[9]? = _ from rfl)
    simp only at hop hgd
    have h0 := frm_at (val := val c) hdis ha 8 11 (hds 8 11 rfl) (by omega) (depl_of hdep 9 8 (by decide) ho hd)
    exact doesX_of (doesL_run ho (wanted_none hgd) (hpure 9 (by decide) c L w' hW) (run_ld23 _ _ _ hop _ _ (eval_of h0) _ (l9 c L w' hW)))
  | 10, ho, hL, _ =>
    obtain ⟨hop, hdst, hgd⟩ := tab_at htab ho (show rcqT[10]? = _ from rfl)
    simp only at hop hgd
    have h0 := frm_at (val := val c) hdis ha 9 12 (hds 9 12 rfl) (by omega) (depl_of hdep 10 9 (by decide) ho hd)
    refine doesX_call ho (wanted_none hgd) 61 #[.slice ia il ic] ?_ (c10 c L w' hW hL)
    rw [run_calls Tryz.func61 (by kernel_rfl) rfl _ _ _ _ hop rfl]
    simp only [List.map_toArray, List.map_cons, List.map_nil, eval_of h0]
    all_goals rfl
  | 11, ho, hL, _ =>
    obtain ⟨hop, hdst, hgd⟩ := tab_at htab ho (show rcqT[11]? = _ from rfl)
    simp only at hop hgd
    have h0 := frm_at (val := val c) hdis ha 1 4 (hds 1 4 rfl) (by omega) (depl_of hdep 11 1 (by decide) ho hd)
    have h1 := frm_at (val := val c) hdis ha 4 7 (hds 4 7 rfl) (by omega) (depl_of hdep 11 4 (by decide) ho hd)
    have h2 := frm_at (val := val c) hdis ha 7 10 (hds 7 10 rfl) (by omega) (depl_of hdep 11 7 (by decide) ho hd)
    have h3 := frm_at (val := val c) hdis ha 10 13 (hds 10 13 rfl) (by omega) (depl_of hdep 11 10 (by decide) ho hd)
    exact doesX_of (doesL_run ho (wanted_none hgd) (hpure11 c L w' hW (depl_of hdep 11 4 (by decide) ho hd) (depl_of hdep 11 7 (by decide) ho hd) (depl_of hdep 11 10 (by decide) ho hd)) (run_build25 _ _ _ _ _ _ hop _ _ _ _ _ _ _ _ _ _ (eval_of h0) (eval_of h1) (eval_of h2) (eval_of h3) _))
  | 12, ho, hL, _ =>
    obtain ⟨hop, hdst, hgd⟩ := tab_at htab ho (show rcqT[12]? = _ from rfl)
    simp only at hop hgd
    have h0 := frm_old (val := val c) ha 2 _ (hold 2 rfl) o2
    have h1 := frm_at (val := val c) hdis ha 11 14 (hds 11 14 rfl) (by omega) (depl_of hdep 12 11 (by decide) ho hd)
    obtain ⟨s1, s2⟩ := n12 c L w' hW hL (depl_of hdep 12 11 (by decide) ho hd)
    exact doesX_of (doesL_skp ho (wanted_none hgd) rfl s1 (run_st25 _ _ _ _ hop _ _ _ _ _ (eval_of h0) (eval_of h1) _ _ _ _ _ s2 ⟨rfl, rfl, rfl, rfl⟩))
  | (i + 13), ho, hL, hi => exact absurd hi (by omega)
end Go.Proofs.YtllialbdofklgaaGreatDoor
