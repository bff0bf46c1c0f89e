import Derived.Test.YthlacailhfhjnaaGreatDoorDetl
import Derived.Test.YthlacailhfhjnaaGreatDoorZzan
import Derived.Test.YthlacailhfhjnaaGreatDoorZzai
import Derived.Deep.QuietTactic
import Derived.BigQuiet
namespace Go.Proofs.YthlacailhfhjnaaGreatDoor
open Go.RowKit Go.Lib
def rprT : List (Op × Option Tmp × Option (Nat × Bool)) := [
  (.fieldAddr 26 (.tmp 1) 0, some 16, none),
  (.load 3 (.tmp 16), some 17, none),
  (.call { callee := .value (.func 67), args := #[(.tmp 17)], argTypes := #[3] }, some 18, none),
  (.binOp .add 9 (.const (.string ⟨#[72, 84, 84, 80, 47, 49, 46, 49, 32]⟩)) (.tmp 18) 9, some 19, none),
  (.binOp .add 9 (.tmp 19) (.const (.string ⟨#[32]⟩)) 9, some 20, none),
  (.fieldAddr 26 (.tmp 1) 0, some 21, none),
  (.load 3 (.tmp 21), some 22, none),
  (.call { callee := .value (.func 68), args := #[(.tmp 22)], argTypes := #[3] }, some 23, none),
  (.binOp .add 9 (.tmp 20) (.tmp 23) 9, some 24, none),
  (.fieldAddr 26 (.tmp 1) 1, some 25, none),
  (.load 22 (.tmp 25), some 26, none),
  (.fieldAddr 26 (.tmp 1) 2, some 27, none),
  (.load 9 (.tmp 27), some 28, none),
  (.call { callee := .value (.func 65), args := #[(.tmp 24), (.tmp 26), (.tmp 28)], argTypes := #[9, 22, 9] }, some 29, none),
  (.assign (.tmp 29), some 2, none),
  (.assign (.const (.int .i64 0)), some 3, none)]
def rprD : List (Nat × Nat) := [(1, 0), (2, 1), (3, 2), (4, 3), (6, 5), (7, 6), (8, 4), (8, 7), (10, 9), (12, 11), (13, 8), (13, 10), (13, 12), (14, 13)]
set_option maxHeartbeats 2000000 in
theorem rpr {ops : Array Oper} {id : Nat} {Q : Exit → Act → World → Prop} (X m ca : Nat) (st : Int) (pa : Option Addr) (D R b Y : Bs) (htab : ops.toList.map (fun o => (o.op, o.dst, o.guard)) = rprT) (hdep : deplB rprD ops = true) (hac : acB ops = true)
    (a0 : Act) (w : World) (hsz : 30 ≤ a0.tmps.size) (o1 : a0.tmps[1]? = some (.pointer (some ⟨X, 0, none⟩)))
    (Wd : (Nat → Bool) → World → Prop) (h0 : Wd (fun _ => false) w.drew) (hpure : ∀ i, i ∉ ([2, 7, 13] : List Nat) → ∀ L W, Wd L W → Wd (upd L i) W)
    (l1 : ∀ L W, Wd L W → W.cell? ⟨X, 0 + 0, none⟩ = some (.int .i64 st)) (l6 : ∀ L W, Wd L W → W.cell? ⟨X, 0 + 0, none⟩ = some (.int .i64 st)) (l10 : ∀ L W, Wd L W → W.cell? ⟨X, 0 + 1, none⟩ = some (.slice pa m ca)) (l12 : ∀ L W, Wd L W → W.cell? ⟨X, 0 + 2, none⟩ = some (S b))
    (a3 : [72, 84, 84, 80, 47, 49, 46, 49, 32].length + D.length ≤ 1000000000000) (a4 : ([72, 84, 84, 80, 47, 49, 46, 49, 32] ++ D).length + [32].length ≤ 1000000000000) (a8 : ([72, 84, 84, 80, 47, 49, 46, 49, 32] ++ D ++ [32]).length + R.length ≤ 1000000000000)
    (c2 : ∀ L W, Wd L W → L 2 = false → Calls Tryz.prog 67 #[.int .i64 st] W fun e w' => e = .returned (S D) ∧ Wd (upd L 2) w')
    (c7 : ∀ L W, Wd L W → L 7 = false → Calls Tryz.prog 68 #[.int .i64 st] W fun e w' => e = .returned (S R) ∧ Wd (upd L 7) w')
    (c13 : ∀ L W, Wd L W → L 13 = false → Calls Tryz.prog 65 #[S ([72, 84, 84, 80, 47, 49, 46, 49, 32] ++ D ++ [32] ++ R), .slice pa m ca, S b] W fun e w' => e = .returned (S Y) ∧ Wd (upd L 13) w')
    (hend : ∀ L W, (∀ i, i < 16 → L i = true) → Wd L W → Q .normal ((((((((((((((((a0.put (some 16) (.pointer (some ⟨X, 0 + 0, none⟩))).put (some 17) (.int .i64 st)).put (some 18) (S D)).put (some 19) (S ([72, 84, 84, 80, 47, 49, 46, 49, 32] ++ D))).put (some 20) (S ([72, 84, 84, 80, 47, 49, 46, 49, 32] ++ D ++ [32]))).put (some 21) (.pointer (some ⟨X, 0 + 0, none⟩))).put (some 22) (.int .i64 st)).put (some 23) (S R)).put (some 24) (S ([72, 84, 84, 80, 47, 49, 46, 49, 32] ++ D ++ [32] ++ R))).put (some 25) (.pointer (some ⟨X, 0 + 1, none⟩))).put (some 26) (.slice pa m ca)).put (some 27) (.pointer (some ⟨X, 0 + 2, none⟩))).put (some 28) (S b)).put (some 29) (S Y)).put (some 2) (S Y)).put (some 3) (.int .i64 0)) W) : (Code.region id ops true).wp Tryz.prog Q a0 w := by
  let val : Nat → Value := fun i => match i with
    | 0 => (.pointer (some ⟨X, 0 + 0, none⟩))
    | 1 => (.int .i64 st)
    | 2 => (S D)
    | 3 => (S ([72, 84, 84, 80, 47, 49, 46, 49, 32] ++ D))
    | 4 => (S ([72, 84, 84, 80, 47, 49, 46, 49, 32] ++ D ++ [32]))
    | 5 => (.pointer (some ⟨X, 0 + 0, none⟩))
    | 6 => (.int .i64 st)
    | 7 => (S R)
    | 8 => (S ([72, 84, 84, 80, 47, 49, 46, 49, 32] ++ D ++ [32] ++ R))
    | 9 => (.pointer (some ⟨X, 0 + 1, none⟩))
    | 10 => (.slice pa m ca)
    | 11 => (.pointer (some ⟨X, 0 + 2, none⟩))
    | 12 => (S b)
    | 13 => (S Y)
    | 14 => (S Y)
    | 15 => (.int .i64 0)
    | _ => undef
  have hosz : ops.size = 16 := by
    have := congrArg List.length htab
    simpa [rprT] using this
  have hds : ∀ i s, (rprT[i]?).bind (·.2.1) = some s → dstOf ops i = some s := fun i s hi => by rw [tab_dst htab, hi]
  have hdisB : disL rprT = true := by rfl
  have hdis := disL_of htab hdisB
  have hold : ∀ s, rprT.all (fun x => !(x.2.1 == some s)) = true → (List.range ops.size).all (fun j => !(dstOf ops j == some s)) = true := fun s h => holdL htab s h
  refine region_detL val Wd (hac_of hac) hdis h0 ?_ ?_
  rotate_left
  · intro L W hall hW
    have := hend L W (by rw [← hosz]; exact hall) hW
    have e : frm ops a0 val (fun _ => true) ops.size = ((((((((((((((((a0.put (some 16) (.pointer (some ⟨X, 0 + 0, none⟩))).put (some 17) (.int .i64 st)).put (some 18) (S D)).put (some 19) (S ([72, 84, 84, 80, 47, 49, 46, 49, 32] ++ D))).put (some 20) (S ([72, 84, 84, 80, 47, 49, 46, 49, 32] ++ D ++ [32]))).put (some 21) (.pointer (some ⟨X, 0 + 0, none⟩))).put (some 22) (.int .i64 st)).put (some 23) (S R)).put (some 24) (S ([72, 84, 84, 80, 47, 49, 46, 49, 32] ++ D ++ [32] ++ R))).put (some 25) (.pointer (some ⟨X, 0 + 1, none⟩))).put (some 26) (.slice pa m ca)).put (some 27) (.pointer (some ⟨X, 0 + 2, none⟩))).put (some 28) (S b)).put (some 29) (S Y)).put (some 2) (S Y)).put (some 3) (.int .i64 0)) := by
      rw [hosz]
      simp only [frm, if_true]
      rw [tab_dst htab 0, tab_dst htab 1, tab_dst htab 2, tab_dst htab 3, tab_dst htab 4, tab_dst htab 5, tab_dst htab 6, tab_dst htab 7, tab_dst htab 8, tab_dst htab 9, tab_dst htab 10, tab_dst htab 11, tab_dst htab 12, tab_dst htab 13, tab_dst htab 14, tab_dst htab 15]
      rfl
    rw [e]
    exact this
  intro i o ho L a w' hL hd ha hW
  have hi : i < 16 := by rw [← hosz]; exact (Array.getElem?_eq_some_iff.1 ho).1
  match i, ho, hL, hi with
  | 0, ho, hL, _ =>
    obtain ⟨hop, hdst, hgd⟩ := tab_at htab ho (show rprT[0]? = _ from rfl)
    simp only at hop hgd
    have h0 := frm_old ha 1 _ (hold 1 rfl) o1
    exact doesL_run ho (wanted_none hgd) (hpure 0 (by decide) L w' hW) (run_f26_0 _ _ _ hop _ _ (eval_of h0) _)
  | 1, ho, hL, _ =>
    obtain ⟨hop, hdst, hgd⟩ := tab_at htab ho (show rprT[1]? = _ from rfl)
    simp only at hop hgd
    have h0 := frm_at hdis ha 0 16 (hds 0 16 rfl) (by omega) (depl_of hdep 1 0 (by decide) ho hd)
    exact doesL_run ho (wanted_none hgd) (hpure 1 (by decide) L w' hW) (run_ld3 _ _ _ hop _ _ (eval_of h0) _ (l1 L w' hW))
  | 2, ho, hL, _ =>
    obtain ⟨hop, hdst, hgd⟩ := tab_at htab ho (show rprT[2]? = _ from rfl)
    simp only at hop hgd
    have h0 := frm_at hdis ha 1 17 (hds 1 17 rfl) (by omega) (depl_of hdep 2 1 (by decide) ho hd)
    refine doesL_call ho (wanted_none hgd) 67 #[.int .i64 st] ?_ (c2 L w' hW hL)
    rw [run_calls Tryz.func67 (by kernel_rfl) rfl _ _ _ _ hop rfl]
    simp only [List.map_toArray, List.map_cons, List.map_nil, eval_of h0]
    all_goals rfl
  | 3, ho, hL, _ =>
    obtain ⟨hop, hdst, hgd⟩ := tab_at htab ho (show rprT[3]? = _ from rfl)
    simp only at hop hgd
    have h1 := frm_at hdis ha 2 18 (hds 2 18 rfl) (by omega) (depl_of hdep 3 2 (by decide) ho hd)
    exact doesL_run ho (wanted_none hgd) (hpure 3 (by decide) L w' hW) (run_cat _ _ _ _ hop _ _ a3 rfl (eval_of h1) _)
  | 4, ho, hL, _ =>
    obtain ⟨hop, hdst, hgd⟩ := tab_at htab ho (show rprT[4]? = _ from rfl)
    simp only at hop hgd
    have h0 := frm_at hdis ha 3 19 (hds 3 19 rfl) (by omega) (depl_of hdep 4 3 (by decide) ho hd)
    exact doesL_run ho (wanted_none hgd) (hpure 4 (by decide) L w' hW) (run_cat _ _ _ _ hop _ _ a4 (eval_of h0) rfl _)
  | 5, ho, hL, _ =>
    obtain ⟨hop, hdst, hgd⟩ := tab_at htab ho (show rprT[5]? = _ from rfl)
    simp only at hop hgd
    have h0 := frm_old ha 1 _ (hold 1 rfl) o1
    exact doesL_run ho (wanted_none hgd) (hpure 5 (by decide) L w' hW) (run_f26_0 _ _ _ hop _ _ (eval_of h0) _)
  | 6, ho, hL, _ =>
    obtain ⟨hop, hdst, hgd⟩ := tab_at htab ho (show rprT[6]? = _ from rfl)
    simp only at hop hgd
    have h0 := frm_at hdis ha 5 21 (hds 5 21 rfl) (by omega) (depl_of hdep 6 5 (by decide) ho hd)
    exact doesL_run ho (wanted_none hgd) (hpure 6 (by decide) L w' hW) (run_ld3 _ _ _ hop _ _ (eval_of h0) _ (l6 L w' hW))
  | 7, ho, hL, _ =>
    obtain ⟨hop, hdst, hgd⟩ := tab_at htab ho (show rprT[7]? = _ from rfl)
    simp only at hop hgd
    have h0 := frm_at hdis ha 6 22 (hds 6 22 rfl) (by omega) (depl_of hdep 7 6 (by decide) ho hd)
    refine doesL_call ho (wanted_none hgd) 68 #[.int .i64 st] ?_ (c7 L w' hW hL)
    rw [run_calls Tryz.func68 (by kernel_rfl) rfl _ _ _ _ hop rfl]
    simp only [List.map_toArray, List.map_cons, List.map_nil, eval_of h0]
    all_goals rfl
  | 8, ho, hL, _ =>
    obtain ⟨hop, hdst, hgd⟩ := tab_at htab ho (show rprT[8]? = _ from rfl)
    simp only at hop hgd
    have h0 := frm_at hdis ha 4 20 (hds 4 20 rfl) (by omega) (depl_of hdep 8 4 (by decide) ho hd)
    have h1 := frm_at hdis ha 7 23 (hds 7 23 rfl) (by omega) (depl_of hdep 8 7 (by decide) ho hd)
    exact doesL_run ho (wanted_none hgd) (hpure 8 (by decide) L w' hW) (run_cat _ _ _ _ hop _ _ a8 (eval_of h0) (eval_of h1) _)
  | 9, ho, hL, _ =>
    obtain ⟨hop, hdst, hgd⟩ := tab_at htab ho (show rprT[9]? = _ from rfl)
    simp only at hop hgd
    have h0 := frm_old ha 1 _ (hold 1 rfl) o1
    exact doesL_run ho (wanted_none hgd) (hpure 9 (by decide) L w' hW) (run_f26_1 _ _ _ hop _ _ (eval_of h0) _)
  | 10, ho, hL, _ =>
    obtain ⟨hop, hdst, hgd⟩ := tab_at htab ho (show rprT[10]? = _ from rfl)
    simp only at hop hgd
    have h0 := frm_at hdis ha 9 25 (hds 9 25 rfl) (by omega) (depl_of hdep 10 9 (by decide) ho hd)
    exact doesL_run ho (wanted_none hgd) (hpure 10 (by decide) L w' hW) (run_ld22 _ _ _ hop _ _ (eval_of h0) _ (l10 L w' hW))
  | 11, ho, hL, _ =>
    obtain ⟨hop, hdst, hgd⟩ := tab_at htab ho (show rprT[11]? = _ from rfl)
    simp only at hop hgd
    have h0 := frm_old ha 1 _ (hold 1 rfl) o1
    exact doesL_run ho (wanted_none hgd) (hpure 11 (by decide) L w' hW) (run_f26_2 _ _ _ hop _ _ (eval_of h0) _)
  | 12, ho, hL, _ =>
    obtain ⟨hop, hdst, hgd⟩ := tab_at htab ho (show rprT[12]? = _ from rfl)
    simp only at hop hgd
    have h0 := frm_at hdis ha 11 27 (hds 11 27 rfl) (by omega) (depl_of hdep 12 11 (by decide) ho hd)
    exact doesL_run ho (wanted_none hgd) (hpure 12 (by decide) L w' hW) (run_ld _ _ _ hop _ _ (eval_of h0) _ (l12 L w' hW))
  | 13, ho, hL, _ =>
    obtain ⟨hop, hdst, hgd⟩ := tab_at htab ho (show rprT[13]? = _ from rfl)
    simp only at hop hgd
    have h0 := frm_at hdis ha 8 24 (hds 8 24 rfl) (by omega) (depl_of hdep 13 8 (by decide) ho hd)
    have h1 := frm_at hdis ha 10 26 (hds 10 26 rfl) (by omega) (depl_of hdep 13 10 (by decide) ho hd)
    have h2 := frm_at hdis ha 12 28 (hds 12 28 rfl) (by omega) (depl_of hdep 13 12 (by decide) ho hd)
    refine doesL_call ho (wanted_none hgd) 65 #[S ([72, 84, 84, 80, 47, 49, 46, 49, 32] ++ D ++ [32] ++ R), .slice pa m ca, S b] ?_ (c13 L w' hW hL)
    rw [run_calls Tryz.func65 (by kernel_rfl) rfl _ _ _ _ hop rfl]
    simp only [List.map_toArray, List.map_cons, List.map_nil, eval_of h0, eval_of h1, eval_of h2]
    all_goals rfl
  | 14, ho, hL, _ =>
    obtain ⟨hop, hdst, hgd⟩ := tab_at htab ho (show rprT[14]? = _ from rfl)
    simp only at hop hgd
    have h0 := frm_at hdis ha 13 29 (hds 13 29 rfl) (by omega) (depl_of hdep 14 13 (by decide) ho hd)
    exact doesL_run ho (wanted_none hgd) (hpure 14 (by decide) L w' hW) (by rw [run_assign _ _ _ hop]; exact congrArg (fun v => Result.ok (Next.value v) w') (eval_of h0))
  | 15, ho, hL, _ =>
    obtain ⟨hop, hdst, hgd⟩ := tab_at htab ho (show rprT[15]? = _ from rfl)
    simp only at hop hgd
    exact doesL_run ho (wanted_none hgd) (hpure 15 (by decide) L w' hW) (by rw [run_assign _ _ _ hop]; exact congrArg (fun v => Result.ok (Next.value v) w') rfl)
  | (i + 16), ho, hL, hi => exact absurd hi (by omega)
end Go.Proofs.YthlacailhfhjnaaGreatDoor
namespace Go.Proofs.YthlacailhfhjnaaGreatDoor
open Go.RowKit Go.Lib
def aline (n : Nat) : Bs := [72, 84, 84, 80, 47, 49, 46, 49, 32] ++ decDigits n ++ [32] ++ rsn n
def pans (st : Int) (hs : List Fl) (b : Bs) : Bs × Nat := if stat st && flw hs b then (lay (aline st.toNat) hs b, 0) else ([], 55)
set_option maxHeartbeats 8000000 in
set_option maxRecDepth 8000 in
theorem printAnswer_any {B : Nat} (st : Int) (mh : List Fl) (mb : Bs) (a : Option Addr) (n cap : Nat) (w : World) (hp : Fls w a n mh) (hE : Env B w) (hL : Lens mh) (h3 : mb.length ≤ 140737488351232) (hn : n ≤ 140737488351232) :
    Calls Tryz.prog 32 #[.agg #[.int .i64 st, .slice a n cap, S mb]] w fun e w' => e = .returned (.tuple #[S (pans st mh mb).1, .int .i64 (pans st mh mb).2]) ∧ Below w.heap.size w w' := by
  have HM := hide (fun W => isStatus_any st W)
  have b0 : Below w.heap.size w (w.alloc (.cells #[.int .i64 st, .slice a n cap, S mb] 26)) := (Below.refl _ _).alloc (Nat.le_refl _) _
  have HF := hide (fun W (h : Below w.heap.size w W) => mayFollow_any a n cap mh mb W (hp.below h) hL hn (by omega))
  have HLY := hide (fun W (h : Below w.heap.size w W) (first : Bs) (g1 : first.length ≤ 1000000000000) (g2 : (hlns mh).length ≤ 1000000000000) (g3 : mb.length ≤ 1000000000000) (g4 : n ≤ 1000000000000) => lay_any first a n cap mh mb W (hp.below h) (hE.mono.below h) g1 g2 g3 g4)
  have HNL := hide hp.1
  have HB0 := hide b0
  have HE := hide hE.mono
  have HX : Hid (pans st mh mb = if stat st && flw mh mb then (lay (aline st.toNat) mh mb, 0) else ([], 55)) := hide rfl
  generalize pans st mh mb = X at *
  clear hp hE hL b0
  by_cases hm : stat st = true
  case neg =>
    have hm' : stat st = false := by simpa using hm
    rw [hm'] at HM HX
    have hX : X = ([], 55) := by rw [unhide HX]; rfl
    subst hX
    go_enter Tryz.func32, Tryz.ntmps32
    go_wp2_with (first | (go_at_call 66; refine (unhide HM _).mono ?_; rintro e w' ⟨rfl, hw⟩; rw [hw]; clear hw w'))
    go_ret2
    exact ⟨rfl, unhide HB0⟩
  have hst : 100 ≤ st ∧ st ≤ 599 := by unfold stat at hm; simpa using hm
  rw [hm] at HM HX
  by_cases hf : flw mh mb = true
  case neg =>
    have hf' : flw mh mb = false := by simpa using hf
    rw [hf'] at HF HX
    have hX : X = ([], 55) := by rw [unhide HX]; rfl
    subst hX
    go_enter Tryz.func32, Tryz.ntmps32
    go_wp2_with (first | (go_at_call 66; refine (unhide HM _).mono ?_; rintro e w' ⟨rfl, hw⟩; rw [hw]; clear hw w'))
    refine (unhide HF _ (unhide HB0)).mono ?_
    rintro e w2 ⟨rfl, b2⟩
    have HB2 := hide ((unhide HB0).trans (b2.mono (by simp)))
    clear b2
    go_wp2
    go_ret2
    exact ⟨rfl, unhide HB2⟩
  have hfl := flw_len hf
  rw [hf] at HF HX
  have hX : X = (lay (aline st.toNat) mh mb, 0) := by rw [unhide HX]; rfl
  have HXX := hide hX
  obtain ⟨N1, hN1⟩ : ∃ N1 : Nat, st = (N1 : Int) := ⟨st.toNat, by omega⟩
  have HST := hide hN1
  have hdl := itoa_len N1 (by omega)
  have hrl := (rsn_shn N1).2
  have hmll : (aline N1).length ≤ 1000000000000 := by simp [aline]; omega
  have HLY2 := hide (fun W h => unhide HLY W h (aline N1) hmll (by omega) (by omega) (by have := unhide HNL; omega))
  have hN599 : N1 ≤ 599 := by omega
  clear hX HX HLY hm hf hN1
  go_enter Tryz.func32, Tryz.ntmps32
  go_wp2_with (first | (go_at_call 66; refine (unhide HM _).mono ?_; rintro e w' ⟨rfl, hw⟩; rw [hw]; clear hw w'))
  refine (unhide HF _ (unhide HB0)).mono ?_
  rintro e w2 ⟨rfl, b2⟩
  have HB2 := hide ((unhide HB0).trans (b2.mono (by simp)))
  have HBLK := hide ((b2.block w.heap.size (by simp)).trans (heap_alloc_new w (.cells #[.int .i64 st, .slice a n cap, S mb] 26)))
  have hz2 : w.heap.size < w2.heap.size := lt_of_row (unhide HBLK)
  clear b2
  go_wp2
  have HW : ∀ W, Below w2.heap.size w2 W → Below w.heap.size w W := fun W h => (unhide HB2).trans (h.mono (by omega))
  have HC : ∀ W, Below w2.heap.size w2 W → W.heap[w.heap.size]? = some (.cells #[.int .i64 st, .slice a n cap, S mb] 26 (0, 0)) := fun W h => (h.block _ hz2).trans (unhide HBLK)
  refine rpr w.heap.size n cap st a (decDigits N1) (rsn N1) mb (lay (aline N1) mh mb) rfl rfl rfl _ _ (show 30 ≤ 30 from by decide) rfl (fun _ W => Below w2.heap.size w2 W) ((Below.refl _ _).drew) (fun _ _ _ _ h => h) (fun L W h => cell_of_row W _ 0 _ 26 (0, 0) (HC W h)) (fun L W h => cell_of_row W _ 0 _ 26 (0, 0) (HC W h)) (fun L W h => cell_of_row W _ 1 _ 26 (0, 0) (HC W h)) (fun L W h => cell_of_row W _ 2 _ 26 (0, 0) (HC W h)) (by simp; omega) (by simp; omega) (by simp; omega) ?_ ?_ ?_ ?_
  · intro L W h _
    rw [unhide HST]
    refine (itoa_any N1 W ((unhide HE).below (HW W h)) (by omega)).mono ?_
    rintro e w' ⟨rfl, b⟩
    exact ⟨rfl, h.trans (b.mono h.size)⟩
  · intro L W h _
    rw [unhide HST]
    refine (reason_any (N1 : Int) W).mono ?_
    rintro e w' ⟨rfl, rfl⟩
    exact ⟨rfl, h⟩
  · intro L W h _
    refine (unhide HLY2 W (HW W h)).mono ?_
    rintro e w' ⟨rfl, b⟩
    exact ⟨rfl, h.trans (b.mono h.size)⟩
  intro L W _ h
  have HB3 := hide (HW W h)
  clear HW HC h
  simp only [Act.put, List.setIfInBounds_toArray, List.set_cons_succ, List.set_cons_zero]
  go_wp2
  go_ret2
  exact ⟨by rw [unhide HXX]; simp only [unhide HST]; rfl, unhide HB3⟩
end Go.Proofs.YthlacailhfhjnaaGreatDoor
namespace Go.Proofs.YthlacailhfhjnaaGreatDoor
open Go.RowKit Go.Lib
set_option maxHeartbeats 8000000 in
set_option maxRecDepth 8000 in
theorem fields_eq (a1 a2 : Option Addr) (n c1 c2 : Nat) (fs : List Fl) (w : World) (h1 : Fls w a1 n fs) (h2 : Fls w a2 n fs) (hn : n ≤ 1000000000000) :
    Calls Tryz.prog 54 #[.slice a1 n c1, .slice a2 n c2] w fun e w' => e = .returned (.bool true) ∧ Below w.heap.size w w' := by
  have H1 := hide h1
  have H2 := hide h2
  clear h1 h2
  go_enter Tryz.func54, Tryz.ntmps54
  go_wp2
  go_loopw [5] (fun i wr => ∃ k : Nat, k ≤ n ∧ i = .int .i64 k ∧ Below w.heap.size w wr) (fun i _ => n - (Go.RowKit.intOf i).toNat)
  case atStart => exact ⟨0, by omega, rfl, Below.refl _ _⟩
  case round =>
    obtain ⟨k, hk, rfl, hb⟩ := hrel
    by_cases hlt : k < n
    · obtain ⟨p, o, rfl, hpl, hc0, hc1⟩ := ((unhide H1).below hb).at hlt
      obtain ⟨p2, o2, rfl, hpl2, hd0, hd1⟩ := ((unhide H2).below hb).at hlt
      generalize fs.getD k fl0 = F at *
      obtain ⟨fn, fv⟩ := F
      simp only at hc0 hc1 hd0 hd1
      have hlt' : (k : Int) < (n : Int) := by omega
      have HB := hide hb
      clear hb
      go_wp2
      go_quiet (fail)
      have HB2 := hide (below_dN (unhide HB) nq)
      generalize wr.drewN nq = w2 at *
      go_wp2
      refine ⟨⟨k + 1, by omega, by go_num, unhide HB2⟩, ?_⟩
      simp [Go.RowKit.intOf]; omega
    · have hd : decide (k < n) = false := by simp; omega
      have HB := hide hb
      clear hb
      go_wp2
      go_ret
      exact ⟨rfl, unhide HB⟩
set_option maxHeartbeats 8000000 in
set_option maxRecDepth 8000 in
theorem sameAnswer_eq (a1 a2 : Option Addr) (n c1 c2 : Nat) (fs : List Fl) (st : Int) (b : Bs) (w : World) (h1 : Fls w a1 n fs) (h2 : Fls w a2 n fs) (hn : n ≤ 1000000000000) :
    Calls Tryz.prog 34 #[.agg #[.int .i64 st, .slice a1 n c1, S b], .agg #[.int .i64 st, .slice a2 n c2, S b]] w fun e w' => e = .returned (.bool true) ∧ Below w.heap.size w w' := by
  have b0 := (((Below.refl w.heap.size w).alloc (Nat.le_refl _) (.cells #[.int .i64 st, .slice a1 n c1, S b] 26)).alloc (by simp) (.cells #[.int .i64 st, .slice a2 n c2, S b] 26))
  have HF := hide (fields_eq a1 a2 n c1 c2 fs _ (h1.below b0) (h2.below b0) hn)
  have x0 : ((w.alloc (.cells #[.int .i64 st, .slice a1 n c1, S b] 26)).alloc (.cells #[.int .i64 st, .slice a2 n c2, S b] 26)).heap[w.heap.size]? = some (.cells #[.int .i64 st, .slice a1 n c1, S b] 26 (0, 0)) := by rw [heap_alloc_old _ _ (by simp)]; exact heap_alloc_new _ _
  have x1 : ((w.alloc (.cells #[.int .i64 st, .slice a1 n c1, S b] 26)).alloc (.cells #[.int .i64 st, .slice a2 n c2, S b] 26)).heap[w.heap.size + 1]? = some (.cells #[.int .i64 st, .slice a2 n c2, S b] 26 (0, 0)) := by
    have := heap_alloc_new (w.alloc (.cells #[.int .i64 st, .slice a1 n c1, S b] 26)) (.cells #[.int .i64 st, .slice a2 n c2, S b] 26)
    simpa using this
  have HX := hide (And.intro b0 (And.intro x0 x1))
  clear b0 x0 x1 h1 h2
  go_enter Tryz.func34, Tryz.ntmps34
  go_wp2_with fail
  generalize (w.alloc (.cells #[.int .i64 st, .slice a1 n c1, S b] 26)).alloc (.cells #[.int .i64 st, .slice a2 n c2, S b] 26) = W1 at *
  refine (unhide HF).mono ?_
  rintro e w2 ⟨rfl, b2⟩
  obtain ⟨b0, x0, x1⟩ := unhide HX
  have y0 := (b2.block _ (lt_of_row x0)).trans x0
  have y1 := (b2.block _ (lt_of_row x1)).trans x1
  have d0 : w2.cell? ⟨w.heap.size, 0, none⟩ = some (.int .i64 st) := cell_of_row w2 _ 0 _ 26 (0, 0) y0
  have d2 : w2.cell? ⟨w.heap.size, 2, none⟩ = some (S b) := cell_of_row w2 _ 2 _ 26 (0, 0) y0
  have e0 : w2.cell? ⟨w.heap.size + 1, 0, none⟩ = some (.int .i64 st) := cell_of_row w2 _ 0 _ 26 (0, 0) y1
  have e2 : w2.cell? ⟨w.heap.size + 1, 2, none⟩ = some (S b) := cell_of_row w2 _ 2 _ 26 (0, 0) y1
  have HB := hide (b0.trans (b2.mono b0.size))
  clear b0 x0 x1 y0 y1 b2 HX HF
  go_wp2
  go_ret
  exact ⟨by first | rfl | simp, unhide HB⟩
set_option maxHeartbeats 8000000 in
set_option maxRecDepth 8000 in
theorem sameMessage_eq (a1 a2 : Option Addr) (n c1 c2 : Nat) (fs : List Fl) (m p b : Bs) (w : World) (h1 : Fls w a1 n fs) (h2 : Fls w a2 n fs) (hn : n ≤ 1000000000000) :
    Calls Tryz.prog 51 #[.agg #[S m, S p, .slice a1 n c1, S b], .agg #[S m, S p, .slice a2 n c2, S b]] w fun e w' => e = .returned (.bool true) ∧ Below w.heap.size w w' := by
  have b0 := (((Below.refl w.heap.size w).alloc (Nat.le_refl _) (.cells #[S m, S p, .slice a1 n c1, S b] 24)).alloc (by simp) (.cells #[S m, S p, .slice a2 n c2, S b] 24))
  have HF := hide (fields_eq a1 a2 n c1 c2 fs _ (h1.below b0) (h2.below b0) hn)
  have x0 : ((w.alloc (.cells #[S m, S p, .slice a1 n c1, S b] 24)).alloc (.cells #[S m, S p, .slice a2 n c2, S b] 24)).heap[w.heap.size]? = some (.cells #[S m, S p, .slice a1 n c1, S b] 24 (0, 0)) := by rw [heap_alloc_old _ _ (by simp)]; exact heap_alloc_new _ _
  have x1 : ((w.alloc (.cells #[S m, S p, .slice a1 n c1, S b] 24)).alloc (.cells #[S m, S p, .slice a2 n c2, S b] 24)).heap[w.heap.size + 1]? = some (.cells #[S m, S p, .slice a2 n c2, S b] 24 (0, 0)) := by
    have := heap_alloc_new (w.alloc (.cells #[S m, S p, .slice a1 n c1, S b] 24)) (.cells #[S m, S p, .slice a2 n c2, S b] 24)
    simpa using this
  have HX := hide (And.intro b0 (And.intro x0 x1))
  clear b0 x0 x1 h1 h2
  go_enter Tryz.func51, Tryz.ntmps51
  go_wp2_with fail
  generalize (w.alloc (.cells #[S m, S p, .slice a1 n c1, S b] 24)).alloc (.cells #[S m, S p, .slice a2 n c2, S b] 24) = W1 at *
  refine (unhide HF).mono ?_
  rintro e w2 ⟨rfl, b2⟩
  obtain ⟨b0, x0, x1⟩ := unhide HX
  have y0 := (b2.block _ (lt_of_row x0)).trans x0
  have y1 := (b2.block _ (lt_of_row x1)).trans x1
  have d0 : w2.cell? ⟨w.heap.size, 0, none⟩ = some (S m) := cell_of_row w2 _ 0 _ 24 (0, 0) y0
  have d1 : w2.cell? ⟨w.heap.size, 1, none⟩ = some (S p) := cell_of_row w2 _ 1 _ 24 (0, 0) y0
  have d3 : w2.cell? ⟨w.heap.size, 3, none⟩ = some (S b) := cell_of_row w2 _ 3 _ 24 (0, 0) y0
  have e0 : w2.cell? ⟨w.heap.size + 1, 0, none⟩ = some (S m) := cell_of_row w2 _ 0 _ 24 (0, 0) y1
  have e1 : w2.cell? ⟨w.heap.size + 1, 1, none⟩ = some (S p) := cell_of_row w2 _ 1 _ 24 (0, 0) y1
  have e3 : w2.cell? ⟨w.heap.size + 1, 3, none⟩ = some (S b) := cell_of_row w2 _ 3 _ 24 (0, 0) y1
  have HB := hide (b0.trans (b2.mono b0.size))
  clear b0 x0 x1 y0 y1 b2 HX HF
  go_wp2
  go_ret
  exact ⟨by first | rfl | simp, unhide HB⟩
end Go.Proofs.YthlacailhfhjnaaGreatDoor
