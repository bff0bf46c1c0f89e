import Derived.Test.YtbeionikiiccpaaDoorGoq
namespace Go.Proofs.YtbeionikiiccpaaDoor
open Go.RowKit
structure Cty where
  b : Nat
  q : Option Addr
  k : Nat
def vrty8 (X : Bs) (m y : Nat) (c : Cty) (i : Nat) : Value := match i with
  | 0 => (S X)
  | 1 => (I ((m : Nat) : Int))
  | 2 => (S (X.take m))
  | 3 => (.int .u8 (y : Int))
  | 4 => (.slice (some ⟨c.b, 0, none⟩) 1 1)
  | 5 => (S [UInt8.ofNat y])
  | 6 => (S (X.take m ++ [UInt8.ofNat y]))
  | 7 => (S X)
  | 8 => (I ((m : Nat) : Int))
  | 9 => (I (((m + 1 : Nat) : Int) : Int))
  | 10 => (S (X.drop (m + 1)))
  | 11 => (S (X.take m ++ [UInt8.ofNat y] ++ X.drop (m + 1)))
  | 12 => (S (X.take m ++ [UInt8.ofNat y] ++ X.drop (m + 1)))
  | _ => undef
def rty8T : List (Op × Option Tmp × Option (Nat × Bool)) := [
  (.move (.tmp 12), some 53, none),
  (.move (.tmp 14), some 54, none),
  (.slice 9 (.tmp 53) none (some (.tmp 54)) none, some 55, none),
  (.move (.tmp 4), some 56, none),
  (.buildSlice 33 1 #[(0, (.tmp 56))], some 57, none),
  (.convert 33 9 (.tmp 57), some 58, none),
  (.binOp .add 9 (.tmp 55) (.tmp 58) 9, some 59, none),
  (.move (.tmp 12), some 60, none),
  (.move (.tmp 14), some 61, none),
  (.binOp .add 3 (.tmp 61) (.const (.int .i64 1)) 3, some 62, none),
  (.slice 9 (.tmp 60) (some (.tmp 62)) none none, some 63, none),
  (.binOp .add 9 (.tmp 59) (.tmp 63) 9, some 64, none),
  (.assign (.tmp 64), some 15, none)]
def rty8D : List (Nat × Nat) := [(2, 0), (2, 1), (4, 3), (5, 4), (6, 2), (6, 5), (9, 8), (10, 7), (10, 9), (11, 6), (11, 10), (12, 11)]
set_option maxHeartbeats 4000000 in
theorem rty8 {ops : Array Oper} {id : Nat} {Q : Exit → Act → World → Prop} (X : Bs) (m y : Nat) (htab : ops.toList.map (fun o => (o.op, o.dst, o.guard)) = rty8T) (hdep : deplB rty8D ops = true) (hac : acB ops = true)
    (a0 : Act) (w : World) (hsz : 65 ≤ a0.tmps.size) (o4 : a0.tmps[4]? = some (.int .u8 (y : Int))) (o12 : a0.tmps[12]? = some (S X)) (o14 : a0.tmps[14]? = some (I ((m : Nat) : Int)))
    (Wd : Cty → (Nat → Bool) → World → Prop) (h0 : ∃ c, Wd c (fun _ => false) w.drew) (hpure : ∀ i, i ∉ ([4] : List Nat) → ∀ c L W, Wd c L W → Wd c (upd L i) W)
    (r2 : ∀ W, (Instr.sliceAt 9 (S X) none (some (I ((m : Nat) : Int))) none).run Tryd.prog W = .ok (S (X.take m)) W)
    (r4 : ∀ c L W, Wd c L W → L 4 = false → L 3 = true → ∃ c' W', (∀ j, L j = true → vrty8 X m y c' j = vrty8 X m y c j) ∧ (Instr.buildSlice 33 1 #[(0, (.int .u8 (y : Int)))]).run Tryd.prog W = .ok (vrty8 X m y c' 4) W' ∧ Wd c' (upd L 4) W')
    (r5 : ∀ c L W, Wd c L W → L 5 = false → L 4 = true → (convert 33 9 (.slice (some ⟨c.b, 0, none⟩) 1 1)).run Tryd.prog W = .ok (S [UInt8.ofNat y]) W)
    (r6 : ∀ W, (do eqGuard .add 9 (.tmp 55) (.tmp 58) (S (X.take m)) (S [UInt8.ofNat y]); binOp .add 9 (S (X.take m)) (S [UInt8.ofNat y])).run Tryd.prog W = .ok (S (X.take m ++ [UInt8.ofNat y])) W)
    (r9 : ∀ W, (do eqGuard .add 3 (.tmp 61) (.const (.int .i64 1)) (I ((m : Nat) : Int)) (.int .i64 1); binOp .add 3 (I ((m : Nat) : Int)) (.int .i64 1)).run Tryd.prog W = .ok (I (((m + 1 : Nat) : Int) : Int)) W)
    (r10 : ∀ W, (Instr.sliceAt 9 (S X) (some (I (((m + 1 : Nat) : Int) : Int))) none none).run Tryd.prog W = .ok (S (X.drop (m + 1))) W)
    (r11 : ∀ W, (do eqGuard .add 9 (.tmp 59) (.tmp 63) (S (X.take m ++ [UInt8.ofNat y])) (S (X.drop (m + 1))); binOp .add 9 (S (X.take m ++ [UInt8.ofNat y])) (S (X.drop (m + 1)))).run Tryd.prog W = .ok (S (X.take m ++ [UInt8.ofNat y] ++ X.drop (m + 1))) W)
    (hend : ∀ c L W, (∀ i, i < 13 → L i = true) → Wd c L W → Q .normal (((((((((((((a0.put (some 53) (S X)).put (some 54) (I ((m : Nat) : Int))).put (some 55) (S (X.take m))).put (some 56) (.int .u8 (y : Int))).put (some 57) (.slice (some ⟨c.b, 0, none⟩) 1 1)).put (some 58) (S [UInt8.ofNat y])).put (some 59) (S (X.take m ++ [UInt8.ofNat y]))).put (some 60) (S X)).put (some 61) (I ((m : Nat) : Int))).put (some 62) (I (((m + 1 : Nat) : Int) : Int))).put (some 63) (S (X.drop (m + 1)))).put (some 64) (S (X.take m ++ [UInt8.ofNat y] ++ X.drop (m + 1)))).put (some 15) (S (X.take m ++ [UInt8.ofNat y] ++ X.drop (m + 1)))) W) : (Code.region id ops true).wp Tryd.prog Q a0 w := by
  let val : Cty → Nat → Value := vrty8 X m y
  have hosz : ops.size = 13 := by
    have := congrArg List.length htab
    simpa [rty8T] using this
  have hds : ∀ i s, (rty8T[i]?).bind (·.2.1) = some s → dstOf ops i = some s := fun i s hi => by rw [tab_dst htab, hi]
  have hdisB : disL rty8T = true := by rfl
  have hdis := disL_of htab hdisB
  have hold : ∀ s, rty8T.all (fun x => !(x.2.1 == some s)) = true → (List.range ops.size).all (fun j => !(dstOf ops j == some s)) = true := fun s h => holdL htab s h
  refine region_detX val Wd (hac_of hac) hdis h0 ?_ ?_
  rotate_left
  · intro c L W hall hW
    have := hend c L W (by rw [← hosz]; exact hall) hW
    have e : frm ops a0 (val c) (fun _ => true) ops.size = (((((((((((((a0.put (some 53) (S X)).put (some 54) (I ((m : Nat) : Int))).put (some 55) (S (X.take m))).put (some 56) (.int .u8 (y : Int))).put (some 57) (.slice (some ⟨c.b, 0, none⟩) 1 1)).put (some 58) (S [UInt8.ofNat y])).put (some 59) (S (X.take m ++ [UInt8.ofNat y]))).put (some 60) (S X)).put (some 61) (I ((m : Nat) : Int))).put (some 62) (I (((m + 1 : Nat) : Int) : Int))).put (some 63) (S (X.drop (m + 1)))).put (some 64) (S (X.take m ++ [UInt8.ofNat y] ++ X.drop (m + 1)))).put (some 15) (S (X.take m ++ [UInt8.ofNat y] ++ X.drop (m + 1)))) := by
      rw [hosz]
      simp only [frm, if_true]
      rw [tab_dst htab 0, tab_dst htab 1, tab_dst htab 2, tab_dst htab 3, tab_dst htab 4, tab_dst htab 5, tab_dst htab 6, tab_dst htab 7, tab_dst htab 8, tab_dst htab 9, tab_dst htab 10, tab_dst htab 11, tab_dst htab 12]
      rfl
    rw [e]
    exact this
  intro i o ho c L a w' hL hd ha hW
  have hi : i < 13 := by rw [← hosz]; exact (Array.getElem?_eq_some_iff.1 ho).1
  match i, ho, hL, hi with
  | 0, ho, hL, _ =>
    obtain ⟨hop, hdst, hgd⟩ := tab_at htab ho (show rty8T[0]? = _ from rfl)
    simp only at hop hgd
    have h0 := frm_old (val := val c) ha 12 _ (hold 12 rfl) o12
    exact doesX_of (doesL_run ho (wanted_none hgd) (hpure 0 (by decide) c L w' hW) (by rw [run_move _ _ _ hop]; exact congrArg (fun v => Result.ok (Next.value v) w') (eval_of h0)))
  | 1, ho, hL, _ =>
    obtain ⟨hop, hdst, hgd⟩ := tab_at htab ho (show rty8T[1]? = _ from rfl)
    simp only at hop hgd
    have h0 := frm_old (val := val c) ha 14 _ (hold 14 rfl) o14
    exact doesX_of (doesL_run ho (wanted_none hgd) (hpure 1 (by decide) c L w' hW) (by rw [run_move _ _ _ hop]; exact congrArg (fun v => Result.ok (Next.value v) w') (eval_of h0)))
  | 2, ho, hL, _ =>
    obtain ⟨hop, hdst, hgd⟩ := tab_at htab ho (show rty8T[2]? = _ from rfl)
    simp only at hop hgd
    have h0 := frm_at (val := val c) hdis ha 0 53 (hds 0 53 rfl) (by omega) (depl_of hdep 2 0 (by decide) ho hd)
    have h1 := frm_at (val := val c) hdis ha 1 54 (hds 1 54 rfl) (by omega) (depl_of hdep 2 1 (by decide) ho hd)
    exact doesX_of (doesL_run ho (wanted_none hgd) (hpure 2 (by decide) c L w' hW) (g_sl hop (eval_of h0) rfl (congrArg some (eval_of h1)) rfl (r2 w')))
  | 3, ho, hL, _ =>
    obtain ⟨hop, hdst, hgd⟩ := tab_at htab ho (show rty8T[3]? = _ from rfl)
    simp only at hop hgd
    have h0 := frm_old (val := val c) ha 4 _ (hold 4 rfl) o4
    exact doesX_of (doesL_run ho (wanted_none hgd) (hpure 3 (by decide) c L w' hW) (by rw [run_move _ _ _ hop]; exact congrArg (fun v => Result.ok (Next.value v) w') (eval_of h0)))
  | 4, ho, hL, _ =>
    obtain ⟨hop, hdst, hgd⟩ := tab_at htab ho (show rty8T[4]? = _ from rfl)
    simp only at hop hgd
    have h0 := frm_at (val := val c) hdis ha 3 56 (hds 3 56 rfl) (by omega) (depl_of hdep 4 3 (by decide) ho hd)
    obtain ⟨c', W', q0, q1, q2⟩ := r4 c L w' hW hL (depl_of hdep 4 3 (by decide) ho hd)
    exact doesX_runw ho (wanted_none hgd) c' q0 q2 (g_bs hop (by simp only [List.map_toArray, List.map_cons, List.map_nil, eval_of h0]; first | done | rfl) q1)
  | 5, ho, hL, _ =>
    obtain ⟨hop, hdst, hgd⟩ := tab_at htab ho (show rty8T[5]? = _ from rfl)
    simp only at hop hgd
    have h0 := frm_at (val := val c) hdis ha 4 57 (hds 4 57 rfl) (by omega) (depl_of hdep 5 4 (by decide) ho hd)
    exact doesX_of (doesL_run ho (wanted_none hgd) (hpure 5 (by decide) c L w' hW) (g_conv hop (eval_of h0) (r5 c L w' hW hL (depl_of hdep 5 4 (by decide) ho hd))))
  | 6, ho, hL, _ =>
    obtain ⟨hop, hdst, hgd⟩ := tab_at htab ho (show rty8T[6]? = _ from rfl)
    simp only at hop hgd
    have h0 := frm_at (val := val c) hdis ha 2 55 (hds 2 55 rfl) (by omega) (depl_of hdep 6 2 (by decide) ho hd)
    have h1 := frm_at (val := val c) hdis ha 5 58 (hds 5 58 rfl) (by omega) (depl_of hdep 6 5 (by decide) ho hd)
    exact doesX_of (doesL_run ho (wanted_none hgd) (hpure 6 (by decide) c L w' hW) (g_bin hop (eval_of h0) (eval_of h1) (r6 w')))
  | 7, ho, hL, _ =>
    obtain ⟨hop, hdst, hgd⟩ := tab_at htab ho (show rty8T[7]? = _ from rfl)
    simp only at hop hgd
    have h0 := frm_old (val := val c) ha 12 _ (hold 12 rfl) o12
    exact doesX_of (doesL_run ho (wanted_none hgd) (hpure 7 (by decide) c L w' hW) (by rw [run_move _ _ _ hop]; exact congrArg (fun v => Result.ok (Next.value v) w') (eval_of h0)))
  | 8, ho, hL, _ =>
    obtain ⟨hop, hdst, hgd⟩ := tab_at htab ho (show rty8T[8]? = _ from rfl)
    simp only at hop hgd
    have h0 := frm_old (val := val c) ha 14 _ (hold 14 rfl) o14
    exact doesX_of (doesL_run ho (wanted_none hgd) (hpure 8 (by decide) c L w' hW) (by rw [run_move _ _ _ hop]; exact congrArg (fun v => Result.ok (Next.value v) w') (eval_of h0)))
  | 9, ho, hL, _ =>
    obtain ⟨hop, hdst, hgd⟩ := tab_at htab ho (show rty8T[9]? = _ from rfl)
    simp only at hop hgd
    have h0 := frm_at (val := val c) hdis ha 8 61 (hds 8 61 rfl) (by omega) (depl_of hdep 9 8 (by decide) ho hd)
    exact doesX_of (doesL_run ho (wanted_none hgd) (hpure 9 (by decide) c L w' hW) (g_bin hop (eval_of h0) rfl (r9 w')))
  | 10, ho, hL, _ =>
    obtain ⟨hop, hdst, hgd⟩ := tab_at htab ho (show rty8T[10]? = _ from rfl)
    simp only at hop hgd
    have h0 := frm_at (val := val c) hdis ha 7 60 (hds 7 60 rfl) (by omega) (depl_of hdep 10 7 (by decide) ho hd)
    have h1 := frm_at (val := val c) hdis ha 9 62 (hds 9 62 rfl) (by omega) (depl_of hdep 10 9 (by decide) ho hd)
    exact doesX_of (doesL_run ho (wanted_none hgd) (hpure 10 (by decide) c L w' hW) (g_sl hop (eval_of h0) (congrArg some (eval_of h1)) rfl rfl (r10 w')))
  | 11, ho, hL, _ =>
    obtain ⟨hop, hdst, hgd⟩ := tab_at htab ho (show rty8T[11]? = _ from rfl)
    simp only at hop hgd
    have h0 := frm_at (val := val c) hdis ha 6 59 (hds 6 59 rfl) (by omega) (depl_of hdep 11 6 (by decide) ho hd)
    have h1 := frm_at (val := val c) hdis ha 10 63 (hds 10 63 rfl) (by omega) (depl_of hdep 11 10 (by decide) ho hd)
    exact doesX_of (doesL_run ho (wanted_none hgd) (hpure 11 (by decide) c L w' hW) (g_bin hop (eval_of h0) (eval_of h1) (r11 w')))
  | 12, ho, hL, _ =>
    obtain ⟨hop, hdst, hgd⟩ := tab_at htab ho (show rty8T[12]? = _ from rfl)
    simp only at hop hgd
    have h0 := frm_at (val := val c) hdis ha 11 64 (hds 11 64 rfl) (by omega) (depl_of hdep 12 11 (by decide) ho hd)
    exact doesX_of (doesL_run ho (wanted_none hgd) (hpure 12 (by decide) c L w' hW) (by rw [run_assign _ _ _ hop]; exact congrArg (fun v => Result.ok (Next.value v) w') (eval_of h0)))
  | (i + 13), ho, hL, hi => exact absurd hi (by omega)
def vrty11 (X : Bs) (m g : Nat) (c : Cty) (i : Nat) : Value := match i with
  | 0 => (.slice (some ⟨g, 0, none⟩) 1 1)
  | 1 => (S X)
  | 2 => (I ((m : Nat) : Int))
  | 3 => (S (X.take m))
  | 4 => (S X)
  | 5 => (I ((m : Nat) : Int))
  | 6 => (I (((m + 1 : Nat) : Int) : Int))
  | 7 => (I ((m : Nat) : Int))
  | 8 => (I (((m + 2 : Nat) : Int) : Int))
  | 9 => (S ((X.drop (m + 1)).take 1))
  | 10 => (S (X.take m ++ (X.drop (m + 1)).take 1))
  | 11 => (S X)
  | 12 => (I ((m : Nat) : Int))
  | 13 => (I ((m : Nat) : Int))
  | 14 => (I (((m + 1 : Nat) : Int) : Int))
  | 15 => (S ((X.drop m).take 1))
  | 16 => (S (X.take m ++ (X.drop (m + 1)).take 1 ++ (X.drop m).take 1))
  | 17 => (S X)
  | 18 => (I ((m : Nat) : Int))
  | 19 => (I (((m + 2 : Nat) : Int) : Int))
  | 20 => (S (X.drop (m + 2)))
  | 21 => (S (X.take m ++ (X.drop (m + 1)).take 1 ++ (X.drop m).take 1 ++ X.drop (m + 2)))
  | 22 => (.slice (some ⟨c.b, 0, none⟩) 1 1)
  | 23 => (.slice c.q 2 c.k)
  | 24 => (.slice c.q 2 c.k)
  | _ => undef
def rty11T : List (Op × Option Tmp × Option (Nat × Bool)) := [
  (.move (.tmp 16), some 69, none),
  (.move (.tmp 12), some 70, none),
  (.move (.tmp 14), some 71, none),
  (.slice 9 (.tmp 70) none (some (.tmp 71)) none, some 72, none),
  (.move (.tmp 12), some 73, none),
  (.move (.tmp 14), some 74, none),
  (.binOp .add 3 (.tmp 74) (.const (.int .i64 1)) 3, some 75, none),
  (.move (.tmp 14), some 76, none),
  (.binOp .add 3 (.tmp 76) (.const (.int .i64 2)) 3, some 77, none),
  (.slice 9 (.tmp 73) (some (.tmp 75)) (some (.tmp 77)) none, some 78, none),
  (.binOp .add 9 (.tmp 72) (.tmp 78) 9, some 79, none),
  (.move (.tmp 12), some 80, none),
  (.move (.tmp 14), some 81, none),
  (.move (.tmp 14), some 82, none),
  (.binOp .add 3 (.tmp 82) (.const (.int .i64 1)) 3, some 83, none),
  (.slice 9 (.tmp 80) (some (.tmp 81)) (some (.tmp 83)) none, some 84, none),
  (.binOp .add 9 (.tmp 79) (.tmp 84) 9, some 85, none),
  (.move (.tmp 12), some 86, none),
  (.move (.tmp 14), some 87, none),
  (.binOp .add 3 (.tmp 87) (.const (.int .i64 2)) 3, some 88, none),
  (.slice 9 (.tmp 86) (some (.tmp 88)) none none, some 89, none),
  (.binOp .add 9 (.tmp 85) (.tmp 89) 9, some 90, none),
  (.buildSlice 34 1 #[(0, (.tmp 90))], some 91, none),
  (.call { callee := .builtin .append, args := #[(.tmp 69), (.tmp 91)], argTypes := #[34, 34] }, some 92, none),
  (.assign (.tmp 92), some 16, none)]
def rty11D : List (Nat × Nat) := [(3, 1), (3, 2), (6, 5), (8, 7), (9, 4), (9, 6), (9, 8), (10, 3), (10, 9), (14, 13), (15, 11), (15, 12), (15, 14), (16, 10), (16, 15), (19, 18), (20, 17), (20, 19), (21, 16), (21, 20), (22, 21), (23, 0), (23, 22), (24, 23)]
set_option maxHeartbeats 4000000 in
theorem rty11 {ops : Array Oper} {id : Nat} {Q : Exit → Act → World → Prop} (X : Bs) (m g : Nat) (htab : ops.toList.map (fun o => (o.op, o.dst, o.guard)) = rty11T) (hdep : deplB rty11D ops = true) (hac : acB ops = true)
    (a0 : Act) (w : World) (hsz : 93 ≤ a0.tmps.size) (o12 : a0.tmps[12]? = some (S X)) (o14 : a0.tmps[14]? = some (I ((m : Nat) : Int))) (o16 : a0.tmps[16]? = some (.slice (some ⟨g, 0, none⟩) 1 1))
    (Wd : Cty → (Nat → Bool) → World → Prop) (h0 : ∃ c, Wd c (fun _ => false) w.drew) (hpure : ∀ i, i ∉ ([22, 23, 24] : List Nat) → ∀ c L W, Wd c L W → Wd c (upd L i) W)
    (e0 : ∀ c L W, Wd c L W → L 0 = false → L 24 = false)
    (r3 : ∀ W, (Instr.sliceAt 9 (S X) none (some (I ((m : Nat) : Int))) none).run Tryd.prog W = .ok (S (X.take m)) W)
    (r6 : ∀ W, (do eqGuard .add 3 (.tmp 74) (.const (.int .i64 1)) (I ((m : Nat) : Int)) (.int .i64 1); binOp .add 3 (I ((m : Nat) : Int)) (.int .i64 1)).run Tryd.prog W = .ok (I (((m + 1 : Nat) : Int) : Int)) W)
    (r8 : ∀ W, (do eqGuard .add 3 (.tmp 76) (.const (.int .i64 2)) (I ((m : Nat) : Int)) (.int .i64 2); binOp .add 3 (I ((m : Nat) : Int)) (.int .i64 2)).run Tryd.prog W = .ok (I (((m + 2 : Nat) : Int) : Int)) W)
    (r9 : ∀ W, (Instr.sliceAt 9 (S X) (some (I (((m + 1 : Nat) : Int) : Int))) (some (I (((m + 2 : Nat) : Int) : Int))) none).run Tryd.prog W = .ok (S ((X.drop (m + 1)).take 1)) W)
    (r10 : ∀ W, (do eqGuard .add 9 (.tmp 72) (.tmp 78) (S (X.take m)) (S ((X.drop (m + 1)).take 1)); binOp .add 9 (S (X.take m)) (S ((X.drop (m + 1)).take 1))).run Tryd.prog W = .ok (S (X.take m ++ (X.drop (m + 1)).take 1)) W)
    (r14 : ∀ W, (do eqGuard .add 3 (.tmp 82) (.const (.int .i64 1)) (I ((m : Nat) : Int)) (.int .i64 1); binOp .add 3 (I ((m : Nat) : Int)) (.int .i64 1)).run Tryd.prog W = .ok (I (((m + 1 : Nat) : Int) : Int)) W)
    (r15 : ∀ W, (Instr.sliceAt 9 (S X) (some (I ((m : Nat) : Int))) (some (I (((m + 1 : Nat) : Int) : Int))) none).run Tryd.prog W = .ok (S ((X.drop m).take 1)) W)
    (r16 : ∀ W, (do eqGuard .add 9 (.tmp 79) (.tmp 84) (S (X.take m ++ (X.drop (m + 1)).take 1)) (S ((X.drop m).take 1)); binOp .add 9 (S (X.take m ++ (X.drop (m + 1)).take 1)) (S ((X.drop m).take 1))).run Tryd.prog W = .ok (S (X.take m ++ (X.drop (m + 1)).take 1 ++ (X.drop m).take 1)) W)
    (r19 : ∀ W, (do eqGuard .add 3 (.tmp 87) (.const (.int .i64 2)) (I ((m : Nat) : Int)) (.int .i64 2); binOp .add 3 (I ((m : Nat) : Int)) (.int .i64 2)).run Tryd.prog W = .ok (I (((m + 2 : Nat) : Int) : Int)) W)
    (r20 : ∀ W, (Instr.sliceAt 9 (S X) (some (I (((m + 2 : Nat) : Int) : Int))) none none).run Tryd.prog W = .ok (S (X.drop (m + 2))) W)
    (r21 : ∀ W, (do eqGuard .add 9 (.tmp 85) (.tmp 89) (S (X.take m ++ (X.drop (m + 1)).take 1 ++ (X.drop m).take 1)) (S (X.drop (m + 2))); binOp .add 9 (S (X.take m ++ (X.drop (m + 1)).take 1 ++ (X.drop m).take 1)) (S (X.drop (m + 2)))).run Tryd.prog W = .ok (S (X.take m ++ (X.drop (m + 1)).take 1 ++ (X.drop m).take 1 ++ X.drop (m + 2))) W)
    (r22 : ∀ c L W, Wd c L W → L 22 = false → L 21 = true → ∃ c' W', (∀ j, L j = true → vrty11 X m g c' j = vrty11 X m g c j) ∧ (Instr.buildSlice 34 1 #[(0, (S (X.take m ++ (X.drop (m + 1)).take 1 ++ (X.drop m).take 1 ++ X.drop (m + 2))))]).run Tryd.prog W = .ok (vrty11 X m g c' 22) W' ∧ Wd c' (upd L 22) W')
    (r23 : ∀ T, ∀ c L W, Wd c L W → L 23 = false → L 0 = true → L 22 = true → ∃ c' W', (∀ j, L j = true → vrty11 X m g c' j = vrty11 X m g c j) ∧ (Builtin.append_ #[34, 34] T #[(.slice (some ⟨g, 0, none⟩) 1 1), (.slice (some ⟨c.b, 0, none⟩) 1 1)]).run Tryd.prog W = .ok (vrty11 X m g c' 23) W' ∧ Wd c' (upd L 23) W')
    (r24 : ∀ c L W, Wd c L W → L 24 = false → L 23 = true → Wd c (upd L 24) W)
    (hend : ∀ c L W, (∀ i, i < 25 → L i = true) → Wd c L W → Q .normal (((((((((((((((((((((((((a0.put (some 69) (.slice (some ⟨g, 0, none⟩) 1 1)).put (some 70) (S X)).put (some 71) (I ((m : Nat) : Int))).put (some 72) (S (X.take m))).put (some 73) (S X)).put (some 74) (I ((m : Nat) : Int))).put (some 75) (I (((m + 1 : Nat) : Int) : Int))).put (some 76) (I ((m : Nat) : Int))).put (some 77) (I (((m + 2 : Nat) : Int) : Int))).put (some 78) (S ((X.drop (m + 1)).take 1))).put (some 79) (S (X.take m ++ (X.drop (m + 1)).take 1))).put (some 80) (S X)).put (some 81) (I ((m : Nat) : Int))).put (some 82) (I ((m : Nat) : Int))).put (some 83) (I (((m + 1 : Nat) : Int) : Int))).put (some 84) (S ((X.drop m).take 1))).put (some 85) (S (X.take m ++ (X.drop (m + 1)).take 1 ++ (X.drop m).take 1))).put (some 86) (S X)).put (some 87) (I ((m : Nat) : Int))).put (some 88) (I (((m + 2 : Nat) : Int) : Int))).put (some 89) (S (X.drop (m + 2)))).put (some 90) (S (X.take m ++ (X.drop (m + 1)).take 1 ++ (X.drop m).take 1 ++ X.drop (m + 2)))).put (some 91) (.slice (some ⟨c.b, 0, none⟩) 1 1)).put (some 92) (.slice c.q 2 c.k)).put (some 16) (.slice c.q 2 c.k)) W) : (Code.region id ops true).wp Tryd.prog Q a0 w := by
  let val : Cty → Nat → Value := vrty11 X m g
  have hosz : ops.size = 25 := by
    have := congrArg List.length htab
    simpa [rty11T] using this
  have hds : ∀ i s, (rty11T[i]?).bind (·.2.1) = some s → dstOf ops i = some s := fun i s hi => by rw [tab_dst htab, hi]
  have hdisB : disL rty11T = true := by rfl
  have hdis := disL_of htab hdisB
  have hold : ∀ s, rty11T.all (fun x => !(x.2.1 == some s)) = true → (List.range ops.size).all (fun j => !(dstOf ops j == some s)) = true := fun s h => holdL htab s h
  refine region_detX val Wd (hac_of hac) hdis h0 ?_ ?_
  rotate_left
  · intro c L W hall hW
    have := hend c L W (by rw [← hosz]; exact hall) hW
    have e : frm ops a0 (val c) (fun _ => true) ops.size = (((((((((((((((((((((((((a0.put (some 69) (.slice (some ⟨g, 0, none⟩) 1 1)).put (some 70) (S X)).put (some 71) (I ((m : Nat) : Int))).put (some 72) (S (X.take m))).put (some 73) (S X)).put (some 74) (I ((m : Nat) : Int))).put (some 75) (I (((m + 1 : Nat) : Int) : Int))).put (some 76) (I ((m : Nat) : Int))).put (some 77) (I (((m + 2 : Nat) : Int) : Int))).put (some 78) (S ((X.drop (m + 1)).take 1))).put (some 79) (S (X.take m ++ (X.drop (m + 1)).take 1))).put (some 80) (S X)).put (some 81) (I ((m : Nat) : Int))).put (some 82) (I ((m : Nat) : Int))).put (some 83) (I (((m + 1 : Nat) : Int) : Int))).put (some 84) (S ((X.drop m).take 1))).put (some 85) (S (X.take m ++ (X.drop (m + 1)).take 1 ++ (X.drop m).take 1))).put (some 86) (S X)).put (some 87) (I ((m : Nat) : Int))).put (some 88) (I (((m + 2 : Nat) : Int) : Int))).put (some 89) (S (X.drop (m + 2)))).put (some 90) (S (X.take m ++ (X.drop (m + 1)).take 1 ++ (X.drop m).take 1 ++ X.drop (m + 2)))).put (some 91) (.slice (some ⟨c.b, 0, none⟩) 1 1)).put (some 92) (.slice c.q 2 c.k)).put (some 16) (.slice c.q 2 c.k)) := by
      rw [hosz]
      simp only [frm, if_true]
      rw [tab_dst htab 0, tab_dst htab 1, tab_dst htab 2, tab_dst htab 3, tab_dst htab 4, tab_dst htab 5, tab_dst htab 6, tab_dst htab 7, tab_dst htab 8, tab_dst htab 9, tab_dst htab 10, tab_dst htab 11, tab_dst htab 12, tab_dst htab 13, tab_dst htab 14, tab_dst htab 15, tab_dst htab 16, tab_dst htab 17, tab_dst htab 18, tab_dst htab 19, tab_dst htab 20, tab_dst htab 21, tab_dst htab 22, tab_dst htab 23, tab_dst htab 24]
      rfl
    rw [e]
    exact this
  intro i o ho c L a w' hL hd ha hW
  have hi : i < 25 := by rw [← hosz]; exact (Array.getElem?_eq_some_iff.1 ho).1
  match i, ho, hL, hi with
  | 0, ho, hL, _ =>
    obtain ⟨hop, hdst, hgd⟩ := tab_at htab ho (show rty11T[0]? = _ from rfl)
    simp only at hop hgd
    have h0 : a.tmps[16]? = some (.slice (some ⟨g, 0, none⟩) 1 1) := by rw [ha, frm_late a0 (val c) L 16 24 (e0 c L w' hW hL) ops.size (late_of htab (by rfl))]; exact o16
    exact doesX_of (doesL_run ho (wanted_none hgd) (hpure 0 (by decide) c L w' hW) (by rw [run_move _ _ _ hop]; exact congrArg (fun v => Result.ok (Next.value v) w') (eval_of h0)))
  | 1, ho, hL, _ =>
    obtain ⟨hop, hdst, hgd⟩ := tab_at htab ho (show rty11T[1]? = _ from rfl)
    simp only at hop hgd
    have h0 := frm_old (val := val c) ha 12 _ (hold 12 rfl) o12
    exact doesX_of (doesL_run ho (wanted_none hgd) (hpure 1 (by decide) c L w' hW) (by rw [run_move _ _ _ hop]; exact congrArg (fun v => Result.ok (Next.value v) w') (eval_of h0)))
  | 2, ho, hL, _ =>
    obtain ⟨hop, hdst, hgd⟩ := tab_at htab ho (show rty11T[2]? = _ from rfl)
    simp only at hop hgd
    have h0 := frm_old (val := val c) ha 14 _ (hold 14 rfl) o14
    exact doesX_of (doesL_run ho (wanted_none hgd) (hpure 2 (by decide) c L w' hW) (by rw [run_move _ _ _ hop]; exact congrArg (fun v => Result.ok (Next.value v) w') (eval_of h0)))
  | 3, ho, hL, _ =>
    obtain ⟨hop, hdst, hgd⟩ := tab_at htab ho (show rty11T[3]? = _ from rfl)
    simp only at hop hgd
    have h0 := frm_at (val := val c) hdis ha 1 70 (hds 1 70 rfl) (by omega) (depl_of hdep 3 1 (by decide) ho hd)
    have h1 := frm_at (val := val c) hdis ha 2 71 (hds 2 71 rfl) (by omega) (depl_of hdep 3 2 (by decide) ho hd)
    exact doesX_of (doesL_run ho (wanted_none hgd) (hpure 3 (by decide) c L w' hW) (g_sl hop (eval_of h0) rfl (congrArg some (eval_of h1)) rfl (r3 w')))
  | 4, ho, hL, _ =>
    obtain ⟨hop, hdst, hgd⟩ := tab_at htab ho (show rty11T[4]? = _ from rfl)
    simp only at hop hgd
    have h0 := frm_old (val := val c) ha 12 _ (hold 12 rfl) o12
    exact doesX_of (doesL_run ho (wanted_none hgd) (hpure 4 (by decide) c L w' hW) (by rw [run_move _ _ _ hop]; exact congrArg (fun v => Result.ok (Next.value v) w') (eval_of h0)))
  | 5, ho, hL, _ =>
    obtain ⟨hop, hdst, hgd⟩ := tab_at htab ho (show rty11T[5]? = _ from rfl)
    simp only at hop hgd
    have h0 := frm_old (val := val c) ha 14 _ (hold 14 rfl) o14
    exact doesX_of (doesL_run ho (wanted_none hgd) (hpure 5 (by decide) c L w' hW) (by rw [run_move _ _ _ hop]; exact congrArg (fun v => Result.ok (Next.value v) w') (eval_of h0)))
  | 6, ho, hL, _ =>
    obtain ⟨hop, hdst, hgd⟩ := tab_at htab ho (show rty11T[6]? = _ from rfl)
    simp only at hop hgd
    have h0 := frm_at (val := val c) hdis ha 5 74 (hds 5 74 rfl) (by omega) (depl_of hdep 6 5 (by decide) ho hd)
    exact doesX_of (doesL_run ho (wanted_none hgd) (hpure 6 (by decide) c L w' hW) (g_bin hop (eval_of h0) rfl (r6 w')))
  | 7, ho, hL, _ =>
    obtain ⟨hop, hdst, hgd⟩ := tab_at htab ho (show rty11T[7]? = _ from rfl)
    simp only at hop hgd
    have h0 := frm_old (val := val c) ha 14 _ (hold 14 rfl) o14
    exact doesX_of (doesL_run ho (wanted_none hgd) (hpure 7 (by decide) c L w' hW) (by rw [run_move _ _ _ hop]; exact congrArg (fun v => Result.ok (Next.value v) w') (eval_of h0)))
  | 8, ho, hL, _ =>
    obtain ⟨hop, hdst, hgd⟩ := tab_at htab ho (show rty11T[8]? = _ from rfl)
    simp only at hop hgd
    have h0 := frm_at (val := val c) hdis ha 7 76 (hds 7 76 rfl) (by omega) (depl_of hdep 8 7 (by decide) ho hd)
    exact doesX_of (doesL_run ho (wanted_none hgd) (hpure 8 (by decide) c L w' hW) (g_bin hop (eval_of h0) rfl (r8 w')))
  | 9, ho, hL, _ =>
    obtain ⟨hop, hdst, hgd⟩ := tab_at htab ho (show rty11T[9]? = _ from rfl)
    simp only at hop hgd
    have h0 := frm_at (val := val c) hdis ha 4 73 (hds 4 73 rfl) (by omega) (depl_of hdep 9 4 (by decide) ho hd)
    have h1 := frm_at (val := val c) hdis ha 6 75 (hds 6 75 rfl) (by omega) (depl_of hdep 9 6 (by decide) ho hd)
    have h2 := frm_at (val := val c) hdis ha 8 77 (hds 8 77 rfl) (by omega) (depl_of hdep 9 8 (by decide) ho hd)
    exact doesX_of (doesL_run ho (wanted_none hgd) (hpure 9 (by decide) c L w' hW) (g_sl hop (eval_of h0) (congrArg some (eval_of h1)) (congrArg some (eval_of h2)) rfl (r9 w')))
  | 10, ho, hL, _ =>
    obtain ⟨hop, hdst, hgd⟩ := tab_at htab ho (show rty11T[10]? = _ from rfl)
    simp only at hop hgd
    have h0 := frm_at (val := val c) hdis ha 3 72 (hds 3 72 rfl) (by omega) (depl_of hdep 10 3 (by decide) ho hd)
    have h1 := frm_at (val := val c) hdis ha 9 78 (hds 9 78 rfl) (by omega) (depl_of hdep 10 9 (by decide) ho hd)
    exact doesX_of (doesL_run ho (wanted_none hgd) (hpure 10 (by decide) c L w' hW) (g_bin hop (eval_of h0) (eval_of h1) (r10 w')))
  | 11, ho, hL, _ =>
    obtain ⟨hop, hdst, hgd⟩ := tab_at htab ho (show rty11T[11]? = _ from rfl)
    simp only at hop hgd
    have h0 := frm_old (val := val c) ha 12 _ (hold 12 rfl) o12
    exact doesX_of (doesL_run ho (wanted_none hgd) (hpure 11 (by decide) c L w' hW) (by rw [run_move _ _ _ hop]; exact congrArg (fun v => Result.ok (Next.value v) w') (eval_of h0)))
  | 12, ho, hL, _ =>
    obtain ⟨hop, hdst, hgd⟩ := tab_at htab ho (show rty11T[12]? = _ from rfl)
    simp only at hop hgd
    have h0 := frm_old (val := val c) ha 14 _ (hold 14 rfl) o14
    exact doesX_of (doesL_run ho (wanted_none hgd) (hpure 12 (by decide) c L w' hW) (by rw [run_move _ _ _ hop]; exact congrArg (fun v => Result.ok (Next.value v) w') (eval_of h0)))
  | 13, ho, hL, _ =>
    obtain ⟨hop, hdst, hgd⟩ := tab_at htab ho (show rty11T[13]? = _ from rfl)
    simp only at hop hgd
    have h0 := frm_old (val := val c) ha 14 _ (hold 14 rfl) o14
    exact doesX_of (doesL_run ho (wanted_none hgd) (hpure 13 (by decide) c L w' hW) (by rw [run_move _ _ _ hop]; exact congrArg (fun v => Result.ok (Next.value v) w') (eval_of h0)))
  | 14, ho, hL, _ =>
    obtain ⟨hop, hdst, hgd⟩ := tab_at htab ho (show rty11T[14]? = _ from rfl)
    simp only at hop hgd
    have h0 := frm_at (val := val c) hdis ha 13 82 (hds 13 82 rfl) (by omega) (depl_of hdep 14 13 (by decide) ho hd)
    exact doesX_of (doesL_run ho (wanted_none hgd) (hpure 14 (by decide) c L w' hW) (g_bin hop (eval_of h0) rfl (r14 w')))
  | 15, ho, hL, _ =>
    obtain ⟨hop, hdst, hgd⟩ := tab_at htab ho (show rty11T[15]? = _ from rfl)
    simp only at hop hgd
    have h0 := frm_at (val := val c) hdis ha 11 80 (hds 11 80 rfl) (by omega) (depl_of hdep 15 11 (by decide) ho hd)
    have h1 := frm_at (val := val c) hdis ha 12 81 (hds 12 81 rfl) (by omega) (depl_of hdep 15 12 (by decide) ho hd)
    have h2 := frm_at (val := val c) hdis ha 14 83 (hds 14 83 rfl) (by omega) (depl_of hdep 15 14 (by decide) ho hd)
    exact doesX_of (doesL_run ho (wanted_none hgd) (hpure 15 (by decide) c L w' hW) (g_sl hop (eval_of h0) (congrArg some (eval_of h1)) (congrArg some (eval_of h2)) rfl (r15 w')))
  | 16, ho, hL, _ =>
    obtain ⟨hop, hdst, hgd⟩ := tab_at htab ho (show rty11T[16]? = _ from rfl)
    simp only at hop hgd
    have h0 := frm_at (val := val c) hdis ha 10 79 (hds 10 79 rfl) (by omega) (depl_of hdep 16 10 (by decide) ho hd)
    have h1 := frm_at (val := val c) hdis ha 15 84 (hds 15 84 rfl) (by omega) (depl_of hdep 16 15 (by decide) ho hd)
    exact doesX_of (doesL_run ho (wanted_none hgd) (hpure 16 (by decide) c L w' hW) (g_bin hop (eval_of h0) (eval_of h1) (r16 w')))
  | 17, ho, hL, _ =>
    obtain ⟨hop, hdst, hgd⟩ := tab_at htab ho (show rty11T[17]? = _ from rfl)
    simp only at hop hgd
    have h0 := frm_old (val := val c) ha 12 _ (hold 12 rfl) o12
    exact doesX_of (doesL_run ho (wanted_none hgd) (hpure 17 (by decide) c L w' hW) (by rw [run_move _ _ _ hop]; exact congrArg (fun v => Result.ok (Next.value v) w') (eval_of h0)))
  | 18, ho, hL, _ =>
    obtain ⟨hop, hdst, hgd⟩ := tab_at htab ho (show rty11T[18]? = _ from rfl)
    simp only at hop hgd
    have h0 := frm_old (val := val c) ha 14 _ (hold 14 rfl) o14
    exact doesX_of (doesL_run ho (wanted_none hgd) (hpure 18 (by decide) c L w' hW) (by rw [run_move _ _ _ hop]; exact congrArg (fun v => Result.ok (Next.value v) w') (eval_of h0)))
  | 19, ho, hL, _ =>
    obtain ⟨hop, hdst, hgd⟩ := tab_at htab ho (show rty11T[19]? = _ from rfl)
    simp only at hop hgd
    have h0 := frm_at (val := val c) hdis ha 18 87 (hds 18 87 rfl) (by omega) (depl_of hdep 19 18 (by decide) ho hd)
    exact doesX_of (doesL_run ho (wanted_none hgd) (hpure 19 (by decide) c L w' hW) (g_bin hop (eval_of h0) rfl (r19 w')))
  | 20, ho, hL, _ =>
    obtain ⟨hop, hdst, hgd⟩ := tab_at htab ho (show rty11T[20]? = _ from rfl)
    simp only at hop hgd
    have h0 := frm_at (val := val c) hdis ha 17 86 (hds 17 86 rfl) (by omega) (depl_of hdep 20 17 (by decide) ho hd)
    have h1 := frm_at (val := val c) hdis ha 19 88 (hds 19 88 rfl) (by omega) (depl_of hdep 20 19 (by decide) ho hd)
    exact doesX_of (doesL_run ho (wanted_none hgd) (hpure 20 (by decide) c L w' hW) (g_sl hop (eval_of h0) (congrArg some (eval_of h1)) rfl rfl (r20 w')))
  | 21, ho, hL, _ =>
    obtain ⟨hop, hdst, hgd⟩ := tab_at htab ho (show rty11T[21]? = _ from rfl)
    simp only at hop hgd
    have h0 := frm_at (val := val c) hdis ha 16 85 (hds 16 85 rfl) (by omega) (depl_of hdep 21 16 (by decide) ho hd)
    have h1 := frm_at (val := val c) hdis ha 20 89 (hds 20 89 rfl) (by omega) (depl_of hdep 21 20 (by decide) ho hd)
    exact doesX_of (doesL_run ho (wanted_none hgd) (hpure 21 (by decide) c L w' hW) (g_bin hop (eval_of h0) (eval_of h1) (r21 w')))
  | 22, ho, hL, _ =>
    obtain ⟨hop, hdst, hgd⟩ := tab_at htab ho (show rty11T[22]? = _ from rfl)
    simp only at hop hgd
    have h0 := frm_at (val := val c) hdis ha 21 90 (hds 21 90 rfl) (by omega) (depl_of hdep 22 21 (by decide) ho hd)
    obtain ⟨c', W', q0, q1, q2⟩ := r22 c L w' hW hL (depl_of hdep 22 21 (by decide) ho hd)
    exact doesX_runw ho (wanted_none hgd) c' q0 q2 (g_bs hop (by simp only [List.map_toArray, List.map_cons, List.map_nil, eval_of h0]; first | done | rfl) q1)
  | 23, ho, hL, _ =>
    obtain ⟨hop, hdst, hgd⟩ := tab_at htab ho (show rty11T[23]? = _ from rfl)
    simp only at hop hgd
    have h0 := frm_at (val := val c) hdis ha 0 69 (hds 0 69 rfl) (by omega) (depl_of hdep 23 0 (by decide) ho hd)
    have h1 := frm_at (val := val c) hdis ha 22 91 (hds 22 91 rfl) (by omega) (depl_of hdep 23 22 (by decide) ho hd)
    obtain ⟨c', W', q0, q1, q2⟩ := r23 _ c L w' hW hL (depl_of hdep 23 0 (by decide) ho hd) (depl_of hdep 23 22 (by decide) ho hd)
    exact doesX_runw ho (wanted_none hgd) c' q0 q2 (g_app hop (eval_of h0) (eval_of h1) q1)
  | 24, ho, hL, _ =>
    obtain ⟨hop, hdst, hgd⟩ := tab_at htab ho (show rty11T[24]? = _ from rfl)
    simp only at hop hgd
    have h0 := frm_at (val := val c) hdis ha 23 92 (hds 23 92 rfl) (by omega) (depl_of hdep 24 23 (by decide) ho hd)
    exact doesX_of (doesL_run ho (wanted_none hgd) (r24 c L w' hW hL (depl_of hdep 24 23 (by decide) ho hd)) (by rw [run_assign _ _ _ hop]; exact congrArg (fun v => Result.ok (Next.value v) w') (eval_of h0)))
  | (i + 25), ho, hL, hi => exact absurd hi (by omega)
end Go.Proofs.YtbeionikiiccpaaDoor
