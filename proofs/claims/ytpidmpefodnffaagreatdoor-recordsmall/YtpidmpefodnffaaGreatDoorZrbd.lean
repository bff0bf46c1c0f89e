import Derived.Test.YtpidmpefodnffaaGreatDoorZrbb
import Derived.Test.YtpidmpefodnffaaGreatDoorZfdi
import Derived.Test.YtpidmpefodnffaaGreatDoorZfde
import Derived.Test.YtpidmpefodnffaaGreatDoorZdetl
import Derived.Deep.Cut
import Derived.Deep.CutRange
namespace Go.Proofs.YtpidmpefodnffaaGreatDoor
open Go.RowKit Go.Lib
set_option maxHeartbeats 4000000
set_option maxRecDepth 8000
/-- by of a number from 0 on. -/
theorem byI (z : Int) (size : Nat) (w : World) (h1 : 1 ≤ size) (h8 : size ≤ 8) (h0 : 0 ≤ z) (hz : z ≤ 9223372036854775807) :
    Calls Tryz.prog 62 #[I z, .int .i64 size] w fun e w' => e = .returned (S (be size z.toNat)) ∧ Below w.heap.size w w' := by
  have := by_any size z.toNat w h1 h8 (by omega)
  rw [Int.toNat_of_nonneg h0] at this
  exact this
/-- What holds between two operations of a drawn region that reads a box X and fills a box R of two texts. -/
structure Rk (w : World) (X : Nat) (cx : Array Value) (tx : TypeId) (R st : Nat) (fin : Array Value) (_c : Unit) (L : Nat → Bool) (W : World) : Prop where
  bel : Below w.heap.size w W
  rx : W.heap[X]? = some (.cells cx tx (0, 0))
  rr : W.heap[R]? = some (.cells (if L st then fin else #[S [], S []]) 30 (0, 0))
  hR : w.heap.size ≤ R ∧ X ≠ R
variable {w : World} {X : Nat} {cx : Array Value} {tx : TypeId} {R st : Nat} {fin : Array Value} {c : Unit} {L : Nat → Bool} {W : World}
theorem Rk.pure (h : Rk w X cx tx R st fin c L W) (i : Nat) (hi : i ≠ st) : Rk w X cx tx R st fin c (upd L i) W :=
  ⟨h.bel, h.rx, by rw [show upd L i st = L st from if_neg (Ne.symm hi)]; exact h.rr, h.hR⟩
theorem Rk.call (h : Rk w X cx tx R st fin c L W) (i : Nat) (hi : i ≠ st) {W' : World} (hb : Below W.heap.size W W') : Rk w X cx tx R st fin c (upd L i) W' :=
  ⟨h.bel.trans (hb.mono h.bel.size), (hb.block _ (lt_of_row h.rx)).trans h.rx, by rw [show upd L i st = L st from if_neg (Ne.symm hi)]; exact (hb.block _ (lt_of_row h.rr)).trans h.rr, h.hR⟩
theorem Rk.cell (h : Rk w X cx tx R st fin c L W) {j : Nat} {v : Value} (hv : cx[j]? = some v) : W.cell? ⟨X, j, none⟩ = some v := cellr h.rx hv
theorem Rk.store {a b : Bs} (h : Rk w X cx tx R st #[S a, S b] c L W) (hs : L st = false) : ∃ W', (Instr.storeAt 30 (.pointer (some ⟨R, 0, none⟩)) (.agg #[S a, S b])).run Tryz.prog W = .ok () W' ∧ Rk w X cx tx R st #[S a, S b] c (upd L st) W' := by
  have hr := h.rr
  rw [hs] at hr
  simp only [Bool.false_eq_true, if_false] at hr
  refine ⟨W.setRow R #[S a, S b], ?_, ?_⟩
  · have := s_sta (T := 30) (n := 2) (o := 0) (fun _ => by kernel_rfl) hr (.agg #[S a, S b]) rfl (by simp) (by simp [Value.cells, Value.oneCell'])
    simpa [Value.cells] using this
  · refine ⟨(setRow_Only W R #[S a, S b]).below h.bel h.bel.size (fun k e => by have := h.hR.1; omega), ?_, ?_, h.hR⟩
    · rw [(setRow_Only W R #[S a, S b]).block X (lt_of_row h.rx) (fun e => h.hR.2 e)]; exact h.rx
    · rw [show upd L st st = true from if_pos rfl]; exact setRow_row hr
end Go.Proofs.YtpidmpefodnffaaGreatDoor
namespace Go.Proofs.YtpidmpefodnffaaGreatDoor
open Go.RowKit
def vrrf39 (X _R : Nat) (nu : Int) (se : Bs) (fr : Int) (un : Int) (_c : Unit) (i : Nat) : Value := match i with
  | 0 => (.pointer (some ⟨X, 0, none⟩))
  | 1 => (I nu)
  | 2 => (S (be 4 nu.toNat))
  | 3 => (S ([107] ++ (be 4 nu.toNat)))
  | 4 => (.pointer (some ⟨X, 1, none⟩))
  | 5 => (S se)
  | 6 => (.pointer (some ⟨X, 2, none⟩))
  | 7 => (I fr)
  | 8 => (S (be 6 fr.toNat))
  | 9 => (S (se ++ (be 6 fr.toNat)))
  | 10 => (.pointer (some ⟨X, 3, none⟩))
  | 11 => (I un)
  | 12 => (S (be 6 un.toNat))
  | 13 => (S (((se ++ (be 6 fr.toNat))) ++ (be 6 un.toNat)))
  | 14 => (.agg #[S ([107] ++ (be 4 nu.toNat)), S (((se ++ (be 6 fr.toNat))) ++ (be 6 un.toNat))])
  | 15 => undef
  | 16 => (I 0)
  | _ => undef
def rrf39T : List (Op × Option Tmp × Option (Nat × Bool)) := [
  (.fieldAddr 60 (.tmp 1) 0, some 42, none),
  (.load 3 (.tmp 42), some 43, none),
  (.call { callee := .value (.func 62), args := #[(.tmp 43), (.const (I 4))], argTypes := #[3, 3] }, some 44, none),
  (.binOp .add 9 (.const (.string ⟨#[107]⟩)) (.tmp 44) 9, some 45, none),
  (.fieldAddr 60 (.tmp 1) 1, some 46, none),
  (.load 9 (.tmp 46), some 47, none),
  (.fieldAddr 60 (.tmp 1) 2, some 48, none),
  (.load 3 (.tmp 48), some 49, none),
  (.call { callee := .value (.func 62), args := #[(.tmp 49), (.const (I 6))], argTypes := #[3, 3] }, some 50, none),
  (.binOp .add 9 (.tmp 47) (.tmp 50) 9, some 51, none),
  (.fieldAddr 60 (.tmp 1) 3, some 52, none),
  (.load 3 (.tmp 52), some 53, none),
  (.call { callee := .value (.func 62), args := #[(.tmp 53), (.const (I 6))], argTypes := #[3, 3] }, some 54, none),
  (.binOp .add 9 (.tmp 51) (.tmp 54) 9, some 55, none),
  (.build 30 #[(0, (.tmp 45)), (1, (.tmp 55))], some 56, none),
  (.store 30 (.tmp 2) (.tmp 56), none, none),
  (.assign (.const (I 0)), some 3, none)]
def rrf39D : List (Nat × Nat) := [(1, 0), (2, 1), (3, 2), (5, 4), (7, 6), (8, 7), (9, 5), (9, 8), (11, 10), (12, 11), (13, 9), (13, 12), (14, 3), (14, 13), (15, 14)]
set_option maxHeartbeats 4000000 in
theorem rrf39 {ops : Array Oper} {id : Nat} {Q : Exit → Act → World → Prop} (X R : Nat) (nu : Int) (se : Bs) (fr : Int) (un : Int) (htab : ops.toList.map (fun o => (o.op, o.dst, o.guard)) = rrf39T) (hdep : deplB rrf39D ops = true) (hac : acB ops = true)
    (a0 : Act) (w : World) (hsz : 57 ≤ a0.tmps.size) (o1 : a0.tmps[1]? = some (.pointer (some ⟨X, 0, none⟩))) (o2 : a0.tmps[2]? = some (.pointer (some ⟨R, 0, none⟩)))
    (Wd : Unit → (Nat → Bool) → World → Prop) (h0 : ∃ c, Wd c (fun _ => false) w.drew) (hpure : ∀ i, i ∉ ([2, 8, 12, 15] : List Nat) → ∀ c L W, Wd c L W → Wd c (upd L i) W)
    (r1 : ∀ c L W, Wd c L W → L 1 = false → L 0 = true → (Instr.loadAt 3 (.pointer (some ⟨X, 0, none⟩))).run Tryz.prog W = .ok (I nu) W)
    (r2 : ∀ c L W, Wd c L W → L 2 = false → L 1 = true → Calls Tryz.prog 62 #[(I nu), (I 4)] W fun eg w' => ∃ c', (∀ j, L j = true → vrrf39 X R nu se fr un c' j = vrrf39 X R nu se fr un c j) ∧ eg = .returned (vrrf39 X R nu se fr un c' 2) ∧ Wd c' (upd L 2) w')
    (r3 : ∀ W, (do eqGuard .add 9 (.const (.string ⟨#[107]⟩)) (.tmp 44) (.string ⟨#[107]⟩) (S (be 4 nu.toNat)); binOp .add 9 (.string ⟨#[107]⟩) (S (be 4 nu.toNat))).run Tryz.prog W = .ok (S ([107] ++ (be 4 nu.toNat))) W)
    (r5 : ∀ c L W, Wd c L W → L 5 = false → L 4 = true → (Instr.loadAt 9 (.pointer (some ⟨X, 1, none⟩))).run Tryz.prog W = .ok (S se) W)
    (r7 : ∀ c L W, Wd c L W → L 7 = false → L 6 = true → (Instr.loadAt 3 (.pointer (some ⟨X, 2, none⟩))).run Tryz.prog W = .ok (I fr) W)
    (r8 : ∀ c L W, Wd c L W → L 8 = false → L 7 = true → Calls Tryz.prog 62 #[(I fr), (I 6)] W fun eg w' => ∃ c', (∀ j, L j = true → vrrf39 X R nu se fr un c' j = vrrf39 X R nu se fr un c j) ∧ eg = .returned (vrrf39 X R nu se fr un c' 8) ∧ Wd c' (upd L 8) w')
    (r9 : ∀ W, (do eqGuard .add 9 (.tmp 47) (.tmp 50) (S se) (S (be 6 fr.toNat)); binOp .add 9 (S se) (S (be 6 fr.toNat))).run Tryz.prog W = .ok (S (se ++ (be 6 fr.toNat))) W)
    (r11 : ∀ c L W, Wd c L W → L 11 = false → L 10 = true → (Instr.loadAt 3 (.pointer (some ⟨X, 3, none⟩))).run Tryz.prog W = .ok (I un) W)
    (r12 : ∀ c L W, Wd c L W → L 12 = false → L 11 = true → Calls Tryz.prog 62 #[(I un), (I 6)] W fun eg w' => ∃ c', (∀ j, L j = true → vrrf39 X R nu se fr un c' j = vrrf39 X R nu se fr un c j) ∧ eg = .returned (vrrf39 X R nu se fr un c' 12) ∧ Wd c' (upd L 12) w')
    (r13 : ∀ W, (do eqGuard .add 9 (.tmp 51) (.tmp 54) (S (se ++ (be 6 fr.toNat))) (S (be 6 un.toNat)); binOp .add 9 (S (se ++ (be 6 fr.toNat))) (S (be 6 un.toNat))).run Tryz.prog W = .ok (S (((se ++ (be 6 fr.toNat))) ++ (be 6 un.toNat))) W)
    (r15 : ∀ c L W, Wd c L W → L 15 = false → L 14 = true → ∃ W', (Instr.storeAt 30 (.pointer (some ⟨R, 0, none⟩)) (.agg #[S ([107] ++ (be 4 nu.toNat)), S (((se ++ (be 6 fr.toNat))) ++ (be 6 un.toNat))])).run Tryz.prog W = .ok () W' ∧ Wd c (upd L 15) W')
    (hend : ∀ c L W, (∀ i, i < 17 → L i = true) → Wd c L W → Q .normal ((((((((((((((((a0.put (some 42) (.pointer (some ⟨X, 0, none⟩))).put (some 43) (I nu)).put (some 44) (S (be 4 nu.toNat))).put (some 45) (S ([107] ++ (be 4 nu.toNat)))).put (some 46) (.pointer (some ⟨X, 1, none⟩))).put (some 47) (S se)).put (some 48) (.pointer (some ⟨X, 2, none⟩))).put (some 49) (I fr)).put (some 50) (S (be 6 fr.toNat))).put (some 51) (S (se ++ (be 6 fr.toNat)))).put (some 52) (.pointer (some ⟨X, 3, none⟩))).put (some 53) (I un)).put (some 54) (S (be 6 un.toNat))).put (some 55) (S (((se ++ (be 6 fr.toNat))) ++ (be 6 un.toNat)))).put (some 56) (.agg #[S ([107] ++ (be 4 nu.toNat)), S (((se ++ (be 6 fr.toNat))) ++ (be 6 un.toNat))])).put (some 3) (I 0)) W) : (Code.region id ops true).wp Tryz.prog Q a0 w := by
  let val : Unit → Nat → Value := vrrf39 X R nu se fr un
  have hosz : ops.size = 17 := by
    have := congrArg List.length htab
    simpa [rrf39T] using this
  have hds : ∀ i s, (rrf39T[i]?).bind (·.2.1) = some s → dstOf ops i = some s := fun i s hi => by rw [tab_dst htab, hi]
  have hdisB : disL rrf39T = true := by rfl
  have hdis := disL_of htab hdisB
  have hold : ∀ s, rrf39T.all (fun x => !(x.2.1 == some s)) = true → (List.range ops.size).all (fun j => !(dstOf ops j == some s)) = true := fun s h => holdL htab s h
  refine region_detX val Wd (hac_of hac) hdis h0 ?_ ?_
  rotate_left
  · intro c L W hall hW
    have := hend c L W (by rw [← hosz]; exact hall) hW
    have e : frm ops a0 (val c) (fun _ => true) ops.size = ((((((((((((((((a0.put (some 42) (.pointer (some ⟨X, 0, none⟩))).put (some 43) (I nu)).put (some 44) (S (be 4 nu.toNat))).put (some 45) (S ([107] ++ (be 4 nu.toNat)))).put (some 46) (.pointer (some ⟨X, 1, none⟩))).put (some 47) (S se)).put (some 48) (.pointer (some ⟨X, 2, none⟩))).put (some 49) (I fr)).put (some 50) (S (be 6 fr.toNat))).put (some 51) (S (se ++ (be 6 fr.toNat)))).put (some 52) (.pointer (some ⟨X, 3, none⟩))).put (some 53) (I un)).put (some 54) (S (be 6 un.toNat))).put (some 55) (S (((se ++ (be 6 fr.toNat))) ++ (be 6 un.toNat)))).put (some 56) (.agg #[S ([107] ++ (be 4 nu.toNat)), S (((se ++ (be 6 fr.toNat))) ++ (be 6 un.toNat))])).put (some 3) (I 0)) := by
      rw [hosz]
      simp only [frm, if_true]
      rw [tab_dst htab 0, tab_dst htab 1, tab_dst htab 2, tab_dst htab 3, tab_dst htab 4, tab_dst htab 5, tab_dst htab 6, tab_dst htab 7, tab_dst htab 8, tab_dst htab 9, tab_dst htab 10, tab_dst htab 11, tab_dst htab 12, tab_dst htab 13, tab_dst htab 14, (show dstOf ops 15 = none from (tab_dst htab 15).trans rfl), put_none, tab_dst htab 16]
      rfl
    rw [e]
    exact this
  intro i o ho c L a w' hL hd ha hW
  have hi : i < 17 := by rw [← hosz]; exact (Array.getElem?_eq_some_iff.1 ho).1
  have G : ∀ j s : Nat, (rrf39T[j]?).bind (·.2.1) = some s → s < 57 → (i, j) ∈ rrf39D → a.tmps[s]? = some (val c j) := fun j s h1 h2 h3 => frm_at hdis ha j s (hds j s h1) (by omega) (depl_of hdep i j h3 ho hd)
  match i, ho, hL, hi, G with
  | 0, ho, hL, _, G =>
    obtain ⟨hop, hgd⟩ := tab3 htab ho rfl
    have h0 := frm_old ha 1 _ (hold 1 rfl) o1
    exact (dXr ho hgd (hpure 0 (by decide) c L w' hW) (g_field hop (eval_of h0) (by kernel_rfl)))
  | 1, ho, hL, _, G =>
    obtain ⟨hop, hgd⟩ := tab3 htab ho rfl
    have h0 := G 0 42 rfl (by decide) (by decide)
    exact (dXr ho hgd (hpure 1 (by decide) c L w' hW) (g_load hop (eval_of h0) (r1 c L w' hW hL (depl_of hdep 1 0 (by decide) ho hd))))
  | 2, ho, hL, _, G =>
    obtain ⟨hop, hgd⟩ := tab3 htab ho rfl
    have h0 := G 1 43 rfl (by decide) (by decide)
    refine doesX_call ho (wanted_none hgd) 62 #[(I nu), (I 4)] ?_ (r2 c L w' hW hL (depl_of hdep 2 1 (by decide) ho hd))
    rw [run_calls Tryz.func62 (by kernel_rfl) rfl _ _ _ _ hop rfl]
    simp only [List.map_toArray, List.map_cons, List.map_nil, eval_of h0]
    all_goals rfl
  | 3, ho, hL, _, G =>
    obtain ⟨hop, hgd⟩ := tab3 htab ho rfl
    have h1 := G 2 44 rfl (by decide) (by decide)
    exact (dXr ho hgd (hpure 3 (by decide) c L w' hW) (g_bin hop rfl (eval_of h1) (r3 w')))
  | 4, ho, hL, _, G =>
    obtain ⟨hop, hgd⟩ := tab3 htab ho rfl
    have h0 := frm_old ha 1 _ (hold 1 rfl) o1
    exact (dXr ho hgd (hpure 4 (by decide) c L w' hW) (g_field hop (eval_of h0) (by kernel_rfl)))
  | 5, ho, hL, _, G =>
    obtain ⟨hop, hgd⟩ := tab3 htab ho rfl
    have h0 := G 4 46 rfl (by decide) (by decide)
    exact (dXr ho hgd (hpure 5 (by decide) c L w' hW) (g_load hop (eval_of h0) (r5 c L w' hW hL (depl_of hdep 5 4 (by decide) ho hd))))
  | 6, ho, hL, _, G =>
    obtain ⟨hop, hgd⟩ := tab3 htab ho rfl
    have h0 := frm_old ha 1 _ (hold 1 rfl) o1
    exact (dXr ho hgd (hpure 6 (by decide) c L w' hW) (g_field hop (eval_of h0) (by kernel_rfl)))
  | 7, ho, hL, _, G =>
    obtain ⟨hop, hgd⟩ := tab3 htab ho rfl
    have h0 := G 6 48 rfl (by decide) (by decide)
    exact (dXr ho hgd (hpure 7 (by decide) c L w' hW) (g_load hop (eval_of h0) (r7 c L w' hW hL (depl_of hdep 7 6 (by decide) ho hd))))
  | 8, ho, hL, _, G =>
    obtain ⟨hop, hgd⟩ := tab3 htab ho rfl
    have h0 := G 7 49 rfl (by decide) (by decide)
    refine doesX_call ho (wanted_none hgd) 62 #[(I fr), (I 6)] ?_ (r8 c L w' hW hL (depl_of hdep 8 7 (by decide) ho hd))
    rw [run_calls Tryz.func62 (by kernel_rfl) rfl _ _ _ _ hop rfl]
    simp only [List.map_toArray, List.map_cons, List.map_nil, eval_of h0]
    all_goals rfl
  | 9, ho, hL, _, G =>
    obtain ⟨hop, hgd⟩ := tab3 htab ho rfl
    have h0 := G 5 47 rfl (by decide) (by decide)
    have h1 := G 8 50 rfl (by decide) (by decide)
    exact (dXr ho hgd (hpure 9 (by decide) c L w' hW) (g_bin hop (eval_of h0) (eval_of h1) (r9 w')))
  | 10, ho, hL, _, G =>
    obtain ⟨hop, hgd⟩ := tab3 htab ho rfl
    have h0 := frm_old ha 1 _ (hold 1 rfl) o1
    exact (dXr ho hgd (hpure 10 (by decide) c L w' hW) (g_field hop (eval_of h0) (by kernel_rfl)))
  | 11, ho, hL, _, G =>
    obtain ⟨hop, hgd⟩ := tab3 htab ho rfl
    have h0 := G 10 52 rfl (by decide) (by decide)
    exact (dXr ho hgd (hpure 11 (by decide) c L w' hW) (g_load hop (eval_of h0) (r11 c L w' hW hL (depl_of hdep 11 10 (by decide) ho hd))))
  | 12, ho, hL, _, G =>
    obtain ⟨hop, hgd⟩ := tab3 htab ho rfl
    have h0 := G 11 53 rfl (by decide) (by decide)
    refine doesX_call ho (wanted_none hgd) 62 #[(I un), (I 6)] ?_ (r12 c L w' hW hL (depl_of hdep 12 11 (by decide) ho hd))
    rw [run_calls Tryz.func62 (by kernel_rfl) rfl _ _ _ _ hop rfl]
    simp only [List.map_toArray, List.map_cons, List.map_nil, eval_of h0]
    all_goals rfl
  | 13, ho, hL, _, G =>
    obtain ⟨hop, hgd⟩ := tab3 htab ho rfl
    have h0 := G 9 51 rfl (by decide) (by decide)
    have h1 := G 12 54 rfl (by decide) (by decide)
    exact (dXr ho hgd (hpure 13 (by decide) c L w' hW) (g_bin hop (eval_of h0) (eval_of h1) (r13 w')))
  | 14, ho, hL, _, G =>
    obtain ⟨hop, hgd⟩ := tab3 htab ho rfl
    have h0 := G 3 45 rfl (by decide) (by decide)
    have h1 := G 13 55 rfl (by decide) (by decide)
    exact (dXr ho hgd (hpure 14 (by decide) c L w' hW) (g_build hop (by simp only [List.map_toArray, List.map_cons, List.map_nil, eval_of h0, eval_of h1]; first | done | rfl) (by kernel_rfl)))
  | 15, ho, hL, _, G =>
    obtain ⟨hop, hgd⟩ := tab3 htab ho rfl
    have h0 := frm_old ha 2 _ (hold 2 rfl) o2
    have h1 := G 14 56 rfl (by decide) (by decide)
    obtain ⟨W', q1, q2⟩ := r15 c L w' hW hL (depl_of hdep 15 14 (by decide) ho hd)
    exact doesX_of (doesL_skp ho (wanted_none hgd) rfl q2 (g_store hop (eval_of h0) (eval_of h1) q1))
  | 16, ho, hL, _, G =>
    obtain ⟨hop, hgd⟩ := tab3 htab ho rfl
    exact (dXr ho hgd (hpure 16 (by decide) c L w' hW) (by rw [run_assign _ _ _ hop]; exact congrArg (fun v => Result.ok (Next.value v) w') rfl))
  | (i + 17), ho, hL, hi, _ => exact absurd hi (by omega)
def vrrf42 (X _R : Nat) (nu : Int) (ti : Int) (ki : Int) (fa : Int) (wh : Bs) (_c : Unit) (i : Nat) : Value := match i with
  | 0 => (.pointer (some ⟨X, 0, none⟩))
  | 1 => (I nu)
  | 2 => (S (be 8 nu.toNat))
  | 3 => (S ([101] ++ (be 8 nu.toNat)))
  | 4 => (.pointer (some ⟨X, 1, none⟩))
  | 5 => (I ti)
  | 6 => (S (be 6 ti.toNat))
  | 7 => (.pointer (some ⟨X, 2, none⟩))
  | 8 => (I ki)
  | 9 => (S (be 1 ki.toNat))
  | 10 => (S ((be 6 ti.toNat) ++ (be 1 ki.toNat)))
  | 11 => (.pointer (some ⟨X, 3, none⟩))
  | 12 => (I fa)
  | 13 => (S (be 8 fa.toNat))
  | 14 => (S ((((be 6 ti.toNat) ++ (be 1 ki.toNat))) ++ (be 8 fa.toNat)))
  | 15 => (.pointer (some ⟨X, 4, none⟩))
  | 16 => (S wh)
  | 17 => (S (be 1 wh.length ++ wh))
  | 18 => (S ((((((be 6 ti.toNat) ++ (be 1 ki.toNat))) ++ (be 8 fa.toNat))) ++ (be 1 wh.length ++ wh)))
  | 19 => (.agg #[S ([101] ++ (be 8 nu.toNat)), S ((((((be 6 ti.toNat) ++ (be 1 ki.toNat))) ++ (be 8 fa.toNat))) ++ (be 1 wh.length ++ wh))])
  | 20 => undef
  | 21 => (I 0)
  | _ => undef
def rrf42T : List (Op × Option Tmp × Option (Nat × Bool)) := [
  (.fieldAddr 62 (.tmp 1) 0, some 52, none),
  (.load 3 (.tmp 52), some 53, none),
  (.call { callee := .value (.func 62), args := #[(.tmp 53), (.const (I 8))], argTypes := #[3, 3] }, some 54, none),
  (.binOp .add 9 (.const (.string ⟨#[101]⟩)) (.tmp 54) 9, some 55, none),
  (.fieldAddr 62 (.tmp 1) 1, some 56, none),
  (.load 3 (.tmp 56), some 57, none),
  (.call { callee := .value (.func 62), args := #[(.tmp 57), (.const (I 6))], argTypes := #[3, 3] }, some 58, none),
  (.fieldAddr 62 (.tmp 1) 2, some 59, none),
  (.load 3 (.tmp 59), some 60, none),
  (.call { callee := .value (.func 62), args := #[(.tmp 60), (.const (I 1))], argTypes := #[3, 3] }, some 61, none),
  (.binOp .add 9 (.tmp 58) (.tmp 61) 9, some 62, none),
  (.fieldAddr 62 (.tmp 1) 3, some 63, none),
  (.load 3 (.tmp 63), some 64, none),
  (.call { callee := .value (.func 62), args := #[(.tmp 64), (.const (I 8))], argTypes := #[3, 3] }, some 65, none),
  (.binOp .add 9 (.tmp 62) (.tmp 65) 9, some 66, none),
  (.fieldAddr 62 (.tmp 1) 4, some 67, none),
  (.load 9 (.tmp 67), some 68, none),
  (.call { callee := .value (.func 64), args := #[(.tmp 68)], argTypes := #[9] }, some 69, none),
  (.binOp .add 9 (.tmp 66) (.tmp 69) 9, some 70, none),
  (.build 30 #[(0, (.tmp 55)), (1, (.tmp 70))], some 71, none),
  (.store 30 (.tmp 2) (.tmp 71), none, none),
  (.assign (.const (I 0)), some 3, none)]
def rrf42D : List (Nat × Nat) := [(1, 0), (2, 1), (3, 2), (5, 4), (6, 5), (8, 7), (9, 8), (10, 6), (10, 9), (12, 11), (13, 12), (14, 10), (14, 13), (16, 15), (17, 16), (18, 14), (18, 17), (19, 3), (19, 18), (20, 19)]
set_option maxHeartbeats 4000000 in
theorem rrf42 {ops : Array Oper} {id : Nat} {Q : Exit → Act → World → Prop} (X R : Nat) (nu : Int) (ti : Int) (ki : Int) (fa : Int) (wh : Bs) (htab : ops.toList.map (fun o => (o.op, o.dst, o.guard)) = rrf42T) (hdep : deplB rrf42D ops = true) (hac : acB ops = true)
    (a0 : Act) (w : World) (hsz : 72 ≤ a0.tmps.size) (o1 : a0.tmps[1]? = some (.pointer (some ⟨X, 0, none⟩))) (o2 : a0.tmps[2]? = some (.pointer (some ⟨R, 0, none⟩)))
    (Wd : Unit → (Nat → Bool) → World → Prop) (h0 : ∃ c, Wd c (fun _ => false) w.drew) (hpure : ∀ i, i ∉ ([2, 6, 9, 13, 17, 20] : List Nat) → ∀ c L W, Wd c L W → Wd c (upd L i) W)
    (r1 : ∀ c L W, Wd c L W → L 1 = false → L 0 = true → (Instr.loadAt 3 (.pointer (some ⟨X, 0, none⟩))).run Tryz.prog W = .ok (I nu) W)
    (r2 : ∀ c L W, Wd c L W → L 2 = false → L 1 = true → Calls Tryz.prog 62 #[(I nu), (I 8)] W fun eg w' => ∃ c', (∀ j, L j = true → vrrf42 X R nu ti ki fa wh c' j = vrrf42 X R nu ti ki fa wh c j) ∧ eg = .returned (vrrf42 X R nu ti ki fa wh c' 2) ∧ Wd c' (upd L 2) w')
    (r3 : ∀ W, (do eqGuard .add 9 (.const (.string ⟨#[101]⟩)) (.tmp 54) (.string ⟨#[101]⟩) (S (be 8 nu.toNat)); binOp .add 9 (.string ⟨#[101]⟩) (S (be 8 nu.toNat))).run Tryz.prog W = .ok (S ([101] ++ (be 8 nu.toNat))) W)
    (r5 : ∀ c L W, Wd c L W → L 5 = false → L 4 = true → (Instr.loadAt 3 (.pointer (some ⟨X, 1, none⟩))).run Tryz.prog W = .ok (I ti) W)
    (r6 : ∀ c L W, Wd c L W → L 6 = false → L 5 = true → Calls Tryz.prog 62 #[(I ti), (I 6)] W fun eg w' => ∃ c', (∀ j, L j = true → vrrf42 X R nu ti ki fa wh c' j = vrrf42 X R nu ti ki fa wh c j) ∧ eg = .returned (vrrf42 X R nu ti ki fa wh c' 6) ∧ Wd c' (upd L 6) w')
    (r8 : ∀ c L W, Wd c L W → L 8 = false → L 7 = true → (Instr.loadAt 3 (.pointer (some ⟨X, 2, none⟩))).run Tryz.prog W = .ok (I ki) W)
    (r9 : ∀ c L W, Wd c L W → L 9 = false → L 8 = true → Calls Tryz.prog 62 #[(I ki), (I 1)] W fun eg w' => ∃ c', (∀ j, L j = true → vrrf42 X R nu ti ki fa wh c' j = vrrf42 X R nu ti ki fa wh c j) ∧ eg = .returned (vrrf42 X R nu ti ki fa wh c' 9) ∧ Wd c' (upd L 9) w')
    (r10 : ∀ W, (do eqGuard .add 9 (.tmp 58) (.tmp 61) (S (be 6 ti.toNat)) (S (be 1 ki.toNat)); binOp .add 9 (S (be 6 ti.toNat)) (S (be 1 ki.toNat))).run Tryz.prog W = .ok (S ((be 6 ti.toNat) ++ (be 1 ki.toNat))) W)
    (r12 : ∀ c L W, Wd c L W → L 12 = false → L 11 = true → (Instr.loadAt 3 (.pointer (some ⟨X, 3, none⟩))).run Tryz.prog W = .ok (I fa) W)
    (r13 : ∀ c L W, Wd c L W → L 13 = false → L 12 = true → Calls Tryz.prog 62 #[(I fa), (I 8)] W fun eg w' => ∃ c', (∀ j, L j = true → vrrf42 X R nu ti ki fa wh c' j = vrrf42 X R nu ti ki fa wh c j) ∧ eg = .returned (vrrf42 X R nu ti ki fa wh c' 13) ∧ Wd c' (upd L 13) w')
    (r14 : ∀ W, (do eqGuard .add 9 (.tmp 62) (.tmp 65) (S ((be 6 ti.toNat) ++ (be 1 ki.toNat))) (S (be 8 fa.toNat)); binOp .add 9 (S ((be 6 ti.toNat) ++ (be 1 ki.toNat))) (S (be 8 fa.toNat))).run Tryz.prog W = .ok (S ((((be 6 ti.toNat) ++ (be 1 ki.toNat))) ++ (be 8 fa.toNat))) W)
    (r16 : ∀ c L W, Wd c L W → L 16 = false → L 15 = true → (Instr.loadAt 9 (.pointer (some ⟨X, 4, none⟩))).run Tryz.prog W = .ok (S wh) W)
    (r17 : ∀ c L W, Wd c L W → L 17 = false → L 16 = true → Calls Tryz.prog 64 #[(S wh)] W fun eg w' => ∃ c', (∀ j, L j = true → vrrf42 X R nu ti ki fa wh c' j = vrrf42 X R nu ti ki fa wh c j) ∧ eg = .returned (vrrf42 X R nu ti ki fa wh c' 17) ∧ Wd c' (upd L 17) w')
    (r18 : ∀ W, (do eqGuard .add 9 (.tmp 66) (.tmp 69) (S ((((be 6 ti.toNat) ++ (be 1 ki.toNat))) ++ (be 8 fa.toNat))) (S (be 1 wh.length ++ wh)); binOp .add 9 (S ((((be 6 ti.toNat) ++ (be 1 ki.toNat))) ++ (be 8 fa.toNat))) (S (be 1 wh.length ++ wh))).run Tryz.prog W = .ok (S ((((((be 6 ti.toNat) ++ (be 1 ki.toNat))) ++ (be 8 fa.toNat))) ++ (be 1 wh.length ++ wh))) W)
    (r20 : ∀ c L W, Wd c L W → L 20 = false → L 19 = true → ∃ W', (Instr.storeAt 30 (.pointer (some ⟨R, 0, none⟩)) (.agg #[S ([101] ++ (be 8 nu.toNat)), S ((((((be 6 ti.toNat) ++ (be 1 ki.toNat))) ++ (be 8 fa.toNat))) ++ (be 1 wh.length ++ wh))])).run Tryz.prog W = .ok () W' ∧ Wd c (upd L 20) W')
    (hend : ∀ c L W, (∀ i, i < 22 → L i = true) → Wd c L W → Q .normal (((((((((((((((((((((a0.put (some 52) (.pointer (some ⟨X, 0, none⟩))).put (some 53) (I nu)).put (some 54) (S (be 8 nu.toNat))).put (some 55) (S ([101] ++ (be 8 nu.toNat)))).put (some 56) (.pointer (some ⟨X, 1, none⟩))).put (some 57) (I ti)).put (some 58) (S (be 6 ti.toNat))).put (some 59) (.pointer (some ⟨X, 2, none⟩))).put (some 60) (I ki)).put (some 61) (S (be 1 ki.toNat))).put (some 62) (S ((be 6 ti.toNat) ++ (be 1 ki.toNat)))).put (some 63) (.pointer (some ⟨X, 3, none⟩))).put (some 64) (I fa)).put (some 65) (S (be 8 fa.toNat))).put (some 66) (S ((((be 6 ti.toNat) ++ (be 1 ki.toNat))) ++ (be 8 fa.toNat)))).put (some 67) (.pointer (some ⟨X, 4, none⟩))).put (some 68) (S wh)).put (some 69) (S (be 1 wh.length ++ wh))).put (some 70) (S ((((((be 6 ti.toNat) ++ (be 1 ki.toNat))) ++ (be 8 fa.toNat))) ++ (be 1 wh.length ++ wh)))).put (some 71) (.agg #[S ([101] ++ (be 8 nu.toNat)), S ((((((be 6 ti.toNat) ++ (be 1 ki.toNat))) ++ (be 8 fa.toNat))) ++ (be 1 wh.length ++ wh))])).put (some 3) (I 0)) W) : (Code.region id ops true).wp Tryz.prog Q a0 w := by
  let val : Unit → Nat → Value := vrrf42 X R nu ti ki fa wh
  have hosz : ops.size = 22 := by
    have := congrArg List.length htab
    simpa [rrf42T] using this
  have hds : ∀ i s, (rrf42T[i]?).bind (·.2.1) = some s → dstOf ops i = some s := fun i s hi => by rw [tab_dst htab, hi]
  have hdisB : disL rrf42T = true := by rfl
  have hdis := disL_of htab hdisB
  have hold : ∀ s, rrf42T.all (fun x => !(x.2.1 == some s)) = true → (List.range ops.size).all (fun j => !(dstOf ops j == some s)) = true := fun s h => holdL htab s h
  refine region_detX val Wd (hac_of hac) hdis h0 ?_ ?_
  rotate_left
  · intro c L W hall hW
    have := hend c L W (by rw [← hosz]; exact hall) hW
    have e : frm ops a0 (val c) (fun _ => true) ops.size = (((((((((((((((((((((a0.put (some 52) (.pointer (some ⟨X, 0, none⟩))).put (some 53) (I nu)).put (some 54) (S (be 8 nu.toNat))).put (some 55) (S ([101] ++ (be 8 nu.toNat)))).put (some 56) (.pointer (some ⟨X, 1, none⟩))).put (some 57) (I ti)).put (some 58) (S (be 6 ti.toNat))).put (some 59) (.pointer (some ⟨X, 2, none⟩))).put (some 60) (I ki)).put (some 61) (S (be 1 ki.toNat))).put (some 62) (S ((be 6 ti.toNat) ++ (be 1 ki.toNat)))).put (some 63) (.pointer (some ⟨X, 3, none⟩))).put (some 64) (I fa)).put (some 65) (S (be 8 fa.toNat))).put (some 66) (S ((((be 6 ti.toNat) ++ (be 1 ki.toNat))) ++ (be 8 fa.toNat)))).put (some 67) (.pointer (some ⟨X, 4, none⟩))).put (some 68) (S wh)).put (some 69) (S (be 1 wh.length ++ wh))).put (some 70) (S ((((((be 6 ti.toNat) ++ (be 1 ki.toNat))) ++ (be 8 fa.toNat))) ++ (be 1 wh.length ++ wh)))).put (some 71) (.agg #[S ([101] ++ (be 8 nu.toNat)), S ((((((be 6 ti.toNat) ++ (be 1 ki.toNat))) ++ (be 8 fa.toNat))) ++ (be 1 wh.length ++ wh))])).put (some 3) (I 0)) := by
      rw [hosz]
      simp only [frm, if_true]
      rw [tab_dst htab 0, tab_dst htab 1, tab_dst htab 2, tab_dst htab 3, tab_dst htab 4, tab_dst htab 5, tab_dst htab 6, tab_dst htab 7, tab_dst htab 8, tab_dst htab 9, tab_dst htab 10, tab_dst htab 11, tab_dst htab 12, tab_dst htab 13, tab_dst htab 14, tab_dst htab 15, tab_dst htab 16, tab_dst htab 17, tab_dst htab 18, tab_dst htab 19, (show dstOf ops 20 = none from (tab_dst htab 20).trans rfl), put_none, tab_dst htab 21]
      rfl
    rw [e]
    exact this
  intro i o ho c L a w' hL hd ha hW
  have hi : i < 22 := by rw [← hosz]; exact (Array.getElem?_eq_some_iff.1 ho).1
  have G : ∀ j s : Nat, (rrf42T[j]?).bind (·.2.1) = some s → s < 72 → (i, j) ∈ rrf42D → a.tmps[s]? = some (val c j) := fun j s h1 h2 h3 => frm_at hdis ha j s (hds j s h1) (by omega) (depl_of hdep i j h3 ho hd)
  match i, ho, hL, hi, G with
  | 0, ho, hL, _, G =>
    obtain ⟨hop, hgd⟩ := tab3 htab ho rfl
    have h0 := frm_old ha 1 _ (hold 1 rfl) o1
    exact (dXr ho hgd (hpure 0 (by decide) c L w' hW) (g_field hop (eval_of h0) (by kernel_rfl)))
  | 1, ho, hL, _, G =>
    obtain ⟨hop, hgd⟩ := tab3 htab ho rfl
    have h0 := G 0 52 rfl (by decide) (by decide)
    exact (dXr ho hgd (hpure 1 (by decide) c L w' hW) (g_load hop (eval_of h0) (r1 c L w' hW hL (depl_of hdep 1 0 (by decide) ho hd))))
  | 2, ho, hL, _, G =>
    obtain ⟨hop, hgd⟩ := tab3 htab ho rfl
    have h0 := G 1 53 rfl (by decide) (by decide)
    refine doesX_call ho (wanted_none hgd) 62 #[(I nu), (I 8)] ?_ (r2 c L w' hW hL (depl_of hdep 2 1 (by decide) ho hd))
    rw [run_calls Tryz.func62 (by kernel_rfl) rfl _ _ _ _ hop rfl]
    simp only [List.map_toArray, List.map_cons, List.map_nil, eval_of h0]
    all_goals rfl
  | 3, ho, hL, _, G =>
    obtain ⟨hop, hgd⟩ := tab3 htab ho rfl
    have h1 := G 2 54 rfl (by decide) (by decide)
    exact (dXr ho hgd (hpure 3 (by decide) c L w' hW) (g_bin hop rfl (eval_of h1) (r3 w')))
  | 4, ho, hL, _, G =>
    obtain ⟨hop, hgd⟩ := tab3 htab ho rfl
    have h0 := frm_old ha 1 _ (hold 1 rfl) o1
    exact (dXr ho hgd (hpure 4 (by decide) c L w' hW) (g_field hop (eval_of h0) (by kernel_rfl)))
  | 5, ho, hL, _, G =>
    obtain ⟨hop, hgd⟩ := tab3 htab ho rfl
    have h0 := G 4 56 rfl (by decide) (by decide)
    exact (dXr ho hgd (hpure 5 (by decide) c L w' hW) (g_load hop (eval_of h0) (r5 c L w' hW hL (depl_of hdep 5 4 (by decide) ho hd))))
  | 6, ho, hL, _, G =>
    obtain ⟨hop, hgd⟩ := tab3 htab ho rfl
    have h0 := G 5 57 rfl (by decide) (by decide)
    refine doesX_call ho (wanted_none hgd) 62 #[(I ti), (I 6)] ?_ (r6 c L w' hW hL (depl_of hdep 6 5 (by decide) ho hd))
    rw [run_calls Tryz.func62 (by kernel_rfl) rfl _ _ _ _ hop rfl]
    simp only [List.map_toArray, List.map_cons, List.map_nil, eval_of h0]
    all_goals rfl
  | 7, ho, hL, _, G =>
    obtain ⟨hop, hgd⟩ := tab3 htab ho rfl
    have h0 := frm_old ha 1 _ (hold 1 rfl) o1
    exact (dXr ho hgd (hpure 7 (by decide) c L w' hW) (g_field hop (eval_of h0) (by kernel_rfl)))
  | 8, ho, hL, _, G =>
    obtain ⟨hop, hgd⟩ := tab3 htab ho rfl
    have h0 := G 7 59 rfl (by decide) (by decide)
    exact (dXr ho hgd (hpure 8 (by decide) c L w' hW) (g_load hop (eval_of h0) (r8 c L w' hW hL (depl_of hdep 8 7 (by decide) ho hd))))
  | 9, ho, hL, _, G =>
    obtain ⟨hop, hgd⟩ := tab3 htab ho rfl
    have h0 := G 8 60 rfl (by decide) (by decide)
    refine doesX_call ho (wanted_none hgd) 62 #[(I ki), (I 1)] ?_ (r9 c L w' hW hL (depl_of hdep 9 8 (by decide) ho hd))
    rw [run_calls Tryz.func62 (by kernel_rfl) rfl _ _ _ _ hop rfl]
    simp only [List.map_toArray, List.map_cons, List.map_nil, eval_of h0]
    all_goals rfl
  | 10, ho, hL, _, G =>
    obtain ⟨hop, hgd⟩ := tab3 htab ho rfl
    have h0 := G 6 58 rfl (by decide) (by decide)
    have h1 := G 9 61 rfl (by decide) (by decide)
    exact (dXr ho hgd (hpure 10 (by decide) c L w' hW) (g_bin hop (eval_of h0) (eval_of h1) (r10 w')))
  | 11, ho, hL, _, G =>
    obtain ⟨hop, hgd⟩ := tab3 htab ho rfl
    have h0 := frm_old ha 1 _ (hold 1 rfl) o1
    exact (dXr ho hgd (hpure 11 (by decide) c L w' hW) (g_field hop (eval_of h0) (by kernel_rfl)))
  | 12, ho, hL, _, G =>
    obtain ⟨hop, hgd⟩ := tab3 htab ho rfl
    have h0 := G 11 63 rfl (by decide) (by decide)
    exact (dXr ho hgd (hpure 12 (by decide) c L w' hW) (g_load hop (eval_of h0) (r12 c L w' hW hL (depl_of hdep 12 11 (by decide) ho hd))))
  | 13, ho, hL, _, G =>
    obtain ⟨hop, hgd⟩ := tab3 htab ho rfl
    have h0 := G 12 64 rfl (by decide) (by decide)
    refine doesX_call ho (wanted_none hgd) 62 #[(I fa), (I 8)] ?_ (r13 c L w' hW hL (depl_of hdep 13 12 (by decide) ho hd))
    rw [run_calls Tryz.func62 (by kernel_rfl) rfl _ _ _ _ hop rfl]
    simp only [List.map_toArray, List.map_cons, List.map_nil, eval_of h0]
    all_goals rfl
  | 14, ho, hL, _, G =>
    obtain ⟨hop, hgd⟩ := tab3 htab ho rfl
    have h0 := G 10 62 rfl (by decide) (by decide)
    have h1 := G 13 65 rfl (by decide) (by decide)
    exact (dXr ho hgd (hpure 14 (by decide) c L w' hW) (g_bin hop (eval_of h0) (eval_of h1) (r14 w')))
  | 15, ho, hL, _, G =>
    obtain ⟨hop, hgd⟩ := tab3 htab ho rfl
    have h0 := frm_old ha 1 _ (hold 1 rfl) o1
    exact (dXr ho hgd (hpure 15 (by decide) c L w' hW) (g_field hop (eval_of h0) (by kernel_rfl)))
  | 16, ho, hL, _, G =>
    obtain ⟨hop, hgd⟩ := tab3 htab ho rfl
    have h0 := G 15 67 rfl (by decide) (by decide)
    exact (dXr ho hgd (hpure 16 (by decide) c L w' hW) (g_load hop (eval_of h0) (r16 c L w' hW hL (depl_of hdep 16 15 (by decide) ho hd))))
  | 17, ho, hL, _, G =>
    obtain ⟨hop, hgd⟩ := tab3 htab ho rfl
    have h0 := G 16 68 rfl (by decide) (by decide)
    refine doesX_call ho (wanted_none hgd) 64 #[(S wh)] ?_ (r17 c L w' hW hL (depl_of hdep 17 16 (by decide) ho hd))
    rw [run_calls Tryz.func64 (by kernel_rfl) rfl _ _ _ _ hop rfl]
    simp only [List.map_toArray, List.map_cons, List.map_nil, eval_of h0]
    all_goals rfl
  | 18, ho, hL, _, G =>
    obtain ⟨hop, hgd⟩ := tab3 htab ho rfl
    have h0 := G 14 66 rfl (by decide) (by decide)
    have h1 := G 17 69 rfl (by decide) (by decide)
    exact (dXr ho hgd (hpure 18 (by decide) c L w' hW) (g_bin hop (eval_of h0) (eval_of h1) (r18 w')))
  | 19, ho, hL, _, G =>
    obtain ⟨hop, hgd⟩ := tab3 htab ho rfl
    have h0 := G 3 55 rfl (by decide) (by decide)
    have h1 := G 18 70 rfl (by decide) (by decide)
    exact (dXr ho hgd (hpure 19 (by decide) c L w' hW) (g_build hop (by simp only [List.map_toArray, List.map_cons, List.map_nil, eval_of h0, eval_of h1]; first | done | rfl) (by kernel_rfl)))
  | 20, ho, hL, _, G =>
    obtain ⟨hop, hgd⟩ := tab3 htab ho rfl
    have h0 := frm_old ha 2 _ (hold 2 rfl) o2
    have h1 := G 19 71 rfl (by decide) (by decide)
    obtain ⟨W', q1, q2⟩ := r20 c L w' hW hL (depl_of hdep 20 19 (by decide) ho hd)
    exact doesX_of (doesL_skp ho (wanted_none hgd) rfl q2 (g_store hop (eval_of h0) (eval_of h1) q1))
  | 21, ho, hL, _, G =>
    obtain ⟨hop, hgd⟩ := tab3 htab ho rfl
    exact (dXr ho hgd (hpure 21 (by decide) c L w' hW) (by rw [run_assign _ _ _ hop]; exact congrArg (fun v => Result.ok (Next.value v) w') rfl))
  | (i + 22), ho, hL, hi, _ => exact absurd hi (by omega)
def vrrf45 (X _R : Nat) (ba : Int) (ne : Int) (bh : Bs) (nh : Bs) (_c : Unit) (i : Nat) : Value := match i with
  | 0 => (.pointer (some ⟨X, 0, none⟩))
  | 1 => (I ba)
  | 2 => (S (be 8 ba.toNat))
  | 3 => (.pointer (some ⟨X, 1, none⟩))
  | 4 => (I ne)
  | 5 => (S (be 8 ne.toNat))
  | 6 => (S ((be 8 ba.toNat) ++ (be 8 ne.toNat)))
  | 7 => (.pointer (some ⟨X, 2, none⟩))
  | 8 => (S bh)
  | 9 => (S ((((be 8 ba.toNat) ++ (be 8 ne.toNat))) ++ bh))
  | 10 => (.pointer (some ⟨X, 3, none⟩))
  | 11 => (S nh)
  | 12 => (S ((((((be 8 ba.toNat) ++ (be 8 ne.toNat))) ++ bh)) ++ nh))
  | 13 => (.agg #[S [104], S ((((((be 8 ba.toNat) ++ (be 8 ne.toNat))) ++ bh)) ++ nh)])
  | 14 => undef
  | 15 => (I 0)
  | _ => undef
def rrf45T : List (Op × Option Tmp × Option (Nat × Bool)) := [
  (.fieldAddr 64 (.tmp 1) 0, some 45, none),
  (.load 3 (.tmp 45), some 46, none),
  (.call { callee := .value (.func 62), args := #[(.tmp 46), (.const (I 8))], argTypes := #[3, 3] }, some 47, none),
  (.fieldAddr 64 (.tmp 1) 1, some 48, none),
  (.load 3 (.tmp 48), some 49, none),
  (.call { callee := .value (.func 62), args := #[(.tmp 49), (.const (I 8))], argTypes := #[3, 3] }, some 50, none),
  (.binOp .add 9 (.tmp 47) (.tmp 50) 9, some 51, none),
  (.fieldAddr 64 (.tmp 1) 2, some 52, none),
  (.load 9 (.tmp 52), some 53, none),
  (.binOp .add 9 (.tmp 51) (.tmp 53) 9, some 54, none),
  (.fieldAddr 64 (.tmp 1) 3, some 55, none),
  (.load 9 (.tmp 55), some 56, none),
  (.binOp .add 9 (.tmp 54) (.tmp 56) 9, some 57, none),
  (.build 30 #[(0, (.const (.string ⟨#[104]⟩))), (1, (.tmp 57))], some 58, none),
  (.store 30 (.tmp 2) (.tmp 58), none, none),
  (.assign (.const (I 0)), some 3, none)]
def rrf45D : List (Nat × Nat) := [(1, 0), (2, 1), (4, 3), (5, 4), (6, 2), (6, 5), (8, 7), (9, 6), (9, 8), (11, 10), (12, 9), (12, 11), (13, 12), (14, 13)]
set_option maxHeartbeats 4000000 in
theorem rrf45 {ops : Array Oper} {id : Nat} {Q : Exit → Act → World → Prop} (X R : Nat) (ba : Int) (ne : Int) (bh : Bs) (nh : Bs) (htab : ops.toList.map (fun o => (o.op, o.dst, o.guard)) = rrf45T) (hdep : deplB rrf45D ops = true) (hac : acB ops = true)
    (a0 : Act) (w : World) (hsz : 59 ≤ a0.tmps.size) (o1 : a0.tmps[1]? = some (.pointer (some ⟨X, 0, none⟩))) (o2 : a0.tmps[2]? = some (.pointer (some ⟨R, 0, none⟩)))
    (Wd : Unit → (Nat → Bool) → World → Prop) (h0 : ∃ c, Wd c (fun _ => false) w.drew) (hpure : ∀ i, i ∉ ([2, 5, 14] : List Nat) → ∀ c L W, Wd c L W → Wd c (upd L i) W)
    (r1 : ∀ c L W, Wd c L W → L 1 = false → L 0 = true → (Instr.loadAt 3 (.pointer (some ⟨X, 0, none⟩))).run Tryz.prog W = .ok (I ba) W)
    (r2 : ∀ c L W, Wd c L W → L 2 = false → L 1 = true → Calls Tryz.prog 62 #[(I ba), (I 8)] W fun eg w' => ∃ c', (∀ j, L j = true → vrrf45 X R ba ne bh nh c' j = vrrf45 X R ba ne bh nh c j) ∧ eg = .returned (vrrf45 X R ba ne bh nh c' 2) ∧ Wd c' (upd L 2) w')
    (r4 : ∀ c L W, Wd c L W → L 4 = false → L 3 = true → (Instr.loadAt 3 (.pointer (some ⟨X, 1, none⟩))).run Tryz.prog W = .ok (I ne) W)
    (r5 : ∀ c L W, Wd c L W → L 5 = false → L 4 = true → Calls Tryz.prog 62 #[(I ne), (I 8)] W fun eg w' => ∃ c', (∀ j, L j = true → vrrf45 X R ba ne bh nh c' j = vrrf45 X R ba ne bh nh c j) ∧ eg = .returned (vrrf45 X R ba ne bh nh c' 5) ∧ Wd c' (upd L 5) w')
    (r6 : ∀ W, (do eqGuard .add 9 (.tmp 47) (.tmp 50) (S (be 8 ba.toNat)) (S (be 8 ne.toNat)); binOp .add 9 (S (be 8 ba.toNat)) (S (be 8 ne.toNat))).run Tryz.prog W = .ok (S ((be 8 ba.toNat) ++ (be 8 ne.toNat))) W)
    (r8 : ∀ c L W, Wd c L W → L 8 = false → L 7 = true → (Instr.loadAt 9 (.pointer (some ⟨X, 2, none⟩))).run Tryz.prog W = .ok (S bh) W)
    (r9 : ∀ W, (do eqGuard .add 9 (.tmp 51) (.tmp 53) (S ((be 8 ba.toNat) ++ (be 8 ne.toNat))) (S bh); binOp .add 9 (S ((be 8 ba.toNat) ++ (be 8 ne.toNat))) (S bh)).run Tryz.prog W = .ok (S ((((be 8 ba.toNat) ++ (be 8 ne.toNat))) ++ bh)) W)
    (r11 : ∀ c L W, Wd c L W → L 11 = false → L 10 = true → (Instr.loadAt 9 (.pointer (some ⟨X, 3, none⟩))).run Tryz.prog W = .ok (S nh) W)
    (r12 : ∀ W, (do eqGuard .add 9 (.tmp 54) (.tmp 56) (S ((((be 8 ba.toNat) ++ (be 8 ne.toNat))) ++ bh)) (S nh); binOp .add 9 (S ((((be 8 ba.toNat) ++ (be 8 ne.toNat))) ++ bh)) (S nh)).run Tryz.prog W = .ok (S ((((((be 8 ba.toNat) ++ (be 8 ne.toNat))) ++ bh)) ++ nh)) W)
    (r14 : ∀ c L W, Wd c L W → L 14 = false → L 13 = true → ∃ W', (Instr.storeAt 30 (.pointer (some ⟨R, 0, none⟩)) (.agg #[S [104], S ((((((be 8 ba.toNat) ++ (be 8 ne.toNat))) ++ bh)) ++ nh)])).run Tryz.prog W = .ok () W' ∧ Wd c (upd L 14) W')
    (hend : ∀ c L W, (∀ i, i < 16 → L i = true) → Wd c L W → Q .normal (((((((((((((((a0.put (some 45) (.pointer (some ⟨X, 0, none⟩))).put (some 46) (I ba)).put (some 47) (S (be 8 ba.toNat))).put (some 48) (.pointer (some ⟨X, 1, none⟩))).put (some 49) (I ne)).put (some 50) (S (be 8 ne.toNat))).put (some 51) (S ((be 8 ba.toNat) ++ (be 8 ne.toNat)))).put (some 52) (.pointer (some ⟨X, 2, none⟩))).put (some 53) (S bh)).put (some 54) (S ((((be 8 ba.toNat) ++ (be 8 ne.toNat))) ++ bh))).put (some 55) (.pointer (some ⟨X, 3, none⟩))).put (some 56) (S nh)).put (some 57) (S ((((((be 8 ba.toNat) ++ (be 8 ne.toNat))) ++ bh)) ++ nh))).put (some 58) (.agg #[S [104], S ((((((be 8 ba.toNat) ++ (be 8 ne.toNat))) ++ bh)) ++ nh)])).put (some 3) (I 0)) W) : (Code.region id ops true).wp Tryz.prog Q a0 w := by
  let val : Unit → Nat → Value := vrrf45 X R ba ne bh nh
  have hosz : ops.size = 16 := by
    have := congrArg List.length htab
    simpa [rrf45T] using this
  have hds : ∀ i s, (rrf45T[i]?).bind (·.2.1) = some s → dstOf ops i = some s := fun i s hi => by rw [tab_dst htab, hi]
  have hdisB : disL rrf45T = true := by rfl
  have hdis := disL_of htab hdisB
  have hold : ∀ s, rrf45T.all (fun x => !(x.2.1 == some s)) = true → (List.range ops.size).all (fun j => !(dstOf ops j == some s)) = true := fun s h => holdL htab s h
  refine region_detX val Wd (hac_of hac) hdis h0 ?_ ?_
  rotate_left
  · intro c L W hall hW
    have := hend c L W (by rw [← hosz]; exact hall) hW
    have e : frm ops a0 (val c) (fun _ => true) ops.size = (((((((((((((((a0.put (some 45) (.pointer (some ⟨X, 0, none⟩))).put (some 46) (I ba)).put (some 47) (S (be 8 ba.toNat))).put (some 48) (.pointer (some ⟨X, 1, none⟩))).put (some 49) (I ne)).put (some 50) (S (be 8 ne.toNat))).put (some 51) (S ((be 8 ba.toNat) ++ (be 8 ne.toNat)))).put (some 52) (.pointer (some ⟨X, 2, none⟩))).put (some 53) (S bh)).put (some 54) (S ((((be 8 ba.toNat) ++ (be 8 ne.toNat))) ++ bh))).put (some 55) (.pointer (some ⟨X, 3, none⟩))).put (some 56) (S nh)).put (some 57) (S ((((((be 8 ba.toNat) ++ (be 8 ne.toNat))) ++ bh)) ++ nh))).put (some 58) (.agg #[S [104], S ((((((be 8 ba.toNat) ++ (be 8 ne.toNat))) ++ bh)) ++ nh)])).put (some 3) (I 0)) := by
      rw [hosz]
      simp only [frm, if_true]
      rw [tab_dst htab 0, tab_dst htab 1, tab_dst htab 2, tab_dst htab 3, tab_dst htab 4, tab_dst htab 5, tab_dst htab 6, tab_dst htab 7, tab_dst htab 8, tab_dst htab 9, tab_dst htab 10, tab_dst htab 11, tab_dst htab 12, tab_dst htab 13, (show dstOf ops 14 = none from (tab_dst htab 14).trans rfl), put_none, tab_dst htab 15]
      rfl
    rw [e]
    exact this
  intro i o ho c L a w' hL hd ha hW
  have hi : i < 16 := by rw [← hosz]; exact (Array.getElem?_eq_some_iff.1 ho).1
  have G : ∀ j s : Nat, (rrf45T[j]?).bind (·.2.1) = some s → s < 59 → (i, j) ∈ rrf45D → a.tmps[s]? = some (val c j) := fun j s h1 h2 h3 => frm_at hdis ha j s (hds j s h1) (by omega) (depl_of hdep i j h3 ho hd)
  match i, ho, hL, hi, G with
  | 0, ho, hL, _, G =>
    obtain ⟨hop, hgd⟩ := tab3 htab ho rfl
    have h0 := frm_old ha 1 _ (hold 1 rfl) o1
    exact (dXr ho hgd (hpure 0 (by decide) c L w' hW) (g_field hop (eval_of h0) (by kernel_rfl)))
  | 1, ho, hL, _, G =>
    obtain ⟨hop, hgd⟩ := tab3 htab ho rfl
    have h0 := G 0 45 rfl (by decide) (by decide)
    exact (dXr ho hgd (hpure 1 (by decide) c L w' hW) (g_load hop (eval_of h0) (r1 c L w' hW hL (depl_of hdep 1 0 (by decide) ho hd))))
  | 2, ho, hL, _, G =>
    obtain ⟨hop, hgd⟩ := tab3 htab ho rfl
    have h0 := G 1 46 rfl (by decide) (by decide)
    refine doesX_call ho (wanted_none hgd) 62 #[(I ba), (I 8)] ?_ (r2 c L w' hW hL (depl_of hdep 2 1 (by decide) ho hd))
    rw [run_calls Tryz.func62 (by kernel_rfl) rfl _ _ _ _ hop rfl]
    simp only [List.map_toArray, List.map_cons, List.map_nil, eval_of h0]
    all_goals rfl
  | 3, ho, hL, _, G =>
    obtain ⟨hop, hgd⟩ := tab3 htab ho rfl
    have h0 := frm_old ha 1 _ (hold 1 rfl) o1
    exact (dXr ho hgd (hpure 3 (by decide) c L w' hW) (g_field hop (eval_of h0) (by kernel_rfl)))
  | 4, ho, hL, _, G =>
    obtain ⟨hop, hgd⟩ := tab3 htab ho rfl
    have h0 := G 3 48 rfl (by decide) (by decide)
    exact (dXr ho hgd (hpure 4 (by decide) c L w' hW) (g_load hop (eval_of h0) (r4 c L w' hW hL (depl_of hdep 4 3 (by decide) ho hd))))
  | 5, ho, hL, _, G =>
    obtain ⟨hop, hgd⟩ := tab3 htab ho rfl
    have h0 := G 4 49 rfl (by decide) (by decide)
    refine doesX_call ho (wanted_none hgd) 62 #[(I ne), (I 8)] ?_ (r5 c L w' hW hL (depl_of hdep 5 4 (by decide) ho hd))
    rw [run_calls Tryz.func62 (by kernel_rfl) rfl _ _ _ _ hop rfl]
    simp only [List.map_toArray, List.map_cons, List.map_nil, eval_of h0]
    all_goals rfl
  | 6, ho, hL, _, G =>
    obtain ⟨hop, hgd⟩ := tab3 htab ho rfl
    have h0 := G 2 47 rfl (by decide) (by decide)
    have h1 := G 5 50 rfl (by decide) (by decide)
    exact (dXr ho hgd (hpure 6 (by decide) c L w' hW) (g_bin hop (eval_of h0) (eval_of h1) (r6 w')))
  | 7, ho, hL, _, G =>
    obtain ⟨hop, hgd⟩ := tab3 htab ho rfl
    have h0 := frm_old ha 1 _ (hold 1 rfl) o1
    exact (dXr ho hgd (hpure 7 (by decide) c L w' hW) (g_field hop (eval_of h0) (by kernel_rfl)))
  | 8, ho, hL, _, G =>
    obtain ⟨hop, hgd⟩ := tab3 htab ho rfl
    have h0 := G 7 52 rfl (by decide) (by decide)
    exact (dXr ho hgd (hpure 8 (by decide) c L w' hW) (g_load hop (eval_of h0) (r8 c L w' hW hL (depl_of hdep 8 7 (by decide) ho hd))))
  | 9, ho, hL, _, G =>
    obtain ⟨hop, hgd⟩ := tab3 htab ho rfl
    have h0 := G 6 51 rfl (by decide) (by decide)
    have h1 := G 8 53 rfl (by decide) (by decide)
    exact (dXr ho hgd (hpure 9 (by decide) c L w' hW) (g_bin hop (eval_of h0) (eval_of h1) (r9 w')))
  | 10, ho, hL, _, G =>
    obtain ⟨hop, hgd⟩ := tab3 htab ho rfl
    have h0 := frm_old ha 1 _ (hold 1 rfl) o1
    exact (dXr ho hgd (hpure 10 (by decide) c L w' hW) (g_field hop (eval_of h0) (by kernel_rfl)))
  | 11, ho, hL, _, G =>
    obtain ⟨hop, hgd⟩ := tab3 htab ho rfl
    have h0 := G 10 55 rfl (by decide) (by decide)
    exact (dXr ho hgd (hpure 11 (by decide) c L w' hW) (g_load hop (eval_of h0) (r11 c L w' hW hL (depl_of hdep 11 10 (by decide) ho hd))))
  | 12, ho, hL, _, G =>
    obtain ⟨hop, hgd⟩ := tab3 htab ho rfl
    have h0 := G 9 54 rfl (by decide) (by decide)
    have h1 := G 11 56 rfl (by decide) (by decide)
    exact (dXr ho hgd (hpure 12 (by decide) c L w' hW) (g_bin hop (eval_of h0) (eval_of h1) (r12 w')))
  | 13, ho, hL, _, G =>
    obtain ⟨hop, hgd⟩ := tab3 htab ho rfl
    have h1 := G 12 57 rfl (by decide) (by decide)
    exact (dXr ho hgd (hpure 13 (by decide) c L w' hW) (g_build hop (by simp only [List.map_toArray, List.map_cons, List.map_nil, eval_of h1]; first | done | rfl) (by kernel_rfl)))
  | 14, ho, hL, _, G =>
    obtain ⟨hop, hgd⟩ := tab3 htab ho rfl
    have h0 := frm_old ha 2 _ (hold 2 rfl) o2
    have h1 := G 13 58 rfl (by decide) (by decide)
    obtain ⟨W', q1, q2⟩ := r14 c L w' hW hL (depl_of hdep 14 13 (by decide) ho hd)
    exact doesX_of (doesL_skp ho (wanted_none hgd) rfl q2 (g_store hop (eval_of h0) (eval_of h1) q1))
  | 15, ho, hL, _, G =>
    obtain ⟨hop, hgd⟩ := tab3 htab ho rfl
    exact (dXr ho hgd (hpure 15 (by decide) c L w' hW) (by rw [run_assign _ _ _ hop]; exact congrArg (fun v => Result.ok (Next.value v) w') rfl))
  | (i + 16), ho, hL, hi, _ => exact absurd hi (by omega)
def vrrf34 (X : Nat) (fa : Int) (ge : Int) (ha : Bs) (mi : Int) (at9 : Int) (ne : Int) (se : Bs) (n5 : Int) (_c : Unit) (i : Nat) : Value := match i with
  | 0 => (.pointer (some ⟨X, 1, none⟩))
  | 1 => (I fa)
  | 2 => (S (be 8 fa.toNat))
  | 3 => (.pointer (some ⟨X, 2, none⟩))
  | 4 => (I ge)
  | 5 => (S (be 4 ge.toNat))
  | 6 => (S ((be 8 fa.toNat) ++ (be 4 ge.toNat)))
  | 7 => (.pointer (some ⟨X, 3, none⟩))
  | 8 => (S ha)
  | 9 => (S ((((be 8 fa.toNat) ++ (be 4 ge.toNat))) ++ ha))
  | 10 => (.pointer (some ⟨X, 4, none⟩))
  | 11 => (I mi)
  | 12 => (S (be 6 mi.toNat))
  | 13 => (S ((((((be 8 fa.toNat) ++ (be 4 ge.toNat))) ++ ha)) ++ (be 6 mi.toNat)))
  | 14 => (I n5)
  | 15 => (S (be 1 n5.toNat))
  | 16 => (S ((((((((be 8 fa.toNat) ++ (be 4 ge.toNat))) ++ ha)) ++ (be 6 mi.toNat))) ++ (be 1 n5.toNat)))
  | 17 => (.pointer (some ⟨X, 6, none⟩))
  | 18 => (I at9)
  | 19 => (S (be 6 at9.toNat))
  | 20 => (S ((((((((((be 8 fa.toNat) ++ (be 4 ge.toNat))) ++ ha)) ++ (be 6 mi.toNat))) ++ (be 1 n5.toNat))) ++ (be 6 at9.toNat)))
  | 21 => (.pointer (some ⟨X, 7, none⟩))
  | 22 => (I ne)
  | 23 => (S (be 8 ne.toNat))
  | 24 => (S ((((((((((((be 8 fa.toNat) ++ (be 4 ge.toNat))) ++ ha)) ++ (be 6 mi.toNat))) ++ (be 1 n5.toNat))) ++ (be 6 at9.toNat))) ++ (be 8 ne.toNat)))
  | 25 => (.pointer (some ⟨X, 8, none⟩))
  | 26 => (S se)
  | 27 => (S (be 1 se.length ++ se))
  | 28 => (S ((((((((((((((be 8 fa.toNat) ++ (be 4 ge.toNat))) ++ ha)) ++ (be 6 mi.toNat))) ++ (be 1 n5.toNat))) ++ (be 6 at9.toNat))) ++ (be 8 ne.toNat))) ++ (be 1 se.length ++ se)))
  | 29 => (S ((((((((((((((be 8 fa.toNat) ++ (be 4 ge.toNat))) ++ ha)) ++ (be 6 mi.toNat))) ++ (be 1 n5.toNat))) ++ (be 6 at9.toNat))) ++ (be 8 ne.toNat))) ++ (be 1 se.length ++ se)))
  | _ => undef
def rrf34T : List (Op × Option Tmp × Option (Nat × Bool)) := [
  (.fieldAddr 58 (.tmp 1) 1, some 14, none),
  (.load 3 (.tmp 14), some 15, none),
  (.call { callee := .value (.func 62), args := #[(.tmp 15), (.const (I 8))], argTypes := #[3, 3] }, some 16, none),
  (.fieldAddr 58 (.tmp 1) 2, some 17, none),
  (.load 3 (.tmp 17), some 18, none),
  (.call { callee := .value (.func 62), args := #[(.tmp 18), (.const (I 4))], argTypes := #[3, 3] }, some 19, none),
  (.binOp .add 9 (.tmp 16) (.tmp 19) 9, some 20, none),
  (.fieldAddr 58 (.tmp 1) 3, some 21, none),
  (.load 9 (.tmp 21), some 22, none),
  (.binOp .add 9 (.tmp 20) (.tmp 22) 9, some 23, none),
  (.fieldAddr 58 (.tmp 1) 4, some 24, none),
  (.load 3 (.tmp 24), some 25, none),
  (.call { callee := .value (.func 62), args := #[(.tmp 25), (.const (I 6))], argTypes := #[3, 3] }, some 26, none),
  (.binOp .add 9 (.tmp 23) (.tmp 26) 9, some 27, none),
  (.move (.tmp 5), some 28, none),
  (.call { callee := .value (.func 62), args := #[(.tmp 28), (.const (I 1))], argTypes := #[3, 3] }, some 29, none),
  (.binOp .add 9 (.tmp 27) (.tmp 29) 9, some 30, none),
  (.fieldAddr 58 (.tmp 1) 6, some 31, none),
  (.load 3 (.tmp 31), some 32, none),
  (.call { callee := .value (.func 62), args := #[(.tmp 32), (.const (I 6))], argTypes := #[3, 3] }, some 33, none),
  (.binOp .add 9 (.tmp 30) (.tmp 33) 9, some 34, none),
  (.fieldAddr 58 (.tmp 1) 7, some 35, none),
  (.load 3 (.tmp 35), some 36, none),
  (.call { callee := .value (.func 62), args := #[(.tmp 36), (.const (I 8))], argTypes := #[3, 3] }, some 37, none),
  (.binOp .add 9 (.tmp 34) (.tmp 37) 9, some 38, none),
  (.fieldAddr 58 (.tmp 1) 8, some 39, none),
  (.load 9 (.tmp 39), some 40, none),
  (.call { callee := .value (.func 64), args := #[(.tmp 40)], argTypes := #[9] }, some 41, none),
  (.binOp .add 9 (.tmp 38) (.tmp 41) 9, some 42, none),
  (.assign (.tmp 42), some 6, none)]
def crrf34 (a0 : Act) (X : Nat) (fa : Int) (ge : Int) (ha : Bs) (mi : Int) (at9 : Int) (ne : Int) (se : Bs) (n5 : Int) (_c : Unit) : Act := ((((((((((((((((((((((((((((((a0.put (some 14) (.pointer (some ⟨X, 1, none⟩))).put (some 15) (I fa)).put (some 16) (S (be 8 fa.toNat))).put (some 17) (.pointer (some ⟨X, 2, none⟩))).put (some 18) (I ge)).put (some 19) (S (be 4 ge.toNat))).put (some 20) (S ((be 8 fa.toNat) ++ (be 4 ge.toNat)))).put (some 21) (.pointer (some ⟨X, 3, none⟩))).put (some 22) (S ha)).put (some 23) (S ((((be 8 fa.toNat) ++ (be 4 ge.toNat))) ++ ha))).put (some 24) (.pointer (some ⟨X, 4, none⟩))).put (some 25) (I mi)).put (some 26) (S (be 6 mi.toNat))).put (some 27) (S ((((((be 8 fa.toNat) ++ (be 4 ge.toNat))) ++ ha)) ++ (be 6 mi.toNat)))).put (some 28) (I n5)).put (some 29) (S (be 1 n5.toNat))).put (some 30) (S ((((((((be 8 fa.toNat) ++ (be 4 ge.toNat))) ++ ha)) ++ (be 6 mi.toNat))) ++ (be 1 n5.toNat)))).put (some 31) (.pointer (some ⟨X, 6, none⟩))).put (some 32) (I at9)).put (some 33) (S (be 6 at9.toNat))).put (some 34) (S ((((((((((be 8 fa.toNat) ++ (be 4 ge.toNat))) ++ ha)) ++ (be 6 mi.toNat))) ++ (be 1 n5.toNat))) ++ (be 6 at9.toNat)))).put (some 35) (.pointer (some ⟨X, 7, none⟩))).put (some 36) (I ne)).put (some 37) (S (be 8 ne.toNat))).put (some 38) (S ((((((((((((be 8 fa.toNat) ++ (be 4 ge.toNat))) ++ ha)) ++ (be 6 mi.toNat))) ++ (be 1 n5.toNat))) ++ (be 6 at9.toNat))) ++ (be 8 ne.toNat)))).put (some 39) (.pointer (some ⟨X, 8, none⟩))).put (some 40) (S se)).put (some 41) (S (be 1 se.length ++ se))).put (some 42) (S ((((((((((((((be 8 fa.toNat) ++ (be 4 ge.toNat))) ++ ha)) ++ (be 6 mi.toNat))) ++ (be 1 n5.toNat))) ++ (be 6 at9.toNat))) ++ (be 8 ne.toNat))) ++ (be 1 se.length ++ se)))).put (some 6) (S ((((((((((((((be 8 fa.toNat) ++ (be 4 ge.toNat))) ++ ha)) ++ (be 6 mi.toNat))) ++ (be 1 n5.toNat))) ++ (be 6 at9.toNat))) ++ (be 8 ne.toNat))) ++ (be 1 se.length ++ se))))
def rrf34D : List (Nat × Nat) := [(1, 0), (2, 1), (4, 3), (5, 4), (6, 2), (6, 5), (8, 7), (9, 6), (9, 8), (11, 10), (12, 11), (13, 9), (13, 12), (15, 14), (16, 13), (16, 15), (18, 17), (19, 18), (20, 16), (20, 19), (22, 21), (23, 22), (24, 20), (24, 23), (26, 25), (27, 26), (28, 24), (28, 27), (29, 28)]
set_option maxHeartbeats 4000000 in
theorem rrf34 {ops : Array Oper} {id : Nat} {Q : Exit → Act → World → Prop} (X : Nat) (fa : Int) (ge : Int) (ha : Bs) (mi : Int) (at9 : Int) (ne : Int) (se : Bs) (n5 : Int) (htab : ops.toList.map (fun o => (o.op, o.dst, o.guard)) = rrf34T) (hdep : deplB rrf34D ops = true) (hac : acB ops = true)
    (a0 : Act) (w : World) (hsz : 43 ≤ a0.tmps.size) (o1 : a0.tmps[1]? = some (.pointer (some ⟨X, 0, none⟩))) (o5 : a0.tmps[5]? = some (I n5))
    (Wd : Unit → (Nat → Bool) → World → Prop) (h0 : ∃ c, Wd c (fun _ => false) w.drew) (hpure : ∀ i, i ∉ ([2, 5, 12, 15, 19, 23, 27] : List Nat) → ∀ c L W, Wd c L W → Wd c (upd L i) W)
    (r1 : ∀ c L W, Wd c L W → L 1 = false → L 0 = true → (Instr.loadAt 3 (.pointer (some ⟨X, 1, none⟩))).run Tryz.prog W = .ok (I fa) W)
    (r2 : ∀ c L W, Wd c L W → L 2 = false → L 1 = true → Calls Tryz.prog 62 #[(I fa), (I 8)] W fun eg w' => ∃ c', (∀ j, L j = true → vrrf34 X fa ge ha mi at9 ne se n5 c' j = vrrf34 X fa ge ha mi at9 ne se n5 c j) ∧ eg = .returned (vrrf34 X fa ge ha mi at9 ne se n5 c' 2) ∧ Wd c' (upd L 2) w')
    (r4 : ∀ c L W, Wd c L W → L 4 = false → L 3 = true → (Instr.loadAt 3 (.pointer (some ⟨X, 2, none⟩))).run Tryz.prog W = .ok (I ge) W)
    (r5 : ∀ c L W, Wd c L W → L 5 = false → L 4 = true → Calls Tryz.prog 62 #[(I ge), (I 4)] W fun eg w' => ∃ c', (∀ j, L j = true → vrrf34 X fa ge ha mi at9 ne se n5 c' j = vrrf34 X fa ge ha mi at9 ne se n5 c j) ∧ eg = .returned (vrrf34 X fa ge ha mi at9 ne se n5 c' 5) ∧ Wd c' (upd L 5) w')
    (r6 : ∀ W, (do eqGuard .add 9 (.tmp 16) (.tmp 19) (S (be 8 fa.toNat)) (S (be 4 ge.toNat)); binOp .add 9 (S (be 8 fa.toNat)) (S (be 4 ge.toNat))).run Tryz.prog W = .ok (S ((be 8 fa.toNat) ++ (be 4 ge.toNat))) W)
    (r8 : ∀ c L W, Wd c L W → L 8 = false → L 7 = true → (Instr.loadAt 9 (.pointer (some ⟨X, 3, none⟩))).run Tryz.prog W = .ok (S ha) W)
    (r9 : ∀ W, (do eqGuard .add 9 (.tmp 20) (.tmp 22) (S ((be 8 fa.toNat) ++ (be 4 ge.toNat))) (S ha); binOp .add 9 (S ((be 8 fa.toNat) ++ (be 4 ge.toNat))) (S ha)).run Tryz.prog W = .ok (S ((((be 8 fa.toNat) ++ (be 4 ge.toNat))) ++ ha)) W)
    (r11 : ∀ c L W, Wd c L W → L 11 = false → L 10 = true → (Instr.loadAt 3 (.pointer (some ⟨X, 4, none⟩))).run Tryz.prog W = .ok (I mi) W)
    (r12 : ∀ c L W, Wd c L W → L 12 = false → L 11 = true → Calls Tryz.prog 62 #[(I mi), (I 6)] W fun eg w' => ∃ c', (∀ j, L j = true → vrrf34 X fa ge ha mi at9 ne se n5 c' j = vrrf34 X fa ge ha mi at9 ne se n5 c j) ∧ eg = .returned (vrrf34 X fa ge ha mi at9 ne se n5 c' 12) ∧ Wd c' (upd L 12) w')
    (r13 : ∀ W, (do eqGuard .add 9 (.tmp 23) (.tmp 26) (S ((((be 8 fa.toNat) ++ (be 4 ge.toNat))) ++ ha)) (S (be 6 mi.toNat)); binOp .add 9 (S ((((be 8 fa.toNat) ++ (be 4 ge.toNat))) ++ ha)) (S (be 6 mi.toNat))).run Tryz.prog W = .ok (S ((((((be 8 fa.toNat) ++ (be 4 ge.toNat))) ++ ha)) ++ (be 6 mi.toNat))) W)
    (r15 : ∀ c L W, Wd c L W → L 15 = false → L 14 = true → Calls Tryz.prog 62 #[(I n5), (I 1)] W fun eg w' => ∃ c', (∀ j, L j = true → vrrf34 X fa ge ha mi at9 ne se n5 c' j = vrrf34 X fa ge ha mi at9 ne se n5 c j) ∧ eg = .returned (vrrf34 X fa ge ha mi at9 ne se n5 c' 15) ∧ Wd c' (upd L 15) w')
    (r16 : ∀ W, (do eqGuard .add 9 (.tmp 27) (.tmp 29) (S ((((((be 8 fa.toNat) ++ (be 4 ge.toNat))) ++ ha)) ++ (be 6 mi.toNat))) (S (be 1 n5.toNat)); binOp .add 9 (S ((((((be 8 fa.toNat) ++ (be 4 ge.toNat))) ++ ha)) ++ (be 6 mi.toNat))) (S (be 1 n5.toNat))).run Tryz.prog W = .ok (S ((((((((be 8 fa.toNat) ++ (be 4 ge.toNat))) ++ ha)) ++ (be 6 mi.toNat))) ++ (be 1 n5.toNat))) W)
    (r18 : ∀ c L W, Wd c L W → L 18 = false → L 17 = true → (Instr.loadAt 3 (.pointer (some ⟨X, 6, none⟩))).run Tryz.prog W = .ok (I at9) W)
    (r19 : ∀ c L W, Wd c L W → L 19 = false → L 18 = true → Calls Tryz.prog 62 #[(I at9), (I 6)] W fun eg w' => ∃ c', (∀ j, L j = true → vrrf34 X fa ge ha mi at9 ne se n5 c' j = vrrf34 X fa ge ha mi at9 ne se n5 c j) ∧ eg = .returned (vrrf34 X fa ge ha mi at9 ne se n5 c' 19) ∧ Wd c' (upd L 19) w')
    (r20 : ∀ W, (do eqGuard .add 9 (.tmp 30) (.tmp 33) (S ((((((((be 8 fa.toNat) ++ (be 4 ge.toNat))) ++ ha)) ++ (be 6 mi.toNat))) ++ (be 1 n5.toNat))) (S (be 6 at9.toNat)); binOp .add 9 (S ((((((((be 8 fa.toNat) ++ (be 4 ge.toNat))) ++ ha)) ++ (be 6 mi.toNat))) ++ (be 1 n5.toNat))) (S (be 6 at9.toNat))).run Tryz.prog W = .ok (S ((((((((((be 8 fa.toNat) ++ (be 4 ge.toNat))) ++ ha)) ++ (be 6 mi.toNat))) ++ (be 1 n5.toNat))) ++ (be 6 at9.toNat))) W)
    (r22 : ∀ c L W, Wd c L W → L 22 = false → L 21 = true → (Instr.loadAt 3 (.pointer (some ⟨X, 7, none⟩))).run Tryz.prog W = .ok (I ne) W)
    (r23 : ∀ c L W, Wd c L W → L 23 = false → L 22 = true → Calls Tryz.prog 62 #[(I ne), (I 8)] W fun eg w' => ∃ c', (∀ j, L j = true → vrrf34 X fa ge ha mi at9 ne se n5 c' j = vrrf34 X fa ge ha mi at9 ne se n5 c j) ∧ eg = .returned (vrrf34 X fa ge ha mi at9 ne se n5 c' 23) ∧ Wd c' (upd L 23) w')
    (r24 : ∀ W, (do eqGuard .add 9 (.tmp 34) (.tmp 37) (S ((((((((((be 8 fa.toNat) ++ (be 4 ge.toNat))) ++ ha)) ++ (be 6 mi.toNat))) ++ (be 1 n5.toNat))) ++ (be 6 at9.toNat))) (S (be 8 ne.toNat)); binOp .add 9 (S ((((((((((be 8 fa.toNat) ++ (be 4 ge.toNat))) ++ ha)) ++ (be 6 mi.toNat))) ++ (be 1 n5.toNat))) ++ (be 6 at9.toNat))) (S (be 8 ne.toNat))).run Tryz.prog W = .ok (S ((((((((((((be 8 fa.toNat) ++ (be 4 ge.toNat))) ++ ha)) ++ (be 6 mi.toNat))) ++ (be 1 n5.toNat))) ++ (be 6 at9.toNat))) ++ (be 8 ne.toNat))) W)
    (r26 : ∀ c L W, Wd c L W → L 26 = false → L 25 = true → (Instr.loadAt 9 (.pointer (some ⟨X, 8, none⟩))).run Tryz.prog W = .ok (S se) W)
    (r27 : ∀ c L W, Wd c L W → L 27 = false → L 26 = true → Calls Tryz.prog 64 #[(S se)] W fun eg w' => ∃ c', (∀ j, L j = true → vrrf34 X fa ge ha mi at9 ne se n5 c' j = vrrf34 X fa ge ha mi at9 ne se n5 c j) ∧ eg = .returned (vrrf34 X fa ge ha mi at9 ne se n5 c' 27) ∧ Wd c' (upd L 27) w')
    (r28 : ∀ W, (do eqGuard .add 9 (.tmp 38) (.tmp 41) (S ((((((((((((be 8 fa.toNat) ++ (be 4 ge.toNat))) ++ ha)) ++ (be 6 mi.toNat))) ++ (be 1 n5.toNat))) ++ (be 6 at9.toNat))) ++ (be 8 ne.toNat))) (S (be 1 se.length ++ se)); binOp .add 9 (S ((((((((((((be 8 fa.toNat) ++ (be 4 ge.toNat))) ++ ha)) ++ (be 6 mi.toNat))) ++ (be 1 n5.toNat))) ++ (be 6 at9.toNat))) ++ (be 8 ne.toNat))) (S (be 1 se.length ++ se))).run Tryz.prog W = .ok (S ((((((((((((((be 8 fa.toNat) ++ (be 4 ge.toNat))) ++ ha)) ++ (be 6 mi.toNat))) ++ (be 1 n5.toNat))) ++ (be 6 at9.toNat))) ++ (be 8 ne.toNat))) ++ (be 1 se.length ++ se))) W)
    (hend : ∀ c L W, (∀ i, i < 30 → L i = true) → Wd c L W → Q .normal (crrf34 a0 X fa ge ha mi at9 ne se n5 c) W) : (Code.region id ops true).wp Tryz.prog Q a0 w := by
  let val : Unit → Nat → Value := vrrf34 X fa ge ha mi at9 ne se n5
  have hosz : ops.size = 30 := by
    have := congrArg List.length htab
    simpa [rrf34T] using this
  have hds : ∀ i s, (rrf34T[i]?).bind (·.2.1) = some s → dstOf ops i = some s := fun i s hi => by rw [tab_dst htab, hi]
  have hdisB : disL rrf34T = true := by rfl
  have hdis := disL_of htab hdisB
  have hold : ∀ s, rrf34T.all (fun x => !(x.2.1 == some s)) = true → (List.range ops.size).all (fun j => !(dstOf ops j == some s)) = true := fun s h => holdL htab s h
  refine region_detX val Wd (hac_of hac) hdis h0 ?_ ?_
  rotate_left
  · intro c L W hall hW
    have := hend c L W (by rw [← hosz]; exact hall) hW
    have e : frm ops a0 (val c) (fun _ => true) ops.size = (crrf34 a0 X fa ge ha mi at9 ne se n5 c) := by
      rw [hosz]
      simp only [crrf34, frm, if_true]
      rw [tab_dst htab 0, tab_dst htab 1, tab_dst htab 2, tab_dst htab 3, tab_dst htab 4, tab_dst htab 5, tab_dst htab 6, tab_dst htab 7, tab_dst htab 8, tab_dst htab 9, tab_dst htab 10, tab_dst htab 11, tab_dst htab 12, tab_dst htab 13, tab_dst htab 14, tab_dst htab 15, tab_dst htab 16, tab_dst htab 17, tab_dst htab 18, tab_dst htab 19, tab_dst htab 20, tab_dst htab 21, tab_dst htab 22, tab_dst htab 23, tab_dst htab 24, tab_dst htab 25, tab_dst htab 26, tab_dst htab 27, tab_dst htab 28, tab_dst htab 29]
      rfl
    rw [e]
    exact this
  intro i o ho c L a w' hL hd ha hW
  have hi : i < 30 := by rw [← hosz]; exact (Array.getElem?_eq_some_iff.1 ho).1
  have G : ∀ j s : Nat, (rrf34T[j]?).bind (·.2.1) = some s → s < 43 → (i, j) ∈ rrf34D → a.tmps[s]? = some (val c j) := fun j s h1 h2 h3 => frm_at hdis ha j s (hds j s h1) (by omega) (depl_of hdep i j h3 ho hd)
  match i, ho, hL, hi, G with
  | 0, ho, hL, _, G =>
    obtain ⟨hop, hgd⟩ := tab3 htab ho rfl
    have h0 := frm_old ha 1 _ (hold 1 rfl) o1
    exact (dXr ho hgd (hpure 0 (by decide) c L w' hW) (g_field hop (eval_of h0) (by kernel_rfl)))
  | 1, ho, hL, _, G =>
    obtain ⟨hop, hgd⟩ := tab3 htab ho rfl
    have h0 := G 0 14 rfl (by decide) (by decide)
    exact (dXr ho hgd (hpure 1 (by decide) c L w' hW) (g_load hop (eval_of h0) (r1 c L w' hW hL (depl_of hdep 1 0 (by decide) ho hd))))
  | 2, ho, hL, _, G =>
    obtain ⟨hop, hgd⟩ := tab3 htab ho rfl
    have h0 := G 1 15 rfl (by decide) (by decide)
    refine doesX_call ho (wanted_none hgd) 62 #[(I fa), (I 8)] ?_ (r2 c L w' hW hL (depl_of hdep 2 1 (by decide) ho hd))
    rw [run_calls Tryz.func62 (by kernel_rfl) rfl _ _ _ _ hop rfl]
    simp only [List.map_toArray, List.map_cons, List.map_nil, eval_of h0]
    all_goals rfl
  | 3, ho, hL, _, G =>
    obtain ⟨hop, hgd⟩ := tab3 htab ho rfl
    have h0 := frm_old ha 1 _ (hold 1 rfl) o1
    exact (dXr ho hgd (hpure 3 (by decide) c L w' hW) (g_field hop (eval_of h0) (by kernel_rfl)))
  | 4, ho, hL, _, G =>
    obtain ⟨hop, hgd⟩ := tab3 htab ho rfl
    have h0 := G 3 17 rfl (by decide) (by decide)
    exact (dXr ho hgd (hpure 4 (by decide) c L w' hW) (g_load hop (eval_of h0) (r4 c L w' hW hL (depl_of hdep 4 3 (by decide) ho hd))))
  | 5, ho, hL, _, G =>
    obtain ⟨hop, hgd⟩ := tab3 htab ho rfl
    have h0 := G 4 18 rfl (by decide) (by decide)
    refine doesX_call ho (wanted_none hgd) 62 #[(I ge), (I 4)] ?_ (r5 c L w' hW hL (depl_of hdep 5 4 (by decide) ho hd))
    rw [run_calls Tryz.func62 (by kernel_rfl) rfl _ _ _ _ hop rfl]
    simp only [List.map_toArray, List.map_cons, List.map_nil, eval_of h0]
    all_goals rfl
  | 6, ho, hL, _, G =>
    obtain ⟨hop, hgd⟩ := tab3 htab ho rfl
    have h0 := G 2 16 rfl (by decide) (by decide)
    have h1 := G 5 19 rfl (by decide) (by decide)
    exact (dXr ho hgd (hpure 6 (by decide) c L w' hW) (g_bin hop (eval_of h0) (eval_of h1) (r6 w')))
  | 7, ho, hL, _, G =>
    obtain ⟨hop, hgd⟩ := tab3 htab ho rfl
    have h0 := frm_old ha 1 _ (hold 1 rfl) o1
    exact (dXr ho hgd (hpure 7 (by decide) c L w' hW) (g_field hop (eval_of h0) (by kernel_rfl)))
  | 8, ho, hL, _, G =>
    obtain ⟨hop, hgd⟩ := tab3 htab ho rfl
    have h0 := G 7 21 rfl (by decide) (by decide)
    exact (dXr ho hgd (hpure 8 (by decide) c L w' hW) (g_load hop (eval_of h0) (r8 c L w' hW hL (depl_of hdep 8 7 (by decide) ho hd))))
  | 9, ho, hL, _, G =>
    obtain ⟨hop, hgd⟩ := tab3 htab ho rfl
    have h0 := G 6 20 rfl (by decide) (by decide)
    have h1 := G 8 22 rfl (by decide) (by decide)
    exact (dXr ho hgd (hpure 9 (by decide) c L w' hW) (g_bin hop (eval_of h0) (eval_of h1) (r9 w')))
  | 10, ho, hL, _, G =>
    obtain ⟨hop, hgd⟩ := tab3 htab ho rfl
    have h0 := frm_old ha 1 _ (hold 1 rfl) o1
    exact (dXr ho hgd (hpure 10 (by decide) c L w' hW) (g_field hop (eval_of h0) (by kernel_rfl)))
  | 11, ho, hL, _, G =>
    obtain ⟨hop, hgd⟩ := tab3 htab ho rfl
    have h0 := G 10 24 rfl (by decide) (by decide)
    exact (dXr ho hgd (hpure 11 (by decide) c L w' hW) (g_load hop (eval_of h0) (r11 c L w' hW hL (depl_of hdep 11 10 (by decide) ho hd))))
  | 12, ho, hL, _, G =>
    obtain ⟨hop, hgd⟩ := tab3 htab ho rfl
    have h0 := G 11 25 rfl (by decide) (by decide)
    refine doesX_call ho (wanted_none hgd) 62 #[(I mi), (I 6)] ?_ (r12 c L w' hW hL (depl_of hdep 12 11 (by decide) ho hd))
    rw [run_calls Tryz.func62 (by kernel_rfl) rfl _ _ _ _ hop rfl]
    simp only [List.map_toArray, List.map_cons, List.map_nil, eval_of h0]
    all_goals rfl
  | 13, ho, hL, _, G =>
    obtain ⟨hop, hgd⟩ := tab3 htab ho rfl
    have h0 := G 9 23 rfl (by decide) (by decide)
    have h1 := G 12 26 rfl (by decide) (by decide)
    exact (dXr ho hgd (hpure 13 (by decide) c L w' hW) (g_bin hop (eval_of h0) (eval_of h1) (r13 w')))
  | 14, ho, hL, _, G =>
    obtain ⟨hop, hgd⟩ := tab3 htab ho rfl
    have h0 := frm_old ha 5 _ (hold 5 rfl) o5
    exact (dXr ho hgd (hpure 14 (by decide) c L w' hW) (g_mov hop (eval_of h0)))
  | 15, ho, hL, _, G =>
    obtain ⟨hop, hgd⟩ := tab3 htab ho rfl
    have h0 := G 14 28 rfl (by decide) (by decide)
    refine doesX_call ho (wanted_none hgd) 62 #[(I n5), (I 1)] ?_ (r15 c L w' hW hL (depl_of hdep 15 14 (by decide) ho hd))
    rw [run_calls Tryz.func62 (by kernel_rfl) rfl _ _ _ _ hop rfl]
    simp only [List.map_toArray, List.map_cons, List.map_nil, eval_of h0]
    all_goals rfl
  | 16, ho, hL, _, G =>
    obtain ⟨hop, hgd⟩ := tab3 htab ho rfl
    have h0 := G 13 27 rfl (by decide) (by decide)
    have h1 := G 15 29 rfl (by decide) (by decide)
    exact (dXr ho hgd (hpure 16 (by decide) c L w' hW) (g_bin hop (eval_of h0) (eval_of h1) (r16 w')))
  | 17, ho, hL, _, G =>
    obtain ⟨hop, hgd⟩ := tab3 htab ho rfl
    have h0 := frm_old ha 1 _ (hold 1 rfl) o1
    exact (dXr ho hgd (hpure 17 (by decide) c L w' hW) (g_field hop (eval_of h0) (by kernel_rfl)))
  | 18, ho, hL, _, G =>
    obtain ⟨hop, hgd⟩ := tab3 htab ho rfl
    have h0 := G 17 31 rfl (by decide) (by decide)
    exact (dXr ho hgd (hpure 18 (by decide) c L w' hW) (g_load hop (eval_of h0) (r18 c L w' hW hL (depl_of hdep 18 17 (by decide) ho hd))))
  | 19, ho, hL, _, G =>
    obtain ⟨hop, hgd⟩ := tab3 htab ho rfl
    have h0 := G 18 32 rfl (by decide) (by decide)
    refine doesX_call ho (wanted_none hgd) 62 #[(I at9), (I 6)] ?_ (r19 c L w' hW hL (depl_of hdep 19 18 (by decide) ho hd))
    rw [run_calls Tryz.func62 (by kernel_rfl) rfl _ _ _ _ hop rfl]
    simp only [List.map_toArray, List.map_cons, List.map_nil, eval_of h0]
    all_goals rfl
  | 20, ho, hL, _, G =>
    obtain ⟨hop, hgd⟩ := tab3 htab ho rfl
    have h0 := G 16 30 rfl (by decide) (by decide)
    have h1 := G 19 33 rfl (by decide) (by decide)
    exact (dXr ho hgd (hpure 20 (by decide) c L w' hW) (g_bin hop (eval_of h0) (eval_of h1) (r20 w')))
  | 21, ho, hL, _, G =>
    obtain ⟨hop, hgd⟩ := tab3 htab ho rfl
    have h0 := frm_old ha 1 _ (hold 1 rfl) o1
    exact (dXr ho hgd (hpure 21 (by decide) c L w' hW) (g_field hop (eval_of h0) (by kernel_rfl)))
  | 22, ho, hL, _, G =>
    obtain ⟨hop, hgd⟩ := tab3 htab ho rfl
    have h0 := G 21 35 rfl (by decide) (by decide)
    exact (dXr ho hgd (hpure 22 (by decide) c L w' hW) (g_load hop (eval_of h0) (r22 c L w' hW hL (depl_of hdep 22 21 (by decide) ho hd))))
  | 23, ho, hL, _, G =>
    obtain ⟨hop, hgd⟩ := tab3 htab ho rfl
    have h0 := G 22 36 rfl (by decide) (by decide)
    refine doesX_call ho (wanted_none hgd) 62 #[(I ne), (I 8)] ?_ (r23 c L w' hW hL (depl_of hdep 23 22 (by decide) ho hd))
    rw [run_calls Tryz.func62 (by kernel_rfl) rfl _ _ _ _ hop rfl]
    simp only [List.map_toArray, List.map_cons, List.map_nil, eval_of h0]
    all_goals rfl
  | 24, ho, hL, _, G =>
    obtain ⟨hop, hgd⟩ := tab3 htab ho rfl
    have h0 := G 20 34 rfl (by decide) (by decide)
    have h1 := G 23 37 rfl (by decide) (by decide)
    exact (dXr ho hgd (hpure 24 (by decide) c L w' hW) (g_bin hop (eval_of h0) (eval_of h1) (r24 w')))
  | 25, ho, hL, _, G =>
    obtain ⟨hop, hgd⟩ := tab3 htab ho rfl
    have h0 := frm_old ha 1 _ (hold 1 rfl) o1
    exact (dXr ho hgd (hpure 25 (by decide) c L w' hW) (g_field hop (eval_of h0) (by kernel_rfl)))
  | 26, ho, hL, _, G =>
    obtain ⟨hop, hgd⟩ := tab3 htab ho rfl
    have h0 := G 25 39 rfl (by decide) (by decide)
    exact (dXr ho hgd (hpure 26 (by decide) c L w' hW) (g_load hop (eval_of h0) (r26 c L w' hW hL (depl_of hdep 26 25 (by decide) ho hd))))
  | 27, ho, hL, _, G =>
    obtain ⟨hop, hgd⟩ := tab3 htab ho rfl
    have h0 := G 26 40 rfl (by decide) (by decide)
    refine doesX_call ho (wanted_none hgd) 64 #[(S se)] ?_ (r27 c L w' hW hL (depl_of hdep 27 26 (by decide) ho hd))
    rw [run_calls Tryz.func64 (by kernel_rfl) rfl _ _ _ _ hop rfl]
    simp only [List.map_toArray, List.map_cons, List.map_nil, eval_of h0]
    all_goals rfl
  | 28, ho, hL, _, G =>
    obtain ⟨hop, hgd⟩ := tab3 htab ho rfl
    have h0 := G 24 38 rfl (by decide) (by decide)
    have h1 := G 27 41 rfl (by decide) (by decide)
    exact (dXr ho hgd (hpure 28 (by decide) c L w' hW) (g_bin hop (eval_of h0) (eval_of h1) (r28 w')))
  | 29, ho, hL, _, G =>
    obtain ⟨hop, hgd⟩ := tab3 htab ho rfl
    have h0 := G 28 42 rfl (by decide) (by decide)
    exact (dXr ho hgd (hpure 29 (by decide) c L w' hW) (by rw [run_assign _ _ _ hop]; exact congrArg (fun v => Result.ok (Next.value v) w') (eval_of h0)))
  | (i + 30), ho, hL, hi, _ => exact absurd hi (by omega)
end Go.Proofs.YtpidmpefodnffaaGreatDoor
