import Derived.Test.YtmjaobddgaglhaaGreatDoorZdsa
import Derived.Test.YtmjaobddgaglhaaGreatDoorZdetl
namespace Go.Proofs.YtmjaobddgaglhaaGreatDoor
open Go.RowKit
set_option maxHeartbeats 4000000
set_option maxRecDepth 8000
abbrev FN (n : Nat) : Value := .func (.func n) #[] #[]
abbrev vI (p : Addr) (n : Int) : Value := .iface 132 (.agg #[.pointer (some p), .int .i64 n, FN 94, FN 110])
abbrev vT (p : Addr) (n : Int) : Value := .iface 136 (.agg #[.pointer (some p), .int .i64 n, FN 111, FN 112])
abbrev vN (p : Addr) (n : Int) : Value := .iface 139 (.agg #[.pointer (some p), .int .i64 n, FN 111, FN 112])
abbrev vW (p : Addr) (n : Int) : Value := .iface 127 (.agg #[.pointer (some p), .int .i64 n, FN 93, FN 109])
abbrev vR (p : Addr) (n : Int) : Value := .iface 157 (.agg #[.pointer (some p), .int .i64 n, FN 93, FN 123, FN 109])
abbrev PT (p : Addr) : Value := .pointer (some p)
theorem cell_lt {w : World} {p : Addr} {v : Value} (h : w.cell? p = some v) : p.block < w.heap.size := by
  unfold World.cell? at h
  rcases Nat.lt_or_ge p.block w.heap.size with q | q
  · exact q
  · rw [Array.getElem?_eq_none q] at h; simp at h
theorem cell_below {B : Nat} {w0 w : World} {p : Addr} {v : Value} (h : w0.cell? p = some v) (hb : Below B w0 w) (hp : p.block < B) : w.cell? p = some v := (World.cell?_of_block (hb.block p.block hp)).trans h
theorem cellr {w : World} {g j : Nat} {vs : Array Value} {t : TypeId} {f : Nat × Nat} {v : Value} (h : w.heap[g]? = some (.cells vs t f)) (e : vs[j]? = some v) : w.cell? ⟨g, j, none⟩ = some v := by
  unfold World.cell?
  rw [h]
  exact e
theorem Wt.more {w0 w : World} {b : Nat} {X : Bs} (h : Wt w0 b X w) (o : Obj) : Wt w0 b X (w.alloc o) := h.keep ((Below.refl _ _).alloc (Nat.le_refl _) _)
theorem run_callv {f : FuncId} {fn : Func} {c : Code} (hf : Tryz.prog.funcs[f]? = some fn) (hname : (fn.name == "runtime.NumGoroutine") = false) (hb : fn.body = some c) (ρ : Operand → Value) (o : Oper) (g : Operand) (xs : Array Operand) (ty : Array TypeId) (ho : o.op = .call { callee := .value g, args := xs, argTypes := ty }) (hfn : ρ g = .func (.func f) #[] #[]) (w : World) : (execOp ρ o).run Tryz.prog w = .ok (.enter f (xs.map ρ)) w := by
  unfold execOp
  simp only [ho, resolve, hfn]
  have := Go.MuLone.run_callFunc_enter (P := Tryz.prog) hf hname hb (xs.map ρ) w
  simp [Deferred.ofValue, invoke, this]
end Go.Proofs.YtmjaobddgaglhaaGreatDoor
namespace Go.Proofs.YtmjaobddgaglhaaGreatDoor
open Go.RowKit
def vrp199 (X b : Nat) (pl : Addr) (x : Value) (_c : Unit) (i : Nat) : Value := match i with
  | 0 => (.pointer (some ⟨X, 2, none⟩))
  | 1 => (FN 93)
  | 2 => (ptr b)
  | 3 => (.pointer (some ⟨X, 0, none⟩))
  | 4 => (PT pl)
  | 5 => (PT pl)
  | 6 => x
  | 7 => (.tuple #[])
  | _ => undef
def rp199T : List (Op × Option Tmp × Option (Nat × Bool)) := [
  (.fieldAddr 127 (.tmp 2) 2, some 4, none),
  (.load 123 (.tmp 4), some 5, none),
  (.move (.tmp 1), some 6, none),
  (.fieldAddr 127 (.tmp 2) 0, some 7, none),
  (.load 122 (.tmp 7), some 8, none),
  (.nilCheck (.tmp 8), some 9, none),
  (.load 9 (.tmp 9), some 10, none),
  (.call { callee := .value (.tmp 5), args := #[(.tmp 6), (.tmp 10)], argTypes := #[108, 9] }, some 11, none)]
def rp199D : List (Nat × Nat) := [(1, 0), (4, 3), (5, 4), (6, 5), (7, 1), (7, 2), (7, 6)]
set_option maxHeartbeats 4000000 in
theorem rp199 {ops : Array Oper} {id : Nat} {Q : Exit → Act → World → Prop} (X b : Nat) (pl : Addr) (x : Value) (htab : ops.toList.map (fun o => (o.op, o.dst, o.guard)) = rp199T) (hdep : deplB rp199D ops = true) (hac : acB ops = true)
    (a0 : Act) (w : World) (hsz : 12 ≤ a0.tmps.size) (o1 : a0.tmps[1]? = some (ptr b)) (o2 : a0.tmps[2]? = some (.pointer (some ⟨X, 0, none⟩)))
    (Wd : Unit → (Nat → Bool) → World → Prop) (h0 : ∃ c, Wd c (fun _ => false) w.drew) (hpure : ∀ i, i ∉ ([7] : List Nat) → ∀ c L W, Wd c L W → Wd c (upd L i) W)
    (r1 : ∀ c L W, Wd c L W → L 1 = false → L 0 = true → (Instr.loadAt 123 (.pointer (some ⟨X, 2, none⟩))).run Tryz.prog W = .ok (FN 93) W)
    (r4 : ∀ c L W, Wd c L W → L 4 = false → L 3 = true → (Instr.loadAt 122 (.pointer (some ⟨X, 0, none⟩))).run Tryz.prog W = .ok (PT pl) W)
    (r6 : ∀ c L W, Wd c L W → L 6 = false → L 5 = true → (Instr.loadAt 9 (PT pl)).run Tryz.prog W = .ok x W)
    (r7 : ∀ c L W, Wd c L W → L 7 = false → L 1 = true → L 2 = true → L 6 = true → Calls Tryz.prog 93 #[(ptr b), x] W fun eg w' => ∃ c', (∀ j, L j = true → vrp199 X b pl x c' j = vrp199 X b pl x c j) ∧ eg = .returned (vrp199 X b pl x c' 7) ∧ Wd c' (upd L 7) w')
    (hend : ∀ c L W, (∀ i, i < 8 → L i = true) → Wd c L W → Q .normal ((((((((a0.put (some 4) (.pointer (some ⟨X, 2, none⟩))).put (some 5) (FN 93)).put (some 6) (ptr b)).put (some 7) (.pointer (some ⟨X, 0, none⟩))).put (some 8) (PT pl)).put (some 9) (PT pl)).put (some 10) x).put (some 11) (.tuple #[])) W) : (Code.region id ops true).wp Tryz.prog Q a0 w := by
  let val : Unit → Nat → Value := vrp199 X b pl x
  have hosz : ops.size = 8 := by
    have := congrArg List.length htab
    simpa [rp199T] using this
  have hds : ∀ i s, (rp199T[i]?).bind (·.2.1) = some s → dstOf ops i = some s := fun i s hi => by rw [tab_dst htab, hi]
  have hdisB : disL rp199T = true := by rfl
  have hdis := disL_of htab hdisB
  have hold : ∀ s, rp199T.all (fun x => !(x.2.1 == some s)) = true → (List.range ops.size).all (fun j => !(dstOf ops j == some s)) = true := fun s h => holdL htab s h
  refine region_detX val Wd (hac_of hac) hdis h0 ?_ ?_
  rotate_left
  · intro c L W hall hW
    have := hend c L W (by rw [← hosz]; exact hall) hW
    have e : frm ops a0 (val c) (fun _ => true) ops.size = ((((((((a0.put (some 4) (.pointer (some ⟨X, 2, none⟩))).put (some 5) (FN 93)).put (some 6) (ptr b)).put (some 7) (.pointer (some ⟨X, 0, none⟩))).put (some 8) (PT pl)).put (some 9) (PT pl)).put (some 10) x).put (some 11) (.tuple #[])) := by
      rw [hosz]
      simp only [frm, if_true]
      rw [tab_dst htab 0, tab_dst htab 1, tab_dst htab 2, tab_dst htab 3, tab_dst htab 4, tab_dst htab 5, tab_dst htab 6, tab_dst htab 7]
      rfl
    rw [e]
    exact this
  intro i o ho c L a w' hL hd ha hW
  have hi : i < 8 := by rw [← hosz]; exact (Array.getElem?_eq_some_iff.1 ho).1
  have G : ∀ j s : Nat, (rp199T[j]?).bind (·.2.1) = some s → s < 12 → (i, j) ∈ rp199D → a.tmps[s]? = some (val c j) := fun j s h1 h2 h3 => frm_at hdis ha j s (hds j s h1) (by omega) (depl_of hdep i j h3 ho hd)
  match i, ho, hL, hi, G with
  | 0, ho, hL, _, G =>
    obtain ⟨hop, hgd⟩ := tab3 htab ho rfl
    have h0 := frm_old ha 2 _ (hold 2 rfl) o2
    exact (dXr ho hgd (hpure 0 (by decide) c L w' hW) (g_field hop (eval_of h0) (by kernel_rfl)))
  | 1, ho, hL, _, G =>
    obtain ⟨hop, hgd⟩ := tab3 htab ho rfl
    have h0 := G 0 4 rfl (by decide) (by decide)
    exact (dXr ho hgd (hpure 1 (by decide) c L w' hW) (g_load hop (eval_of h0) (r1 c L w' hW hL (depl_of hdep 1 0 (by decide) ho hd))))
  | 2, ho, hL, _, G =>
    obtain ⟨hop, hgd⟩ := tab3 htab ho rfl
    have h0 := frm_old ha 1 _ (hold 1 rfl) o1
    exact (dXr ho hgd (hpure 2 (by decide) c L w' hW) (g_mov hop (eval_of h0)))
  | 3, ho, hL, _, G =>
    obtain ⟨hop, hgd⟩ := tab3 htab ho rfl
    have h0 := frm_old ha 2 _ (hold 2 rfl) o2
    exact (dXr ho hgd (hpure 3 (by decide) c L w' hW) (g_field hop (eval_of h0) (by kernel_rfl)))
  | 4, ho, hL, _, G =>
    obtain ⟨hop, hgd⟩ := tab3 htab ho rfl
    have h0 := G 3 7 rfl (by decide) (by decide)
    exact (dXr ho hgd (hpure 4 (by decide) c L w' hW) (g_load hop (eval_of h0) (r4 c L w' hW hL (depl_of hdep 4 3 (by decide) ho hd))))
  | 5, ho, hL, _, G =>
    obtain ⟨hop, hgd⟩ := tab3 htab ho rfl
    have h0 := G 4 8 rfl (by decide) (by decide)
    exact (dXr ho hgd (hpure 5 (by decide) c L w' hW) (run_nil _ _ _ hop _ (eval_of h0) _))
  | 6, ho, hL, _, G =>
    obtain ⟨hop, hgd⟩ := tab3 htab ho rfl
    have h0 := G 5 9 rfl (by decide) (by decide)
    exact (dXr ho hgd (hpure 6 (by decide) c L w' hW) (g_load hop (eval_of h0) (r6 c L w' hW hL (depl_of hdep 6 5 (by decide) ho hd))))
  | 7, ho, hL, _, G =>
    obtain ⟨hop, hgd⟩ := tab3 htab ho rfl
    have h0 := G 2 6 rfl (by decide) (by decide)
    have h1 := G 6 10 rfl (by decide) (by decide)
    have hf := G 1 5 rfl (by decide) (by decide)
    refine doesX_call ho (wanted_none hgd) 93 #[(ptr b), x] ?_ (r7 c L w' hW hL (depl_of hdep 7 1 (by decide) ho hd) (depl_of hdep 7 2 (by decide) ho hd) (depl_of hdep 7 6 (by decide) ho hd))
    rw [run_callv Tryz.func93 (by kernel_rfl) rfl _ _ _ _ _ hop (eval_of hf)]
    simp only [List.map_toArray, List.map_cons, List.map_nil, eval_of h0, eval_of h1]
    all_goals rfl
  | (i + 8), ho, hL, hi, _ => exact absurd hi (by omega)
def vrp201 (X b : Nat) (pl : Addr) (x : Value) (_c : Unit) (i : Nat) : Value := match i with
  | 0 => (.pointer (some ⟨X, 2, none⟩))
  | 1 => (FN 93)
  | 2 => (ptr b)
  | 3 => (.pointer (some ⟨X, 0, none⟩))
  | 4 => (PT pl)
  | 5 => (PT pl)
  | 6 => x
  | 7 => (.tuple #[])
  | _ => undef
def rp201T : List (Op × Option Tmp × Option (Nat × Bool)) := [
  (.fieldAddr 157 (.tmp 2) 2, some 4, none),
  (.load 123 (.tmp 4), some 5, none),
  (.move (.tmp 1), some 6, none),
  (.fieldAddr 157 (.tmp 2) 0, some 7, none),
  (.load 122 (.tmp 7), some 8, none),
  (.nilCheck (.tmp 8), some 9, none),
  (.load 9 (.tmp 9), some 10, none),
  (.call { callee := .value (.tmp 5), args := #[(.tmp 6), (.tmp 10)], argTypes := #[108, 9] }, some 11, none)]
def rp201D : List (Nat × Nat) := [(1, 0), (4, 3), (5, 4), (6, 5), (7, 1), (7, 2), (7, 6)]
set_option maxHeartbeats 4000000 in
theorem rp201 {ops : Array Oper} {id : Nat} {Q : Exit → Act → World → Prop} (X b : Nat) (pl : Addr) (x : Value) (htab : ops.toList.map (fun o => (o.op, o.dst, o.guard)) = rp201T) (hdep : deplB rp201D ops = true) (hac : acB ops = true)
    (a0 : Act) (w : World) (hsz : 12 ≤ a0.tmps.size) (o1 : a0.tmps[1]? = some (ptr b)) (o2 : a0.tmps[2]? = some (.pointer (some ⟨X, 0, none⟩)))
    (Wd : Unit → (Nat → Bool) → World → Prop) (h0 : ∃ c, Wd c (fun _ => false) w.drew) (hpure : ∀ i, i ∉ ([7] : List Nat) → ∀ c L W, Wd c L W → Wd c (upd L i) W)
    (r1 : ∀ c L W, Wd c L W → L 1 = false → L 0 = true → (Instr.loadAt 123 (.pointer (some ⟨X, 2, none⟩))).run Tryz.prog W = .ok (FN 93) W)
    (r4 : ∀ c L W, Wd c L W → L 4 = false → L 3 = true → (Instr.loadAt 122 (.pointer (some ⟨X, 0, none⟩))).run Tryz.prog W = .ok (PT pl) W)
    (r6 : ∀ c L W, Wd c L W → L 6 = false → L 5 = true → (Instr.loadAt 9 (PT pl)).run Tryz.prog W = .ok x W)
    (r7 : ∀ c L W, Wd c L W → L 7 = false → L 1 = true → L 2 = true → L 6 = true → Calls Tryz.prog 93 #[(ptr b), x] W fun eg w' => ∃ c', (∀ j, L j = true → vrp201 X b pl x c' j = vrp201 X b pl x c j) ∧ eg = .returned (vrp201 X b pl x c' 7) ∧ Wd c' (upd L 7) w')
    (hend : ∀ c L W, (∀ i, i < 8 → L i = true) → Wd c L W → Q .normal ((((((((a0.put (some 4) (.pointer (some ⟨X, 2, none⟩))).put (some 5) (FN 93)).put (some 6) (ptr b)).put (some 7) (.pointer (some ⟨X, 0, none⟩))).put (some 8) (PT pl)).put (some 9) (PT pl)).put (some 10) x).put (some 11) (.tuple #[])) W) : (Code.region id ops true).wp Tryz.prog Q a0 w := by
  let val : Unit → Nat → Value := vrp201 X b pl x
  have hosz : ops.size = 8 := by
    have := congrArg List.length htab
    simpa [rp201T] using this
  have hds : ∀ i s, (rp201T[i]?).bind (·.2.1) = some s → dstOf ops i = some s := fun i s hi => by rw [tab_dst htab, hi]
  have hdisB : disL rp201T = true := by rfl
  have hdis := disL_of htab hdisB
  have hold : ∀ s, rp201T.all (fun x => !(x.2.1 == some s)) = true → (List.range ops.size).all (fun j => !(dstOf ops j == some s)) = true := fun s h => holdL htab s h
  refine region_detX val Wd (hac_of hac) hdis h0 ?_ ?_
  rotate_left
  · intro c L W hall hW
    have := hend c L W (by rw [← hosz]; exact hall) hW
    have e : frm ops a0 (val c) (fun _ => true) ops.size = ((((((((a0.put (some 4) (.pointer (some ⟨X, 2, none⟩))).put (some 5) (FN 93)).put (some 6) (ptr b)).put (some 7) (.pointer (some ⟨X, 0, none⟩))).put (some 8) (PT pl)).put (some 9) (PT pl)).put (some 10) x).put (some 11) (.tuple #[])) := by
      rw [hosz]
      simp only [frm, if_true]
      rw [tab_dst htab 0, tab_dst htab 1, tab_dst htab 2, tab_dst htab 3, tab_dst htab 4, tab_dst htab 5, tab_dst htab 6, tab_dst htab 7]
      rfl
    rw [e]
    exact this
  intro i o ho c L a w' hL hd ha hW
  have hi : i < 8 := by rw [← hosz]; exact (Array.getElem?_eq_some_iff.1 ho).1
  have G : ∀ j s : Nat, (rp201T[j]?).bind (·.2.1) = some s → s < 12 → (i, j) ∈ rp201D → a.tmps[s]? = some (val c j) := fun j s h1 h2 h3 => frm_at hdis ha j s (hds j s h1) (by omega) (depl_of hdep i j h3 ho hd)
  match i, ho, hL, hi, G with
  | 0, ho, hL, _, G =>
    obtain ⟨hop, hgd⟩ := tab3 htab ho rfl
    have h0 := frm_old ha 2 _ (hold 2 rfl) o2
    exact (dXr ho hgd (hpure 0 (by decide) c L w' hW) (g_field hop (eval_of h0) (by kernel_rfl)))
  | 1, ho, hL, _, G =>
    obtain ⟨hop, hgd⟩ := tab3 htab ho rfl
    have h0 := G 0 4 rfl (by decide) (by decide)
    exact (dXr ho hgd (hpure 1 (by decide) c L w' hW) (g_load hop (eval_of h0) (r1 c L w' hW hL (depl_of hdep 1 0 (by decide) ho hd))))
  | 2, ho, hL, _, G =>
    obtain ⟨hop, hgd⟩ := tab3 htab ho rfl
    have h0 := frm_old ha 1 _ (hold 1 rfl) o1
    exact (dXr ho hgd (hpure 2 (by decide) c L w' hW) (g_mov hop (eval_of h0)))
  | 3, ho, hL, _, G =>
    obtain ⟨hop, hgd⟩ := tab3 htab ho rfl
    have h0 := frm_old ha 2 _ (hold 2 rfl) o2
    exact (dXr ho hgd (hpure 3 (by decide) c L w' hW) (g_field hop (eval_of h0) (by kernel_rfl)))
  | 4, ho, hL, _, G =>
    obtain ⟨hop, hgd⟩ := tab3 htab ho rfl
    have h0 := G 3 7 rfl (by decide) (by decide)
    exact (dXr ho hgd (hpure 4 (by decide) c L w' hW) (g_load hop (eval_of h0) (r4 c L w' hW hL (depl_of hdep 4 3 (by decide) ho hd))))
  | 5, ho, hL, _, G =>
    obtain ⟨hop, hgd⟩ := tab3 htab ho rfl
    have h0 := G 4 8 rfl (by decide) (by decide)
    exact (dXr ho hgd (hpure 5 (by decide) c L w' hW) (run_nil _ _ _ hop _ (eval_of h0) _))
  | 6, ho, hL, _, G =>
    obtain ⟨hop, hgd⟩ := tab3 htab ho rfl
    have h0 := G 5 9 rfl (by decide) (by decide)
    exact (dXr ho hgd (hpure 6 (by decide) c L w' hW) (g_load hop (eval_of h0) (r6 c L w' hW hL (depl_of hdep 6 5 (by decide) ho hd))))
  | 7, ho, hL, _, G =>
    obtain ⟨hop, hgd⟩ := tab3 htab ho rfl
    have h0 := G 2 6 rfl (by decide) (by decide)
    have h1 := G 6 10 rfl (by decide) (by decide)
    have hf := G 1 5 rfl (by decide) (by decide)
    refine doesX_call ho (wanted_none hgd) 93 #[(ptr b), x] ?_ (r7 c L w' hW hL (depl_of hdep 7 1 (by decide) ho hd) (depl_of hdep 7 2 (by decide) ho hd) (depl_of hdep 7 6 (by decide) ho hd))
    rw [run_callv Tryz.func93 (by kernel_rfl) rfl _ _ _ _ _ hop (eval_of hf)]
    simp only [List.map_toArray, List.map_cons, List.map_nil, eval_of h0, eval_of h1]
    all_goals rfl
  | (i + 8), ho, hL, hi, _ => exact absurd hi (by omega)
def vrp205 (X b : Nat) (pl : Addr) (n : Int) (x : Value) (_c : Unit) (i : Nat) : Value := match i with
  | 0 => (.pointer (some ⟨X, 2, none⟩))
  | 1 => (FN 111)
  | 2 => (ptr b)
  | 3 => (.pointer (some ⟨X, 1, none⟩))
  | 4 => (I n)
  | 5 => (.pointer (some ⟨X, 0, none⟩))
  | 6 => (PT pl)
  | 7 => (PT pl)
  | 8 => x
  | 9 => (.tuple #[])
  | _ => undef
def rp205T : List (Op × Option Tmp × Option (Nat × Bool)) := [
  (.fieldAddr 136 (.tmp 2) 2, some 4, none),
  (.load 133 (.tmp 4), some 5, none),
  (.move (.tmp 1), some 6, none),
  (.fieldAddr 136 (.tmp 2) 1, some 7, none),
  (.load 3 (.tmp 7), some 8, none),
  (.fieldAddr 136 (.tmp 2) 0, some 9, none),
  (.load 122 (.tmp 9), some 10, none),
  (.nilCheck (.tmp 10), some 11, none),
  (.load 9 (.tmp 11), some 12, none),
  (.call { callee := .value (.tmp 5), args := #[(.tmp 6), (.tmp 8), (.tmp 12)], argTypes := #[108, 3, 9] }, some 13, none)]
def rp205D : List (Nat × Nat) := [(1, 0), (4, 3), (6, 5), (7, 6), (8, 7), (9, 1), (9, 2), (9, 4), (9, 8)]
set_option maxHeartbeats 4000000 in
theorem rp205 {ops : Array Oper} {id : Nat} {Q : Exit → Act → World → Prop} (X b : Nat) (pl : Addr) (n : Int) (x : Value) (htab : ops.toList.map (fun o => (o.op, o.dst, o.guard)) = rp205T) (hdep : deplB rp205D ops = true) (hac : acB ops = true)
    (a0 : Act) (w : World) (hsz : 14 ≤ a0.tmps.size) (o1 : a0.tmps[1]? = some (ptr b)) (o2 : a0.tmps[2]? = some (.pointer (some ⟨X, 0, none⟩)))
    (Wd : Unit → (Nat → Bool) → World → Prop) (h0 : ∃ c, Wd c (fun _ => false) w.drew) (hpure : ∀ i, i ∉ ([9] : List Nat) → ∀ c L W, Wd c L W → Wd c (upd L i) W)
    (r1 : ∀ c L W, Wd c L W → L 1 = false → L 0 = true → (Instr.loadAt 133 (.pointer (some ⟨X, 2, none⟩))).run Tryz.prog W = .ok (FN 111) W)
    (r4 : ∀ c L W, Wd c L W → L 4 = false → L 3 = true → (Instr.loadAt 3 (.pointer (some ⟨X, 1, none⟩))).run Tryz.prog W = .ok (I n) W)
    (r6 : ∀ c L W, Wd c L W → L 6 = false → L 5 = true → (Instr.loadAt 122 (.pointer (some ⟨X, 0, none⟩))).run Tryz.prog W = .ok (PT pl) W)
    (r8 : ∀ c L W, Wd c L W → L 8 = false → L 7 = true → (Instr.loadAt 9 (PT pl)).run Tryz.prog W = .ok x W)
    (r9 : ∀ c L W, Wd c L W → L 9 = false → L 1 = true → L 2 = true → L 4 = true → L 8 = true → Calls Tryz.prog 111 #[(ptr b), (I n), x] W fun eg w' => ∃ c', (∀ j, L j = true → vrp205 X b pl n x c' j = vrp205 X b pl n x c j) ∧ eg = .returned (vrp205 X b pl n x c' 9) ∧ Wd c' (upd L 9) w')
    (hend : ∀ c L W, (∀ i, i < 10 → L i = true) → Wd c L W → Q .normal ((((((((((a0.put (some 4) (.pointer (some ⟨X, 2, none⟩))).put (some 5) (FN 111)).put (some 6) (ptr b)).put (some 7) (.pointer (some ⟨X, 1, none⟩))).put (some 8) (I n)).put (some 9) (.pointer (some ⟨X, 0, none⟩))).put (some 10) (PT pl)).put (some 11) (PT pl)).put (some 12) x).put (some 13) (.tuple #[])) W) : (Code.region id ops true).wp Tryz.prog Q a0 w := by
  let val : Unit → Nat → Value := vrp205 X b pl n x
  have hosz : ops.size = 10 := by
    have := congrArg List.length htab
    simpa [rp205T] using this
  have hds : ∀ i s, (rp205T[i]?).bind (·.2.1) = some s → dstOf ops i = some s := fun i s hi => by rw [tab_dst htab, hi]
  have hdisB : disL rp205T = true := by rfl
  have hdis := disL_of htab hdisB
  have hold : ∀ s, rp205T.all (fun x => !(x.2.1 == some s)) = true → (List.range ops.size).all (fun j => !(dstOf ops j == some s)) = true := fun s h => holdL htab s h
  refine region_detX val Wd (hac_of hac) hdis h0 ?_ ?_
  rotate_left
  · intro c L W hall hW
    have := hend c L W (by rw [← hosz]; exact hall) hW
    have e : frm ops a0 (val c) (fun _ => true) ops.size = ((((((((((a0.put (some 4) (.pointer (some ⟨X, 2, none⟩))).put (some 5) (FN 111)).put (some 6) (ptr b)).put (some 7) (.pointer (some ⟨X, 1, none⟩))).put (some 8) (I n)).put (some 9) (.pointer (some ⟨X, 0, none⟩))).put (some 10) (PT pl)).put (some 11) (PT pl)).put (some 12) x).put (some 13) (.tuple #[])) := by
      rw [hosz]
      simp only [frm, if_true]
      rw [tab_dst htab 0, tab_dst htab 1, tab_dst htab 2, tab_dst htab 3, tab_dst htab 4, tab_dst htab 5, tab_dst htab 6, tab_dst htab 7, tab_dst htab 8, tab_dst htab 9]
      rfl
    rw [e]
    exact this
  intro i o ho c L a w' hL hd ha hW
  have hi : i < 10 := by rw [← hosz]; exact (Array.getElem?_eq_some_iff.1 ho).1
  have G : ∀ j s : Nat, (rp205T[j]?).bind (·.2.1) = some s → s < 14 → (i, j) ∈ rp205D → a.tmps[s]? = some (val c j) := fun j s h1 h2 h3 => frm_at hdis ha j s (hds j s h1) (by omega) (depl_of hdep i j h3 ho hd)
  match i, ho, hL, hi, G with
  | 0, ho, hL, _, G =>
    obtain ⟨hop, hgd⟩ := tab3 htab ho rfl
    have h0 := frm_old ha 2 _ (hold 2 rfl) o2
    exact (dXr ho hgd (hpure 0 (by decide) c L w' hW) (g_field hop (eval_of h0) (by kernel_rfl)))
  | 1, ho, hL, _, G =>
    obtain ⟨hop, hgd⟩ := tab3 htab ho rfl
    have h0 := G 0 4 rfl (by decide) (by decide)
    exact (dXr ho hgd (hpure 1 (by decide) c L w' hW) (g_load hop (eval_of h0) (r1 c L w' hW hL (depl_of hdep 1 0 (by decide) ho hd))))
  | 2, ho, hL, _, G =>
    obtain ⟨hop, hgd⟩ := tab3 htab ho rfl
    have h0 := frm_old ha 1 _ (hold 1 rfl) o1
    exact (dXr ho hgd (hpure 2 (by decide) c L w' hW) (g_mov hop (eval_of h0)))
  | 3, ho, hL, _, G =>
    obtain ⟨hop, hgd⟩ := tab3 htab ho rfl
    have h0 := frm_old ha 2 _ (hold 2 rfl) o2
    exact (dXr ho hgd (hpure 3 (by decide) c L w' hW) (g_field hop (eval_of h0) (by kernel_rfl)))
  | 4, ho, hL, _, G =>
    obtain ⟨hop, hgd⟩ := tab3 htab ho rfl
    have h0 := G 3 7 rfl (by decide) (by decide)
    exact (dXr ho hgd (hpure 4 (by decide) c L w' hW) (g_load hop (eval_of h0) (r4 c L w' hW hL (depl_of hdep 4 3 (by decide) ho hd))))
  | 5, ho, hL, _, G =>
    obtain ⟨hop, hgd⟩ := tab3 htab ho rfl
    have h0 := frm_old ha 2 _ (hold 2 rfl) o2
    exact (dXr ho hgd (hpure 5 (by decide) c L w' hW) (g_field hop (eval_of h0) (by kernel_rfl)))
  | 6, ho, hL, _, G =>
    obtain ⟨hop, hgd⟩ := tab3 htab ho rfl
    have h0 := G 5 9 rfl (by decide) (by decide)
    exact (dXr ho hgd (hpure 6 (by decide) c L w' hW) (g_load hop (eval_of h0) (r6 c L w' hW hL (depl_of hdep 6 5 (by decide) ho hd))))
  | 7, ho, hL, _, G =>
    obtain ⟨hop, hgd⟩ := tab3 htab ho rfl
    have h0 := G 6 10 rfl (by decide) (by decide)
    exact (dXr ho hgd (hpure 7 (by decide) c L w' hW) (run_nil _ _ _ hop _ (eval_of h0) _))
  | 8, ho, hL, _, G =>
    obtain ⟨hop, hgd⟩ := tab3 htab ho rfl
    have h0 := G 7 11 rfl (by decide) (by decide)
    exact (dXr ho hgd (hpure 8 (by decide) c L w' hW) (g_load hop (eval_of h0) (r8 c L w' hW hL (depl_of hdep 8 7 (by decide) ho hd))))
  | 9, ho, hL, _, G =>
    obtain ⟨hop, hgd⟩ := tab3 htab ho rfl
    have h0 := G 2 6 rfl (by decide) (by decide)
    have h1 := G 4 8 rfl (by decide) (by decide)
    have h2 := G 8 12 rfl (by decide) (by decide)
    have hf := G 1 5 rfl (by decide) (by decide)
    refine doesX_call ho (wanted_none hgd) 111 #[(ptr b), (I n), x] ?_ (r9 c L w' hW hL (depl_of hdep 9 1 (by decide) ho hd) (depl_of hdep 9 2 (by decide) ho hd) (depl_of hdep 9 4 (by decide) ho hd) (depl_of hdep 9 8 (by decide) ho hd))
    rw [run_callv Tryz.func111 (by kernel_rfl) rfl _ _ _ _ _ hop (eval_of hf)]
    simp only [List.map_toArray, List.map_cons, List.map_nil, eval_of h0, eval_of h1, eval_of h2]
    all_goals rfl
  | (i + 10), ho, hL, hi, _ => exact absurd hi (by omega)
def vrp207 (X b : Nat) (pl : Addr) (n : Int) (x : Value) (_c : Unit) (i : Nat) : Value := match i with
  | 0 => (.pointer (some ⟨X, 2, none⟩))
  | 1 => (FN 94)
  | 2 => (ptr b)
  | 3 => (.pointer (some ⟨X, 1, none⟩))
  | 4 => (I n)
  | 5 => (.pointer (some ⟨X, 0, none⟩))
  | 6 => (PT pl)
  | 7 => (PT pl)
  | 8 => x
  | 9 => (.tuple #[])
  | _ => undef
def rp207T : List (Op × Option Tmp × Option (Nat × Bool)) := [
  (.fieldAddr 132 (.tmp 2) 2, some 4, none),
  (.load 129 (.tmp 4), some 5, none),
  (.move (.tmp 1), some 6, none),
  (.fieldAddr 132 (.tmp 2) 1, some 7, none),
  (.load 3 (.tmp 7), some 8, none),
  (.fieldAddr 132 (.tmp 2) 0, some 9, none),
  (.load 128 (.tmp 9), some 10, none),
  (.nilCheck (.tmp 10), some 11, none),
  (.load 3 (.tmp 11), some 12, none),
  (.call { callee := .value (.tmp 5), args := #[(.tmp 6), (.tmp 8), (.tmp 12)], argTypes := #[108, 3, 3] }, some 13, none)]
def rp207D : List (Nat × Nat) := [(1, 0), (4, 3), (6, 5), (7, 6), (8, 7), (9, 1), (9, 2), (9, 4), (9, 8)]
set_option maxHeartbeats 4000000 in
theorem rp207 {ops : Array Oper} {id : Nat} {Q : Exit → Act → World → Prop} (X b : Nat) (pl : Addr) (n : Int) (x : Value) (htab : ops.toList.map (fun o => (o.op, o.dst, o.guard)) = rp207T) (hdep : deplB rp207D ops = true) (hac : acB ops = true)
    (a0 : Act) (w : World) (hsz : 14 ≤ a0.tmps.size) (o1 : a0.tmps[1]? = some (ptr b)) (o2 : a0.tmps[2]? = some (.pointer (some ⟨X, 0, none⟩)))
    (Wd : Unit → (Nat → Bool) → World → Prop) (h0 : ∃ c, Wd c (fun _ => false) w.drew) (hpure : ∀ i, i ∉ ([9] : List Nat) → ∀ c L W, Wd c L W → Wd c (upd L i) W)
    (r1 : ∀ c L W, Wd c L W → L 1 = false → L 0 = true → (Instr.loadAt 129 (.pointer (some ⟨X, 2, none⟩))).run Tryz.prog W = .ok (FN 94) W)
    (r4 : ∀ c L W, Wd c L W → L 4 = false → L 3 = true → (Instr.loadAt 3 (.pointer (some ⟨X, 1, none⟩))).run Tryz.prog W = .ok (I n) W)
    (r6 : ∀ c L W, Wd c L W → L 6 = false → L 5 = true → (Instr.loadAt 128 (.pointer (some ⟨X, 0, none⟩))).run Tryz.prog W = .ok (PT pl) W)
    (r8 : ∀ c L W, Wd c L W → L 8 = false → L 7 = true → (Instr.loadAt 3 (PT pl)).run Tryz.prog W = .ok x W)
    (r9 : ∀ c L W, Wd c L W → L 9 = false → L 1 = true → L 2 = true → L 4 = true → L 8 = true → Calls Tryz.prog 94 #[(ptr b), (I n), x] W fun eg w' => ∃ c', (∀ j, L j = true → vrp207 X b pl n x c' j = vrp207 X b pl n x c j) ∧ eg = .returned (vrp207 X b pl n x c' 9) ∧ Wd c' (upd L 9) w')
    (hend : ∀ c L W, (∀ i, i < 10 → L i = true) → Wd c L W → Q .normal ((((((((((a0.put (some 4) (.pointer (some ⟨X, 2, none⟩))).put (some 5) (FN 94)).put (some 6) (ptr b)).put (some 7) (.pointer (some ⟨X, 1, none⟩))).put (some 8) (I n)).put (some 9) (.pointer (some ⟨X, 0, none⟩))).put (some 10) (PT pl)).put (some 11) (PT pl)).put (some 12) x).put (some 13) (.tuple #[])) W) : (Code.region id ops true).wp Tryz.prog Q a0 w := by
  let val : Unit → Nat → Value := vrp207 X b pl n x
  have hosz : ops.size = 10 := by
    have := congrArg List.length htab
    simpa [rp207T] using this
  have hds : ∀ i s, (rp207T[i]?).bind (·.2.1) = some s → dstOf ops i = some s := fun i s hi => by rw [tab_dst htab, hi]
  have hdisB : disL rp207T = true := by rfl
  have hdis := disL_of htab hdisB
  have hold : ∀ s, rp207T.all (fun x => !(x.2.1 == some s)) = true → (List.range ops.size).all (fun j => !(dstOf ops j == some s)) = true := fun s h => holdL htab s h
  refine region_detX val Wd (hac_of hac) hdis h0 ?_ ?_
  rotate_left
  · intro c L W hall hW
    have := hend c L W (by rw [← hosz]; exact hall) hW
    have e : frm ops a0 (val c) (fun _ => true) ops.size = ((((((((((a0.put (some 4) (.pointer (some ⟨X, 2, none⟩))).put (some 5) (FN 94)).put (some 6) (ptr b)).put (some 7) (.pointer (some ⟨X, 1, none⟩))).put (some 8) (I n)).put (some 9) (.pointer (some ⟨X, 0, none⟩))).put (some 10) (PT pl)).put (some 11) (PT pl)).put (some 12) x).put (some 13) (.tuple #[])) := by
      rw [hosz]
      simp only [frm, if_true]
      rw [tab_dst htab 0, tab_dst htab 1, tab_dst htab 2, tab_dst htab 3, tab_dst htab 4, tab_dst htab 5, tab_dst htab 6, tab_dst htab 7, tab_dst htab 8, tab_dst htab 9]
      rfl
    rw [e]
    exact this
  intro i o ho c L a w' hL hd ha hW
  have hi : i < 10 := by rw [← hosz]; exact (Array.getElem?_eq_some_iff.1 ho).1
  have G : ∀ j s : Nat, (rp207T[j]?).bind (·.2.1) = some s → s < 14 → (i, j) ∈ rp207D → a.tmps[s]? = some (val c j) := fun j s h1 h2 h3 => frm_at hdis ha j s (hds j s h1) (by omega) (depl_of hdep i j h3 ho hd)
  match i, ho, hL, hi, G with
  | 0, ho, hL, _, G =>
    obtain ⟨hop, hgd⟩ := tab3 htab ho rfl
    have h0 := frm_old ha 2 _ (hold 2 rfl) o2
    exact (dXr ho hgd (hpure 0 (by decide) c L w' hW) (g_field hop (eval_of h0) (by kernel_rfl)))
  | 1, ho, hL, _, G =>
    obtain ⟨hop, hgd⟩ := tab3 htab ho rfl
    have h0 := G 0 4 rfl (by decide) (by decide)
    exact (dXr ho hgd (hpure 1 (by decide) c L w' hW) (g_load hop (eval_of h0) (r1 c L w' hW hL (depl_of hdep 1 0 (by decide) ho hd))))
  | 2, ho, hL, _, G =>
    obtain ⟨hop, hgd⟩ := tab3 htab ho rfl
    have h0 := frm_old ha 1 _ (hold 1 rfl) o1
    exact (dXr ho hgd (hpure 2 (by decide) c L w' hW) (g_mov hop (eval_of h0)))
  | 3, ho, hL, _, G =>
    obtain ⟨hop, hgd⟩ := tab3 htab ho rfl
    have h0 := frm_old ha 2 _ (hold 2 rfl) o2
    exact (dXr ho hgd (hpure 3 (by decide) c L w' hW) (g_field hop (eval_of h0) (by kernel_rfl)))
  | 4, ho, hL, _, G =>
    obtain ⟨hop, hgd⟩ := tab3 htab ho rfl
    have h0 := G 3 7 rfl (by decide) (by decide)
    exact (dXr ho hgd (hpure 4 (by decide) c L w' hW) (g_load hop (eval_of h0) (r4 c L w' hW hL (depl_of hdep 4 3 (by decide) ho hd))))
  | 5, ho, hL, _, G =>
    obtain ⟨hop, hgd⟩ := tab3 htab ho rfl
    have h0 := frm_old ha 2 _ (hold 2 rfl) o2
    exact (dXr ho hgd (hpure 5 (by decide) c L w' hW) (g_field hop (eval_of h0) (by kernel_rfl)))
  | 6, ho, hL, _, G =>
    obtain ⟨hop, hgd⟩ := tab3 htab ho rfl
    have h0 := G 5 9 rfl (by decide) (by decide)
    exact (dXr ho hgd (hpure 6 (by decide) c L w' hW) (g_load hop (eval_of h0) (r6 c L w' hW hL (depl_of hdep 6 5 (by decide) ho hd))))
  | 7, ho, hL, _, G =>
    obtain ⟨hop, hgd⟩ := tab3 htab ho rfl
    have h0 := G 6 10 rfl (by decide) (by decide)
    exact (dXr ho hgd (hpure 7 (by decide) c L w' hW) (run_nil _ _ _ hop _ (eval_of h0) _))
  | 8, ho, hL, _, G =>
    obtain ⟨hop, hgd⟩ := tab3 htab ho rfl
    have h0 := G 7 11 rfl (by decide) (by decide)
    exact (dXr ho hgd (hpure 8 (by decide) c L w' hW) (g_load hop (eval_of h0) (r8 c L w' hW hL (depl_of hdep 8 7 (by decide) ho hd))))
  | 9, ho, hL, _, G =>
    obtain ⟨hop, hgd⟩ := tab3 htab ho rfl
    have h0 := G 2 6 rfl (by decide) (by decide)
    have h1 := G 4 8 rfl (by decide) (by decide)
    have h2 := G 8 12 rfl (by decide) (by decide)
    have hf := G 1 5 rfl (by decide) (by decide)
    refine doesX_call ho (wanted_none hgd) 94 #[(ptr b), (I n), x] ?_ (r9 c L w' hW hL (depl_of hdep 9 1 (by decide) ho hd) (depl_of hdep 9 2 (by decide) ho hd) (depl_of hdep 9 4 (by decide) ho hd) (depl_of hdep 9 8 (by decide) ho hd))
    rw [run_callv Tryz.func94 (by kernel_rfl) rfl _ _ _ _ _ hop (eval_of hf)]
    simp only [List.map_toArray, List.map_cons, List.map_nil, eval_of h0, eval_of h1, eval_of h2]
    all_goals rfl
  | (i + 10), ho, hL, hi, _ => exact absurd hi (by omega)
structure Cnm where
  va : Option Addr
  vn : Nat
  vc : Nat
end Go.Proofs.YtmjaobddgaglhaaGreatDoor
namespace Go.Proofs.YtmjaobddgaglhaaGreatDoor
open Go.RowKit
set_option maxHeartbeats 4000000
set_option maxRecDepth 8000
theorem upd_ne {L : Nat → Bool} {i k : Nat} (h : k ≠ i) : upd L i k = L k := by simp [upd, h]
/-- A call of a Writer leaves a box that was made behind it. -/
theorem Wt.step {w0 w W w' : World} {b : Nat} {X Y : Bs} {v : Value} {x : Nat} (hx : x < W.heap.size) (h1 : WAt b v X 0 w) (hB : Below w0.heap.size w0 W) (h3 : w0.heap.size ≤ b) (h4 : ∀ k, v.ownBlock = some k → w0.heap.size ≤ k) (hxw : w.heap.size ≤ x) (hw : WTo b v Y 0 W w') : Wt w0 b Y w' ∧ w'.heap[x]? = W.heap[x]? := by
  refine ⟨Wt.to hB h3 h4 hw, ?_⟩
  obtain ⟨v', q1, q2, q3⟩ := hw
  refine q2.block x hx ?_
  rintro (e | e)
  · have := lt_of_row h1.row; omega
  · have := owns_blk h1.own x e; omega
/-- A Writer, and a box X that was made behind it and holds vs. -/
structure Wb (w0 : World) (b : Nat) (Y : Bs) (x : Nat) (vs : Array Value) (t : TypeId) (W : World) : Prop where
  wt : ∃ w v, WAt b v Y 0 w ∧ WAt b v Y 0 W ∧ w.heap.size ≤ x ∧ ∀ k, v.ownBlock = some k → w0.heap.size ≤ k
  bel : Below w0.heap.size w0 W
  hb : w0.heap.size ≤ b
  box : W.heap[x]? = some (.cells vs t (0, 0))
theorem Wb.drew {w0 : World} {b : Nat} {Y : Bs} {x : Nat} {vs : Array Value} {t : TypeId} {W : World} (h : Wb w0 b Y x vs t W) : Wb w0 b Y x vs t W.drew := by
  obtain ⟨⟨w, v, h1, h2, h3, h4⟩, q1, q2, q3⟩ := h
  exact ⟨⟨w, v, h1, h2.keep (Only.drew (fun _ => False) W) (fun q => q) (fun _ _ q => q), h3, h4⟩, q1.trans ((Only.drew (fun _ => False) W).to_below.mono q1.size), q2, q3⟩
theorem Wb.mk' {w0 w : World} {b : Nat} {Y : Bs} (h : Wt w0 b Y w) (vs : Array Value) (t : TypeId) : Wb w0 b Y w.heap.size vs t (w.alloc (.cells vs t)) := by
  obtain ⟨v, h1, h2, h3, h4⟩ := h
  exact ⟨⟨w, v, h1, h1.keep (Only.alloc (fun _ => False) w _) (fun q => q) (fun _ _ q => q), Nat.le_refl _, h4⟩, h2.alloc h2.size _, h3, by show (w.heap.push _)[w.heap.size]? = _; simp⟩
theorem Wb.num {w0 : World} {b : Nat} {Y : Bs} {x : Nat} {vs : Array Value} {t : TypeId} {W : World} (h : Wb w0 b Y x vs t W) (size : Nat) (n : Int) (s1 : 1 ≤ size) (s8 : size ≤ 8) (n0 : 0 ≤ n) (n1 : n < 256 ^ size) (n2 : n ≤ 9223372036854775807) (hX : Y.length ≤ 1000000000) :
    Calls Tryz.prog 94 #[ptr b, I size, I n] W fun e w' => e = .returned (.tuple #[]) ∧ Wt w0 b (Y ++ be size n.toNat) w' ∧ w'.heap[x]? = some (.cells vs t (0, 0)) := by
  obtain ⟨⟨w, v, h1, h2, h3, h4⟩, q1, q2, q3⟩ := h
  refine (wnum_any b v Y 0 size n W h2 n2 (by omega)).mono ?_
  rintro e w' ⟨rfl, hw⟩
  have e1 : numE size n = 0 := by
    have : stnB (size : Int).toNat n = true := by simp [stnB, n0]; exact n1
    unfold numE
    rw [if_pos ⟨by omega, by omega⟩, if_pos this]
  rw [e1, wPut_ok] at hw
  have e2 : numY size n = be size n.toNat := by simp [numY]
  rw [e2] at hw
  obtain ⟨a, c⟩ := Wt.step (lt_of_row q3) h1 q1 q2 h4 h3 hw
  exact ⟨rfl, a, c.trans q3⟩
theorem Wb.raw {w0 : World} {b : Nat} {Y : Bs} {x : Nat} {vs : Array Value} {t : TypeId} {W : World} (h : Wb w0 b Y x vs t W) (s : Bs) (hX : Y.length + s.length ≤ 1000000000) :
    Calls Tryz.prog 93 #[ptr b, S s] W fun e w' => e = .returned (.tuple #[]) ∧ Wt w0 b (Y ++ s) w' ∧ w'.heap[x]? = some (.cells vs t (0, 0)) := by
  obtain ⟨⟨w, v, h1, h2, h3, h4⟩, q1, q2, q3⟩ := h
  refine (wraw_any b v Y 0 s W h2 (by omega)).mono ?_
  rintro e w' ⟨rfl, hw⟩
  rw [wPut_ok] at hw
  obtain ⟨a, c⟩ := Wt.step (lt_of_row q3) h1 q1 q2 h4 h3 hw
  exact ⟨rfl, a, c.trans q3⟩
theorem Wb.text {w0 : World} {b : Nat} {Y : Bs} {x : Nat} {vs : Array Value} {t : TypeId} {W : World} (h : Wb w0 b Y x vs t W) (most : Nat) (s : Bs) (hm : most ≤ 255) (hs : s.length ≤ most) (hX : Y.length ≤ 1000000000) :
    Calls Tryz.prog 111 #[ptr b, I most, S s] W fun e w' => e = .returned (.tuple #[]) ∧ Wt w0 b (Y ++ (be 1 s.length ++ s)) w' ∧ w'.heap[x]? = some (.cells vs t (0, 0)) := by
  obtain ⟨⟨w, v, h1, h2, h3, h4⟩, q1, q2, q3⟩ := h
  refine (wtext_any b v Y 0 most s W h2 (by omega)).mono ?_
  rintro e w' ⟨rfl, hw⟩
  have e1 : textE most s.length = 0 := by
    unfold textE
    rw [if_pos ⟨by omega, by omega⟩, if_pos (by omega)]
  have e2 : textY most s = be 1 s.length ++ s := by
    unfold textY ahd
    rw [if_pos (by omega)]
  rw [e1, e2, wPut_ok] at hw
  obtain ⟨a, c⟩ := Wt.step (lt_of_row q3) h1 q1 q2 h4 h3 hw
  exact ⟨rfl, a, c.trans q3⟩
/-- Between two operations of put: the call c has come up or not. -/
def Wq (w0 : World) (b : Nat) (Y Z : Bs) (x : Nat) (vs : Array Value) (t : TypeId) (c : Nat) (_ : Unit) (L : Nat → Bool) (W : World) : Prop :=
  W.heap[x]? = some (.cells vs t (0, 0)) ∧ Below w0.heap.size w0 W ∧ (L c = false → Wb w0 b Y x vs t W) ∧ (L c = true → Wt w0 b Z W)
theorem Wq.ld {w0 : World} {b : Nat} {Y Z : Bs} {x : Nat} {vs : Array Value} {t : TypeId} {c : Nat} {u : Unit} {L : Nat → Bool} {W : World} (h : Wq w0 b Y Z x vs t c u L W) (j : Nat) (v : Value) (hv : vs[j]? = some v) : W.cell? ⟨x, j, none⟩ = some v := by
  simp [World.cell?, h.1, hv]
theorem Wq.pure {w0 : World} {b : Nat} {Y Z : Bs} {x : Nat} {vs : Array Value} {t : TypeId} {c : Nat} {u : Unit} {L : Nat → Bool} {W : World} (h : Wq w0 b Y Z x vs t c u L W) (i : Nat) (hi : i ≠ c) : Wq w0 b Y Z x vs t c u (upd L i) W := by
  have e : upd L i c = L c := upd_ne (fun e => hi e.symm)
  refine ⟨h.1, h.2.1, ?_, ?_⟩ <;> rw [e]
  · exact h.2.2.1
  · exact h.2.2.2
theorem Wq.call {w0 : World} {b : Nat} {Y Z : Bs} {x : Nat} {vs : Array Value} {t : TypeId} {c : Nat} {u : Unit} {L : Nat → Bool} {w' : World} (h1 : Wt w0 b Z w') (h2 : w'.heap[x]? = some (.cells vs t (0, 0))) : Wq w0 b Y Z x vs t c u (upd L c) w' := by
  refine ⟨h2, h1.below, fun e => ?_, fun _ => h1⟩
  simp [upd] at e

theorem Wb.wq {w0 : World} {b : Nat} {Y Z : Bs} {x : Nat} {vs : Array Value} {t : TypeId} {c : Nat} {W : World} (h : Wb w0 b Y x vs t W) : ∃ u, Wq w0 b Y Z x vs t c u (fun _ => false) W.drew :=
  ⟨(), h.drew.box, h.drew.bel, fun _ => h.drew, fun e => by cases e⟩

theorem putW {w0 w : World} {b : Nat} {Y : Bs} (h : Wt w0 b Y w) (p : Addr) (n : Int) (x : Bs) (hp : w0.cell? p = some (S x)) (hY : Y.length + x.length ≤ 1000000000) :
    Calls Tryz.prog 192 #[.agg #[PT p, I n, FN 93, FN 109], ptr b] w fun e w' => e = .returned (.tuple #[]) ∧ Wt w0 b (Y ++ x) w' := by
  have H := Wb.mk' h #[PT p, I n, FN 93, FN 109] 127
  have hx : ∀ W, Below w0.heap.size w0 W → W.cell? p = some (S x) := fun W hW => cell_below hp hW (cell_lt hp)
  go_enter Tryz.func192, Tryz.ntmps192
  go_wp2_with fail
  generalize hX : w.heap.size = X at *
  generalize w.alloc (Obj.cells #[PT p, I n, FN 93, FN 109] 127) = W1 at *
  refine rp199 X b p (S x) rfl (by rfl) (by rfl) _ W1 (by simp) rfl rfl (Wq w0 b Y (Y ++ x) X #[PT p, I n, FN 93, FN 109] 127 7) H.wq (fun i hi c L W hW => hW.pure i (fun e => hi (by simp [e]))) (fun c L W hW _ _ => s_ld (T := 123) (fun _ => by kernel_rfl) (hW.ld 2 _ rfl)) (fun c L W hW _ _ => s_ld (T := 122) (fun _ => by kernel_rfl) (hW.ld 0 _ rfl)) (fun c L W hW _ _ => s_ld (T := 9) (fun _ => by kernel_rfl) (hx W hW.2.1)) (fun c L W hW hL _ _ _ => ((hW.2.2.1 hL).raw x hY).mono fun e w' q => ⟨c, fun _ _ => rfl, q.1, Wq.call q.2.1 q.2.2⟩) ?_
  intro c L W hall hW
  have hw := hW.2.2.2 (hall 7 (by decide))
  simp only [Act.put, List.setIfInBounds_toArray, List.set_cons_succ, List.set_cons_zero]
  show bodyPost _ _ _ _ _ _
  clear hx H hall hW hX
  go_end0
  exact ⟨rfl, hw⟩

theorem putR {w0 w : World} {b : Nat} {Y : Bs} (h : Wt w0 b Y w) (p : Addr) (n : Int) (x : Bs) (hp : w0.cell? p = some (S x)) (hY : Y.length + x.length ≤ 1000000000) :
    Calls Tryz.prog 198 #[.agg #[PT p, I n, FN 93, FN 123, FN 109], ptr b] w fun e w' => e = .returned (.tuple #[]) ∧ Wt w0 b (Y ++ x) w' := by
  have H := Wb.mk' h #[PT p, I n, FN 93, FN 123, FN 109] 157
  have hx : ∀ W, Below w0.heap.size w0 W → W.cell? p = some (S x) := fun W hW => cell_below hp hW (cell_lt hp)
  go_enter Tryz.func198, Tryz.ntmps198
  go_wp2_with fail
  generalize hX : w.heap.size = X at *
  generalize w.alloc (Obj.cells #[PT p, I n, FN 93, FN 123, FN 109] 157) = W1 at *
  refine rp201 X b p (S x) rfl (by rfl) (by rfl) _ W1 (by simp) rfl rfl (Wq w0 b Y (Y ++ x) X #[PT p, I n, FN 93, FN 123, FN 109] 157 7) H.wq (fun i hi c L W hW => hW.pure i (fun e => hi (by simp [e]))) (fun c L W hW _ _ => s_ld (T := 123) (fun _ => by kernel_rfl) (hW.ld 2 _ rfl)) (fun c L W hW _ _ => s_ld (T := 122) (fun _ => by kernel_rfl) (hW.ld 0 _ rfl)) (fun c L W hW _ _ => s_ld (T := 9) (fun _ => by kernel_rfl) (hx W hW.2.1)) (fun c L W hW hL _ _ _ => ((hW.2.2.1 hL).raw x hY).mono fun e w' q => ⟨c, fun _ _ => rfl, q.1, Wq.call q.2.1 q.2.2⟩) ?_
  intro c L W hall hW
  have hw := hW.2.2.2 (hall 7 (by decide))
  simp only [Act.put, List.setIfInBounds_toArray, List.set_cons_succ, List.set_cons_zero]
  show bodyPost _ _ _ _ _ _
  clear hx H hall hW hX
  go_end0
  exact ⟨rfl, hw⟩

theorem putT {w0 w : World} {b : Nat} {Y : Bs} (h : Wt w0 b Y w) (p : Addr) (n : Nat) (x : Bs) (hp : w0.cell? p = some (S x)) (hm : n ≤ 255) (hs : x.length ≤ n) (hY : Y.length ≤ 1000000000) :
    Calls Tryz.prog 194 #[.agg #[PT p, I n, FN 111, FN 112], ptr b] w fun e w' => e = .returned (.tuple #[]) ∧ Wt w0 b (Y ++ (be 1 x.length ++ x)) w' := by
  have H := Wb.mk' h #[PT p, I n, FN 111, FN 112] 136
  have hx : ∀ W, Below w0.heap.size w0 W → W.cell? p = some (S x) := fun W hW => cell_below hp hW (cell_lt hp)
  go_enter Tryz.func194, Tryz.ntmps194
  go_wp2_with fail
  generalize hX : w.heap.size = X at *
  generalize w.alloc (Obj.cells #[PT p, I n, FN 111, FN 112] 136) = W1 at *
  refine rp205 X b p n (S x) rfl (by rfl) (by rfl) _ W1 (by simp) rfl rfl (Wq w0 b Y (Y ++ (be 1 x.length ++ x)) X #[PT p, I n, FN 111, FN 112] 136 9) H.wq (fun i hi c L W hW => hW.pure i (fun e => hi (by simp [e]))) (fun c L W hW _ _ => s_ld (T := 133) (fun _ => by kernel_rfl) (hW.ld 2 _ rfl)) (fun c L W hW _ _ => s_ld (T := 3) (fun _ => by kernel_rfl) (hW.ld 1 _ rfl)) (fun c L W hW _ _ => s_ld (T := 122) (fun _ => by kernel_rfl) (hW.ld 0 _ rfl)) (fun c L W hW _ _ => s_ld (T := 9) (fun _ => by kernel_rfl) (hx W hW.2.1)) (fun c L W hW hL _ _ _ _ => ((hW.2.2.1 hL).text n x hm hs hY).mono fun e w' q => ⟨c, fun _ _ => rfl, q.1, Wq.call q.2.1 q.2.2⟩) ?_
  intro c L W hall hW
  have hw := hW.2.2.2 (hall 9 (by decide))
  simp only [Act.put, List.setIfInBounds_toArray, List.set_cons_succ, List.set_cons_zero]
  show bodyPost _ _ _ _ _ _
  clear hx H hall hW hX
  go_end0
  exact ⟨rfl, hw⟩

theorem putI {w0 w : World} {b : Nat} {Y : Bs} (h : Wt w0 b Y w) (p : Addr) (n : Nat) (z : Int) (hp : w0.cell? p = some (I z)) (s1 : 1 ≤ n) (s8 : n ≤ 8) (n0 : 0 ≤ z) (n1 : z < 256 ^ n) (n2 : z ≤ 9223372036854775807) (hY : Y.length ≤ 1000000000) :
    Calls Tryz.prog 193 #[.agg #[PT p, I n, FN 94, FN 110], ptr b] w fun e w' => e = .returned (.tuple #[]) ∧ Wt w0 b (Y ++ be n z.toNat) w' := by
  have H := Wb.mk' h #[PT p, I n, FN 94, FN 110] 132
  have hx : ∀ W, Below w0.heap.size w0 W → W.cell? p = some (I z) := fun W hW => cell_below hp hW (cell_lt hp)
  go_enter Tryz.func193, Tryz.ntmps193
  go_wp2_with fail
  generalize hX : w.heap.size = X at *
  generalize w.alloc (Obj.cells #[PT p, I n, FN 94, FN 110] 132) = W1 at *
  refine rp207 X b p n (I z) rfl (by rfl) (by rfl) _ W1 (by simp) rfl rfl (Wq w0 b Y (Y ++ be n z.toNat) X #[PT p, I n, FN 94, FN 110] 132 9) H.wq (fun i hi c L W hW => hW.pure i (fun e => hi (by simp [e]))) (fun c L W hW _ _ => s_ld (T := 129) (fun _ => by kernel_rfl) (hW.ld 2 _ rfl)) (fun c L W hW _ _ => s_ld (T := 3) (fun _ => by kernel_rfl) (hW.ld 1 _ rfl)) (fun c L W hW _ _ => s_ld (T := 128) (fun _ => by kernel_rfl) (hW.ld 0 _ rfl)) (fun c L W hW _ _ => s_ld (T := 3) (fun _ => by kernel_rfl) (hx W hW.2.1)) (fun c L W hW hL _ _ _ _ => ((hW.2.2.1 hL).num n z s1 s8 n0 n1 n2 hY).mono fun e w' q => ⟨c, fun _ _ => rfl, q.1, Wq.call q.2.1 q.2.2⟩) ?_
  intro c L W hall hW
  have hw := hW.2.2.2 (hall 9 (by decide))
  simp only [Act.put, List.setIfInBounds_toArray, List.set_cons_succ, List.set_cons_zero]
  show bodyPost _ _ _ _ _ _
  clear hx H hall hW hX
  go_end0
  exact ⟨rfl, hw⟩
end Go.Proofs.YtmjaobddgaglhaaGreatDoor
namespace Go.Proofs.YtmjaobddgaglhaaGreatDoor
open Go.RowKit
set_option maxHeartbeats 4000000
set_option maxRecDepth 8000
/-- A field that is laid down as X, whatever stands ahead of it. -/
def Pf (w0 : World) (v : Value) (X : Bs) : Prop := ∃ (t : TypeId) (V : Value) (f : Nat), v = .iface t V ∧ (∀ W, (method 365 t V "latchkey/record.put").run Tryz.prog W = .ok (f, V) W) ∧ (∀ (ar : Array Value) (W : World), (callFunc f ar).run Tryz.prog W = .ok (.enter f ar) W) ∧
  ∀ (b : Nat) (Y : Bs) (w : World), Wt w0 b Y w → Y.length + X.length ≤ 1000000000 → Calls Tryz.prog f #[V, ptr b] w fun e w' => e = .returned (.tuple #[]) ∧ Wt w0 b (Y ++ X) w'
theorem cf {f : FuncId} {fn : Func} {c : Code} (hf : Tryz.prog.funcs[f]? = some fn) (hname : (fn.name == "runtime.NumGoroutine") = false) (hb : fn.body = some c) (ar : Array Value) (w : World) : (callFunc f ar).run Tryz.prog w = .ok (.enter f ar) w :=
  Go.MuLone.run_callFunc_enter (P := Tryz.prog) hf hname hb ar w
theorem mp179 (V : Value) (W : World) : (method 365 127 V "latchkey/record.put").run Tryz.prog W = .ok (192, V) W := by kernel_rfl
theorem mp183 (V : Value) (W : World) : (method 365 157 V "latchkey/record.put").run Tryz.prog W = .ok (198, V) W := by kernel_rfl
theorem mp190 (V : Value) (W : World) : (method 365 144 V "latchkey/record.put").run Tryz.prog W = .ok (197, V) W := by kernel_rfl
theorem mp194 (V : Value) (W : World) : (method 365 136 V "latchkey/record.put").run Tryz.prog W = .ok (194, V) W := by kernel_rfl
theorem mp197 (V : Value) (W : World) : (method 365 132 V "latchkey/record.put").run Tryz.prog W = .ok (193, V) W := by kernel_rfl
theorem mp200 (V : Value) (W : World) : (method 365 139 V "latchkey/record.put").run Tryz.prog W = .ok (195, V) W := by kernel_rfl
theorem Pf.W {w0 : World} (p : Addr) (n : Int) (x : Bs) (hp : w0.cell? p = some (S x)) : Pf w0 (.iface 127 (.agg #[PT p, I n, FN 93, FN 109])) x :=
  ⟨127, _, 192, rfl, mp179 _, cf Tryz.func192 (by kernel_rfl) rfl, fun _ _ _ h hY => putW h p n x hp hY⟩
theorem Pf.R {w0 : World} (p : Addr) (n : Int) (x : Bs) (hp : w0.cell? p = some (S x)) : Pf w0 (.iface 157 (.agg #[PT p, I n, FN 93, FN 123, FN 109])) x :=
  ⟨157, _, 198, rfl, mp183 _, cf Tryz.func198 (by kernel_rfl) rfl, fun _ _ _ h hY => putR h p n x hp hY⟩
theorem Pf.T {w0 : World} (p : Addr) (n : Nat) (x : Bs) (hp : w0.cell? p = some (S x)) (hm : n ≤ 255) (hs : x.length ≤ n) : Pf w0 (.iface 136 (.agg #[PT p, I n, FN 111, FN 112])) (be 1 x.length ++ x) :=
  ⟨136, _, 194, rfl, mp194 _, cf Tryz.func194 (by kernel_rfl) rfl, fun _ _ _ h hY => putT h p n x hp hm hs (by omega)⟩
theorem Pf.I {w0 : World} (p : Addr) (n : Nat) (z : Int) (hp : w0.cell? p = some (.int .i64 z)) (s1 : 1 ≤ n) (s8 : n ≤ 8) (n0 : 0 ≤ z) (n1 : z < 256 ^ n) (n2 : z ≤ 9223372036854775807) : Pf w0 (.iface 132 (.agg #[PT p, .int .i64 n, FN 94, FN 110])) (be n z.toNat) :=
  ⟨132, _, 193, rfl, mp197 _, cf Tryz.func193 (by kernel_rfl) rfl, fun _ _ _ h hY => putI h p n z hp s1 s8 n0 n1 n2 (by omega)⟩
/-- What fields lay down, one behind the other. -/
def cat (X : Nat → Bs) : Nat → Bs
  | 0 => []
  | i + 1 => cat X i ++ X i
theorem cat_le (X : Nat → Bs) (n : Nat) : ∀ i, i ≤ n → (cat X i).length ≤ (cat X n).length := by
  induction n with
  | zero => intro i hi; rw [Nat.le_zero.1 hi]; exact Nat.le_refl _
  | succ n ih =>
    intro i hi
    rcases Nat.lt_or_ge i (n + 1) with q | q
    · have := ih i (by omega)
      simp [cat]; omega
    · rw [Nat.le_antisymm hi q]; exact Nat.le_refl _
/-- Fields, in a row in memory. -/
def Frow (w : World) (a : Option Addr) (n : Nat) (V : Nat → Value) : Prop := 0 < n → ∃ k o, a = some ⟨k, o, none⟩ ∧ ∀ i, i < n → w.cell? ⟨k, o + i, none⟩ = some (V i)
theorem Frow.below {w w' : World} {a : Option Addr} {n : Nat} {V : Nat → Value} (h : Frow w a n V) (hb : Below w.heap.size w w') : Frow w' a n V := fun hn => by
  obtain ⟨k, o, e, q⟩ := h hn
  exact ⟨k, o, e, fun i hi => cell_below (q i hi) hb (cell_lt (q i hi))⟩
theorem laid_any (a : Option Addr) (n : Nat) (V : Nat → Value) (X : Nat → Bs) (w : World) (hn : n ≤ 1000) (hr : Frow w a n V) (hf : ∀ i, i < n → Pf w (V i) (X i)) (hl : (cat X n).length ≤ 1000000000) :
    Calls Tryz.prog 134 #[.slice a n n] w fun e w' => e = .returned (S (cat X n)) ∧ Below w.heap.size w w' := by
  have HN := hide (Wt.new w)
  have HF := hide hf
  have HR := hide hr
  have HL := hide hl
  have HC := hide (cat_le X n)
  clear hf hr hl
  go_enter Tryz.func134, Tryz.ntmps134
  go_wp2_with fail
  refine (unhide HN).mono ?_
  rintro e w1 ⟨rfl, hw1⟩
  have HW := hide hw1
  generalize w.heap.size = b at HW ⊢
  clear hw1 HN
  go_wp2_with fail
  go_loopw [11] (fun i wr => ∃ k : Nat, k ≤ n ∧ i = I k ∧ Wt w b (cat X k) wr) (fun i _ => n - (Go.RowKit.intOf i).toNat)
  case atStart => exact ⟨0, Nat.zero_le _, rfl, unhide HW⟩
  case round =>
    obtain ⟨k, hk, rfl, hw⟩ := hrel
    clear HW
    by_cases hlt : k < n
    · have hlt' : (k : Int) < (n : Int) := by omega
      obtain ⟨g, o, e, hc⟩ := (unhide HR).below (hw.below.mono (Nat.le_refl _)) (by omega : 0 < n)
      have hck := hc k hlt
      obtain ⟨t, V', f, hv, hm, hcf, hcall⟩ := unhide HF k hlt
      rw [hv] at hck
      have hcl := cell_lt hck
      have HCL := hide (hcall b (cat X k) wr hw (by have h1 := unhide HC (k + 1) (by omega); have h2 := unhide HL; simp [cat] at h1; omega))
      subst e
      clear hc hcall hw HR HF HL HC hv
      go_wp2_with fail
      refine (unhide HCL).mono ?_
      rintro e w2 ⟨rfl, hw2⟩
      have HW2 := hide hw2
      clear hw2 HCL hck hm hcf
      go_wp2
      refine ⟨⟨k + 1, by omega, by go_num, unhide HW2⟩, ?_⟩
      simp [Go.RowKit.intOf]; omega
    · have hd : ¬ (k : Int) < (n : Int) := by omega
      have ek : k = n := by omega
      subst ek
      have HD := hide hw.done
      clear hw HR HF HL HC
      go_wp2_with fail
      refine (unhide HD).mono ?_
      rintro e w2 ⟨rfl, hw2⟩
      have HW2 := hide hw2
      clear hw2 HD
      go_wp2
      go_ret
      exact ⟨rfl, unhide HW2⟩
end Go.Proofs.YtmjaobddgaglhaaGreatDoor
