import Derived.Test.YtpidmpefodnffaaGreatDoorZwrta
import Derived.Test.YtpidmpefodnffaaGreatDoorZnrd
import Derived.Test.YtpidmpefodnffaaGreatDoorZdetl
namespace Go.Proofs.YtpidmpefodnffaaGreatDoor
open Go.RowKit
set_option maxHeartbeats 4000000
set_option maxRecDepth 8000
abbrev FN (n : Nat) : Value := .func (.func n) #[] #[]
abbrev vI (p : Addr) (n : Int) : Value := .iface 197 (.agg #[.pointer (some p), .int .i64 n, FN 135, FN 136])
abbrev vT (p : Addr) (n : Int) : Value := .iface 194 (.agg #[.pointer (some p), .int .i64 n, FN 137, FN 138])
abbrev vN (p : Addr) (n : Int) : Value := .iface 200 (.agg #[.pointer (some p), .int .i64 n, FN 137, FN 138])
abbrev vW (p : Addr) (n : Int) : Value := .iface 179 (.agg #[.pointer (some p), .int .i64 n, FN 132, FN 133])
abbrev vR (p : Addr) (n : Int) : Value := .iface 183 (.agg #[.pointer (some p), .int .i64 n, FN 132, FN 134, FN 133])
abbrev PT (p : Addr) : Value := .pointer (some p)
theorem cell_lt {w : World} {p : Addr} {v : Value} (h : w.cell? p = some v) : p.block < w.heap.size := by
  unfold World.cell? at h
  rcases Nat.lt_or_ge p.block w.heap.size with q | q
  · exact q
  · rw [Array.getElem?_eq_none q] at h; simp at h
theorem cell_below {B : Nat} {w0 w : World} {p : Addr} {v : Value} (h : w0.cell? p = some v) (hb : Below B w0 w) (hp : p.block < B) : w.cell? p = some v := (World.cell?_of_block (hb.block p.block hp)).trans h
theorem cellr {w : World} {g j : Nat} {vs : Array Value} {t : TypeId} {f : Nat × Nat} {v : Value} (h : w.heap[g]? = some (.cells vs t f)) (e : vs[j]? = some v) : w.cell? ⟨g, j, none⟩ = some v := by
  unfold World.cell?
  rw [h]
  exact e
theorem Wt.more {w0 w : World} {b : Nat} {X : Bs} (h : Wt w0 b X w) (o : Obj) : Wt w0 b X (w.alloc o) := h.keep ((Below.refl _ _).alloc (Nat.le_refl _) _)
theorem run_callv {f : FuncId} {fn : Func} {c : Code} (hf : Tryz.prog.funcs[f]? = some fn) (hname : (fn.name == "runtime.NumGoroutine") = false) (hb : fn.body = some c) (ρ : Operand → Value) (o : Oper) (g : Operand) (xs : Array Operand) (ty : Array TypeId) (ho : o.op = .call { callee := .value g, args := xs, argTypes := ty }) (hfn : ρ g = .func (.func f) #[] #[]) (w : World) : (execOp ρ o).run Tryz.prog w = .ok (.enter f (xs.map ρ)) w := by
  unfold execOp
  simp only [ho, resolve, hfn]
  have := Go.MuLone.run_callFunc_enter (P := Tryz.prog) hf hname hb (xs.map ρ) w
  simp [Deferred.ofValue, invoke, this]
end Go.Proofs.YtpidmpefodnffaaGreatDoor
namespace Go.Proofs.YtpidmpefodnffaaGreatDoor
open Go.RowKit
def vrp199 (X b : Nat) (pl : Addr) (x : Value) (_c : Unit) (i : Nat) : Value := match i with
  | 0 => (.pointer (some ⟨X, 2, none⟩))
  | 1 => (FN 132)
  | 2 => (ptr b)
  | 3 => (.pointer (some ⟨X, 0, none⟩))
  | 4 => (PT pl)
  | 5 => (PT pl)
  | 6 => x
  | 7 => (.tuple #[])
  | _ => undef
def rp199T : List (Op × Option Tmp × Option (Nat × Bool)) := [
  (.fieldAddr 179 (.tmp 2) 2, some 4, none),
  (.load 173 (.tmp 4), some 5, none),
  (.move (.tmp 1), some 6, none),
  (.fieldAddr 179 (.tmp 2) 0, some 7, none),
  (.load 172 (.tmp 7), some 8, none),
  (.nilCheck (.tmp 8), some 9, none),
  (.load 9 (.tmp 9), some 10, none),
  (.call { callee := .value (.tmp 5), args := #[(.tmp 6), (.tmp 10)], argTypes := #[175, 9] }, some 11, none)]
def rp199D : List (Nat × Nat) := [(1, 0), (4, 3), (5, 4), (6, 5), (7, 1), (7, 2), (7, 6)]
set_option maxHeartbeats 4000000 in
theorem rp199 {ops : Array Oper} {id : Nat} {Q : Exit → Act → World → Prop} (X b : Nat) (pl : Addr) (x : Value) (htab : ops.toList.map (fun o => (o.op, o.dst, o.guard)) = rp199T) (hdep : deplB rp199D ops = true) (hac : acB ops = true)
    (a0 : Act) (w : World) (hsz : 12 ≤ a0.tmps.size) (o1 : a0.tmps[1]? = some (ptr b)) (o2 : a0.tmps[2]? = some (.pointer (some ⟨X, 0, none⟩)))
    (Wd : Unit → (Nat → Bool) → World → Prop) (h0 : ∃ c, Wd c (fun _ => false) w.drew) (hpure : ∀ i, i ∉ ([7] : List Nat) → ∀ c L W, Wd c L W → Wd c (upd L i) W)
    (r1 : ∀ c L W, Wd c L W → L 1 = false → L 0 = true → (Instr.loadAt 173 (.pointer (some ⟨X, 2, none⟩))).run Tryz.prog W = .ok (FN 132) W)
    (r4 : ∀ c L W, Wd c L W → L 4 = false → L 3 = true → (Instr.loadAt 172 (.pointer (some ⟨X, 0, none⟩))).run Tryz.prog W = .ok (PT pl) W)
    (r6 : ∀ c L W, Wd c L W → L 6 = false → L 5 = true → (Instr.loadAt 9 (PT pl)).run Tryz.prog W = .ok x W)
    (r7 : ∀ c L W, Wd c L W → L 7 = false → L 1 = true → L 2 = true → L 6 = true → Calls Tryz.prog 132 #[(ptr b), x] W fun eg w' => ∃ c', (∀ j, L j = true → vrp199 X b pl x c' j = vrp199 X b pl x c j) ∧ eg = .returned (vrp199 X b pl x c' 7) ∧ Wd c' (upd L 7) w')
    (hend : ∀ c L W, (∀ i, i < 8 → L i = true) → Wd c L W → Q .normal ((((((((a0.put (some 4) (.pointer (some ⟨X, 2, none⟩))).put (some 5) (FN 132)).put (some 6) (ptr b)).put (some 7) (.pointer (some ⟨X, 0, none⟩))).put (some 8) (PT pl)).put (some 9) (PT pl)).put (some 10) x).put (some 11) (.tuple #[])) W) : (Code.region id ops true).wp Tryz.prog Q a0 w := by
  let val : Unit → Nat → Value := vrp199 X b pl x
  have hosz : ops.size = 8 := by
    have := congrArg List.length htab
    simpa [rp199T] using this
  have hds : ∀ i s, (rp199T[i]?).bind (·.2.1) = some s → dstOf ops i = some s := fun i s hi => by rw [tab_dst htab, hi]
  have hdisB : disL rp199T = true := by rfl
  have hdis := disL_of htab hdisB
  have hold : ∀ s, rp199T.all (fun x => !(x.2.1 == some s)) = true → (List.range ops.size).all (fun j => !(dstOf ops j == some s)) = true := fun s h => holdL htab s h
  refine region_detX val Wd (hac_of hac) hdis h0 ?_ ?_
  rotate_left
  · intro c L W hall hW
    have := hend c L W (by rw [← hosz]; exact hall) hW
    have e : frm ops a0 (val c) (fun _ => true) ops.size = ((((((((a0.put (some 4) (.pointer (some ⟨X, 2, none⟩))).put (some 5) (FN 132)).put (some 6) (ptr b)).put (some 7) (.pointer (some ⟨X, 0, none⟩))).put (some 8) (PT pl)).put (some 9) (PT pl)).put (some 10) x).put (some 11) (.tuple #[])) := by
      rw [hosz]
      simp only [frm, if_true]
      rw [tab_dst htab 0, tab_dst htab 1, tab_dst htab 2, tab_dst htab 3, tab_dst htab 4, tab_dst htab 5, tab_dst htab 6, tab_dst htab 7]
      rfl
    rw [e]
    exact this
  intro i o ho c L a w' hL hd ha hW
  have hi : i < 8 := by rw [← hosz]; exact (Array.getElem?_eq_some_iff.1 ho).1
  have G : ∀ j s : Nat, (rp199T[j]?).bind (·.2.1) = some s → s < 12 → (i, j) ∈ rp199D → a.tmps[s]? = some (val c j) := fun j s h1 h2 h3 => frm_at hdis ha j s (hds j s h1) (by omega) (depl_of hdep i j h3 ho hd)
  match i, ho, hL, hi, G with
  | 0, ho, hL, _, G =>
    obtain ⟨hop, hgd⟩ := tab3 htab ho rfl
    have h0 := frm_old ha 2 _ (hold 2 rfl) o2
    exact (dXr ho hgd (hpure 0 (by decide) c L w' hW) (g_field hop (eval_of h0) (by kernel_rfl)))
  | 1, ho, hL, _, G =>
    obtain ⟨hop, hgd⟩ := tab3 htab ho rfl
    have h0 := G 0 4 rfl (by decide) (by decide)
    exact (dXr ho hgd (hpure 1 (by decide) c L w' hW) (g_load hop (eval_of h0) (r1 c L w' hW hL (depl_of hdep 1 0 (by decide) ho hd))))
  | 2, ho, hL, _, G =>
    obtain ⟨hop, hgd⟩ := tab3 htab ho rfl
    have h0 := frm_old ha 1 _ (hold 1 rfl) o1
    exact (dXr ho hgd (hpure 2 (by decide) c L w' hW) (g_mov hop (eval_of h0)))
  | 3, ho, hL, _, G =>
    obtain ⟨hop, hgd⟩ := tab3 htab ho rfl
    have h0 := frm_old ha 2 _ (hold 2 rfl) o2
    exact (dXr ho hgd (hpure 3 (by decide) c L w' hW) (g_field hop (eval_of h0) (by kernel_rfl)))
  | 4, ho, hL, _, G =>
    obtain ⟨hop, hgd⟩ := tab3 htab ho rfl
    have h0 := G 3 7 rfl (by decide) (by decide)
    exact (dXr ho hgd (hpure 4 (by decide) c L w' hW) (g_load hop (eval_of h0) (r4 c L w' hW hL (depl_of hdep 4 3 (by decide) ho hd))))
  | 5, ho, hL, _, G =>
    obtain ⟨hop, hgd⟩ := tab3 htab ho rfl
    have h0 := G 4 8 rfl (by decide) (by decide)
    exact (dXr ho hgd (hpure 5 (by decide) c L w' hW) (run_nil _ _ _ hop _ (eval_of h0) _))
  | 6, ho, hL, _, G =>
    obtain ⟨hop, hgd⟩ := tab3 htab ho rfl
    have h0 := G 5 9 rfl (by decide) (by decide)
    exact (dXr ho hgd (hpure 6 (by decide) c L w' hW) (g_load hop (eval_of h0) (r6 c L w' hW hL (depl_of hdep 6 5 (by decide) ho hd))))
  | 7, ho, hL, _, G =>
    obtain ⟨hop, hgd⟩ := tab3 htab ho rfl
    have h0 := G 2 6 rfl (by decide) (by decide)
    have h1 := G 6 10 rfl (by decide) (by decide)
    have hf := G 1 5 rfl (by decide) (by decide)
    refine doesX_call ho (wanted_none hgd) 132 #[(ptr b), x] ?_ (r7 c L w' hW hL (depl_of hdep 7 1 (by decide) ho hd) (depl_of hdep 7 2 (by decide) ho hd) (depl_of hdep 7 6 (by decide) ho hd))
    rw [run_callv Tryz.func132 (by kernel_rfl) rfl _ _ _ _ _ hop (eval_of hf)]
    simp only [List.map_toArray, List.map_cons, List.map_nil, eval_of h0, eval_of h1]
    all_goals rfl
  | (i + 8), ho, hL, hi, _ => exact absurd hi (by omega)
def vrp201 (X b : Nat) (pl : Addr) (x : Value) (_c : Unit) (i : Nat) : Value := match i with
  | 0 => (.pointer (some ⟨X, 2, none⟩))
  | 1 => (FN 132)
  | 2 => (ptr b)
  | 3 => (.pointer (some ⟨X, 0, none⟩))
  | 4 => (PT pl)
  | 5 => (PT pl)
  | 6 => x
  | 7 => (.tuple #[])
  | _ => undef
def rp201T : List (Op × Option Tmp × Option (Nat × Bool)) := [
  (.fieldAddr 183 (.tmp 2) 2, some 4, none),
  (.load 173 (.tmp 4), some 5, none),
  (.move (.tmp 1), some 6, none),
  (.fieldAddr 183 (.tmp 2) 0, some 7, none),
  (.load 172 (.tmp 7), some 8, none),
  (.nilCheck (.tmp 8), some 9, none),
  (.load 9 (.tmp 9), some 10, none),
  (.call { callee := .value (.tmp 5), args := #[(.tmp 6), (.tmp 10)], argTypes := #[175, 9] }, some 11, none)]
def rp201D : List (Nat × Nat) := [(1, 0), (4, 3), (5, 4), (6, 5), (7, 1), (7, 2), (7, 6)]
set_option maxHeartbeats 4000000 in
theorem rp201 {ops : Array Oper} {id : Nat} {Q : Exit → Act → World → Prop} (X b : Nat) (pl : Addr) (x : Value) (htab : ops.toList.map (fun o => (o.op, o.dst, o.guard)) = rp201T) (hdep : deplB rp201D ops = true) (hac : acB ops = true)
    (a0 : Act) (w : World) (hsz : 12 ≤ a0.tmps.size) (o1 : a0.tmps[1]? = some (ptr b)) (o2 : a0.tmps[2]? = some (.pointer (some ⟨X, 0, none⟩)))
    (Wd : Unit → (Nat → Bool) → World → Prop) (h0 : ∃ c, Wd c (fun _ => false) w.drew) (hpure : ∀ i, i ∉ ([7] : List Nat) → ∀ c L W, Wd c L W → Wd c (upd L i) W)
    (r1 : ∀ c L W, Wd c L W → L 1 = false → L 0 = true → (Instr.loadAt 173 (.pointer (some ⟨X, 2, none⟩))).run Tryz.prog W = .ok (FN 132) W)
    (r4 : ∀ c L W, Wd c L W → L 4 = false → L 3 = true → (Instr.loadAt 172 (.pointer (some ⟨X, 0, none⟩))).run Tryz.prog W = .ok (PT pl) W)
    (r6 : ∀ c L W, Wd c L W → L 6 = false → L 5 = true → (Instr.loadAt 9 (PT pl)).run Tryz.prog W = .ok x W)
    (r7 : ∀ c L W, Wd c L W → L 7 = false → L 1 = true → L 2 = true → L 6 = true → Calls Tryz.prog 132 #[(ptr b), x] W fun eg w' => ∃ c', (∀ j, L j = true → vrp201 X b pl x c' j = vrp201 X b pl x c j) ∧ eg = .returned (vrp201 X b pl x c' 7) ∧ Wd c' (upd L 7) w')
    (hend : ∀ c L W, (∀ i, i < 8 → L i = true) → Wd c L W → Q .normal ((((((((a0.put (some 4) (.pointer (some ⟨X, 2, none⟩))).put (some 5) (FN 132)).put (some 6) (ptr b)).put (some 7) (.pointer (some ⟨X, 0, none⟩))).put (some 8) (PT pl)).put (some 9) (PT pl)).put (some 10) x).put (some 11) (.tuple #[])) W) : (Code.region id ops true).wp Tryz.prog Q a0 w := by
  let val : Unit → Nat → Value := vrp201 X b pl x
  have hosz : ops.size = 8 := by
    have := congrArg List.length htab
    simpa [rp201T] using this
  have hds : ∀ i s, (rp201T[i]?).bind (·.2.1) = some s → dstOf ops i = some s := fun i s hi => by rw [tab_dst htab, hi]
  have hdisB : disL rp201T = true := by rfl
  have hdis := disL_of htab hdisB
  have hold : ∀ s, rp201T.all (fun x => !(x.2.1 == some s)) = true → (List.range ops.size).all (fun j => !(dstOf ops j == some s)) = true := fun s h => holdL htab s h
  refine region_detX val Wd (hac_of hac) hdis h0 ?_ ?_
  rotate_left
  · intro c L W hall hW
    have := hend c L W (by rw [← hosz]; exact hall) hW
    have e : frm ops a0 (val c) (fun _ => true) ops.size = ((((((((a0.put (some 4) (.pointer (some ⟨X, 2, none⟩))).put (some 5) (FN 132)).put (some 6) (ptr b)).put (some 7) (.pointer (some ⟨X, 0, none⟩))).put (some 8) (PT pl)).put (some 9) (PT pl)).put (some 10) x).put (some 11) (.tuple #[])) := by
      rw [hosz]
      simp only [frm, if_true]
      rw [tab_dst htab 0, tab_dst htab 1, tab_dst htab 2, tab_dst htab 3, tab_dst htab 4, tab_dst htab 5, tab_dst htab 6, tab_dst htab 7]
      rfl
    rw [e]
    exact this
  intro i o ho c L a w' hL hd ha hW
  have hi : i < 8 := by rw [← hosz]; exact (Array.getElem?_eq_some_iff.1 ho).1
  have G : ∀ j s : Nat, (rp201T[j]?).bind (·.2.1) = some s → s < 12 → (i, j) ∈ rp201D → a.tmps[s]? = some (val c j) := fun j s h1 h2 h3 => frm_at hdis ha j s (hds j s h1) (by omega) (depl_of hdep i j h3 ho hd)
  match i, ho, hL, hi, G with
  | 0, ho, hL, _, G =>
    obtain ⟨hop, hgd⟩ := tab3 htab ho rfl
    have h0 := frm_old ha 2 _ (hold 2 rfl) o2
    exact (dXr ho hgd (hpure 0 (by decide) c L w' hW) (g_field hop (eval_of h0) (by kernel_rfl)))
  | 1, ho, hL, _, G =>
    obtain ⟨hop, hgd⟩ := tab3 htab ho rfl
    have h0 := G 0 4 rfl (by decide) (by decide)
    exact (dXr ho hgd (hpure 1 (by decide) c L w' hW) (g_load hop (eval_of h0) (r1 c L w' hW hL (depl_of hdep 1 0 (by decide) ho hd))))
  | 2, ho, hL, _, G =>
    obtain ⟨hop, hgd⟩ := tab3 htab ho rfl
    have h0 := frm_old ha 1 _ (hold 1 rfl) o1
    exact (dXr ho hgd (hpure 2 (by decide) c L w' hW) (g_mov hop (eval_of h0)))
  | 3, ho, hL, _, G =>
    obtain ⟨hop, hgd⟩ := tab3 htab ho rfl
    have h0 := frm_old ha 2 _ (hold 2 rfl) o2
    exact (dXr ho hgd (hpure 3 (by decide) c L w' hW) (g_field hop (eval_of h0) (by kernel_rfl)))
  | 4, ho, hL, _, G =>
    obtain ⟨hop, hgd⟩ := tab3 htab ho rfl
    have h0 := G 3 7 rfl (by decide) (by decide)
    exact (dXr ho hgd (hpure 4 (by decide) c L w' hW) (g_load hop (eval_of h0) (r4 c L w' hW hL (depl_of hdep 4 3 (by decide) ho hd))))
  | 5, ho, hL, _, G =>
    obtain ⟨hop, hgd⟩ := tab3 htab ho rfl
    have h0 := G 4 8 rfl (by decide) (by decide)
    exact (dXr ho hgd (hpure 5 (by decide) c L w' hW) (run_nil _ _ _ hop _ (eval_of h0) _))
  | 6, ho, hL, _, G =>
    obtain ⟨hop, hgd⟩ := tab3 htab ho rfl
    have h0 := G 5 9 rfl (by decide) (by decide)
    exact (dXr ho hgd (hpure 6 (by decide) c L w' hW) (g_load hop (eval_of h0) (r6 c L w' hW hL (depl_of hdep 6 5 (by decide) ho hd))))
  | 7, ho, hL, _, G =>
    obtain ⟨hop, hgd⟩ := tab3 htab ho rfl
    have h0 := G 2 6 rfl (by decide) (by decide)
    have h1 := G 6 10 rfl (by decide) (by decide)
    have hf := G 1 5 rfl (by decide) (by decide)
    refine doesX_call ho (wanted_none hgd) 132 #[(ptr b), x] ?_ (r7 c L w' hW hL (depl_of hdep 7 1 (by decide) ho hd) (depl_of hdep 7 2 (by decide) ho hd) (depl_of hdep 7 6 (by decide) ho hd))
    rw [run_callv Tryz.func132 (by kernel_rfl) rfl _ _ _ _ _ hop (eval_of hf)]
    simp only [List.map_toArray, List.map_cons, List.map_nil, eval_of h0, eval_of h1]
    all_goals rfl
  | (i + 8), ho, hL, hi, _ => exact absurd hi (by omega)
def vrp205 (X b : Nat) (pl : Addr) (n : Int) (x : Value) (_c : Unit) (i : Nat) : Value := match i with
  | 0 => (.pointer (some ⟨X, 2, none⟩))
  | 1 => (FN 137)
  | 2 => (ptr b)
  | 3 => (.pointer (some ⟨X, 1, none⟩))
  | 4 => (I n)
  | 5 => (.pointer (some ⟨X, 0, none⟩))
  | 6 => (PT pl)
  | 7 => (PT pl)
  | 8 => x
  | 9 => (.tuple #[])
  | _ => undef
def rp205T : List (Op × Option Tmp × Option (Nat × Bool)) := [
  (.fieldAddr 194 (.tmp 2) 2, some 4, none),
  (.load 191 (.tmp 4), some 5, none),
  (.move (.tmp 1), some 6, none),
  (.fieldAddr 194 (.tmp 2) 1, some 7, none),
  (.load 3 (.tmp 7), some 8, none),
  (.fieldAddr 194 (.tmp 2) 0, some 9, none),
  (.load 172 (.tmp 9), some 10, none),
  (.nilCheck (.tmp 10), some 11, none),
  (.load 9 (.tmp 11), some 12, none),
  (.call { callee := .value (.tmp 5), args := #[(.tmp 6), (.tmp 8), (.tmp 12)], argTypes := #[175, 3, 9] }, some 13, none)]
def rp205D : List (Nat × Nat) := [(1, 0), (4, 3), (6, 5), (7, 6), (8, 7), (9, 1), (9, 2), (9, 4), (9, 8)]
set_option maxHeartbeats 4000000 in
theorem rp205 {ops : Array Oper} {id : Nat} {Q : Exit → Act → World → Prop} (X b : Nat) (pl : Addr) (n : Int) (x : Value) (htab : ops.toList.map (fun o => (o.op, o.dst, o.guard)) = rp205T) (hdep : deplB rp205D ops = true) (hac : acB ops = true)
    (a0 : Act) (w : World) (hsz : 14 ≤ a0.tmps.size) (o1 : a0.tmps[1]? = some (ptr b)) (o2 : a0.tmps[2]? = some (.pointer (some ⟨X, 0, none⟩)))
    (Wd : Unit → (Nat → Bool) → World → Prop) (h0 : ∃ c, Wd c (fun _ => false) w.drew) (hpure : ∀ i, i ∉ ([9] : List Nat) → ∀ c L W, Wd c L W → Wd c (upd L i) W)
    (r1 : ∀ c L W, Wd c L W → L 1 = false → L 0 = true → (Instr.loadAt 191 (.pointer (some ⟨X, 2, none⟩))).run Tryz.prog W = .ok (FN 137) W)
    (r4 : ∀ c L W, Wd c L W → L 4 = false → L 3 = true → (Instr.loadAt 3 (.pointer (some ⟨X, 1, none⟩))).run Tryz.prog W = .ok (I n) W)
    (r6 : ∀ c L W, Wd c L W → L 6 = false → L 5 = true → (Instr.loadAt 172 (.pointer (some ⟨X, 0, none⟩))).run Tryz.prog W = .ok (PT pl) W)
    (r8 : ∀ c L W, Wd c L W → L 8 = false → L 7 = true → (Instr.loadAt 9 (PT pl)).run Tryz.prog W = .ok x W)
    (r9 : ∀ c L W, Wd c L W → L 9 = false → L 1 = true → L 2 = true → L 4 = true → L 8 = true → Calls Tryz.prog 137 #[(ptr b), (I n), x] W fun eg w' => ∃ c', (∀ j, L j = true → vrp205 X b pl n x c' j = vrp205 X b pl n x c j) ∧ eg = .returned (vrp205 X b pl n x c' 9) ∧ Wd c' (upd L 9) w')
    (hend : ∀ c L W, (∀ i, i < 10 → L i = true) → Wd c L W → Q .normal ((((((((((a0.put (some 4) (.pointer (some ⟨X, 2, none⟩))).put (some 5) (FN 137)).put (some 6) (ptr b)).put (some 7) (.pointer (some ⟨X, 1, none⟩))).put (some 8) (I n)).put (some 9) (.pointer (some ⟨X, 0, none⟩))).put (some 10) (PT pl)).put (some 11) (PT pl)).put (some 12) x).put (some 13) (.tuple #[])) W) : (Code.region id ops true).wp Tryz.prog Q a0 w := by
  let val : Unit → Nat → Value := vrp205 X b pl n x
  have hosz : ops.size = 10 := by
    have := congrArg List.length htab
    simpa [rp205T] using this
  have hds : ∀ i s, (rp205T[i]?).bind (·.2.1) = some s → dstOf ops i = some s := fun i s hi => by rw [tab_dst htab, hi]
  have hdisB : disL rp205T = true := by rfl
  have hdis := disL_of htab hdisB
  have hold : ∀ s, rp205T.all (fun x => !(x.2.1 == some s)) = true → (List.range ops.size).all (fun j => !(dstOf ops j == some s)) = true := fun s h => holdL htab s h
  refine region_detX val Wd (hac_of hac) hdis h0 ?_ ?_
  rotate_left
  · intro c L W hall hW
    have := hend c L W (by rw [← hosz]; exact hall) hW
    have e : frm ops a0 (val c) (fun _ => true) ops.size = ((((((((((a0.put (some 4) (.pointer (some ⟨X, 2, none⟩))).put (some 5) (FN 137)).put (some 6) (ptr b)).put (some 7) (.pointer (some ⟨X, 1, none⟩))).put (some 8) (I n)).put (some 9) (.pointer (some ⟨X, 0, none⟩))).put (some 10) (PT pl)).put (some 11) (PT pl)).put (some 12) x).put (some 13) (.tuple #[])) := by
      rw [hosz]
      simp only [frm, if_true]
      rw [tab_dst htab 0, tab_dst htab 1, tab_dst htab 2, tab_dst htab 3, tab_dst htab 4, tab_dst htab 5, tab_dst htab 6, tab_dst htab 7, tab_dst htab 8, tab_dst htab 9]
      rfl
    rw [e]
    exact this
  intro i o ho c L a w' hL hd ha hW
  have hi : i < 10 := by rw [← hosz]; exact (Array.getElem?_eq_some_iff.1 ho).1
  have G : ∀ j s : Nat, (rp205T[j]?).bind (·.2.1) = some s → s < 14 → (i, j) ∈ rp205D → a.tmps[s]? = some (val c j) := fun j s h1 h2 h3 => frm_at hdis ha j s (hds j s h1) (by omega) (depl_of hdep i j h3 ho hd)
  match i, ho, hL, hi, G with
  | 0, ho, hL, _, G =>
    obtain ⟨hop, hgd⟩ := tab3 htab ho rfl
    have h0 := frm_old ha 2 _ (hold 2 rfl) o2
    exact (dXr ho hgd (hpure 0 (by decide) c L w' hW) (g_field hop (eval_of h0) (by kernel_rfl)))
  | 1, ho, hL, _, G =>
    obtain ⟨hop, hgd⟩ := tab3 htab ho rfl
    have h0 := G 0 4 rfl (by decide) (by decide)
    exact (dXr ho hgd (hpure 1 (by decide) c L w' hW) (g_load hop (eval_of h0) (r1 c L w' hW hL (depl_of hdep 1 0 (by decide) ho hd))))
  | 2, ho, hL, _, G =>
    obtain ⟨hop, hgd⟩ := tab3 htab ho rfl
    have h0 := frm_old ha 1 _ (hold 1 rfl) o1
    exact (dXr ho hgd (hpure 2 (by decide) c L w' hW) (g_mov hop (eval_of h0)))
  | 3, ho, hL, _, G =>
    obtain ⟨hop, hgd⟩ := tab3 htab ho rfl
    have h0 := frm_old ha 2 _ (hold 2 rfl) o2
    exact (dXr ho hgd (hpure 3 (by decide) c L w' hW) (g_field hop (eval_of h0) (by kernel_rfl)))
  | 4, ho, hL, _, G =>
    obtain ⟨hop, hgd⟩ := tab3 htab ho rfl
    have h0 := G 3 7 rfl (by decide) (by decide)
    exact (dXr ho hgd (hpure 4 (by decide) c L w' hW) (g_load hop (eval_of h0) (r4 c L w' hW hL (depl_of hdep 4 3 (by decide) ho hd))))
  | 5, ho, hL, _, G =>
    obtain ⟨hop, hgd⟩ := tab3 htab ho rfl
    have h0 := frm_old ha 2 _ (hold 2 rfl) o2
    exact (dXr ho hgd (hpure 5 (by decide) c L w' hW) (g_field hop (eval_of h0) (by kernel_rfl)))
  | 6, ho, hL, _, G =>
    obtain ⟨hop, hgd⟩ := tab3 htab ho rfl
    have h0 := G 5 9 rfl (by decide) (by decide)
    exact (dXr ho hgd (hpure 6 (by decide) c L w' hW) (g_load hop (eval_of h0) (r6 c L w' hW hL (depl_of hdep 6 5 (by decide) ho hd))))
  | 7, ho, hL, _, G =>
    obtain ⟨hop, hgd⟩ := tab3 htab ho rfl
    have h0 := G 6 10 rfl (by decide) (by decide)
    exact (dXr ho hgd (hpure 7 (by decide) c L w' hW) (run_nil _ _ _ hop _ (eval_of h0) _))
  | 8, ho, hL, _, G =>
    obtain ⟨hop, hgd⟩ := tab3 htab ho rfl
    have h0 := G 7 11 rfl (by decide) (by decide)
    exact (dXr ho hgd (hpure 8 (by decide) c L w' hW) (g_load hop (eval_of h0) (r8 c L w' hW hL (depl_of hdep 8 7 (by decide) ho hd))))
  | 9, ho, hL, _, G =>
    obtain ⟨hop, hgd⟩ := tab3 htab ho rfl
    have h0 := G 2 6 rfl (by decide) (by decide)
    have h1 := G 4 8 rfl (by decide) (by decide)
    have h2 := G 8 12 rfl (by decide) (by decide)
    have hf := G 1 5 rfl (by decide) (by decide)
    refine doesX_call ho (wanted_none hgd) 137 #[(ptr b), (I n), x] ?_ (r9 c L w' hW hL (depl_of hdep 9 1 (by decide) ho hd) (depl_of hdep 9 2 (by decide) ho hd) (depl_of hdep 9 4 (by decide) ho hd) (depl_of hdep 9 8 (by decide) ho hd))
    rw [run_callv Tryz.func137 (by kernel_rfl) rfl _ _ _ _ _ hop (eval_of hf)]
    simp only [List.map_toArray, List.map_cons, List.map_nil, eval_of h0, eval_of h1, eval_of h2]
    all_goals rfl
  | (i + 10), ho, hL, hi, _ => exact absurd hi (by omega)
def vrp207 (X b : Nat) (pl : Addr) (n : Int) (x : Value) (_c : Unit) (i : Nat) : Value := match i with
  | 0 => (.pointer (some ⟨X, 2, none⟩))
  | 1 => (FN 135)
  | 2 => (ptr b)
  | 3 => (.pointer (some ⟨X, 1, none⟩))
  | 4 => (I n)
  | 5 => (.pointer (some ⟨X, 0, none⟩))
  | 6 => (PT pl)
  | 7 => (PT pl)
  | 8 => x
  | 9 => (.tuple #[])
  | _ => undef
def rp207T : List (Op × Option Tmp × Option (Nat × Bool)) := [
  (.fieldAddr 197 (.tmp 2) 2, some 4, none),
  (.load 186 (.tmp 4), some 5, none),
  (.move (.tmp 1), some 6, none),
  (.fieldAddr 197 (.tmp 2) 1, some 7, none),
  (.load 3 (.tmp 7), some 8, none),
  (.fieldAddr 197 (.tmp 2) 0, some 9, none),
  (.load 195 (.tmp 9), some 10, none),
  (.nilCheck (.tmp 10), some 11, none),
  (.load 3 (.tmp 11), some 12, none),
  (.call { callee := .value (.tmp 5), args := #[(.tmp 6), (.tmp 8), (.tmp 12)], argTypes := #[175, 3, 3] }, some 13, none)]
def rp207D : List (Nat × Nat) := [(1, 0), (4, 3), (6, 5), (7, 6), (8, 7), (9, 1), (9, 2), (9, 4), (9, 8)]
set_option maxHeartbeats 4000000 in
theorem rp207 {ops : Array Oper} {id : Nat} {Q : Exit → Act → World → Prop} (X b : Nat) (pl : Addr) (n : Int) (x : Value) (htab : ops.toList.map (fun o => (o.op, o.dst, o.guard)) = rp207T) (hdep : deplB rp207D ops = true) (hac : acB ops = true)
    (a0 : Act) (w : World) (hsz : 14 ≤ a0.tmps.size) (o1 : a0.tmps[1]? = some (ptr b)) (o2 : a0.tmps[2]? = some (.pointer (some ⟨X, 0, none⟩)))
    (Wd : Unit → (Nat → Bool) → World → Prop) (h0 : ∃ c, Wd c (fun _ => false) w.drew) (hpure : ∀ i, i ∉ ([9] : List Nat) → ∀ c L W, Wd c L W → Wd c (upd L i) W)
    (r1 : ∀ c L W, Wd c L W → L 1 = false → L 0 = true → (Instr.loadAt 186 (.pointer (some ⟨X, 2, none⟩))).run Tryz.prog W = .ok (FN 135) W)
    (r4 : ∀ c L W, Wd c L W → L 4 = false → L 3 = true → (Instr.loadAt 3 (.pointer (some ⟨X, 1, none⟩))).run Tryz.prog W = .ok (I n) W)
    (r6 : ∀ c L W, Wd c L W → L 6 = false → L 5 = true → (Instr.loadAt 195 (.pointer (some ⟨X, 0, none⟩))).run Tryz.prog W = .ok (PT pl) W)
    (r8 : ∀ c L W, Wd c L W → L 8 = false → L 7 = true → (Instr.loadAt 3 (PT pl)).run Tryz.prog W = .ok x W)
    (r9 : ∀ c L W, Wd c L W → L 9 = false → L 1 = true → L 2 = true → L 4 = true → L 8 = true → Calls Tryz.prog 135 #[(ptr b), (I n), x] W fun eg w' => ∃ c', (∀ j, L j = true → vrp207 X b pl n x c' j = vrp207 X b pl n x c j) ∧ eg = .returned (vrp207 X b pl n x c' 9) ∧ Wd c' (upd L 9) w')
    (hend : ∀ c L W, (∀ i, i < 10 → L i = true) → Wd c L W → Q .normal ((((((((((a0.put (some 4) (.pointer (some ⟨X, 2, none⟩))).put (some 5) (FN 135)).put (some 6) (ptr b)).put (some 7) (.pointer (some ⟨X, 1, none⟩))).put (some 8) (I n)).put (some 9) (.pointer (some ⟨X, 0, none⟩))).put (some 10) (PT pl)).put (some 11) (PT pl)).put (some 12) x).put (some 13) (.tuple #[])) W) : (Code.region id ops true).wp Tryz.prog Q a0 w := by
  let val : Unit → Nat → Value := vrp207 X b pl n x
  have hosz : ops.size = 10 := by
    have := congrArg List.length htab
    simpa [rp207T] using this
  have hds : ∀ i s, (rp207T[i]?).bind (·.2.1) = some s → dstOf ops i = some s := fun i s hi => by rw [tab_dst htab, hi]
  have hdisB : disL rp207T = true := by rfl
  have hdis := disL_of htab hdisB
  have hold : ∀ s, rp207T.all (fun x => !(x.2.1 == some s)) = true → (List.range ops.size).all (fun j => !(dstOf ops j == some s)) = true := fun s h => holdL htab s h
  refine region_detX val Wd (hac_of hac) hdis h0 ?_ ?_
  rotate_left
  · intro c L W hall hW
    have := hend c L W (by rw [← hosz]; exact hall) hW
    have e : frm ops a0 (val c) (fun _ => true) ops.size = ((((((((((a0.put (some 4) (.pointer (some ⟨X, 2, none⟩))).put (some 5) (FN 135)).put (some 6) (ptr b)).put (some 7) (.pointer (some ⟨X, 1, none⟩))).put (some 8) (I n)).put (some 9) (.pointer (some ⟨X, 0, none⟩))).put (some 10) (PT pl)).put (some 11) (PT pl)).put (some 12) x).put (some 13) (.tuple #[])) := by
      rw [hosz]
      simp only [frm, if_true]
      rw [tab_dst htab 0, tab_dst htab 1, tab_dst htab 2, tab_dst htab 3, tab_dst htab 4, tab_dst htab 5, tab_dst htab 6, tab_dst htab 7, tab_dst htab 8, tab_dst htab 9]
      rfl
    rw [e]
    exact this
  intro i o ho c L a w' hL hd ha hW
  have hi : i < 10 := by rw [← hosz]; exact (Array.getElem?_eq_some_iff.1 ho).1
  have G : ∀ j s : Nat, (rp207T[j]?).bind (·.2.1) = some s → s < 14 → (i, j) ∈ rp207D → a.tmps[s]? = some (val c j) := fun j s h1 h2 h3 => frm_at hdis ha j s (hds j s h1) (by omega) (depl_of hdep i j h3 ho hd)
  match i, ho, hL, hi, G with
  | 0, ho, hL, _, G =>
    obtain ⟨hop, hgd⟩ := tab3 htab ho rfl
    have h0 := frm_old ha 2 _ (hold 2 rfl) o2
    exact (dXr ho hgd (hpure 0 (by decide) c L w' hW) (g_field hop (eval_of h0) (by kernel_rfl)))
  | 1, ho, hL, _, G =>
    obtain ⟨hop, hgd⟩ := tab3 htab ho rfl
    have h0 := G 0 4 rfl (by decide) (by decide)
    exact (dXr ho hgd (hpure 1 (by decide) c L w' hW) (g_load hop (eval_of h0) (r1 c L w' hW hL (depl_of hdep 1 0 (by decide) ho hd))))
  | 2, ho, hL, _, G =>
    obtain ⟨hop, hgd⟩ := tab3 htab ho rfl
    have h0 := frm_old ha 1 _ (hold 1 rfl) o1
    exact (dXr ho hgd (hpure 2 (by decide) c L w' hW) (g_mov hop (eval_of h0)))
  | 3, ho, hL, _, G =>
    obtain ⟨hop, hgd⟩ := tab3 htab ho rfl
    have h0 := frm_old ha 2 _ (hold 2 rfl) o2
    exact (dXr ho hgd (hpure 3 (by decide) c L w' hW) (g_field hop (eval_of h0) (by kernel_rfl)))
  | 4, ho, hL, _, G =>
    obtain ⟨hop, hgd⟩ := tab3 htab ho rfl
    have h0 := G 3 7 rfl (by decide) (by decide)
    exact (dXr ho hgd (hpure 4 (by decide) c L w' hW) (g_load hop (eval_of h0) (r4 c L w' hW hL (depl_of hdep 4 3 (by decide) ho hd))))
  | 5, ho, hL, _, G =>
    obtain ⟨hop, hgd⟩ := tab3 htab ho rfl
    have h0 := frm_old ha 2 _ (hold 2 rfl) o2
    exact (dXr ho hgd (hpure 5 (by decide) c L w' hW) (g_field hop (eval_of h0) (by kernel_rfl)))
  | 6, ho, hL, _, G =>
    obtain ⟨hop, hgd⟩ := tab3 htab ho rfl
    have h0 := G 5 9 rfl (by decide) (by decide)
    exact (dXr ho hgd (hpure 6 (by decide) c L w' hW) (g_load hop (eval_of h0) (r6 c L w' hW hL (depl_of hdep 6 5 (by decide) ho hd))))
  | 7, ho, hL, _, G =>
    obtain ⟨hop, hgd⟩ := tab3 htab ho rfl
    have h0 := G 6 10 rfl (by decide) (by decide)
    exact (dXr ho hgd (hpure 7 (by decide) c L w' hW) (run_nil _ _ _ hop _ (eval_of h0) _))
  | 8, ho, hL, _, G =>
    obtain ⟨hop, hgd⟩ := tab3 htab ho rfl
    have h0 := G 7 11 rfl (by decide) (by decide)
    exact (dXr ho hgd (hpure 8 (by decide) c L w' hW) (g_load hop (eval_of h0) (r8 c L w' hW hL (depl_of hdep 8 7 (by decide) ho hd))))
  | 9, ho, hL, _, G =>
    obtain ⟨hop, hgd⟩ := tab3 htab ho rfl
    have h0 := G 2 6 rfl (by decide) (by decide)
    have h1 := G 4 8 rfl (by decide) (by decide)
    have h2 := G 8 12 rfl (by decide) (by decide)
    have hf := G 1 5 rfl (by decide) (by decide)
    refine doesX_call ho (wanted_none hgd) 135 #[(ptr b), (I n), x] ?_ (r9 c L w' hW hL (depl_of hdep 9 1 (by decide) ho hd) (depl_of hdep 9 2 (by decide) ho hd) (depl_of hdep 9 4 (by decide) ho hd) (depl_of hdep 9 8 (by decide) ho hd))
    rw [run_callv Tryz.func135 (by kernel_rfl) rfl _ _ _ _ _ hop (eval_of hf)]
    simp only [List.map_toArray, List.map_cons, List.map_nil, eval_of h0, eval_of h1, eval_of h2]
    all_goals rfl
  | (i + 10), ho, hL, hi, _ => exact absurd hi (by omega)
def vrt200 (X b : Nat) (pl : Addr) (n : Int) (x : Value) (_c : Unit) (i : Nat) : Value := match i with
  | 0 => (.pointer (some ⟨X, 0, none⟩))
  | 1 => (PT pl)
  | 2 => (.pointer (some ⟨X, 3, none⟩))
  | 3 => (FN 133)
  | 4 => (ptr b)
  | 5 => (.pointer (some ⟨X, 1, none⟩))
  | 6 => (I n)
  | 7 => x
  | 8 => (PT pl)
  | 9 => undef
  | _ => undef
def rt200T : List (Op × Option Tmp × Option (Nat × Bool)) := [
  (.fieldAddr 179 (.tmp 2) 0, some 4, none),
  (.load 172 (.tmp 4), some 5, none),
  (.fieldAddr 179 (.tmp 2) 3, some 6, none),
  (.load 176 (.tmp 6), some 7, none),
  (.move (.tmp 1), some 8, none),
  (.fieldAddr 179 (.tmp 2) 1, some 9, none),
  (.load 3 (.tmp 9), some 10, none),
  (.call { callee := .value (.tmp 7), args := #[(.tmp 8), (.tmp 10)], argTypes := #[177, 3] }, some 11, none),
  (.nilCheck (.tmp 5), some 12, none),
  (.store 9 (.tmp 12) (.tmp 11), none, none)]
def rt200D : List (Nat × Nat) := [(1, 0), (3, 2), (6, 5), (7, 3), (7, 4), (7, 6), (8, 1), (9, 7), (9, 8)]
set_option maxHeartbeats 4000000 in
theorem rt200 {ops : Array Oper} {id : Nat} {Q : Exit → Act → World → Prop} (X b : Nat) (pl : Addr) (n : Int) (x : Value) (htab : ops.toList.map (fun o => (o.op, o.dst, o.guard)) = rt200T) (hdep : deplB rt200D ops = true) (hac : acB ops = true)
    (a0 : Act) (w : World) (hsz : 13 ≤ a0.tmps.size) (o1 : a0.tmps[1]? = some (ptr b)) (o2 : a0.tmps[2]? = some (.pointer (some ⟨X, 0, none⟩)))
    (Wd : Unit → (Nat → Bool) → World → Prop) (h0 : ∃ c, Wd c (fun _ => false) w.drew) (hpure : ∀ i, i ∉ ([7, 9] : List Nat) → ∀ c L W, Wd c L W → Wd c (upd L i) W)
    (r1 : ∀ c L W, Wd c L W → L 1 = false → L 0 = true → (Instr.loadAt 172 (.pointer (some ⟨X, 0, none⟩))).run Tryz.prog W = .ok (PT pl) W)
    (r3 : ∀ c L W, Wd c L W → L 3 = false → L 2 = true → (Instr.loadAt 176 (.pointer (some ⟨X, 3, none⟩))).run Tryz.prog W = .ok (FN 133) W)
    (r6 : ∀ c L W, Wd c L W → L 6 = false → L 5 = true → (Instr.loadAt 3 (.pointer (some ⟨X, 1, none⟩))).run Tryz.prog W = .ok (I n) W)
    (r7 : ∀ c L W, Wd c L W → L 7 = false → L 3 = true → L 4 = true → L 6 = true → Calls Tryz.prog 133 #[(ptr b), (I n)] W fun eg w' => ∃ c', (∀ j, L j = true → vrt200 X b pl n x c' j = vrt200 X b pl n x c j) ∧ eg = .returned (vrt200 X b pl n x c' 7) ∧ Wd c' (upd L 7) w')
    (r9 : ∀ c L W, Wd c L W → L 9 = false → L 7 = true → L 8 = true → ∃ W', (Instr.storeAt 9 (PT pl) x).run Tryz.prog W = .ok () W' ∧ Wd c (upd L 9) W')
    (hend : ∀ c L W, (∀ i, i < 10 → L i = true) → Wd c L W → Q .normal (((((((((a0.put (some 4) (.pointer (some ⟨X, 0, none⟩))).put (some 5) (PT pl)).put (some 6) (.pointer (some ⟨X, 3, none⟩))).put (some 7) (FN 133)).put (some 8) (ptr b)).put (some 9) (.pointer (some ⟨X, 1, none⟩))).put (some 10) (I n)).put (some 11) x).put (some 12) (PT pl)) W) : (Code.region id ops true).wp Tryz.prog Q a0 w := by
  let val : Unit → Nat → Value := vrt200 X b pl n x
  have hosz : ops.size = 10 := by
    have := congrArg List.length htab
    simpa [rt200T] using this
  have hds : ∀ i s, (rt200T[i]?).bind (·.2.1) = some s → dstOf ops i = some s := fun i s hi => by rw [tab_dst htab, hi]
  have hdisB : disL rt200T = true := by rfl
  have hdis := disL_of htab hdisB
  have hold : ∀ s, rt200T.all (fun x => !(x.2.1 == some s)) = true → (List.range ops.size).all (fun j => !(dstOf ops j == some s)) = true := fun s h => holdL htab s h
  refine region_detX val Wd (hac_of hac) hdis h0 ?_ ?_
  rotate_left
  · intro c L W hall hW
    have := hend c L W (by rw [← hosz]; exact hall) hW
    have e : frm ops a0 (val c) (fun _ => true) ops.size = (((((((((a0.put (some 4) (.pointer (some ⟨X, 0, none⟩))).put (some 5) (PT pl)).put (some 6) (.pointer (some ⟨X, 3, none⟩))).put (some 7) (FN 133)).put (some 8) (ptr b)).put (some 9) (.pointer (some ⟨X, 1, none⟩))).put (some 10) (I n)).put (some 11) x).put (some 12) (PT pl)) := by
      rw [hosz]
      simp only [frm, if_true]
      rw [tab_dst htab 0, tab_dst htab 1, tab_dst htab 2, tab_dst htab 3, tab_dst htab 4, tab_dst htab 5, tab_dst htab 6, tab_dst htab 7, tab_dst htab 8, (show dstOf ops 9 = none from (tab_dst htab 9).trans rfl), put_none]
      rfl
    rw [e]
    exact this
  intro i o ho c L a w' hL hd ha hW
  have hi : i < 10 := by rw [← hosz]; exact (Array.getElem?_eq_some_iff.1 ho).1
  have G : ∀ j s : Nat, (rt200T[j]?).bind (·.2.1) = some s → s < 13 → (i, j) ∈ rt200D → a.tmps[s]? = some (val c j) := fun j s h1 h2 h3 => frm_at hdis ha j s (hds j s h1) (by omega) (depl_of hdep i j h3 ho hd)
  match i, ho, hL, hi, G with
  | 0, ho, hL, _, G =>
    obtain ⟨hop, hgd⟩ := tab3 htab ho rfl
    have h0 := frm_old ha 2 _ (hold 2 rfl) o2
    exact (dXr ho hgd (hpure 0 (by decide) c L w' hW) (g_field hop (eval_of h0) (by kernel_rfl)))
  | 1, ho, hL, _, G =>
    obtain ⟨hop, hgd⟩ := tab3 htab ho rfl
    have h0 := G 0 4 rfl (by decide) (by decide)
    exact (dXr ho hgd (hpure 1 (by decide) c L w' hW) (g_load hop (eval_of h0) (r1 c L w' hW hL (depl_of hdep 1 0 (by decide) ho hd))))
  | 2, ho, hL, _, G =>
    obtain ⟨hop, hgd⟩ := tab3 htab ho rfl
    have h0 := frm_old ha 2 _ (hold 2 rfl) o2
    exact (dXr ho hgd (hpure 2 (by decide) c L w' hW) (g_field hop (eval_of h0) (by kernel_rfl)))
  | 3, ho, hL, _, G =>
    obtain ⟨hop, hgd⟩ := tab3 htab ho rfl
    have h0 := G 2 6 rfl (by decide) (by decide)
    exact (dXr ho hgd (hpure 3 (by decide) c L w' hW) (g_load hop (eval_of h0) (r3 c L w' hW hL (depl_of hdep 3 2 (by decide) ho hd))))
  | 4, ho, hL, _, G =>
    obtain ⟨hop, hgd⟩ := tab3 htab ho rfl
    have h0 := frm_old ha 1 _ (hold 1 rfl) o1
    exact (dXr ho hgd (hpure 4 (by decide) c L w' hW) (g_mov hop (eval_of h0)))
  | 5, ho, hL, _, G =>
    obtain ⟨hop, hgd⟩ := tab3 htab ho rfl
    have h0 := frm_old ha 2 _ (hold 2 rfl) o2
    exact (dXr ho hgd (hpure 5 (by decide) c L w' hW) (g_field hop (eval_of h0) (by kernel_rfl)))
  | 6, ho, hL, _, G =>
    obtain ⟨hop, hgd⟩ := tab3 htab ho rfl
    have h0 := G 5 9 rfl (by decide) (by decide)
    exact (dXr ho hgd (hpure 6 (by decide) c L w' hW) (g_load hop (eval_of h0) (r6 c L w' hW hL (depl_of hdep 6 5 (by decide) ho hd))))
  | 7, ho, hL, _, G =>
    obtain ⟨hop, hgd⟩ := tab3 htab ho rfl
    have h0 := G 4 8 rfl (by decide) (by decide)
    have h1 := G 6 10 rfl (by decide) (by decide)
    have hf := G 3 7 rfl (by decide) (by decide)
    refine doesX_call ho (wanted_none hgd) 133 #[(ptr b), (I n)] ?_ (r7 c L w' hW hL (depl_of hdep 7 3 (by decide) ho hd) (depl_of hdep 7 4 (by decide) ho hd) (depl_of hdep 7 6 (by decide) ho hd))
    rw [run_callv Tryz.func133 (by kernel_rfl) rfl _ _ _ _ _ hop (eval_of hf)]
    simp only [List.map_toArray, List.map_cons, List.map_nil, eval_of h0, eval_of h1]
    all_goals rfl
  | 8, ho, hL, _, G =>
    obtain ⟨hop, hgd⟩ := tab3 htab ho rfl
    have h0 := G 1 5 rfl (by decide) (by decide)
    exact (dXr ho hgd (hpure 8 (by decide) c L w' hW) (run_nil _ _ _ hop _ (eval_of h0) _))
  | 9, ho, hL, _, G =>
    obtain ⟨hop, hgd⟩ := tab3 htab ho rfl
    have h0 := G 8 12 rfl (by decide) (by decide)
    have h1 := G 7 11 rfl (by decide) (by decide)
    obtain ⟨W', q1, q2⟩ := r9 c L w' hW hL (depl_of hdep 9 7 (by decide) ho hd) (depl_of hdep 9 8 (by decide) ho hd)
    exact doesX_of (doesL_skp ho (wanted_none hgd) rfl q2 (g_store hop (eval_of h0) (eval_of h1) q1))
  | (i + 10), ho, hL, hi, _ => exact absurd hi (by omega)
def vrt206 (X b : Nat) (pl : Addr) (n : Int) (x : Value) (_c : Unit) (i : Nat) : Value := match i with
  | 0 => (.pointer (some ⟨X, 0, none⟩))
  | 1 => (PT pl)
  | 2 => (.pointer (some ⟨X, 3, none⟩))
  | 3 => (FN 138)
  | 4 => (ptr b)
  | 5 => (.pointer (some ⟨X, 1, none⟩))
  | 6 => (I n)
  | 7 => x
  | 8 => (PT pl)
  | 9 => undef
  | _ => undef
def rt206T : List (Op × Option Tmp × Option (Nat × Bool)) := [
  (.fieldAddr 194 (.tmp 2) 0, some 4, none),
  (.load 172 (.tmp 4), some 5, none),
  (.fieldAddr 194 (.tmp 2) 3, some 6, none),
  (.load 176 (.tmp 6), some 7, none),
  (.move (.tmp 1), some 8, none),
  (.fieldAddr 194 (.tmp 2) 1, some 9, none),
  (.load 3 (.tmp 9), some 10, none),
  (.call { callee := .value (.tmp 7), args := #[(.tmp 8), (.tmp 10)], argTypes := #[177, 3] }, some 11, none),
  (.nilCheck (.tmp 5), some 12, none),
  (.store 9 (.tmp 12) (.tmp 11), none, none)]
def rt206D : List (Nat × Nat) := [(1, 0), (3, 2), (6, 5), (7, 3), (7, 4), (7, 6), (8, 1), (9, 7), (9, 8)]
set_option maxHeartbeats 4000000 in
theorem rt206 {ops : Array Oper} {id : Nat} {Q : Exit → Act → World → Prop} (X b : Nat) (pl : Addr) (n : Int) (x : Value) (htab : ops.toList.map (fun o => (o.op, o.dst, o.guard)) = rt206T) (hdep : deplB rt206D ops = true) (hac : acB ops = true)
    (a0 : Act) (w : World) (hsz : 13 ≤ a0.tmps.size) (o1 : a0.tmps[1]? = some (ptr b)) (o2 : a0.tmps[2]? = some (.pointer (some ⟨X, 0, none⟩)))
    (Wd : Unit → (Nat → Bool) → World → Prop) (h0 : ∃ c, Wd c (fun _ => false) w.drew) (hpure : ∀ i, i ∉ ([7, 9] : List Nat) → ∀ c L W, Wd c L W → Wd c (upd L i) W)
    (r1 : ∀ c L W, Wd c L W → L 1 = false → L 0 = true → (Instr.loadAt 172 (.pointer (some ⟨X, 0, none⟩))).run Tryz.prog W = .ok (PT pl) W)
    (r3 : ∀ c L W, Wd c L W → L 3 = false → L 2 = true → (Instr.loadAt 176 (.pointer (some ⟨X, 3, none⟩))).run Tryz.prog W = .ok (FN 138) W)
    (r6 : ∀ c L W, Wd c L W → L 6 = false → L 5 = true → (Instr.loadAt 3 (.pointer (some ⟨X, 1, none⟩))).run Tryz.prog W = .ok (I n) W)
    (r7 : ∀ c L W, Wd c L W → L 7 = false → L 3 = true → L 4 = true → L 6 = true → Calls Tryz.prog 138 #[(ptr b), (I n)] W fun eg w' => ∃ c', (∀ j, L j = true → vrt206 X b pl n x c' j = vrt206 X b pl n x c j) ∧ eg = .returned (vrt206 X b pl n x c' 7) ∧ Wd c' (upd L 7) w')
    (r9 : ∀ c L W, Wd c L W → L 9 = false → L 7 = true → L 8 = true → ∃ W', (Instr.storeAt 9 (PT pl) x).run Tryz.prog W = .ok () W' ∧ Wd c (upd L 9) W')
    (hend : ∀ c L W, (∀ i, i < 10 → L i = true) → Wd c L W → Q .normal (((((((((a0.put (some 4) (.pointer (some ⟨X, 0, none⟩))).put (some 5) (PT pl)).put (some 6) (.pointer (some ⟨X, 3, none⟩))).put (some 7) (FN 138)).put (some 8) (ptr b)).put (some 9) (.pointer (some ⟨X, 1, none⟩))).put (some 10) (I n)).put (some 11) x).put (some 12) (PT pl)) W) : (Code.region id ops true).wp Tryz.prog Q a0 w := by
  let val : Unit → Nat → Value := vrt206 X b pl n x
  have hosz : ops.size = 10 := by
    have := congrArg List.length htab
    simpa [rt206T] using this
  have hds : ∀ i s, (rt206T[i]?).bind (·.2.1) = some s → dstOf ops i = some s := fun i s hi => by rw [tab_dst htab, hi]
  have hdisB : disL rt206T = true := by rfl
  have hdis := disL_of htab hdisB
  have hold : ∀ s, rt206T.all (fun x => !(x.2.1 == some s)) = true → (List.range ops.size).all (fun j => !(dstOf ops j == some s)) = true := fun s h => holdL htab s h
  refine region_detX val Wd (hac_of hac) hdis h0 ?_ ?_
  rotate_left
  · intro c L W hall hW
    have := hend c L W (by rw [← hosz]; exact hall) hW
    have e : frm ops a0 (val c) (fun _ => true) ops.size = (((((((((a0.put (some 4) (.pointer (some ⟨X, 0, none⟩))).put (some 5) (PT pl)).put (some 6) (.pointer (some ⟨X, 3, none⟩))).put (some 7) (FN 138)).put (some 8) (ptr b)).put (some 9) (.pointer (some ⟨X, 1, none⟩))).put (some 10) (I n)).put (some 11) x).put (some 12) (PT pl)) := by
      rw [hosz]
      simp only [frm, if_true]
      rw [tab_dst htab 0, tab_dst htab 1, tab_dst htab 2, tab_dst htab 3, tab_dst htab 4, tab_dst htab 5, tab_dst htab 6, tab_dst htab 7, tab_dst htab 8, (show dstOf ops 9 = none from (tab_dst htab 9).trans rfl), put_none]
      rfl
    rw [e]
    exact this
  intro i o ho c L a w' hL hd ha hW
  have hi : i < 10 := by rw [← hosz]; exact (Array.getElem?_eq_some_iff.1 ho).1
  have G : ∀ j s : Nat, (rt206T[j]?).bind (·.2.1) = some s → s < 13 → (i, j) ∈ rt206D → a.tmps[s]? = some (val c j) := fun j s h1 h2 h3 => frm_at hdis ha j s (hds j s h1) (by omega) (depl_of hdep i j h3 ho hd)
  match i, ho, hL, hi, G with
  | 0, ho, hL, _, G =>
    obtain ⟨hop, hgd⟩ := tab3 htab ho rfl
    have h0 := frm_old ha 2 _ (hold 2 rfl) o2
    exact (dXr ho hgd (hpure 0 (by decide) c L w' hW) (g_field hop (eval_of h0) (by kernel_rfl)))
  | 1, ho, hL, _, G =>
    obtain ⟨hop, hgd⟩ := tab3 htab ho rfl
    have h0 := G 0 4 rfl (by decide) (by decide)
    exact (dXr ho hgd (hpure 1 (by decide) c L w' hW) (g_load hop (eval_of h0) (r1 c L w' hW hL (depl_of hdep 1 0 (by decide) ho hd))))
  | 2, ho, hL, _, G =>
    obtain ⟨hop, hgd⟩ := tab3 htab ho rfl
    have h0 := frm_old ha 2 _ (hold 2 rfl) o2
    exact (dXr ho hgd (hpure 2 (by decide) c L w' hW) (g_field hop (eval_of h0) (by kernel_rfl)))
  | 3, ho, hL, _, G =>
    obtain ⟨hop, hgd⟩ := tab3 htab ho rfl
    have h0 := G 2 6 rfl (by decide) (by decide)
    exact (dXr ho hgd (hpure 3 (by decide) c L w' hW) (g_load hop (eval_of h0) (r3 c L w' hW hL (depl_of hdep 3 2 (by decide) ho hd))))
  | 4, ho, hL, _, G =>
    obtain ⟨hop, hgd⟩ := tab3 htab ho rfl
    have h0 := frm_old ha 1 _ (hold 1 rfl) o1
    exact (dXr ho hgd (hpure 4 (by decide) c L w' hW) (g_mov hop (eval_of h0)))
  | 5, ho, hL, _, G =>
    obtain ⟨hop, hgd⟩ := tab3 htab ho rfl
    have h0 := frm_old ha 2 _ (hold 2 rfl) o2
    exact (dXr ho hgd (hpure 5 (by decide) c L w' hW) (g_field hop (eval_of h0) (by kernel_rfl)))
  | 6, ho, hL, _, G =>
    obtain ⟨hop, hgd⟩ := tab3 htab ho rfl
    have h0 := G 5 9 rfl (by decide) (by decide)
    exact (dXr ho hgd (hpure 6 (by decide) c L w' hW) (g_load hop (eval_of h0) (r6 c L w' hW hL (depl_of hdep 6 5 (by decide) ho hd))))
  | 7, ho, hL, _, G =>
    obtain ⟨hop, hgd⟩ := tab3 htab ho rfl
    have h0 := G 4 8 rfl (by decide) (by decide)
    have h1 := G 6 10 rfl (by decide) (by decide)
    have hf := G 3 7 rfl (by decide) (by decide)
    refine doesX_call ho (wanted_none hgd) 138 #[(ptr b), (I n)] ?_ (r7 c L w' hW hL (depl_of hdep 7 3 (by decide) ho hd) (depl_of hdep 7 4 (by decide) ho hd) (depl_of hdep 7 6 (by decide) ho hd))
    rw [run_callv Tryz.func138 (by kernel_rfl) rfl _ _ _ _ _ hop (eval_of hf)]
    simp only [List.map_toArray, List.map_cons, List.map_nil, eval_of h0, eval_of h1]
    all_goals rfl
  | 8, ho, hL, _, G =>
    obtain ⟨hop, hgd⟩ := tab3 htab ho rfl
    have h0 := G 1 5 rfl (by decide) (by decide)
    exact (dXr ho hgd (hpure 8 (by decide) c L w' hW) (run_nil _ _ _ hop _ (eval_of h0) _))
  | 9, ho, hL, _, G =>
    obtain ⟨hop, hgd⟩ := tab3 htab ho rfl
    have h0 := G 8 12 rfl (by decide) (by decide)
    have h1 := G 7 11 rfl (by decide) (by decide)
    obtain ⟨W', q1, q2⟩ := r9 c L w' hW hL (depl_of hdep 9 7 (by decide) ho hd) (depl_of hdep 9 8 (by decide) ho hd)
    exact doesX_of (doesL_skp ho (wanted_none hgd) rfl q2 (g_store hop (eval_of h0) (eval_of h1) q1))
  | (i + 10), ho, hL, hi, _ => exact absurd hi (by omega)
def vrt208 (X b : Nat) (pl : Addr) (n : Int) (x : Value) (_c : Unit) (i : Nat) : Value := match i with
  | 0 => (.pointer (some ⟨X, 0, none⟩))
  | 1 => (PT pl)
  | 2 => (.pointer (some ⟨X, 3, none⟩))
  | 3 => (FN 136)
  | 4 => (ptr b)
  | 5 => (.pointer (some ⟨X, 1, none⟩))
  | 6 => (I n)
  | 7 => x
  | 8 => (PT pl)
  | 9 => undef
  | _ => undef
def rt208T : List (Op × Option Tmp × Option (Nat × Bool)) := [
  (.fieldAddr 197 (.tmp 2) 0, some 4, none),
  (.load 195 (.tmp 4), some 5, none),
  (.fieldAddr 197 (.tmp 2) 3, some 6, none),
  (.load 188 (.tmp 6), some 7, none),
  (.move (.tmp 1), some 8, none),
  (.fieldAddr 197 (.tmp 2) 1, some 9, none),
  (.load 3 (.tmp 9), some 10, none),
  (.call { callee := .value (.tmp 7), args := #[(.tmp 8), (.tmp 10)], argTypes := #[177, 3] }, some 11, none),
  (.nilCheck (.tmp 5), some 12, none),
  (.store 3 (.tmp 12) (.tmp 11), none, none)]
def rt208D : List (Nat × Nat) := [(1, 0), (3, 2), (6, 5), (7, 3), (7, 4), (7, 6), (8, 1), (9, 7), (9, 8)]
set_option maxHeartbeats 4000000 in
theorem rt208 {ops : Array Oper} {id : Nat} {Q : Exit → Act → World → Prop} (X b : Nat) (pl : Addr) (n : Int) (x : Value) (htab : ops.toList.map (fun o => (o.op, o.dst, o.guard)) = rt208T) (hdep : deplB rt208D ops = true) (hac : acB ops = true)
    (a0 : Act) (w : World) (hsz : 13 ≤ a0.tmps.size) (o1 : a0.tmps[1]? = some (ptr b)) (o2 : a0.tmps[2]? = some (.pointer (some ⟨X, 0, none⟩)))
    (Wd : Unit → (Nat → Bool) → World → Prop) (h0 : ∃ c, Wd c (fun _ => false) w.drew) (hpure : ∀ i, i ∉ ([7, 9] : List Nat) → ∀ c L W, Wd c L W → Wd c (upd L i) W)
    (r1 : ∀ c L W, Wd c L W → L 1 = false → L 0 = true → (Instr.loadAt 195 (.pointer (some ⟨X, 0, none⟩))).run Tryz.prog W = .ok (PT pl) W)
    (r3 : ∀ c L W, Wd c L W → L 3 = false → L 2 = true → (Instr.loadAt 188 (.pointer (some ⟨X, 3, none⟩))).run Tryz.prog W = .ok (FN 136) W)
    (r6 : ∀ c L W, Wd c L W → L 6 = false → L 5 = true → (Instr.loadAt 3 (.pointer (some ⟨X, 1, none⟩))).run Tryz.prog W = .ok (I n) W)
    (r7 : ∀ c L W, Wd c L W → L 7 = false → L 3 = true → L 4 = true → L 6 = true → Calls Tryz.prog 136 #[(ptr b), (I n)] W fun eg w' => ∃ c', (∀ j, L j = true → vrt208 X b pl n x c' j = vrt208 X b pl n x c j) ∧ eg = .returned (vrt208 X b pl n x c' 7) ∧ Wd c' (upd L 7) w')
    (r9 : ∀ c L W, Wd c L W → L 9 = false → L 7 = true → L 8 = true → ∃ W', (Instr.storeAt 3 (PT pl) x).run Tryz.prog W = .ok () W' ∧ Wd c (upd L 9) W')
    (hend : ∀ c L W, (∀ i, i < 10 → L i = true) → Wd c L W → Q .normal (((((((((a0.put (some 4) (.pointer (some ⟨X, 0, none⟩))).put (some 5) (PT pl)).put (some 6) (.pointer (some ⟨X, 3, none⟩))).put (some 7) (FN 136)).put (some 8) (ptr b)).put (some 9) (.pointer (some ⟨X, 1, none⟩))).put (some 10) (I n)).put (some 11) x).put (some 12) (PT pl)) W) : (Code.region id ops true).wp Tryz.prog Q a0 w := by
  let val : Unit → Nat → Value := vrt208 X b pl n x
  have hosz : ops.size = 10 := by
    have := congrArg List.length htab
    simpa [rt208T] using this
  have hds : ∀ i s, (rt208T[i]?).bind (·.2.1) = some s → dstOf ops i = some s := fun i s hi => by rw [tab_dst htab, hi]
  have hdisB : disL rt208T = true := by rfl
  have hdis := disL_of htab hdisB
  have hold : ∀ s, rt208T.all (fun x => !(x.2.1 == some s)) = true → (List.range ops.size).all (fun j => !(dstOf ops j == some s)) = true := fun s h => holdL htab s h
  refine region_detX val Wd (hac_of hac) hdis h0 ?_ ?_
  rotate_left
  · intro c L W hall hW
    have := hend c L W (by rw [← hosz]; exact hall) hW
    have e : frm ops a0 (val c) (fun _ => true) ops.size = (((((((((a0.put (some 4) (.pointer (some ⟨X, 0, none⟩))).put (some 5) (PT pl)).put (some 6) (.pointer (some ⟨X, 3, none⟩))).put (some 7) (FN 136)).put (some 8) (ptr b)).put (some 9) (.pointer (some ⟨X, 1, none⟩))).put (some 10) (I n)).put (some 11) x).put (some 12) (PT pl)) := by
      rw [hosz]
      simp only [frm, if_true]
      rw [tab_dst htab 0, tab_dst htab 1, tab_dst htab 2, tab_dst htab 3, tab_dst htab 4, tab_dst htab 5, tab_dst htab 6, tab_dst htab 7, tab_dst htab 8, (show dstOf ops 9 = none from (tab_dst htab 9).trans rfl), put_none]
      rfl
    rw [e]
    exact this
  intro i o ho c L a w' hL hd ha hW
  have hi : i < 10 := by rw [← hosz]; exact (Array.getElem?_eq_some_iff.1 ho).1
  have G : ∀ j s : Nat, (rt208T[j]?).bind (·.2.1) = some s → s < 13 → (i, j) ∈ rt208D → a.tmps[s]? = some (val c j) := fun j s h1 h2 h3 => frm_at hdis ha j s (hds j s h1) (by omega) (depl_of hdep i j h3 ho hd)
  match i, ho, hL, hi, G with
  | 0, ho, hL, _, G =>
    obtain ⟨hop, hgd⟩ := tab3 htab ho rfl
    have h0 := frm_old ha 2 _ (hold 2 rfl) o2
    exact (dXr ho hgd (hpure 0 (by decide) c L w' hW) (g_field hop (eval_of h0) (by kernel_rfl)))
  | 1, ho, hL, _, G =>
    obtain ⟨hop, hgd⟩ := tab3 htab ho rfl
    have h0 := G 0 4 rfl (by decide) (by decide)
    exact (dXr ho hgd (hpure 1 (by decide) c L w' hW) (g_load hop (eval_of h0) (r1 c L w' hW hL (depl_of hdep 1 0 (by decide) ho hd))))
  | 2, ho, hL, _, G =>
    obtain ⟨hop, hgd⟩ := tab3 htab ho rfl
    have h0 := frm_old ha 2 _ (hold 2 rfl) o2
    exact (dXr ho hgd (hpure 2 (by decide) c L w' hW) (g_field hop (eval_of h0) (by kernel_rfl)))
  | 3, ho, hL, _, G =>
    obtain ⟨hop, hgd⟩ := tab3 htab ho rfl
    have h0 := G 2 6 rfl (by decide) (by decide)
    exact (dXr ho hgd (hpure 3 (by decide) c L w' hW) (g_load hop (eval_of h0) (r3 c L w' hW hL (depl_of hdep 3 2 (by decide) ho hd))))
  | 4, ho, hL, _, G =>
    obtain ⟨hop, hgd⟩ := tab3 htab ho rfl
    have h0 := frm_old ha 1 _ (hold 1 rfl) o1
    exact (dXr ho hgd (hpure 4 (by decide) c L w' hW) (g_mov hop (eval_of h0)))
  | 5, ho, hL, _, G =>
    obtain ⟨hop, hgd⟩ := tab3 htab ho rfl
    have h0 := frm_old ha 2 _ (hold 2 rfl) o2
    exact (dXr ho hgd (hpure 5 (by decide) c L w' hW) (g_field hop (eval_of h0) (by kernel_rfl)))
  | 6, ho, hL, _, G =>
    obtain ⟨hop, hgd⟩ := tab3 htab ho rfl
    have h0 := G 5 9 rfl (by decide) (by decide)
    exact (dXr ho hgd (hpure 6 (by decide) c L w' hW) (g_load hop (eval_of h0) (r6 c L w' hW hL (depl_of hdep 6 5 (by decide) ho hd))))
  | 7, ho, hL, _, G =>
    obtain ⟨hop, hgd⟩ := tab3 htab ho rfl
    have h0 := G 4 8 rfl (by decide) (by decide)
    have h1 := G 6 10 rfl (by decide) (by decide)
    have hf := G 3 7 rfl (by decide) (by decide)
    refine doesX_call ho (wanted_none hgd) 136 #[(ptr b), (I n)] ?_ (r7 c L w' hW hL (depl_of hdep 7 3 (by decide) ho hd) (depl_of hdep 7 4 (by decide) ho hd) (depl_of hdep 7 6 (by decide) ho hd))
    rw [run_callv Tryz.func136 (by kernel_rfl) rfl _ _ _ _ _ hop (eval_of hf)]
    simp only [List.map_toArray, List.map_cons, List.map_nil, eval_of h0, eval_of h1]
    all_goals rfl
  | 8, ho, hL, _, G =>
    obtain ⟨hop, hgd⟩ := tab3 htab ho rfl
    have h0 := G 1 5 rfl (by decide) (by decide)
    exact (dXr ho hgd (hpure 8 (by decide) c L w' hW) (run_nil _ _ _ hop _ (eval_of h0) _))
  | 9, ho, hL, _, G =>
    obtain ⟨hop, hgd⟩ := tab3 htab ho rfl
    have h0 := G 8 12 rfl (by decide) (by decide)
    have h1 := G 7 11 rfl (by decide) (by decide)
    obtain ⟨W', q1, q2⟩ := r9 c L w' hW hL (depl_of hdep 9 7 (by decide) ho hd) (depl_of hdep 9 8 (by decide) ho hd)
    exact doesX_of (doesL_skp ho (wanted_none hgd) rfl q2 (g_store hop (eval_of h0) (eval_of h1) q1))
  | (i + 10), ho, hL, hi, _ => exact absurd hi (by omega)
structure Cnm where
  va : Option Addr
  vn : Nat
  vc : Nat
def vrt210 (X b : Nat) (pl : Addr) (n : Int) (x : Value) (er : Int) (c : Cnm) (i : Nat) : Value := match i with
  | 0 => (.pointer (some ⟨X, 0, none⟩))
  | 1 => (PT pl)
  | 2 => (.pointer (some ⟨X, 3, none⟩))
  | 3 => (FN 138)
  | 4 => (ptr b)
  | 5 => (.pointer (some ⟨X, 1, none⟩))
  | 6 => (I n)
  | 7 => x
  | 8 => (.tuple #[.slice c.va c.vn c.vc, I er])
  | 9 => (.tuple #[.slice c.va c.vn c.vc, I er])
  | 10 => (.slice c.va c.vn c.vc)
  | 11 => (I er)
  | 12 => (PT pl)
  | 13 => undef
  | _ => undef
def rt210T : List (Op × Option Tmp × Option (Nat × Bool)) := [
  (.fieldAddr 200 (.tmp 2) 0, some 5, none),
  (.load 198 (.tmp 5), some 6, none),
  (.fieldAddr 200 (.tmp 2) 3, some 7, none),
  (.load 176 (.tmp 7), some 8, none),
  (.move (.tmp 1), some 9, none),
  (.fieldAddr 200 (.tmp 2) 1, some 10, none),
  (.load 3 (.tmp 10), some 11, none),
  (.call { callee := .value (.tmp 8), args := #[(.tmp 9), (.tmp 11)], argTypes := #[177, 3] }, some 12, none),
  (.call { callee := .value (.func 212), args := #[(.tmp 12)], argTypes := #[9] }, some 13, none),
  (.move (.tmp 13), some 4, none),
  (.extract (.tmp 4) 0, some 14, none),
  (.extract (.tmp 4) 1, some 15, none),
  (.nilCheck (.tmp 6), some 16, none),
  (.store 22 (.tmp 16) (.tmp 14), none, none)]
def rt210D : List (Nat × Nat) := [(1, 0), (3, 2), (6, 5), (7, 3), (7, 4), (7, 6), (8, 7), (9, 8), (10, 9), (11, 9), (12, 1), (13, 10), (13, 12)]
set_option maxHeartbeats 4000000 in
theorem rt210 {ops : Array Oper} {id : Nat} {Q : Exit → Act → World → Prop} (X b : Nat) (pl : Addr) (n : Int) (x : Value) (er : Int) (htab : ops.toList.map (fun o => (o.op, o.dst, o.guard)) = rt210T) (hdep : deplB rt210D ops = true) (hac : acB ops = true)
    (a0 : Act) (w : World) (hsz : 17 ≤ a0.tmps.size) (o1 : a0.tmps[1]? = some (ptr b)) (o2 : a0.tmps[2]? = some (.pointer (some ⟨X, 0, none⟩)))
    (Wd : Cnm → (Nat → Bool) → World → Prop) (h0 : ∃ c, Wd c (fun _ => false) w.drew) (hpure : ∀ i, i ∉ ([7, 8, 9, 10, 11, 13] : List Nat) → ∀ c L W, Wd c L W → Wd c (upd L i) W)
    (r1 : ∀ c L W, Wd c L W → L 1 = false → L 0 = true → (Instr.loadAt 198 (.pointer (some ⟨X, 0, none⟩))).run Tryz.prog W = .ok (PT pl) W)
    (r3 : ∀ c L W, Wd c L W → L 3 = false → L 2 = true → (Instr.loadAt 176 (.pointer (some ⟨X, 3, none⟩))).run Tryz.prog W = .ok (FN 138) W)
    (r6 : ∀ c L W, Wd c L W → L 6 = false → L 5 = true → (Instr.loadAt 3 (.pointer (some ⟨X, 1, none⟩))).run Tryz.prog W = .ok (I n) W)
    (r7 : ∀ c L W, Wd c L W → L 7 = false → L 3 = true → L 4 = true → L 6 = true → Calls Tryz.prog 138 #[(ptr b), (I n)] W fun eg w' => ∃ c', (∀ j, L j = true → vrt210 X b pl n x er c' j = vrt210 X b pl n x er c j) ∧ eg = .returned (vrt210 X b pl n x er c' 7) ∧ Wd c' (upd L 7) w')
    (r8 : ∀ c L W, Wd c L W → L 8 = false → L 7 = true → Calls Tryz.prog 212 #[x] W fun eg w' => ∃ c', (∀ j, L j = true → vrt210 X b pl n x er c' j = vrt210 X b pl n x er c j) ∧ eg = .returned (vrt210 X b pl n x er c' 8) ∧ Wd c' (upd L 8) w')
    (r9 : ∀ c L W, Wd c L W → L 9 = false → L 8 = true → Wd c (upd L 9) W)
    (r10 : ∀ (c : Cnm) W, (Instr.extract (.tuple #[.slice c.va c.vn c.vc, I er]) 0).run Tryz.prog W = .ok (.slice c.va c.vn c.vc) W)
    (e10 : ∀ c L W, Wd c L W → L 10 = false → L 9 = true → Wd c (upd L 10) W)
    (r11 : ∀ (c : Cnm) W, (Instr.extract (.tuple #[.slice c.va c.vn c.vc, I er]) 1).run Tryz.prog W = .ok (I er) W)
    (e11 : ∀ c L W, Wd c L W → L 11 = false → L 9 = true → Wd c (upd L 11) W)
    (r13 : ∀ c L W, Wd c L W → L 13 = false → L 10 = true → L 12 = true → ∃ W', (Instr.storeAt 22 (PT pl) (.slice c.va c.vn c.vc)).run Tryz.prog W = .ok () W' ∧ Wd c (upd L 13) W')
    (hend : ∀ c L W, (∀ i, i < 14 → L i = true) → Wd c L W → Q .normal (((((((((((((a0.put (some 5) (.pointer (some ⟨X, 0, none⟩))).put (some 6) (PT pl)).put (some 7) (.pointer (some ⟨X, 3, none⟩))).put (some 8) (FN 138)).put (some 9) (ptr b)).put (some 10) (.pointer (some ⟨X, 1, none⟩))).put (some 11) (I n)).put (some 12) x).put (some 13) (.tuple #[.slice c.va c.vn c.vc, I er])).put (some 4) (.tuple #[.slice c.va c.vn c.vc, I er])).put (some 14) (.slice c.va c.vn c.vc)).put (some 15) (I er)).put (some 16) (PT pl)) W) : (Code.region id ops true).wp Tryz.prog Q a0 w := by
  let val : Cnm → Nat → Value := vrt210 X b pl n x er
  have hosz : ops.size = 14 := by
    have := congrArg List.length htab
    simpa [rt210T] using this
  have hds : ∀ i s, (rt210T[i]?).bind (·.2.1) = some s → dstOf ops i = some s := fun i s hi => by rw [tab_dst htab, hi]
  have hdisB : disL rt210T = true := by rfl
  have hdis := disL_of htab hdisB
  have hold : ∀ s, rt210T.all (fun x => !(x.2.1 == some s)) = true → (List.range ops.size).all (fun j => !(dstOf ops j == some s)) = true := fun s h => holdL htab s h
  refine region_detX val Wd (hac_of hac) hdis h0 ?_ ?_
  rotate_left
  · intro c L W hall hW
    have := hend c L W (by rw [← hosz]; exact hall) hW
    have e : frm ops a0 (val c) (fun _ => true) ops.size = (((((((((((((a0.put (some 5) (.pointer (some ⟨X, 0, none⟩))).put (some 6) (PT pl)).put (some 7) (.pointer (some ⟨X, 3, none⟩))).put (some 8) (FN 138)).put (some 9) (ptr b)).put (some 10) (.pointer (some ⟨X, 1, none⟩))).put (some 11) (I n)).put (some 12) x).put (some 13) (.tuple #[.slice c.va c.vn c.vc, I er])).put (some 4) (.tuple #[.slice c.va c.vn c.vc, I er])).put (some 14) (.slice c.va c.vn c.vc)).put (some 15) (I er)).put (some 16) (PT pl)) := by
      rw [hosz]
      simp only [frm, if_true]
      rw [tab_dst htab 0, tab_dst htab 1, tab_dst htab 2, tab_dst htab 3, tab_dst htab 4, tab_dst htab 5, tab_dst htab 6, tab_dst htab 7, tab_dst htab 8, tab_dst htab 9, tab_dst htab 10, tab_dst htab 11, tab_dst htab 12, (show dstOf ops 13 = none from (tab_dst htab 13).trans rfl), put_none]
      rfl
    rw [e]
    exact this
  intro i o ho c L a w' hL hd ha hW
  have hi : i < 14 := by rw [← hosz]; exact (Array.getElem?_eq_some_iff.1 ho).1
  have G : ∀ j s : Nat, (rt210T[j]?).bind (·.2.1) = some s → s < 17 → (i, j) ∈ rt210D → a.tmps[s]? = some (val c j) := fun j s h1 h2 h3 => frm_at hdis ha j s (hds j s h1) (by omega) (depl_of hdep i j h3 ho hd)
  match i, ho, hL, hi, G with
  | 0, ho, hL, _, G =>
    obtain ⟨hop, hgd⟩ := tab3 htab ho rfl
    have h0 := frm_old ha 2 _ (hold 2 rfl) o2
    exact (dXr ho hgd (hpure 0 (by decide) c L w' hW) (g_field hop (eval_of h0) (by kernel_rfl)))
  | 1, ho, hL, _, G =>
    obtain ⟨hop, hgd⟩ := tab3 htab ho rfl
    have h0 := G 0 5 rfl (by decide) (by decide)
    exact (dXr ho hgd (hpure 1 (by decide) c L w' hW) (g_load hop (eval_of h0) (r1 c L w' hW hL (depl_of hdep 1 0 (by decide) ho hd))))
  | 2, ho, hL, _, G =>
    obtain ⟨hop, hgd⟩ := tab3 htab ho rfl
    have h0 := frm_old ha 2 _ (hold 2 rfl) o2
    exact (dXr ho hgd (hpure 2 (by decide) c L w' hW) (g_field hop (eval_of h0) (by kernel_rfl)))
  | 3, ho, hL, _, G =>
    obtain ⟨hop, hgd⟩ := tab3 htab ho rfl
    have h0 := G 2 7 rfl (by decide) (by decide)
    exact (dXr ho hgd (hpure 3 (by decide) c L w' hW) (g_load hop (eval_of h0) (r3 c L w' hW hL (depl_of hdep 3 2 (by decide) ho hd))))
  | 4, ho, hL, _, G =>
    obtain ⟨hop, hgd⟩ := tab3 htab ho rfl
    have h0 := frm_old ha 1 _ (hold 1 rfl) o1
    exact (dXr ho hgd (hpure 4 (by decide) c L w' hW) (g_mov hop (eval_of h0)))
  | 5, ho, hL, _, G =>
    obtain ⟨hop, hgd⟩ := tab3 htab ho rfl
    have h0 := frm_old ha 2 _ (hold 2 rfl) o2
    exact (dXr ho hgd (hpure 5 (by decide) c L w' hW) (g_field hop (eval_of h0) (by kernel_rfl)))
  | 6, ho, hL, _, G =>
    obtain ⟨hop, hgd⟩ := tab3 htab ho rfl
    have h0 := G 5 10 rfl (by decide) (by decide)
    exact (dXr ho hgd (hpure 6 (by decide) c L w' hW) (g_load hop (eval_of h0) (r6 c L w' hW hL (depl_of hdep 6 5 (by decide) ho hd))))
  | 7, ho, hL, _, G =>
    obtain ⟨hop, hgd⟩ := tab3 htab ho rfl
    have h0 := G 4 9 rfl (by decide) (by decide)
    have h1 := G 6 11 rfl (by decide) (by decide)
    have hf := G 3 8 rfl (by decide) (by decide)
    refine doesX_call ho (wanted_none hgd) 138 #[(ptr b), (I n)] ?_ (r7 c L w' hW hL (depl_of hdep 7 3 (by decide) ho hd) (depl_of hdep 7 4 (by decide) ho hd) (depl_of hdep 7 6 (by decide) ho hd))
    rw [run_callv Tryz.func138 (by kernel_rfl) rfl _ _ _ _ _ hop (eval_of hf)]
    simp only [List.map_toArray, List.map_cons, List.map_nil, eval_of h0, eval_of h1]
    all_goals rfl
  | 8, ho, hL, _, G =>
    obtain ⟨hop, hgd⟩ := tab3 htab ho rfl
    have h0 := G 7 12 rfl (by decide) (by decide)
    refine doesX_call ho (wanted_none hgd) 212 #[x] ?_ (r8 c L w' hW hL (depl_of hdep 8 7 (by decide) ho hd))
    rw [run_calls Tryz.func212 (by kernel_rfl) rfl _ _ _ _ hop rfl]
    simp only [List.map_toArray, List.map_cons, List.map_nil, eval_of h0]
    all_goals rfl
  | 9, ho, hL, _, G =>
    obtain ⟨hop, hgd⟩ := tab3 htab ho rfl
    have h0 := G 8 13 rfl (by decide) (by decide)
    exact (dXr ho hgd (r9 c L w' hW hL (depl_of hdep 9 8 (by decide) ho hd)) (by rw [run_move _ _ _ hop]; exact congrArg (fun v => Result.ok (Next.value v) w') (eval_of h0)))
  | 10, ho, hL, _, G =>
    obtain ⟨hop, hgd⟩ := tab3 htab ho rfl
    have h0 := G 9 4 rfl (by decide) (by decide)
    exact (dXr ho hgd (e10 c L w' hW hL (depl_of hdep 10 9 (by decide) ho hd)) (g_ext hop (eval_of h0) (r10 c w')))
  | 11, ho, hL, _, G =>
    obtain ⟨hop, hgd⟩ := tab3 htab ho rfl
    have h0 := G 9 4 rfl (by decide) (by decide)
    exact (dXr ho hgd (e11 c L w' hW hL (depl_of hdep 11 9 (by decide) ho hd)) (g_ext hop (eval_of h0) (r11 c w')))
  | 12, ho, hL, _, G =>
    obtain ⟨hop, hgd⟩ := tab3 htab ho rfl
    have h0 := G 1 6 rfl (by decide) (by decide)
    exact (dXr ho hgd (hpure 12 (by decide) c L w' hW) (run_nil _ _ _ hop _ (eval_of h0) _))
  | 13, ho, hL, _, G =>
    obtain ⟨hop, hgd⟩ := tab3 htab ho rfl
    have h0 := G 12 16 rfl (by decide) (by decide)
    have h1 := G 10 14 rfl (by decide) (by decide)
    obtain ⟨W', q1, q2⟩ := r13 c L w' hW hL (depl_of hdep 13 10 (by decide) ho hd) (depl_of hdep 13 12 (by decide) ho hd)
    exact doesX_of (doesL_skp ho (wanted_none hgd) rfl q2 (g_store hop (eval_of h0) (eval_of h1) q1))
  | (i + 14), ho, hL, hi, _ => exact absurd hi (by omega)
end Go.Proofs.YtpidmpefodnffaaGreatDoor
namespace Go.Proofs.YtpidmpefodnffaaGreatDoor
open Go.RowKit
set_option maxHeartbeats 4000000
set_option maxRecDepth 8000
theorem upd_ne {L : Nat → Bool} {i k : Nat} (h : k ≠ i) : upd L i k = L k := by simp [upd, h]
/-- A call of a Writer leaves a box that was made behind it. -/
theorem Wt.step {w0 w W w' : World} {b : Nat} {X Y : Bs} {v : Value} {x : Nat} (hx : x < W.heap.size) (h1 : WAt b v X 0 w) (hB : Below w0.heap.size w0 W) (h3 : w0.heap.size ≤ b) (h4 : ∀ k, v.ownBlock = some k → w0.heap.size ≤ k) (hxw : w.heap.size ≤ x) (hw : WTo b v Y 0 W w') : Wt w0 b Y w' ∧ w'.heap[x]? = W.heap[x]? := by
  refine ⟨Wt.to hB h3 h4 hw, ?_⟩
  obtain ⟨v', q1, q2, q3⟩ := hw
  refine q2.block x hx ?_
  rintro (e | e)
  · have := lt_of_row h1.row; omega
  · have := owns_blk h1.own x e; omega
/-- A Writer, and a box X that was made behind it and holds vs. -/
structure Wb (w0 : World) (b : Nat) (Y : Bs) (x : Nat) (vs : Array Value) (t : TypeId) (W : World) : Prop where
  wt : ∃ w v, WAt b v Y 0 w ∧ WAt b v Y 0 W ∧ w.heap.size ≤ x ∧ ∀ k, v.ownBlock = some k → w0.heap.size ≤ k
  bel : Below w0.heap.size w0 W
  hb : w0.heap.size ≤ b
  box : W.heap[x]? = some (.cells vs t (0, 0))
theorem Wb.drew {w0 : World} {b : Nat} {Y : Bs} {x : Nat} {vs : Array Value} {t : TypeId} {W : World} (h : Wb w0 b Y x vs t W) : Wb w0 b Y x vs t W.drew := by
  obtain ⟨⟨w, v, h1, h2, h3, h4⟩, q1, q2, q3⟩ := h
  exact ⟨⟨w, v, h1, h2.keep (Only.drew (fun _ => False) W) (fun q => q) (fun _ _ q => q), h3, h4⟩, q1.trans ((Only.drew (fun _ => False) W).to_below.mono q1.size), q2, q3⟩
theorem Wb.mk' {w0 w : World} {b : Nat} {Y : Bs} (h : Wt w0 b Y w) (vs : Array Value) (t : TypeId) : Wb w0 b Y w.heap.size vs t (w.alloc (.cells vs t)) := by
  obtain ⟨v, h1, h2, h3, h4⟩ := h
  exact ⟨⟨w, v, h1, h1.keep (Only.alloc (fun _ => False) w _) (fun q => q) (fun _ _ q => q), Nat.le_refl _, h4⟩, h2.alloc h2.size _, h3, by show (w.heap.push _)[w.heap.size]? = _; simp⟩
theorem Wb.num {w0 : World} {b : Nat} {Y : Bs} {x : Nat} {vs : Array Value} {t : TypeId} {W : World} (h : Wb w0 b Y x vs t W) (size : Nat) (n : Int) (s1 : 1 ≤ size) (s8 : size ≤ 8) (n0 : 0 ≤ n) (n1 : n < 256 ^ size) (n2 : n ≤ 9223372036854775807) (hX : Y.length ≤ 1000000000) :
    Calls Tryz.prog 135 #[ptr b, I size, I n] W fun e w' => e = .returned (.tuple #[]) ∧ Wt w0 b (Y ++ be size n.toNat) w' ∧ w'.heap[x]? = some (.cells vs t (0, 0)) := by
  obtain ⟨⟨w, v, h1, h2, h3, h4⟩, q1, q2, q3⟩ := h
  refine (wnum_any b v Y 0 size n W h2 n2 (by omega)).mono ?_
  rintro e w' ⟨rfl, hw⟩
  have e1 : numE size n = 0 := by
    have : stnB (size : Int).toNat n = true := by simp [stnB, n0]; exact n1
    unfold numE
    rw [if_pos ⟨by omega, by omega⟩, if_pos this]
  rw [e1, wPut_ok] at hw
  have e2 : numY size n = be size n.toNat := by simp [numY]
  rw [e2] at hw
  obtain ⟨a, c⟩ := Wt.step (lt_of_row q3) h1 q1 q2 h4 h3 hw
  exact ⟨rfl, a, c.trans q3⟩
theorem Wb.raw {w0 : World} {b : Nat} {Y : Bs} {x : Nat} {vs : Array Value} {t : TypeId} {W : World} (h : Wb w0 b Y x vs t W) (s : Bs) (hX : Y.length + s.length ≤ 1000000000) :
    Calls Tryz.prog 132 #[ptr b, S s] W fun e w' => e = .returned (.tuple #[]) ∧ Wt w0 b (Y ++ s) w' ∧ w'.heap[x]? = some (.cells vs t (0, 0)) := by
  obtain ⟨⟨w, v, h1, h2, h3, h4⟩, q1, q2, q3⟩ := h
  refine (wraw_any b v Y 0 s W h2 (by omega)).mono ?_
  rintro e w' ⟨rfl, hw⟩
  rw [wPut_ok] at hw
  obtain ⟨a, c⟩ := Wt.step (lt_of_row q3) h1 q1 q2 h4 h3 hw
  exact ⟨rfl, a, c.trans q3⟩
theorem Wb.text {w0 : World} {b : Nat} {Y : Bs} {x : Nat} {vs : Array Value} {t : TypeId} {W : World} (h : Wb w0 b Y x vs t W) (most : Nat) (s : Bs) (hm : most ≤ 255) (hs : s.length ≤ most) (hX : Y.length ≤ 1000000000) :
    Calls Tryz.prog 137 #[ptr b, I most, S s] W fun e w' => e = .returned (.tuple #[]) ∧ Wt w0 b (Y ++ (be 1 s.length ++ s)) w' ∧ w'.heap[x]? = some (.cells vs t (0, 0)) := by
  obtain ⟨⟨w, v, h1, h2, h3, h4⟩, q1, q2, q3⟩ := h
  refine (wtext_any b v Y 0 most s W h2 (by omega)).mono ?_
  rintro e w' ⟨rfl, hw⟩
  have e1 : textE most s.length = 0 := by
    unfold textE
    rw [if_pos ⟨by omega, by omega⟩, if_pos (by omega)]
  have e2 : textY most s = be 1 s.length ++ s := by
    unfold textY ahd
    rw [if_pos (by omega)]
  rw [e1, e2, wPut_ok] at hw
  obtain ⟨a, c⟩ := Wt.step (lt_of_row q3) h1 q1 q2 h4 h3 hw
  exact ⟨rfl, a, c.trans q3⟩
/-- Between two operations of put: the call c has come up or not. -/
def Wq (w0 : World) (b : Nat) (Y Z : Bs) (x : Nat) (vs : Array Value) (t : TypeId) (c : Nat) (_ : Unit) (L : Nat → Bool) (W : World) : Prop :=
  W.heap[x]? = some (.cells vs t (0, 0)) ∧ Below w0.heap.size w0 W ∧ (L c = false → Wb w0 b Y x vs t W) ∧ (L c = true → Wt w0 b Z W)
theorem Wq.ld {w0 : World} {b : Nat} {Y Z : Bs} {x : Nat} {vs : Array Value} {t : TypeId} {c : Nat} {u : Unit} {L : Nat → Bool} {W : World} (h : Wq w0 b Y Z x vs t c u L W) (j : Nat) (v : Value) (hv : vs[j]? = some v) : W.cell? ⟨x, j, none⟩ = some v := by
  simp [World.cell?, h.1, hv]
theorem Wq.pure {w0 : World} {b : Nat} {Y Z : Bs} {x : Nat} {vs : Array Value} {t : TypeId} {c : Nat} {u : Unit} {L : Nat → Bool} {W : World} (h : Wq w0 b Y Z x vs t c u L W) (i : Nat) (hi : i ≠ c) : Wq w0 b Y Z x vs t c u (upd L i) W := by
  have e : upd L i c = L c := upd_ne (fun e => hi e.symm)
  refine ⟨h.1, h.2.1, ?_, ?_⟩ <;> rw [e]
  · exact h.2.2.1
  · exact h.2.2.2
theorem Wq.call {w0 : World} {b : Nat} {Y Z : Bs} {x : Nat} {vs : Array Value} {t : TypeId} {c : Nat} {u : Unit} {L : Nat → Bool} {w' : World} (h1 : Wt w0 b Z w') (h2 : w'.heap[x]? = some (.cells vs t (0, 0))) : Wq w0 b Y Z x vs t c u (upd L c) w' := by
  refine ⟨h2, h1.below, fun e => ?_, fun _ => h1⟩
  simp [upd] at e

theorem Wb.wq {w0 : World} {b : Nat} {Y Z : Bs} {x : Nat} {vs : Array Value} {t : TypeId} {c : Nat} {W : World} (h : Wb w0 b Y x vs t W) : ∃ u, Wq w0 b Y Z x vs t c u (fun _ => false) W.drew :=
  ⟨(), h.drew.box, h.drew.bel, fun _ => h.drew, fun e => by cases e⟩

theorem putW {w0 w : World} {b : Nat} {Y : Bs} (h : Wt w0 b Y w) (p : Addr) (n : Int) (x : Bs) (hp : w0.cell? p = some (S x)) (hY : Y.length + x.length ≤ 1000000000) :
    Calls Tryz.prog 199 #[.agg #[PT p, I n, FN 132, FN 133], ptr b] w fun e w' => e = .returned (.tuple #[]) ∧ Wt w0 b (Y ++ x) w' := by
  have H := Wb.mk' h #[PT p, I n, FN 132, FN 133] 179
  have hx : ∀ W, Below w0.heap.size w0 W → W.cell? p = some (S x) := fun W hW => cell_below hp hW (cell_lt hp)
  go_enter Tryz.func199, Tryz.ntmps199
  go_wp2_with fail
  generalize hX : w.heap.size = X at *
  generalize w.alloc (Obj.cells #[PT p, I n, FN 132, FN 133] 179) = W1 at *
  refine rp199 X b p (S x) rfl (by rfl) (by rfl) _ W1 (by simp) rfl rfl (Wq w0 b Y (Y ++ x) X #[PT p, I n, FN 132, FN 133] 179 7) H.wq (fun i hi c L W hW => hW.pure i (fun e => hi (by simp [e]))) (fun c L W hW _ _ => s_ld (T := 173) (fun _ => by kernel_rfl) (hW.ld 2 _ rfl)) (fun c L W hW _ _ => s_ld (T := 172) (fun _ => by kernel_rfl) (hW.ld 0 _ rfl)) (fun c L W hW _ _ => s_ld (T := 9) (fun _ => by kernel_rfl) (hx W hW.2.1)) (fun c L W hW hL _ _ _ => ((hW.2.2.1 hL).raw x hY).mono fun e w' q => ⟨c, fun _ _ => rfl, q.1, Wq.call q.2.1 q.2.2⟩) ?_
  intro c L W hall hW
  have hw := hW.2.2.2 (hall 7 (by decide))
  simp only [Act.put, List.setIfInBounds_toArray, List.set_cons_succ, List.set_cons_zero]
  show bodyPost _ _ _ _ _ _
  clear hx H hall hW hX
  go_end0
  exact ⟨rfl, hw⟩

theorem putR {w0 w : World} {b : Nat} {Y : Bs} (h : Wt w0 b Y w) (p : Addr) (n : Int) (x : Bs) (hp : w0.cell? p = some (S x)) (hY : Y.length + x.length ≤ 1000000000) :
    Calls Tryz.prog 201 #[.agg #[PT p, I n, FN 132, FN 134, FN 133], ptr b] w fun e w' => e = .returned (.tuple #[]) ∧ Wt w0 b (Y ++ x) w' := by
  have H := Wb.mk' h #[PT p, I n, FN 132, FN 134, FN 133] 183
  have hx : ∀ W, Below w0.heap.size w0 W → W.cell? p = some (S x) := fun W hW => cell_below hp hW (cell_lt hp)
  go_enter Tryz.func201, Tryz.ntmps201
  go_wp2_with fail
  generalize hX : w.heap.size = X at *
  generalize w.alloc (Obj.cells #[PT p, I n, FN 132, FN 134, FN 133] 183) = W1 at *
  refine rp201 X b p (S x) rfl (by rfl) (by rfl) _ W1 (by simp) rfl rfl (Wq w0 b Y (Y ++ x) X #[PT p, I n, FN 132, FN 134, FN 133] 183 7) H.wq (fun i hi c L W hW => hW.pure i (fun e => hi (by simp [e]))) (fun c L W hW _ _ => s_ld (T := 173) (fun _ => by kernel_rfl) (hW.ld 2 _ rfl)) (fun c L W hW _ _ => s_ld (T := 172) (fun _ => by kernel_rfl) (hW.ld 0 _ rfl)) (fun c L W hW _ _ => s_ld (T := 9) (fun _ => by kernel_rfl) (hx W hW.2.1)) (fun c L W hW hL _ _ _ => ((hW.2.2.1 hL).raw x hY).mono fun e w' q => ⟨c, fun _ _ => rfl, q.1, Wq.call q.2.1 q.2.2⟩) ?_
  intro c L W hall hW
  have hw := hW.2.2.2 (hall 7 (by decide))
  simp only [Act.put, List.setIfInBounds_toArray, List.set_cons_succ, List.set_cons_zero]
  show bodyPost _ _ _ _ _ _
  clear hx H hall hW hX
  go_end0
  exact ⟨rfl, hw⟩

theorem putT {w0 w : World} {b : Nat} {Y : Bs} (h : Wt w0 b Y w) (p : Addr) (n : Nat) (x : Bs) (hp : w0.cell? p = some (S x)) (hm : n ≤ 255) (hs : x.length ≤ n) (hY : Y.length ≤ 1000000000) :
    Calls Tryz.prog 205 #[.agg #[PT p, I n, FN 137, FN 138], ptr b] w fun e w' => e = .returned (.tuple #[]) ∧ Wt w0 b (Y ++ (be 1 x.length ++ x)) w' := by
  have H := Wb.mk' h #[PT p, I n, FN 137, FN 138] 194
  have hx : ∀ W, Below w0.heap.size w0 W → W.cell? p = some (S x) := fun W hW => cell_below hp hW (cell_lt hp)
  go_enter Tryz.func205, Tryz.ntmps205
  go_wp2_with fail
  generalize hX : w.heap.size = X at *
  generalize w.alloc (Obj.cells #[PT p, I n, FN 137, FN 138] 194) = W1 at *
  refine rp205 X b p n (S x) rfl (by rfl) (by rfl) _ W1 (by simp) rfl rfl (Wq w0 b Y (Y ++ (be 1 x.length ++ x)) X #[PT p, I n, FN 137, FN 138] 194 9) H.wq (fun i hi c L W hW => hW.pure i (fun e => hi (by simp [e]))) (fun c L W hW _ _ => s_ld (T := 191) (fun _ => by kernel_rfl) (hW.ld 2 _ rfl)) (fun c L W hW _ _ => s_ld (T := 3) (fun _ => by kernel_rfl) (hW.ld 1 _ rfl)) (fun c L W hW _ _ => s_ld (T := 172) (fun _ => by kernel_rfl) (hW.ld 0 _ rfl)) (fun c L W hW _ _ => s_ld (T := 9) (fun _ => by kernel_rfl) (hx W hW.2.1)) (fun c L W hW hL _ _ _ _ => ((hW.2.2.1 hL).text n x hm hs hY).mono fun e w' q => ⟨c, fun _ _ => rfl, q.1, Wq.call q.2.1 q.2.2⟩) ?_
  intro c L W hall hW
  have hw := hW.2.2.2 (hall 9 (by decide))
  simp only [Act.put, List.setIfInBounds_toArray, List.set_cons_succ, List.set_cons_zero]
  show bodyPost _ _ _ _ _ _
  clear hx H hall hW hX
  go_end0
  exact ⟨rfl, hw⟩

theorem putI {w0 w : World} {b : Nat} {Y : Bs} (h : Wt w0 b Y w) (p : Addr) (n : Nat) (z : Int) (hp : w0.cell? p = some (I z)) (s1 : 1 ≤ n) (s8 : n ≤ 8) (n0 : 0 ≤ z) (n1 : z < 256 ^ n) (n2 : z ≤ 9223372036854775807) (hY : Y.length ≤ 1000000000) :
    Calls Tryz.prog 207 #[.agg #[PT p, I n, FN 135, FN 136], ptr b] w fun e w' => e = .returned (.tuple #[]) ∧ Wt w0 b (Y ++ be n z.toNat) w' := by
  have H := Wb.mk' h #[PT p, I n, FN 135, FN 136] 197
  have hx : ∀ W, Below w0.heap.size w0 W → W.cell? p = some (I z) := fun W hW => cell_below hp hW (cell_lt hp)
  go_enter Tryz.func207, Tryz.ntmps207
  go_wp2_with fail
  generalize hX : w.heap.size = X at *
  generalize w.alloc (Obj.cells #[PT p, I n, FN 135, FN 136] 197) = W1 at *
  refine rp207 X b p n (I z) rfl (by rfl) (by rfl) _ W1 (by simp) rfl rfl (Wq w0 b Y (Y ++ be n z.toNat) X #[PT p, I n, FN 135, FN 136] 197 9) H.wq (fun i hi c L W hW => hW.pure i (fun e => hi (by simp [e]))) (fun c L W hW _ _ => s_ld (T := 186) (fun _ => by kernel_rfl) (hW.ld 2 _ rfl)) (fun c L W hW _ _ => s_ld (T := 3) (fun _ => by kernel_rfl) (hW.ld 1 _ rfl)) (fun c L W hW _ _ => s_ld (T := 195) (fun _ => by kernel_rfl) (hW.ld 0 _ rfl)) (fun c L W hW _ _ => s_ld (T := 3) (fun _ => by kernel_rfl) (hx W hW.2.1)) (fun c L W hW hL _ _ _ _ => ((hW.2.2.1 hL).num n z s1 s8 n0 n1 n2 hY).mono fun e w' q => ⟨c, fun _ _ => rfl, q.1, Wq.call q.2.1 q.2.2⟩) ?_
  intro c L W hall hW
  have hw := hW.2.2.2 (hall 9 (by decide))
  simp only [Act.put, List.setIfInBounds_toArray, List.set_cons_succ, List.set_cons_zero]
  show bodyPost _ _ _ _ _ _
  clear hx H hall hW hX
  go_end0
  exact ⟨rfl, hw⟩
end Go.Proofs.YtpidmpefodnffaaGreatDoor
namespace Go.Proofs.YtpidmpefodnffaaGreatDoor
open Go.RowKit
set_option maxHeartbeats 4000000
set_option maxRecDepth 8000
/-- A Reader, told by what is left of its text, and its fault. -/
def Ra (b g : Nat) (s : Bs × Nat) (w : World) : Prop := ∃ off cap, RAt b g off cap s.1 s.2 w
theorem Ra.keep {P : Nat → Prop} {b g : Nat} {s : Bs × Nat} {w w' : World} (h : Ra b g s w) (ho : Only P w w') (hb : ¬ P b) (hg : ¬ P g) : Ra b g s w' := by
  obtain ⟨o, c, q⟩ := h
  exact ⟨o, c, q.keep ho hb hg⟩
theorem Ra.num {b g : Nat} {s : Bs × Nat} {w : World} (h : Ra b g s w) (n : Nat) (hs : s.1.length ≤ 9223372036854775807) : Calls Tryz.prog 136 #[ptr b, I n] w fun e w' => e = .returned (I (rv n s)) ∧ Ra b g (rs n s) w' ∧ Only (fun k => k = b) w w' := by
  obtain ⟨o, c, h⟩ := h
  refine (rnum_any b g o c s.1 s.2 n w h hs).mono ?_
  rintro e w' ⟨rfl, h5, h6⟩
  rw [Int.toNat_natCast] at h5 ⊢
  exact ⟨rfl, h5, h6⟩
theorem Ra.raw {b g : Nat} {s : Bs × Nat} {w : World} (h : Ra b g s w) (n : Int) (hs : s.1.length ≤ 9223372036854775807) : Calls Tryz.prog 133 #[ptr b, I n] w fun e w' => e = .returned (S (ra n s)) ∧ Ra b g (rr2 n s) w' ∧ Only (fun k => k = b) w w' := by
  obtain ⟨o, c, h⟩ := h
  refine (rraw_any b g o c s.1 s.2 n w h hs).mono ?_
  rintro e w' ⟨rfl, h5, h6⟩
  exact ⟨rfl, h5, h6⟩
theorem Ra.text {b g : Nat} {s : Bs × Nat} {w : World} (h : Ra b g s w) (n : Nat) (hs : s.1.length ≤ 9223372036854775807) : Calls Tryz.prog 138 #[ptr b, I n] w fun e w' => e = .returned (S (tv n s)) ∧ Ra b g (ts n s) w' ∧ Only (fun k => k = b) w w' := by
  obtain ⟨o, c, h⟩ := h
  refine (rtext_any b g o c s.1 s.2 n w h hs).mono ?_
  rintro e w' ⟨rfl, h5, h6⟩
  exact ⟨rfl, h5, h6⟩
/-- What a field of a record may hold. -/
def Sv (v : Value) : Prop := (∃ x, v = .string x) ∨ (∃ n, v = .int .i64 n) ∨ (∃ q, v = .bool q) ∨ ∃ a n c, v = .slice a n c
theorem s_st {T : TypeId} {w : World} {p : Addr} {old v : Value} (hs : ∀ w, (sizeOf T).run Tryz.prog w = .ok 1 w) (h : w.cell? p = some old) (hf : w.frozen? p = false) (hv : Sv v) : (Instr.storeAt T (.pointer (some p)) v).run Tryz.prog w = .ok () (w.setCell p v) := by
  rcases hv with ⟨x, rfl⟩ | ⟨n, rfl⟩ | ⟨q, rfl⟩ | ⟨a, n, c, rfl⟩ <;> simp [Instr.storeAt, go_sem, h, hs, hf]
/-- Between two operations of take: the call c, the store d. -/
def Tq (w : World) (b g : Nat) (s s' : Bs × Nat) (p : Addr) (v : Value) (x : Nat) (vs : Array Value) (t : TypeId) (c d : Nat) (_ : Unit) (L : Nat → Bool) (W : World) : Prop :=
  W.heap[x]? = some (.cells vs t (0, 0)) ∧ (L d = true → L c = true) ∧ (L c = false → Ra b g s W ∧ Only (fun k => k = b) w W) ∧ (L c = true → L d = false → Ra b g s' W ∧ Only (fun k => k = b) w W) ∧ (L d = true → ∃ W2, Ra b g s' W2 ∧ Only (fun k => k = b) w W2 ∧ W = W2.setCell p v)
section
variable {w : World} {b g : Nat} {s s' : Bs × Nat} {p : Addr} {v : Value} {x : Nat} {vs : Array Value} {t : TypeId} {c d : Nat} {u : Unit} {L : Nat → Bool} {W : World}
theorem Tq.ld (h : Tq w b g s s' p v x vs t c d u L W) (j : Nat) (y : Value) (hv : vs[j]? = some y) : W.cell? ⟨x, j, none⟩ = some y := by
  simp [World.cell?, h.1, hv]
theorem Tq.pure (h : Tq w b g s s' p v x vs t c d u L W) (i : Nat) (hi : i ≠ c) (hj : i ≠ d) : Tq w b g s s' p v x vs t c d u (upd L i) W := by
  have e : upd L i c = L c := upd_ne (fun e => hi e.symm)
  have e' : upd L i d = L d := upd_ne (fun e => hj e.symm)
  unfold Tq
  rw [e, e']
  exact h
theorem Tq.start (h1 : Ra b g s w) : ∃ u, Tq w b g s s' p v w.heap.size vs t c d u (fun _ => false) (w.alloc (.cells vs t)).drew := by
  have o : Only (fun _ => False) w (w.alloc (.cells vs t)).drew := (Only.alloc _ w _).trans (Only.drew (fun _ => False) _) (fun _ _ q => q)
  refine ⟨(), ⟨?_, (fun e => by cases e), fun _ => ⟨h1.keep o (fun q => q) (fun q => q), o.mono (fun _ _ q => q.elim)⟩, (fun e => by cases e), (fun e => by cases e)⟩⟩
  show (w.heap.push _)[w.heap.size]? = _
  simp
theorem Tq.call (h : Tq w b g s s' p v x vs t c d u L W) (hc : L c = false) (hcd : c ≠ d) (hx : x ≠ b) {w' : World} (h1 : Ra b g s' w') (h2 : Only (fun k => k = b) W w') : Tq w b g s s' p v x vs t c d u (upd L c) w' := by
  have e : upd L c c = true := by simp [upd]
  have e' : upd L c d = L d := upd_ne (fun e => hcd e.symm)
  have hd : L d = false := by
    cases q : L d
    · rfl
    · rw [h.2.1 q] at hc; cases hc
  unfold Tq
  rw [e, e', hd]
  exact ⟨(h2.block x (lt_of_row h.1) hx).trans h.1, (fun e => by cases e), (fun e => by cases e), fun _ _ => ⟨h1, (h.2.2.1 hc).2.trans h2 (fun _ _ q => q)⟩, (fun e => by cases e)⟩
theorem Tq.store (h : Tq w b g s s' p v x vs t c d u L W) (hc : L c = true) (hd : L d = false) (hcd : c ≠ d) (hx : p.block ≠ x) : Tq w b g s s' p v x vs t c d u (upd L d) (W.setCell p v) := by
  have e : upd L d d = true := by simp [upd]
  have e' : upd L d c = L c := upd_ne hcd
  obtain ⟨q1, q2⟩ := h.2.2.2.1 hc hd
  unfold Tq
  rw [e, e', hc]
  exact ⟨(heap_setCell_other W p x v (fun e => hx e.symm)).trans h.1, fun _ => rfl, (fun e => by cases e), (fun _ e => by cases e), fun _ => ⟨W, q1, q2, rfl⟩⟩
theorem Tq.place (h : Tq w b g s s' p v x vs t c d u L W) (hc : L c = true) (hd : L d = false) {old : Value} {cs : Array Value} {ty : TypeId} (hp : w.heap[p.block]? = some (.cells cs ty (0, 0))) (ho : w.cell? p = some old) (hb : p.block ≠ b) : W.cell? p = some old ∧ W.frozen? p = false := by
  obtain ⟨q1, q2⟩ := h.2.2.2.1 hc hd
  have e := q2.block p.block (lt_of_row hp) hb
  refine ⟨(World.cell?_of_block e).trans ho, ?_⟩
  simp [World.frozen?, e, hp]
end

theorem takeW {w : World} {b g : Nat} {s : Bs × Nat} (h : Ra b g s w) (p : Addr) (n : Int) {old : Value} {cs : Array Value} {ty : TypeId} (hp : w.heap[p.block]? = some (.cells cs ty (0, 0))) (ho : w.cell? p = some old) (hb : p.block ≠ b) (hs : s.1.length ≤ 9223372036854775807) :
    Calls Tryz.prog 200 #[.agg #[PT p, I n, FN 132, FN 133], ptr b] w fun e w' => e = .returned (.tuple #[]) ∧ ∃ W2, Ra b g (rr2 n s) W2 ∧ Only (fun k => k = b) w W2 ∧ w' = W2.setCell p (S (ra n s)) := by
  have hbl : b < w.heap.size := by
    obtain ⟨o, c, q⟩ := h
    exact lt_of_row q.row
  have hpl := lt_of_row hp
  have H := Tq.start (s' := (rr2 n s)) (p := p) (v := S (ra n s)) (vs := #[PT p, I n, FN 132, FN 133]) (t := 179) (c := 7) (d := 9) h
  go_enter Tryz.func200, Tryz.ntmps200
  go_wp2_with fail
  generalize hV : S (ra n s) = V at *
  have hV1 : Sv V := by rw [← hV]; exact .inl ⟨_, rfl⟩
  have hxb : p.block < w.heap.size := hpl
  generalize hX : w.heap.size = X at *
  generalize w.alloc (Obj.cells #[PT p, I n, FN 132, FN 133] 179) = W1 at *
  refine rt200 X b p n V rfl (by rfl) (by rfl) _ _ (by simp) rfl rfl (Tq w b g s (rr2 n s) p V X #[PT p, I n, FN 132, FN 133] 179 7 9) H (fun i hi c L W hW => hW.pure i (fun e => hi (by simp [e])) (fun e => hi (by simp [e]))) (fun c L W hW _ _ => s_ld (T := 172) (fun _ => by kernel_rfl) (hW.ld 0 _ rfl)) (fun c L W hW _ _ => s_ld (T := 176) (fun _ => by kernel_rfl) (hW.ld 3 _ rfl)) (fun c L W hW _ _ => s_ld (T := 3) (fun _ => by kernel_rfl) (hW.ld 1 _ rfl))
    (fun c L W hW hL _ _ _ => ((hW.2.2.1 hL).1.raw n hs).mono fun e w' q => ⟨c, fun _ _ => rfl, q.1.trans (by rw [hV]; rfl), hW.call hL (by decide) (by omega) q.2.1 q.2.2⟩)
    (fun c L W hW hL hc _ => ⟨_, s_st (T := 9) (fun _ => by kernel_rfl) (hW.place hc hL hp ho hb).1 (hW.place hc hL hp ho hb).2 hV1, hW.store hc hL (by decide) (by omega)⟩) ?_
  intro c L W hall hW
  have hw := hW.2.2.2.2 (hall 9 (by decide))
  simp only [Act.put, List.setIfInBounds_toArray, List.set_cons_succ, List.set_cons_zero]
  show bodyPost _ _ _ _ _ _
  subst hV
  have HW := hide hw
  clear hw H hall hW hV1 hp ho hb hs h hbl hpl hxb hX
  go_end0
  exact ⟨rfl, unhide HW⟩

theorem takeT {w : World} {b g : Nat} {s : Bs × Nat} (h : Ra b g s w) (p : Addr) (n : Nat) {old : Value} {cs : Array Value} {ty : TypeId} (hp : w.heap[p.block]? = some (.cells cs ty (0, 0))) (ho : w.cell? p = some old) (hb : p.block ≠ b) (hs : s.1.length ≤ 9223372036854775807) :
    Calls Tryz.prog 206 #[.agg #[PT p, I n, FN 137, FN 138], ptr b] w fun e w' => e = .returned (.tuple #[]) ∧ ∃ W2, Ra b g (ts n s) W2 ∧ Only (fun k => k = b) w W2 ∧ w' = W2.setCell p (S (tv n s)) := by
  have hbl : b < w.heap.size := by
    obtain ⟨o, c, q⟩ := h
    exact lt_of_row q.row
  have hpl := lt_of_row hp
  have H := Tq.start (s' := (ts n s)) (p := p) (v := S (tv n s)) (vs := #[PT p, I n, FN 137, FN 138]) (t := 194) (c := 7) (d := 9) h
  go_enter Tryz.func206, Tryz.ntmps206
  go_wp2_with fail
  generalize hV : S (tv n s) = V at *
  have hV1 : Sv V := by rw [← hV]; exact .inl ⟨_, rfl⟩
  have hxb : p.block < w.heap.size := hpl
  generalize hX : w.heap.size = X at *
  generalize w.alloc (Obj.cells #[PT p, I n, FN 137, FN 138] 194) = W1 at *
  refine rt206 X b p n V rfl (by rfl) (by rfl) _ _ (by simp) rfl rfl (Tq w b g s (ts n s) p V X #[PT p, I n, FN 137, FN 138] 194 7 9) H (fun i hi c L W hW => hW.pure i (fun e => hi (by simp [e])) (fun e => hi (by simp [e]))) (fun c L W hW _ _ => s_ld (T := 172) (fun _ => by kernel_rfl) (hW.ld 0 _ rfl)) (fun c L W hW _ _ => s_ld (T := 176) (fun _ => by kernel_rfl) (hW.ld 3 _ rfl)) (fun c L W hW _ _ => s_ld (T := 3) (fun _ => by kernel_rfl) (hW.ld 1 _ rfl))
    (fun c L W hW hL _ _ _ => ((hW.2.2.1 hL).1.text n hs).mono fun e w' q => ⟨c, fun _ _ => rfl, q.1.trans (by rw [hV]; rfl), hW.call hL (by decide) (by omega) q.2.1 q.2.2⟩)
    (fun c L W hW hL hc _ => ⟨_, s_st (T := 9) (fun _ => by kernel_rfl) (hW.place hc hL hp ho hb).1 (hW.place hc hL hp ho hb).2 hV1, hW.store hc hL (by decide) (by omega)⟩) ?_
  intro c L W hall hW
  have hw := hW.2.2.2.2 (hall 9 (by decide))
  simp only [Act.put, List.setIfInBounds_toArray, List.set_cons_succ, List.set_cons_zero]
  show bodyPost _ _ _ _ _ _
  subst hV
  have HW := hide hw
  clear hw H hall hW hV1 hp ho hb hs h hbl hpl hxb hX
  go_end0
  exact ⟨rfl, unhide HW⟩

theorem takeI {w : World} {b g : Nat} {s : Bs × Nat} (h : Ra b g s w) (p : Addr) (n : Nat) {old : Value} {cs : Array Value} {ty : TypeId} (hp : w.heap[p.block]? = some (.cells cs ty (0, 0))) (ho : w.cell? p = some old) (hb : p.block ≠ b) (hs : s.1.length ≤ 9223372036854775807) :
    Calls Tryz.prog 208 #[.agg #[PT p, I n, FN 135, FN 136], ptr b] w fun e w' => e = .returned (.tuple #[]) ∧ ∃ W2, Ra b g (rs n s) W2 ∧ Only (fun k => k = b) w W2 ∧ w' = W2.setCell p (I (rv n s)) := by
  have hbl : b < w.heap.size := by
    obtain ⟨o, c, q⟩ := h
    exact lt_of_row q.row
  have hpl := lt_of_row hp
  have H := Tq.start (s' := (rs n s)) (p := p) (v := I (rv n s)) (vs := #[PT p, I n, FN 135, FN 136]) (t := 197) (c := 7) (d := 9) h
  go_enter Tryz.func208, Tryz.ntmps208
  go_wp2_with fail
  generalize hV : I (rv n s) = V at *
  have hV1 : Sv V := by rw [← hV]; exact .inr (.inl ⟨_, rfl⟩)
  have hxb : p.block < w.heap.size := hpl
  generalize hX : w.heap.size = X at *
  generalize w.alloc (Obj.cells #[PT p, I n, FN 135, FN 136] 197) = W1 at *
  refine rt208 X b p n V rfl (by rfl) (by rfl) _ _ (by simp) rfl rfl (Tq w b g s (rs n s) p V X #[PT p, I n, FN 135, FN 136] 197 7 9) H (fun i hi c L W hW => hW.pure i (fun e => hi (by simp [e])) (fun e => hi (by simp [e]))) (fun c L W hW _ _ => s_ld (T := 195) (fun _ => by kernel_rfl) (hW.ld 0 _ rfl)) (fun c L W hW _ _ => s_ld (T := 188) (fun _ => by kernel_rfl) (hW.ld 3 _ rfl)) (fun c L W hW _ _ => s_ld (T := 3) (fun _ => by kernel_rfl) (hW.ld 1 _ rfl))
    (fun c L W hW hL _ _ _ => ((hW.2.2.1 hL).1.num n hs).mono fun e w' q => ⟨c, fun _ _ => rfl, q.1.trans (by rw [hV]; rfl), hW.call hL (by decide) (by omega) q.2.1 q.2.2⟩)
    (fun c L W hW hL hc _ => ⟨_, s_st (T := 3) (fun _ => by kernel_rfl) (hW.place hc hL hp ho hb).1 (hW.place hc hL hp ho hb).2 hV1, hW.store hc hL (by decide) (by omega)⟩) ?_
  intro c L W hall hW
  have hw := hW.2.2.2.2 (hall 9 (by decide))
  simp only [Act.put, List.setIfInBounds_toArray, List.set_cons_succ, List.set_cons_zero]
  show bodyPost _ _ _ _ _ _
  subst hV
  have HW := hide hw
  clear hw H hall hW hV1 hp ho hb hs h hbl hpl hxb hX
  go_end0
  exact ⟨rfl, unhide HW⟩

end Go.Proofs.YtpidmpefodnffaaGreatDoor
namespace Go.Proofs.YtpidmpefodnffaaGreatDoor
open Go.RowKit
set_option maxHeartbeats 4000000
set_option maxRecDepth 8000
/-- A field that is laid down as X, whatever stands ahead of it. -/
def Pf (w0 : World) (v : Value) (X : Bs) : Prop := ∃ (t : TypeId) (V : Value) (f : Nat), v = .iface t V ∧ (∀ W, (method 441 t V "latchkey/record.put").run Tryz.prog W = .ok (f, V) W) ∧ (∀ (ar : Array Value) (W : World), (callFunc f ar).run Tryz.prog W = .ok (.enter f ar) W) ∧
  ∀ (b : Nat) (Y : Bs) (w : World), Wt w0 b Y w → Y.length + X.length ≤ 1000000000 → Calls Tryz.prog f #[V, ptr b] w fun e w' => e = .returned (.tuple #[]) ∧ Wt w0 b (Y ++ X) w'
theorem cf {f : FuncId} {fn : Func} {c : Code} (hf : Tryz.prog.funcs[f]? = some fn) (hname : (fn.name == "runtime.NumGoroutine") = false) (hb : fn.body = some c) (ar : Array Value) (w : World) : (callFunc f ar).run Tryz.prog w = .ok (.enter f ar) w :=
  Go.MuLone.run_callFunc_enter (P := Tryz.prog) hf hname hb ar w
theorem mp179 (V : Value) (W : World) : (method 441 179 V "latchkey/record.put").run Tryz.prog W = .ok (199, V) W := by kernel_rfl
theorem mp183 (V : Value) (W : World) : (method 441 183 V "latchkey/record.put").run Tryz.prog W = .ok (201, V) W := by kernel_rfl
theorem mp194 (V : Value) (W : World) : (method 441 194 V "latchkey/record.put").run Tryz.prog W = .ok (205, V) W := by kernel_rfl
theorem mp197 (V : Value) (W : World) : (method 441 197 V "latchkey/record.put").run Tryz.prog W = .ok (207, V) W := by kernel_rfl
theorem mp200 (V : Value) (W : World) : (method 441 200 V "latchkey/record.put").run Tryz.prog W = .ok (209, V) W := by kernel_rfl
theorem mt179 (V : Value) (W : World) : (method 441 179 V "latchkey/record.take").run Tryz.prog W = .ok (200, V) W := by kernel_rfl
theorem mt194 (V : Value) (W : World) : (method 441 194 V "latchkey/record.take").run Tryz.prog W = .ok (206, V) W := by kernel_rfl
theorem mt197 (V : Value) (W : World) : (method 441 197 V "latchkey/record.take").run Tryz.prog W = .ok (208, V) W := by kernel_rfl
theorem mt200 (V : Value) (W : World) : (method 441 200 V "latchkey/record.take").run Tryz.prog W = .ok (210, V) W := by kernel_rfl
theorem Pf.W {w0 : World} (p : Addr) (n : Int) (x : Bs) (hp : w0.cell? p = some (S x)) : Pf w0 (.iface 179 (.agg #[PT p, I n, FN 132, FN 133])) x :=
  ⟨179, _, 199, rfl, mp179 _, cf Tryz.func199 (by kernel_rfl) rfl, fun _ _ _ h hY => putW h p n x hp hY⟩
theorem Pf.R {w0 : World} (p : Addr) (n : Int) (x : Bs) (hp : w0.cell? p = some (S x)) : Pf w0 (.iface 183 (.agg #[PT p, I n, FN 132, FN 134, FN 133])) x :=
  ⟨183, _, 201, rfl, mp183 _, cf Tryz.func201 (by kernel_rfl) rfl, fun _ _ _ h hY => putR h p n x hp hY⟩
theorem Pf.T {w0 : World} (p : Addr) (n : Nat) (x : Bs) (hp : w0.cell? p = some (S x)) (hm : n ≤ 255) (hs : x.length ≤ n) : Pf w0 (.iface 194 (.agg #[PT p, I n, FN 137, FN 138])) (be 1 x.length ++ x) :=
  ⟨194, _, 205, rfl, mp194 _, cf Tryz.func205 (by kernel_rfl) rfl, fun _ _ _ h hY => putT h p n x hp hm hs (by omega)⟩
theorem Pf.I {w0 : World} (p : Addr) (n : Nat) (z : Int) (hp : w0.cell? p = some (.int .i64 z)) (s1 : 1 ≤ n) (s8 : n ≤ 8) (n0 : 0 ≤ z) (n1 : z < 256 ^ n) (n2 : z ≤ 9223372036854775807) : Pf w0 (.iface 197 (.agg #[PT p, .int .i64 n, FN 135, FN 136])) (be n z.toNat) :=
  ⟨197, _, 207, rfl, mp197 _, cf Tryz.func207 (by kernel_rfl) rfl, fun _ _ _ h hY => putI h p n z hp s1 s8 n0 n1 n2 (by omega)⟩
/-- What fields lay down, one behind the other. -/
def cat (X : Nat → Bs) : Nat → Bs
  | 0 => []
  | i + 1 => cat X i ++ X i
theorem cat_le (X : Nat → Bs) (n : Nat) : ∀ i, i ≤ n → (cat X i).length ≤ (cat X n).length := by
  induction n with
  | zero => intro i hi; rw [Nat.le_zero.1 hi]; exact Nat.le_refl _
  | succ n ih =>
    intro i hi
    rcases Nat.lt_or_ge i (n + 1) with q | q
    · have := ih i (by omega)
      simp [cat]; omega
    · rw [Nat.le_antisymm hi q]; exact Nat.le_refl _
/-- Fields, in a row in memory. -/
def Frow (w : World) (a : Option Addr) (n : Nat) (V : Nat → Value) : Prop := 0 < n → ∃ k o, a = some ⟨k, o, none⟩ ∧ ∀ i, i < n → w.cell? ⟨k, o + i, none⟩ = some (V i)
theorem Frow.below {w w' : World} {a : Option Addr} {n : Nat} {V : Nat → Value} (h : Frow w a n V) (hb : Below w.heap.size w w') : Frow w' a n V := fun hn => by
  obtain ⟨k, o, e, q⟩ := h hn
  exact ⟨k, o, e, fun i hi => cell_below (q i hi) hb (cell_lt (q i hi))⟩
theorem laid_any (a : Option Addr) (n : Nat) (V : Nat → Value) (X : Nat → Bs) (w : World) (hn : n ≤ 1000) (hr : Frow w a n V) (hf : ∀ i, i < n → Pf w (V i) (X i)) (hl : (cat X n).length ≤ 1000000000) :
    Calls Tryz.prog 117 #[.slice a n n] w fun e w' => e = .returned (S (cat X n)) ∧ Below w.heap.size w w' := by
  have HN := hide (Wt.new w)
  have HF := hide hf
  have HR := hide hr
  have HL := hide hl
  have HC := hide (cat_le X n)
  clear hf hr hl
  go_enter Tryz.func117, Tryz.ntmps117
  go_wp2_with fail
  refine (unhide HN).mono ?_
  rintro e w1 ⟨rfl, hw1⟩
  have HW := hide hw1
  generalize w.heap.size = b at HW ⊢
  clear hw1 HN
  go_wp2_with fail
  go_loopw [11] (fun i wr => ∃ k : Nat, k ≤ n ∧ i = I k ∧ Wt w b (cat X k) wr) (fun i _ => n - (Go.RowKit.intOf i).toNat)
  case atStart => exact ⟨0, Nat.zero_le _, rfl, unhide HW⟩
  case round =>
    obtain ⟨k, hk, rfl, hw⟩ := hrel
    clear HW
    by_cases hlt : k < n
    · have hlt' : (k : Int) < (n : Int) := by omega
      obtain ⟨g, o, e, hc⟩ := (unhide HR).below (hw.below.mono (Nat.le_refl _)) (by omega : 0 < n)
      have hck := hc k hlt
      obtain ⟨t, V', f, hv, hm, hcf, hcall⟩ := unhide HF k hlt
      rw [hv] at hck
      have hcl := cell_lt hck
      have HCL := hide (hcall b (cat X k) wr hw (by have h1 := unhide HC (k + 1) (by omega); have h2 := unhide HL; simp [cat] at h1; omega))
      subst e
      clear hc hcall hw HR HF HL HC hv
      go_wp2_with fail
      refine (unhide HCL).mono ?_
      rintro e w2 ⟨rfl, hw2⟩
      have HW2 := hide hw2
      clear hw2 HCL hck hm hcf
      go_wp2
      refine ⟨⟨k + 1, by omega, by go_num, unhide HW2⟩, ?_⟩
      simp [Go.RowKit.intOf]; omega
    · have hd : ¬ (k : Int) < (n : Int) := by omega
      have ek : k = n := by omega
      subst ek
      have HD := hide hw.done
      clear hw HR HF HL HC
      go_wp2_with fail
      refine (unhide HD).mono ?_
      rintro e w2 ⟨rfl, hw2⟩
      have HW2 := hide hw2
      clear hw2 HD
      go_wp2
      go_ret
      exact ⟨rfl, unhide HW2⟩
end Go.Proofs.YtpidmpefodnffaaGreatDoor
