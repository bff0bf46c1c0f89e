import Derived.Test.YtbeionikiiccpaaDoorDetl
/- A region that draws its order, some of whose values come up only as it goes: what is chosen so far is carried. -/
namespace Go.Proofs.YtbeionikiiccpaaDoor
open Go.RowKit
variable {C : Type} {ops : Array Oper} {Q : Exit → Act → World → Prop}
def DoesX (ops : Array Oper) (Q : Exit → Act → World → Prop) (Wd : C → (Nat → Bool) → World → Prop) (val : C → Nat → Value) (i : Nat) (L : Nat → Bool) (c : C) (a : Act) (w : World) : Prop :=
  wpOp Tryd.prog ops Q i (fun a' w' => ∃ c', (∀ j, L j = true → val c' j = val c j) ∧ a' = a.put (dstOf ops i) (val c' i) ∧ Wd c' (upd L i) w') a w
theorem doesX_of {Wd : C → (Nat → Bool) → World → Prop} {val : C → Nat → Value} {i : Nat} {L : Nat → Bool} {c : C} {a : Act} {w : World} (h : DoesL ops Q (Wd c) (val c) i L a w) : DoesX ops Q Wd val i L c a w := by
  unfold DoesX
  refine wpOp_mono ?_ h
  rintro a' w' ⟨rfl, hw⟩
  exact ⟨c, fun _ _ => rfl, rfl, hw⟩
theorem doesX_call {Wd : C → (Nat → Bool) → World → Prop} {val : C → Nat → Value} {i : Nat} {L : Nat → Bool} {c : C} {o : Oper} {a : Act} {w : World} (ho : ops[i]? = some o) (hw : Region.wanted o (yielded ops a.tmps) = true) (f : FuncId) (args : Array Value)
    (hr : (execOp a.eval o).run Tryd.prog w = .ok (.enter f args) w) (hc : Calls Tryd.prog f args w fun e w' => ∃ c', (∀ j, L j = true → val c' j = val c j) ∧ e = .returned (val c' i) ∧ Wd c' (upd L i) w') : DoesX ops Q Wd val i L c a w := by
  unfold DoesX wpOp
  simp only [ho]
  rw [if_pos hw]
  left
  unfold Oper.wp
  rw [hr, Oper.upon_enter]
  refine hc.mono ?_
  rintro e w' ⟨c', h1, rfl, hW⟩
  refine ⟨c', h1, ?_, hW⟩
  simp [dstOf, ho]
theorem frm_congr {a0 : Act} {v v' : Nat → Value} {L : Nat → Bool} (h : ∀ j, L j = true → v' j = v j) : ∀ n, frm ops a0 v' L n = frm ops a0 v L n := by
  intro n
  induction n with
  | zero => rfl
  | succ n ih =>
    simp only [frm]
    split
    · rename_i hn
      rw [ih, h n hn]
    · exact ih
theorem region_detX {id : Nat} {a0 : Act} {w : World} (val : C → Nat → Value) (Wd : C → (Nat → Bool) → World → Prop)
    (hac : ∀ i o, ops[i]? = some o → ∀ e ∈ o.after, Region.binds .any e = true → e.on < i)
    (hdis : ∀ i j, j ≠ i → dstOf ops j ≠ dstOf ops i ∨ dstOf ops j = none)
    (h0 : ∃ c, Wd c (fun _ => false) w.drew)
    (hstep : ∀ i o, ops[i]? = some o → ∀ c L a w, L i = false → (∀ e ∈ o.after, Region.binds .any e = true → L e.on = true) → a = frm ops a0 (val c) L ops.size → Wd c L w → DoesX ops Q Wd val i L c a w)
    (hend : ∀ c L w, (∀ i, i < ops.size → L i = true) → Wd c L w → Q .normal (frm ops a0 (val c) (fun _ => true) ops.size) w) : (Code.region id ops true).wp Tryd.prog Q a0 w := by
  refine region_inv (by kernel_rfl) (fun L a w => ∃ c, a = frm ops a0 (val c) L ops.size ∧ Wd c L w) hac ?_ ?_ ?_
  · obtain ⟨c, h0⟩ := h0
    refine ⟨c, ?_, h0⟩
    have : ∀ n, frm ops a0 (val c) (fun _ => false) n = a0 := by
      intro n
      induction n with
      | zero => rfl
      | succ n ih => simpa [frm] using ih
    exact (this _).symm
  · intro L a w i o ho hL hdep ⟨c, ha, hw⟩
    refine wpOp_mono ?_ (hstep i o ho c L a w hL hdep ha hw)
    rintro a' w' ⟨c', h1, rfl, hw'⟩
    refine ⟨c', ?_, hw'⟩
    rw [frm_upd a0 (val c') L i hL (fun j hj => hdis i j hj), if_pos (Array.getElem?_eq_some_iff.1 ho).1, ha, frm_congr h1]
  · intro L a w hall ⟨c, ha, hw⟩
    have : ∀ n, n ≤ ops.size → frm ops a0 (val c) L n = frm ops a0 (val c) (fun _ => true) n := by
      intro n
      induction n with
      | zero => intro _; rfl
      | succ n ih => intro h; simp only [frm]; rw [hall n (by omega), ih (by omega)]; simp
    rw [ha, this _ (Nat.le_refl _)]
    exact hend c L w hall hw
end Go.Proofs.YtbeionikiiccpaaDoor
