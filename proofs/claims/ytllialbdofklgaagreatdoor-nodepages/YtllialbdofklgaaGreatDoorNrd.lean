import Derived.Test.YtllialbdofklgaaGreatDoorNwt
import Derived.Test.YtllialbdofklgaaGreatDoorZcob
import Derived.Test.YtllialbdofklgaaGreatDoorZdetl
namespace Go.Proofs.YtllialbdofklgaaGreatDoor
open Go.RowKit
set_option maxHeartbeats 4000000
set_option maxRecDepth 8000
/-- What a Reader tells of a number, and where it stands then. -/
def rv (size : Nat) (s : Bs × Nat) : Int := if fine s.2 (rNumE size s.1) then (nat (s.1.take size) : Int) else 0
def rs (size : Nat) (s : Bs × Nat) : Bs × Nat := rGo s.1 s.2 (rNumE size s.1) size
/-- A Reader that came behind w0. -/
def Rd (w0 : World) (b g : Nat) (s : Bs × Nat) (w : World) : Prop := (∃ off cap, RAt b g off cap s.1 s.2 w) ∧ Below w0.heap.size w0 w ∧ w0.heap.size ≤ b ∧ w0.heap.size ≤ g
theorem rGo_len (R : Bs) (E e k : Nat) : (rGo R E e k).1.length ≤ R.length := by
  unfold rGo
  split
  · exact Nat.le_refl _
  · split
    · exact Nat.le_refl _
    · simp
theorem Rd.new (s : Bs) (w : World) : Calls Tryz.prog 92 #[S s] w fun e w' => ∃ b g, e = .returned (ptr b) ∧ Rd w b g (s, 0) w' := by
  refine (newreader_any s w).mono ?_
  rintro e w' ⟨b, g, cap, rfl, h1, h2, h3, h4⟩
  exact ⟨b, g, rfl, ⟨0, cap, h3⟩, h4, h1, h2⟩
theorem Rd.keep {P : Nat → Prop} {w0 w w' : World} {b g : Nat} {s : Bs × Nat} (h : Rd w0 b g s w) (k : Only P w w') (hb : ¬ P b) (hg : ¬ P g) (hp : ∀ i, P i → w0.heap.size ≤ i) : Rd w0 b g s w' := by
  obtain ⟨⟨off, cap, h1⟩, h2, h3, h4⟩ := h
  exact ⟨⟨off, cap, h1.keep k hb hg⟩, k.below h2 h2.size hp, h3, h4⟩
/-- A call within a region that draws its order. -/
theorem step_calls {ops : Array Oper} {o : Oper} {a : Act} {w : World} {K : Act → World → Prop} {Q : Exit → Act → World → Prop} {R : Prop} {f : FuncId} {fn : Func} {c : Code} (hf : Tryz.prog.funcs[f]? = some fn) (hname : (fn.name == "runtime.NumGoroutine") = false) (hb : fn.body = some c) (hgd : o.guard = none) (xs : Array Operand) (ty : Array TypeId)
    (ho : o.op = .call { callee := .value (.func f), args := xs, argTypes := ty }) (args : Array Value) (hargs : xs.map a.eval = args) (v : Value) (Post : World → Prop) (hc : Calls Tryz.prog f args w fun e w' => e = .returned v ∧ Post w') (h : ∀ w', Post w' → K (a.put o.dst v) w') :
    if Region.wanted o (yielded ops a.tmps) = true then Oper.wp Tryz.prog o a w K Q else R := by
  have hw : Region.wanted o (yielded ops a.tmps) = true := by simp [Region.wanted, hgd]
  rw [if_pos hw]
  unfold Oper.wp
  rw [run_calls hf hname hb a.eval o xs ty ho rfl, Oper.upon_enter, hargs]
  refine hc.mono ?_
  rintro e w' ⟨rfl, hW⟩
  exact h w' hW
end Go.Proofs.YtllialbdofklgaaGreatDoor
