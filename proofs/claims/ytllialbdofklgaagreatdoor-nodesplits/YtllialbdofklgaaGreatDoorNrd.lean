import Derived.Test.YtllialbdofklgaaGreatDoorNwt
import Derived.Test.YtllialbdofklgaaGreatDoorZdsa
import Derived.Test.YtllialbdofklgaaGreatDoorZdetl
namespace Go.Proofs.YtllialbdofklgaaGreatDoor
open Go.RowKit
set_option maxHeartbeats 4000000
set_option maxRecDepth 8000
/-- What a Reader tells of a number, and where it stands then. -/
def rv (size : Nat) (s : Bs × Nat) : Int := if fine s.2 (rNumE size s.1) then (nat (s.1.take size) : Int) else 0
def rs (size : Nat) (s : Bs × Nat) : Bs × Nat := rGo s.1 s.2 (rNumE size s.1) size
/-- A Reader that came behind w0. -/
def Rd (w0 : World) (b g : Nat) (s : Bs × Nat) (w : World) : Prop := (∃ off cap, RAt b g off cap s.1 s.2 w) ∧ Below w0.heap.size w0 w ∧ w0.heap.size ≤ b ∧ w0.heap.size ≤ g
theorem rGo_len (R : Bs) (E e k : Nat) : (rGo R E e k).1.length ≤ R.length := by
  unfold rGo
  split
  · exact Nat.le_refl _
  · split
    · exact Nat.le_refl _
    · simp
theorem Rd.new (s : Bs) (w : World) : Calls Tryz.prog 92 #[S s] w fun e w' => ∃ b g, e = .returned (ptr b) ∧ Rd w b g (s, 0) w' := by
  refine (newreader_any s w).mono ?_
  rintro e w' ⟨b, g, cap, rfl, h1, h2, h3, h4⟩
  exact ⟨b, g, rfl, ⟨0, cap, h3⟩, h4, h1, h2⟩
theorem Rd.num {w0 w : World} {b g : Nat} {s : Bs × Nat} (h : Rd w0 b g s w) (size : Nat) (hs : s.1.length ≤ 1000) :
    Calls Tryz.prog 93 #[ptr b, I size] w fun e w' => e = .returned (I (rv size s)) ∧ Rd w0 b g (rs size s) w' ∧ Only (fun k => k = b) w w' := by
  obtain ⟨⟨off, cap, h1⟩, h2, h3, h4⟩ := h
  refine (rnum_any b g off cap s.1 s.2 size w h1 (by omega)).mono ?_
  rintro e w' ⟨rfl, h5, h6⟩
  rw [Int.toNat_natCast] at h5 ⊢
  exact ⟨rfl, ⟨h5, h6.below h2 h2.size (fun k hk => by rw [hk]; exact h3), h3, h4⟩, h6⟩
theorem Rd.keep {P : Nat → Prop} {w0 w w' : World} {b g : Nat} {s : Bs × Nat} (h : Rd w0 b g s w) (k : Only P w w') (hb : ¬ P b) (hg : ¬ P g) (hp : ∀ i, P i → w0.heap.size ≤ i) : Rd w0 b g s w' := by
  obtain ⟨⟨off, cap, h1⟩, h2, h3, h4⟩ := h
  exact ⟨⟨off, cap, h1.keep k hb hg⟩, k.below h2 h2.size hp, h3, h4⟩
/-- A call within a region that draws its order. -/
theorem step_calls {ops : Array Oper} {o : Oper} {a : Act} {w : World} {K : Act → World → Prop} {Q : Exit → Act → World → Prop} {R : Prop} {f : FuncId} {fn : Func} {c : Code} (hf : Tryz.prog.funcs[f]? = some fn) (hname : (fn.name == "runtime.NumGoroutine") = false) (hb : fn.body = some c) (hgd : o.guard = none) (xs : Array Operand) (ty : Array TypeId)
    (ho : o.op = .call { callee := .value (.func f), args := xs, argTypes := ty }) (args : Array Value) (hargs : xs.map a.eval = args) (v : Value) (Post : World → Prop) (hc : Calls Tryz.prog f args w fun e w' => e = .returned v ∧ Post w') (h : ∀ w', Post w' → K (a.put o.dst v) w') :
    if Region.wanted o (yielded ops a.tmps) = true then Oper.wp Tryz.prog o a w K Q else R := by
  have hw : Region.wanted o (yielded ops a.tmps) = true := by simp [Region.wanted, hgd]
  rw [if_pos hw]
  unfold Oper.wp
  rw [run_calls hf hname hb a.eval o xs ty ho rfl, Oper.upon_enter, hargs]
  refine hc.mono ?_
  rintro e w' ⟨rfl, hW⟩
  exact h w' hW
/-- One more number behind a row of one's own, within a region that draws its order. -/
theorem step_pushI {ops : Array Oper} {o : Oper} {a : Act} {K : Act → World → Prop} {Q : Exit → Act → World → Prop} {R : Prop} (hgd : o.guard = none) (s x : Operand)
    (ho : o.op = .call { callee := .builtin .append, args := #[s, x], argTypes := #[23, 23] })
    (v : Value) (n : Nat) (xs : List Value) (hs : a.eval s = v) (w0 : World) (z : Int) (hown : w0.ownsRow 0 3 1 v n xs)
    (hx : a.eval x = .slice (some ⟨w0.heap.size, 0, none⟩) 1 1) (hlen : n + 1 ≤ 1000000000000)
    (h : ∀ p cap w', w'.ownsRow 0 3 1 (.slice p (n + 1) cap) (n + 1) (xs ++ [I z]) → Only (fun k => v.ownBlock = some k) w0 w' → (∀ k, (Value.slice p (n + 1) cap).ownBlock = some k → v.ownBlock = some k ∨ w0.heap.size ≤ k) → K (a.put o.dst (.slice p (n + 1) cap)) w') :
    if Region.wanted o (yielded ops a.tmps) = true then Oper.wp Tryz.prog o a (w0.alloc (.cells #[I z] 3)) K Q else R := by
  have hw : Region.wanted o (yielded ops a.tmps) = true := by simp [Region.wanted, hgd]
  rw [if_pos hw]
  obtain ⟨p, cap, w', hr, h2, h3, h4⟩ := app_own 23 3 o.type _ 1 8 Tryz.underlying23 info3 rfl (by decide) v n xs w0 hown [I z] rfl (by intro u hu; simp at hu; subst hu; rfl) (by omega) (by omega)
  unfold Oper.wp execOp
  simp only [ho, resolve, invoke, builtin, Sem.run_bind, Sem.run_pure, Result.andThen_ok, List.map_toArray, List.map_cons, List.map_nil, hs, hx]
  rw [show (w0.alloc (.cells #[I z] 3)) = w0.alloc (.cells [I z].toArray 3) from rfl, hr]
  exact h p cap w' h2 h3 h4
end Go.Proofs.YtllialbdofklgaaGreatDoor
