import Derived.Test.YteahenojgcffpaaCkb
namespace Go.Proofs.Yteahenojgcffpaa
open Go.RowKit
structure Only (P : Nat → Prop) (w w' : World) : Prop where
  os : w'.os = w.os
  tape : w'.tape = w.tape
  output : w'.output = w.output
  size : w.heap.size ≤ w'.heap.size
  block : ∀ k, k < w.heap.size → ¬ P k → w'.heap[k]? = w.heap[k]?
theorem Only.refl (P : Nat → Prop) (w : World) : Only P w w := ⟨rfl, rfl, rfl, Nat.le_refl _, fun _ _ _ => rfl⟩
theorem Only.trans {P Q : Nat → Prop} {a b c : World} (h1 : Only P a b) (h2 : Only Q b c) (hq : ∀ k, k < a.heap.size → Q k → P k) : Only P a c :=
  ⟨h2.os.trans h1.os, h2.tape.trans h1.tape, h2.output.trans h1.output, Nat.le_trans h1.size h2.size, fun k hk hp => (h2.block k (Nat.lt_of_lt_of_le hk h1.size) (fun q => hp (hq k hk q))).trans (h1.block k hk hp)⟩
theorem Only.mono {P Q : Nat → Prop} {a b : World} (h : Only P a b) (hq : ∀ k, k < a.heap.size → P k → Q k) : Only Q a b := ⟨h.os, h.tape, h.output, h.size, fun k hk hp => h.block k hk (fun q => hp (hq k hk q))⟩
theorem Only.of_below {P : Nat → Prop} {w w' : World} (h : Below w.heap.size w w') : Only P w w' := ⟨h.os, h.tape, h.output, h.size, fun k hk _ => h.block k hk⟩
theorem Only.below {P : Nat → Prop} {a w w' : World} {base : Nat} (h : Only P w w') (hb : Below base a w) (hle : base ≤ w.heap.size) (hp : ∀ k, P k → base ≤ k) : Below base a w' :=
  hb.trans ⟨h.os, h.tape, h.output, h.size, fun k hk => h.block k (by omega) (fun q => by have := hp k q; omega)⟩
theorem Only.of_grown {w w' : World} {row : Option Nat} (h : w.grownBy w' row) : Only (fun k => row = some k) w w' := ⟨h.os, h.tape, h.output, h.size, fun k hk hp => h.block k hk (fun e => hp e.symm)⟩
theorem Only.drew (P : Nat → Prop) (w : World) : Only P w w.drew := ⟨rfl, rfl, rfl, Nat.le_refl _, fun _ _ _ => rfl⟩
theorem Only.alloc (P : Nat → Prop) (w : World) (o : Obj) : Only P w (w.alloc o) := Only.of_below ((Below.refl _ _).alloc (Nat.le_refl _) o)
theorem Only.setCell (w : World) (a : Addr) (v : Value) : Only (fun k => k = a.block) w (w.setCell a v) :=
  ⟨rfl, rfl, rfl, by simp [World.setCell], fun k _ hp => heap_setCell_other w a k v hp⟩
/-- One more cell of a block that may turn, or of a new one. -/
theorem Only.put {P : Nat → Prop} {w w' : World} (h : Only P w w') (a : Addr) (v : Value) (ha : P a.block ∨ w.heap.size ≤ a.block) : Only P w (w'.setCell a v) :=
  h.trans (Only.setCell w' a v) (fun k hk e => by subst e; rcases ha with q | q; exact q; omega)
theorem Only.more {P : Nat → Prop} {w w' : World} (h : Only P w w') (o : Obj) : Only P w (w'.alloc o) := h.trans (Only.alloc P w' o) (fun _ _ q => q)
abbrev ptr (b : Nat) : Value := .pointer (some ⟨b, 0, none⟩)
/-- A clock: its one cell. -/
def CAt (ty p : Nat) (t : Int) (w : World) : Prop := w.heap[p]? = some (.cells #[I t] ty (0, 0))
theorem CAt.lt {ty p : Nat} {t : Int} {w : World} (h : CAt ty p t w) : p < w.heap.size := (Array.getElem?_eq_some_iff.1 h).1
theorem CAt.cell {ty p : Nat} {t : Int} {w : World} (h : CAt ty p t w) : w.cell? ⟨p, 0, none⟩ = some (I t) := by
  rw [cell_of_row w p 0 _ ty (0, 0) h]
  rfl
theorem CAt.only {ty p : Nat} {t : Int} {w w' : World} {P : Nat → Prop} (h : CAt ty p t w) (ho : Only P w w') (hp : ¬ P p) : CAt ty p t w' := (ho.block p h.lt hp).trans h
theorem CAt.below {ty p : Nat} {t : Int} {w w' : World} (h : CAt ty p t w) (hb : Below w.heap.size w w') : CAt ty p t w' := (hb.block p h.lt).trans h
theorem CAt.set {ty p : Nat} {t u : Int} {w : World} (h : CAt ty p t w) : CAt ty p u (w.setCell ⟨p, 0, none⟩ (I u)) := by
  unfold CAt
  rw [heap_setCell_same w p 0 _ ty _ h]
  rfl
theorem frz {w : World} {g : Nat} {cs : Array Value} {t : TypeId} (h : w.heap[g]? = some (.cells cs t (0, 0))) (k : Nat) : w.frozen? ⟨g, k, none⟩ = false := by simp [World.frozen?, h]
def mx (t r : Int) : Int := if t < nr r then nr r else t
set_option maxHeartbeats 2000000
theorem new_any (f : Int) (w : World) : Calls Try.prog 8 #[I f] w fun e w' => e = .returned (ptr w.heap.size) ∧ CAt 43 w.heap.size (nr f) w' ∧ Below w.heap.size w w' := by
  have H1 := hide (fun W => nearest_any f W)
  generalize nr f = x at *
  go_enter Try.func8, Try.ntmps8
  go_wp2_with (refine (unhide H1 _).mono ?_; rintro e w' ⟨rfl, rfl⟩)
  go_ret
  refine ⟨rfl, ?_, (Below.refl _ _).alloc (Nat.le_refl _) _⟩
  show (_ : Array Obj)[_]? = _
  exact Array.getElem?_push_size
theorem refNew_any (f : Int) (w : World) : Calls Try.prog 9 #[I f] w fun e w' => e = .returned (ptr w.heap.size) ∧ CAt 45 w.heap.size (nr f) w' ∧ Below w.heap.size w w' := by
  have H1 := hide (fun W => refNearest_any f W)
  generalize nr f = x at *
  go_enter Try.func9, Try.ntmps9
  go_wp2_with (refine (unhide H1 _).mono ?_; rintro e w' ⟨rfl, rfl⟩)
  go_ret
  refine ⟨rfl, ?_, (Below.refl _ _).alloc (Nat.le_refl _) _⟩
  show (_ : Array Obj)[_]? = _
  exact Array.getElem?_push_size
theorem now_any (p : Nat) (t : Int) (w : World) (h : CAt 43 p t w) : Calls Try.prog 10 #[ptr p] w fun e w' => e = .returned (I t) ∧ w' = w := by
  have hc := h.cell
  have hl := h.lt
  clear h
  go_enter Try.func10, Try.ntmps10
  go_wp2
  go_ret
  exact ⟨rfl, rfl⟩
theorem refNow_any (p : Nat) (t : Int) (w : World) (h : CAt 45 p t w) : Calls Try.prog 11 #[ptr p] w fun e w' => e = .returned (I t) ∧ w' = w := by
  have hc := h.cell
  have hl := h.lt
  clear h
  go_enter Try.func11, Try.ntmps11
  go_wp2
  go_ret
  exact ⟨rfl, rfl⟩
theorem refSee_any (p : Nat) (t r : Int) (w : World) (h : CAt 45 p t w) : Calls Try.prog 13 #[ptr p, I r] w fun e w' => e = .returned (I (mx t r)) ∧ CAt 45 p (mx t r) w' ∧ Only (fun k => k = p) w w' := by
  have H1 := hide (fun W => refNearest_any r W)
  have hc := h.cell
  have hl := h.lt
  have hz := frz h 0
  unfold mx
  generalize nr r = x at *
  by_cases hx : t < x
  · have hS := hide (h.set (u := x))
    have hO := hide (Only.setCell w ⟨p, 0, none⟩ (I x))
    rw [if_pos hx]
    clear h
    go_enter Try.func13, Try.ntmps13
    go_wp2_with (refine (unhide H1 _).mono ?_; rintro e w' ⟨rfl, rfl⟩)
    go_ret
    exact ⟨rfl, unhide hS, unhide hO⟩
  · have hS := hide h
    rw [if_neg hx]
    clear h
    go_enter Try.func13, Try.ntmps13
    go_wp2_with (refine (unhide H1 _).mono ?_; rintro e w' ⟨rfl, rfl⟩)
    go_ret
    exact ⟨rfl, unhide hS, Only.refl _ _⟩
theorem later_any (p : Nat) (t r : Int) (w : World) (h : CAt 43 p t w) : Calls Try.prog 27 #[.func (.func 10) #[ptr p] #[], I (nr r)] w fun e w' => e = .returned (I (mx t r)) ∧ w' = w := by
  have H1 := hide (now_any p t w h)
  unfold mx
  generalize nr r = x at *
  clear h
  go_enter Try.func27, Try.ntmps27
  go_wp2_with (refine (unhide H1).mono ?_; rintro e w' ⟨rfl, rfl⟩)
  all_goals go_ret
  all_goals refine ⟨ret_int ?_, rfl⟩
  all_goals (repeat' split)
  all_goals omega
theorem see_any (p : Nat) (t r : Int) (w : World) (h : CAt 43 p t w) : Calls Try.prog 12 #[ptr p, I r] w fun e w' => e = .returned (I (mx t r)) ∧ CAt 43 p (mx t r) w' ∧ Only (fun k => k = p) w w' := by
  have H1 := hide (fun W => nearest_any r W)
  have hc := h.cell
  have hl := h.lt
  have hz := frz h 0
  have hS := hide (h.set (u := mx t r))
  have hO := hide (Only.setCell w ⟨p, 0, none⟩ (I (mx t r)))
  have HL := hide (later_any p t r w h)
  generalize mx t r = m at *
  generalize nr r = x at *
  clear h
  go_enter Try.func12, Try.ntmps12
  go_wp2_with (first | (refine (unhide H1 _).mono ?_; rintro e w' ⟨rfl, rfl⟩) | (refine (unhide HL).mono ?_; rintro e w' ⟨rfl, rfl⟩))
  go_ret
  exact ⟨rfl, unhide hS, unhide hO⟩
end Go.Proofs.Yteahenojgcffpaa
