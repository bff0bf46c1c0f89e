import Derived.Test.YthlacailhfhjnaaGreatDoorWbi
namespace Go.Proofs.YthlacailhfhjnaaGreatDoor
open Go.RowKit Go.Lib
/-- Of the old blocks none but these may have turned. -/
structure Only (P : Nat → Prop) (w w' : World) : Prop where
  os : w'.os = w.os
  tape : w'.tape = w.tape
  output : w'.output = w.output
  size : w.heap.size ≤ w'.heap.size
  block : ∀ k, k < w.heap.size → ¬ P k → w'.heap[k]? = w.heap[k]?
theorem Only.refl (P : Nat → Prop) (w : World) : Only P w w := ⟨rfl, rfl, rfl, Nat.le_refl _, fun _ _ _ => rfl⟩
theorem Only.trans {P Q : Nat → Prop} {a b c : World} (h1 : Only P a b) (h2 : Only Q b c) (hq : ∀ k, k < a.heap.size → Q k → P k) : Only P a c :=
  ⟨h2.os.trans h1.os, h2.tape.trans h1.tape, h2.output.trans h1.output, Nat.le_trans h1.size h2.size, fun k hk hp => (h2.block k (Nat.lt_of_lt_of_le hk h1.size) (fun q => hp (hq k hk q))).trans (h1.block k hk hp)⟩
theorem Only.mono {P Q : Nat → Prop} {a b : World} (h : Only P a b) (hq : ∀ k, k < a.heap.size → P k → Q k) : Only Q a b := ⟨h.os, h.tape, h.output, h.size, fun k hk hp => h.block k hk (fun q => hp (hq k hk q))⟩
theorem Only.of_below {P : Nat → Prop} {w w' : World} (h : Below w.heap.size w w') : Only P w w' := ⟨h.os, h.tape, h.output, h.size, fun k hk _ => h.block k hk⟩
theorem Only.below {P : Nat → Prop} {a w w' : World} {base : Nat} (h : Only P w w') (hb : Below base a w) (hle : base ≤ w.heap.size) (hp : ∀ k, P k → base ≤ k) : Below base a w' :=
  hb.trans ⟨h.os, h.tape, h.output, h.size, fun k hk => h.block k (by omega) (fun q => by have := hp k q; omega)⟩
theorem Only.of_grown {w w' : World} {row : Option Nat} (h : w.grownBy w' row) : Only (fun k => row = some k) w w' := ⟨h.os, h.tape, h.output, h.size, fun k hk hp => h.block k hk (fun e => hp e.symm)⟩
theorem Only.drew (P : Nat → Prop) (w : World) : Only P w w.drew := ⟨rfl, rfl, rfl, Nat.le_refl _, fun _ _ _ => rfl⟩
theorem Only.drewN (P : Nat → Prop) (w : World) (n : Nat) : Only P w (w.drewN n) := ⟨rfl, rfl, rfl, Nat.le_refl _, fun _ _ _ => rfl⟩
theorem Only.alloc (P : Nat → Prop) (w : World) (o : Obj) : Only P w (w.alloc o) := Only.of_below ((Below.refl _ _).alloc (Nat.le_refl _) o)
theorem Only.setCell (w : World) (a : Addr) (v : Value) : Only (fun k => k = a.block) w (w.setCell a v) :=
  ⟨rfl, rfl, rfl, by simp [World.setCell], fun k _ hp => heap_setCell_other w a k v hp⟩
/-- One more cell of a block that may turn, or of a new one. -/
theorem Only.put {P : Nat → Prop} {w w' : World} (h : Only P w w') (a : Addr) (v : Value) (ha : P a.block ∨ w.heap.size ≤ a.block) : Only P w (w'.setCell a v) :=
  h.trans (Only.setCell w' a v) (fun k hk e => by subst e; rcases ha with q | q; exact q; omega)
theorem Only.more {P : Nat → Prop} {w w' : World} (h : Only P w w') (o : Obj) : Only P w (w'.alloc o) := h.trans (Only.alloc P w' o) (fun _ _ q => q)
theorem Env.only {P : Nat → Prop} {B : Nat} {w w' : World} (h : Env B w) (ho : Only P w w') (hp : ∀ k, P k → B ≤ k) : Env B w' :=
  h.below (ho.below (Below.refl _ _) h.le hp)
theorem lt_of_row {w : World} {b : Nat} {o : Obj} (h : w.heap[b]? = some o) : b < w.heap.size := (Array.getElem?_eq_some_iff.1 h).1
theorem owns_same {e n m : Nat} {w w' : World} {v : Value} {xs : List Value} (h : w.ownsRow 0 e n v m xs) (hb : ∀ k, v.ownBlock = some k → w'.heap[k]? = w.heap[k]?) : w'.ownsRow 0 e n v m xs := by
  refine ⟨h.1, ?_⟩
  rcases h.2 with q | ⟨g, cap, cur, e1, e2, e3, e4⟩
  · exact .inl q
  · exact .inr ⟨g, cap, cur, e1, e2, (hb g (by rw [e1]; rfl)).trans e3, e4⟩
theorem owns_lt {e n m : Nat} {w : World} {v : Value} {xs : List Value} (h : w.ownsRow 0 e n v m xs) : ∀ k, v.ownBlock = some k → ∃ cs, w.heap[k]? = some (.cells cs e (0, 0)) := by
  intro k hk
  rcases h.2 with ⟨e1, _⟩ | ⟨g, cap, cur, e1, e2, e3, e4⟩
  · rw [e1] at hk; cases hk
  · rw [e1] at hk
    cases hk
    exact ⟨cur, e3⟩
theorem owns_form {e n m : Nat} {w : World} {v : Value} {xs : List Value} (h : w.ownsRow 0 e n v m xs) : ∃ p cap, v = .slice p m cap := by
  rcases h.2 with ⟨e, q⟩ | ⟨g, cap, cur, e1, e2⟩
  · exact ⟨none, 0, by rw [e, q]⟩
  · exact ⟨_, cap, e1⟩
def cellsF (fs : List Fl) : List Value := fs.flatMap fun f => [S f.1, S f.2]
theorem cellsF_len (fs : List Fl) : (cellsF fs).length = fs.length * 2 := by
  unfold cellsF
  induction fs with
  | nil => rfl
  | cons f l ih => simp at ih ⊢; omega
theorem cellsF_append (a b : List Fl) : cellsF (a ++ b) = cellsF a ++ cellsF b := by simp [cellsF]
abbrev ptr (b : Nat) : Value := .pointer (some ⟨b, 0, none⟩)
def bdv (p : Ps) : Bs := if p.st = 3 then p.bd else []
def cellsP (op : Nat) (p : Ps) (nx hv : Value) : Array Value :=
  #[.int .i64 p.st, nx, Fn1 op, .int .i64 p.rd, S p.fs.m, S p.fs.p, .int .i64 p.fs.s, hv, .int .i64 p.len, S (bdv p)]
/-- A parser: its block, and its headers. -/
structure PAt (op P : Nat) (p : Ps) (nx hv : Value) (w : World) : Prop where
  blk : w.heap[P]? = some (.cells (cellsP op p nx hv) 91 (0, 0))
  hrow : w.ownsRow 0 35 2 hv p.hs.length (cellsF p.hs)
theorem PAt.cell {op P : Nat} {p : Ps} {nx hv : Value} {w : World} (h : PAt op P p nx hv w) (j : Nat) : w.cell? ⟨P, j, none⟩ = (cellsP op p nx hv)[j]? := cell_of_row w P j _ 91 (0, 0) h.blk
theorem PAt.fz {op P : Nat} {p : Ps} {nx hv : Value} {w : World} (h : PAt op P p nx hv w) (j : Nat) : w.frozen? ⟨P, j, none⟩ = false := frozen_of_row w P j _ 91 h.blk
theorem PAt.lt {op P : Nat} {p : Ps} {nx hv : Value} {w : World} (h : PAt op P p nx hv w) : P < w.heap.size := lt_of_row h.blk
theorem PAt.ne {op P : Nat} {p : Ps} {nx hv : Value} {w : World} (h : PAt op P p nx hv w) : hv.ownBlock ≠ some P := by
  intro e
  obtain ⟨cs, q⟩ := owns_lt h.hrow P e
  have := h.blk.symm.trans q
  simp at this
theorem PAt.keep {op P : Nat} {p : Ps} {nx hv : Value} {w w' : World} {O : Nat → Prop} (h : PAt op P p nx hv w) (ho : Only O w w') (hp : ¬ O P) (hh : ∀ k, hv.ownBlock = some k → ¬ O k) : PAt op P p nx hv w' :=
  ⟨(ho.block P h.lt hp).trans h.blk, owns_same h.hrow (fun k hk => by
    obtain ⟨cs, q⟩ := owns_lt h.hrow k hk
    exact ho.block k (lt_of_row q) (hh k hk))⟩
theorem PAt.below {op P : Nat} {p : Ps} {nx hv : Value} {w w' : World} (h : PAt op P p nx hv w) (hb : Below w.heap.size w w') : PAt op P p nx hv w' :=
  h.keep (Only.of_below (P := fun _ => False) hb) (fun q => q) (fun _ _ q => q)
/-- A cell of its block is set. -/
theorem PAt.set {op op' P : Nat} {p p' : Ps} {nx nx' hv : Value} {w : World} (h : PAt op P p nx hv w) (j : Nat) (x : Value) (e : (cellsP op p nx hv).setIfInBounds j x = cellsP op' p' nx' hv) (eh : p'.hs = p.hs) : PAt op' P p' nx' hv (w.setCell ⟨P, j, none⟩ x) := by
  refine ⟨?_, ?_⟩
  · rw [heap_setCell_same w P j _ 91 x h.blk, e]
  · rw [eh]
    exact owns_same h.hrow (fun k hk => heap_setCell_other w ⟨P, j, none⟩ k x (fun q => h.ne (by rw [hk, q])))
/-- What an answer leaves: the new state, or the old one where something is wrong. -/
def jr (r : Ps × Nat) (p : Ps) : Ps := if r.2 = 0 then r.1 else p
end Go.Proofs.YthlacailhfhjnaaGreatDoor
