import Derived.Test.YtpidmpefodnffaaGreatDoorProg
import Derived.WalkKit
import Derived.BigQuiet
import Derived.Deep.QuietTactic
import Derived.Laws.CopyRow
import Derived.Laws.MakeOwn
import Derived.Maps.AppendAt
namespace Go.Proofs.YtpidmpefodnffaaGreatDoor
open Go.RowKit
theorem hide {p : Prop} (h : p) : Hid p := h
theorem unhide {p : Prop} (h : Hid p) : p := h
theorem ret_int {k : IntKind} {a b : Int} (h : a = b) : Ending.returned (.int k a) = .returned (.int k b) := by rw [h]
theorem ret_bool {a b : Bool} (h : a = b) : Ending.returned (.bool a) = .returned (.bool b) := by rw [h]
abbrev Bs := List UInt8
abbrev I (n : Int) : Value := .int .i64 n
abbrev S (l : Bs) : Value := .string ⟨l.toArray⟩
abbrev ptr (b : Nat) : Value := .pointer (some ⟨b, 0, none⟩)
/-- Of the old blocks none but these may have turned. -/
structure Only (P : Nat → Prop) (w w' : World) : Prop where
  os : w'.os = w.os
  tape : w'.tape = w.tape
  output : w'.output = w.output
  size : w.heap.size ≤ w'.heap.size
  block : ∀ k, k < w.heap.size → ¬ P k → w'.heap[k]? = w.heap[k]?
theorem Only.refl (P : Nat → Prop) (w : World) : Only P w w := ⟨rfl, rfl, rfl, Nat.le_refl _, fun _ _ _ => rfl⟩
theorem Only.trans {P Q : Nat → Prop} {a b c : World} (h1 : Only P a b) (h2 : Only Q b c) (hq : ∀ k, k < a.heap.size → Q k → P k) : Only P a c :=
  ⟨h2.os.trans h1.os, h2.tape.trans h1.tape, h2.output.trans h1.output, Nat.le_trans h1.size h2.size, fun k hk hp => (h2.block k (Nat.lt_of_lt_of_le hk h1.size) (fun q => hp (hq k hk q))).trans (h1.block k hk hp)⟩
theorem Only.mono {P Q : Nat → Prop} {a b : World} (h : Only P a b) (hq : ∀ k, k < a.heap.size → P k → Q k) : Only Q a b := ⟨h.os, h.tape, h.output, h.size, fun k hk hp => h.block k hk (fun q => hp (hq k hk q))⟩
theorem Only.of_below {P : Nat → Prop} {w w' : World} (h : Below w.heap.size w w') : Only P w w' := ⟨h.os, h.tape, h.output, h.size, fun k hk _ => h.block k hk⟩
theorem Only.to_below {w w' : World} (h : Only (fun _ => False) w w') : Below w.heap.size w w' := ⟨h.os, h.tape, h.output, h.size, fun k hk => h.block k hk (fun q => q)⟩
theorem Only.below {P : Nat → Prop} {a w w' : World} {base : Nat} (h : Only P w w') (hb : Below base a w) (hle : base ≤ w.heap.size) (hp : ∀ k, P k → base ≤ k) : Below base a w' :=
  hb.trans ⟨h.os, h.tape, h.output, h.size, fun k hk => h.block k (by omega) (fun q => by have := hp k q; omega)⟩
theorem Only.of_grown {w w' : World} {row : Option Nat} (h : w.grownBy w' row) : Only (fun k => row = some k) w w' := ⟨h.os, h.tape, h.output, h.size, fun k hk hp => h.block k hk (fun e => hp e.symm)⟩
theorem Only.drewN (P : Nat → Prop) (w : World) (n : Nat) : Only P w (w.drewN n) := ⟨rfl, rfl, rfl, Nat.le_refl _, fun _ _ _ => rfl⟩
theorem Only.alloc (P : Nat → Prop) (w : World) (o : Obj) : Only P w (w.alloc o) := Only.of_below ((Below.refl _ _).alloc (Nat.le_refl _) o)
theorem Only.setCell (w : World) (a : Addr) (v : Value) : Only (fun k => k = a.block) w (w.setCell a v) :=
  ⟨rfl, rfl, rfl, by simp [World.setCell], fun k _ hp => heap_setCell_other w a k v hp⟩
/-- One more cell of a block that may turn, or of a new one. -/
theorem Only.put {P : Nat → Prop} {w w' : World} (h : Only P w w') (a : Addr) (v : Value) (ha : P a.block ∨ w.heap.size ≤ a.block) : Only P w (w'.setCell a v) :=
  h.trans (Only.setCell w' a v) (fun k hk e => by subst e; rcases ha with q | q; exact q; omega)
theorem Only.more {P : Nat → Prop} {w w' : World} (h : Only P w w') (o : Obj) : Only P w (w'.alloc o) := h.trans (Only.alloc P w' o) (fun _ _ q => q)
theorem lt_of_row {w : World} {b : Nat} {o : Obj} (h : w.heap[b]? = some o) : b < w.heap.size := (Array.getElem?_eq_some_iff.1 h).1
theorem frz {w : World} {g : Nat} {cs : Array Value} {t : TypeId} (h : w.heap[g]? = some (.cells cs t (0, 0))) (k : Nat) : w.frozen? ⟨g, k, none⟩ = false := by simp [World.frozen?, h]
theorem owns_lt {e n m : Nat} {w : World} {v : Value} {xs : List Value} (h : w.ownsRow 0 e n v m xs) : ∀ k, v.ownBlock = some k → ∃ cs, w.heap[k]? = some (.cells cs e (0, 0)) := by
  intro k hk
  rcases h.2 with ⟨e1, _⟩ | ⟨g, cap, cur, e1, e2, e3, e4⟩
  · rw [e1] at hk; cases hk
  · rw [e1] at hk
    cases hk
    exact ⟨cur, e3⟩
theorem owns_blk {e n m : Nat} {w : World} {v : Value} {xs : List Value} (h : w.ownsRow 0 e n v m xs) : ∀ k, v.ownBlock = some k → k < w.heap.size := fun k hk => by
  obtain ⟨cs, q⟩ := owns_lt h k hk
  exact lt_of_row q
theorem info9 : (Tryz.prog.info? 9).map (fun i => (i.zero, i.size, i.bytes)) = some (some (.string ⟨#[]⟩), 1, 16) := by kernel_rfl
theorem info5 : (Tryz.prog.info? 5).map (fun i => (i.zero, i.size, i.bytes)) = some (some (.int .u8 0), 1, 1) := by kernel_rfl
end Go.Proofs.YtpidmpefodnffaaGreatDoor
