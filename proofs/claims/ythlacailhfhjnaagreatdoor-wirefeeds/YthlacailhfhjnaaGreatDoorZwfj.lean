import Derived.Test.YthlacailhfhjnaaGreatDoorZwde
import Derived.Test.YthlacailhfhjnaaGreatDoorZwdd
import Derived.BigQuiet
import Derived.Test.YthlacailhfhjnaaGreatDoorWcp
import Derived.Test.YthlacailhfhjnaaGreatDoorZdetl
import Derived.Test.YthlacailhfhjnaaGreatDoorZwbd
import Derived.Test.YthlacailhfhjnaaGreatDoorZwdo
import Derived.Laws.CopyRow
import Derived.Laws.MakeOwn
namespace Go.Proofs.YthlacailhfhjnaaGreatDoor
open Go.RowKit Go.Lib
theorem cellsF_set2 (fs : List Fl) (k : Nat) (f : Fl) (h : k < fs.length) : ((cellsF fs).set (k * 2) (S f.1)).set (k * 2 + 1) (S f.2) = cellsF (fs.set k f) := by
  induction fs generalizing k with
  | nil => simp at h
  | cons g l ih =>
    have e : ∀ (g : Fl) (l : List Fl), cellsF (g :: l) = S g.1 :: S g.2 :: cellsF l := fun g l => by simp [cellsF]
    cases k with
    | zero => simp [cellsF]
    | succ k =>
      rw [e, show (k + 1) * 2 = k * 2 + 1 + 1 by omega, List.set_cons_succ, List.set_cons_succ, List.set_cons_succ, List.set_cons_succ, ih k (by simpa using h), List.set_cons_succ, e]
end Go.Proofs.YthlacailhfhjnaaGreatDoor
namespace Go.Proofs.YthlacailhfhjnaaGreatDoor
open Go.RowKit Go.Lib
variable {w wr w' : World} {P2 P3 g1 g2 X5 X8 : Nat} {mm mp mb ba : Bs} {st : Int} {lm la l1 l2 : List Fl} {v2 v3 V1 V2 : Value}
theorem blk_ne {a b : Nat} {cs cs' : Array Value} {T T' : TypeId} (h1 : wr.heap[a]? = some (.cells cs T (0, 0))) (h2 : wr.heap[b]? = some (.cells cs' T' (0, 0))) (hT : T ≠ T') : a ≠ b := by
  intro e
  subst e
  have := h1.symm.trans h2
  simp only [Option.some.injEq, Obj.cells.injEq] at this
  exact hT this.2.1
theorem own_ne {a n m : Nat} {cs : Array Value} {T : TypeId} {v : Value} {xs : List Value} (h1 : wr.heap[a]? = some (.cells cs T (0, 0))) (h2 : wr.ownsRow 0 35 n v m xs) (hT : T ≠ 35) : ∀ k, v.ownBlock = some k → k ≠ a := by
  intro k hk
  obtain ⟨cs', q⟩ := owns_lt h2 k hk
  exact blk_ne q h1 (fun e => hT e.symm)
end Go.Proofs.YthlacailhfhjnaaGreatDoor
