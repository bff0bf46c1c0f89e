import Derived.Test.YtpidmpefodnffaaGreatDoorZfde
namespace Go.Proofs.YtpidmpefodnffaaGreatDoor
open Go.RowKit
def lx (l : List Bs) : Nat → Bs := fun i => l.getD i []
theorem inf30 : (Tryz.prog.info? 30).map (·.size) = some 2 := by kernel_rfl
theorem wp_st30 {ops : Array Oper} {rest : List Oper} {o : Oper} {a : Act} {w : World} {Q : Exit → Act → World → Prop} (hgd : o.guard = none) (x y : Operand) (ho : o.op = .store 30 x y)
    (P : Nat) (hx : a.eval x = .pointer (some ⟨P, 0, none⟩)) (k v : Bs) (hy : a.eval y = .agg #[S k, S v]) (old : Array Value) (ho5 : old.size = 2) (hg : w.heap[P]? = some (.cells old 30 (0, 0)))
    (h : wpList Tryz.prog ops Q rest (a.put o.dst undef) (w.setRow P #[S k, S v])) : wpList Tryz.prog ops Q (o :: rest) a w :=
  wpList_store_row hgd 30 x y ho P _ hx hy 30 old hg inf30 (by rw [ho5]; rfl) (by simp [Value.oneCell']) h
theorem right_one {s : Bs} (h : right [s] = true) : 1 ≤ s.length ∧ s.length ≤ 16 := by
  have h1 := (right_iff.1 h).1 s (by simp)
  simp [nm] at h1
  omega
end Go.Proofs.YtpidmpefodnffaaGreatDoor
