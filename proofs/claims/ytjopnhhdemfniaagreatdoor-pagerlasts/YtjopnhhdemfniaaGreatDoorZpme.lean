import Derived.Test.YtjopnhhdemfniaaGreatDoorPmd
import Derived.Test.YtjopnhhdemfniaaGreatDoorZpic
import Derived.Test.YtjopnhhdemfniaaGreatDoorZpim
import Derived.OwnWalk
import Derived.BigQuiet
import Derived.Test.YtjopnhhdemfniaaGreatDoorZdetl
import Derived.Test.YtjopnhhdemfniaaGreatDoorZdsa
import Derived.Laws.Tables
import Derived.Laws.AppendOwn
namespace Go.Proofs.YtjopnhhdemfniaaGreatDoor
open Go.RowKit
set_option maxHeartbeats 8000000
set_option maxRecDepth 8000
/-- A list that came out, what it must be, and what both read. -/
abbrev En := Value × Value × List Int
variable {B b : Nat} {E : List En} {vF vW : Value} {w w' : World}
end Go.Proofs.YtjopnhhdemfniaaGreatDoor
namespace Go.Proofs.YtjopnhhdemfniaaGreatDoor
open Go.RowKit
set_option maxHeartbeats 8000000
set_option maxRecDepth 8000
variable {B b : Nat} {E : List En} {vF vW : Value} {w w' : World}
theorem smp_self (p : Pg) : smp p p = true := by
  unfold smp
  simp
theorem ins_of {W : World} {q : Option Addr} {l : List Int} {c : Nat} (h : W.ownsRow 0 3 1 (.slice q l.length c) l.length (l.map fun z => I z)) : Ins W q l.length l := by
  obtain ⟨p, c', e, i, _⟩ := Ins.of h
  cases e
  exact i
/-- A page's box is filled. -/
theorem box_fill (W : World) (k m b : Int) (q : Option Addr) (n c : Nat) (x : Bs) : Below W.heap.size W ((W.alloc (.cells #[I 0, I 0, I 0, .slice none 0 0, .string ⟨#[]⟩] 24)).setRow W.heap.size #[I k, I m, I b, .slice q n c, S x]) ∧ ((W.alloc (.cells #[I 0, I 0, I 0, .slice none 0 0, .string ⟨#[]⟩] 24)).setRow W.heap.size #[I k, I m, I b, .slice q n c, S x]).heap[W.heap.size]? = some (.cells #[I k, I m, I b, .slice q n c, S x] 24 (0, 0)) :=
  ⟨belowR ((Below.refl W.heap.size W).alloc (Nat.le_refl _) _) (Nat.le_refl _) _, setRow_row (heap_alloc_new W _)⟩
end Go.Proofs.YtjopnhhdemfniaaGreatDoor
namespace Go.Proofs.YtjopnhhdemfniaaGreatDoor
open Go.RowKit
set_option maxHeartbeats 8000000
set_option maxRecDepth 8000
variable {B b : Nat} {E : List En} {vF vW : Value} {w w' : World}
theorem s_lss (x y : Operand) (a b : Int) {w : World} : (do eqGuard .lss 3 x y (I a) (I b); binOp .lss 3 (I a) (I b) : Sem Value).run Tryz.prog w = .ok (.bool (decide (a < b))) w := by
  simp [go_sem, eqGuard]
theorem s_neq (x y : Operand) (a : Int) {w : World} : (do eqGuard .neq 3 x y (I a) (I a); binOp .neq 3 (I a) (I a) : Sem Value).run Tryz.prog w = .ok (.bool false) w := by
  simp [go_sem, eqGuard]
theorem s_ix22 (g o n cap k : Nat) (hk : k < n) {w : World} : (Instr.indexAt 22 (.slice (some ⟨g, o, none⟩) n cap) (.int .i64 (k : Int))).run Tryz.prog w = .ok (.pointer (some ⟨g, o + k, none⟩)) w := by
  have h1 : (k : Int) < (n : Int) := by omega
  have u := Tryz.underlying22
  have z := Tryz.sizeOf3
  simp [go_sem, u, z, h1]
end Go.Proofs.YtjopnhhdemfniaaGreatDoor
namespace Go.Proofs.YtjopnhhdemfniaaGreatDoor
open Go.RowKit
set_option maxHeartbeats 8000000
set_option maxRecDepth 8000
variable {B b : Nat} {E : List En} {vF vW : Value} {w w' w0 : World}
theorem s_sub (x y : Operand) (a b : Int) (h0 : -9223372036854775808 ≤ a - b) (h1 : a - b ≤ 9223372036854775807) {w : World} : (do eqGuard .sub 3 x y (I a) (I b); binOp .sub 3 (I a) (I b) : Sem Value).run Tryz.prog w = .ok (I (a - b)) w := by
  have q : IntKind.i64.wrap (a - b) = a - b := by rw [IntKind.wrap_i64]; omega
  simp [go_sem, eqGuard, q]
theorem getD_in {α : Type} (l : List α) (d : α) (t : Nat) (h : t < l.length) : l.getD t d ∈ l := by
  rw [List.getD_eq_getElem?_getD, List.getElem?_eq_getElem h]
  exact List.getElem_mem h
end Go.Proofs.YtjopnhhdemfniaaGreatDoor
