import Derived.Test.YthddilflldkmfaaDoorTwo
namespace Go.Proofs.YthddilflldkmfaaDoor
open Go.RowKit Go.Lib
def duo {α : Type} (x y : α) (k : Nat) : α := if k = 0 then x else y
theorem two_new {b0 g0 c0 b1 g1 c1 : Nat} {s t : List UInt8} {w2 w3 w4 w6 w7 : World} (h1 : w2.heap.size ≤ b0) (r0 : RAt b0 g0 0 c0 s 0 w3) (k3 : Below w2.heap.size w2 w3) (h3 : w3.heap.size ≤ b1) (h4 : w3.heap.size ≤ g1) (r1 : RAt b1 g1 0 c1 t 0 w4) (k4 : Below w3.heap.size w3 w4)
    (q0 : YAt (w4.alloc (.cells #[.pointer (some ⟨b0, 0, none⟩), .pointer (some ⟨b1, 0, none⟩)] 43)).heap.size s 0 w6) (k6 : Below (w4.alloc (.cells #[.pointer (some ⟨b0, 0, none⟩), .pointer (some ⟨b1, 0, none⟩)] 43)).heap.size (w4.alloc (.cells #[.pointer (some ⟨b0, 0, none⟩), .pointer (some ⟨b1, 0, none⟩)] 43)) w6)
    (q1 : YAt w6.heap.size t 0 w7) (k7 : Below w6.heap.size w6 w7) :
    Apt (duo b0 b1) (duo g0 g1) (duo (w4.alloc (.cells #[.pointer (some ⟨b0, 0, none⟩), .pointer (some ⟨b1, 0, none⟩)] 43)).heap.size w6.heap.size) w4.heap.size w7.heap.size ∧
    Two (duo b0 b1) (duo g0 g1) (duo (w4.alloc (.cells #[.pointer (some ⟨b0, 0, none⟩), .pointer (some ⟨b1, 0, none⟩)] 43)).heap.size w6.heap.size) w4.heap.size w7.heap.size (duo s t) (fun _ => 0) (w7.alloc (.cells #[.pointer (some ⟨(w4.alloc (.cells #[.pointer (some ⟨b0, 0, none⟩), .pointer (some ⟨b1, 0, none⟩)] 43)).heap.size, 0, none⟩), .pointer (some ⟨w6.heap.size, 0, none⟩)] 46)) ∧
    (∀ k, k < 2 → w2.heap.size ≤ duo b0 b1 k ∧ w2.heap.size ≤ duo (w4.alloc (.cells #[.pointer (some ⟨b0, 0, none⟩), .pointer (some ⟨b1, 0, none⟩)] 43)).heap.size w6.heap.size k) ∧ Below w2.heap.size w2 (w7.alloc (.cells #[.pointer (some ⟨(w4.alloc (.cells #[.pointer (some ⟨b0, 0, none⟩), .pointer (some ⟨b1, 0, none⟩)] 43)).heap.size, 0, none⟩), .pointer (some ⟨w6.heap.size, 0, none⟩)] 46)) := by
  have l0 := lt_of_row r0.row
  have l0' := r0.bys.lt
  have l1 := lt_of_row r1.row
  have l1' := r1.bys.lt
  have n0 := r0.ne
  have n1 := r1.ne
  have hs5 : (w4.alloc (.cells #[.pointer (some ⟨b0, 0, none⟩), .pointer (some ⟨b1, 0, none⟩)] 43)).heap.size = w4.heap.size + 1 := by simp
  have hc5 : (w4.alloc (.cells #[.pointer (some ⟨b0, 0, none⟩), .pointer (some ⟨b1, 0, none⟩)] 43)).heap[w4.heap.size]? = some (.cells #[.pointer (some ⟨b0, 0, none⟩), .pointer (some ⟨b1, 0, none⟩)] 43 (0, 0)) := by
    show (w4.heap.push _)[w4.heap.size]? = _
    simp
  have k5 : Below w4.heap.size w4 (w4.alloc (.cells #[.pointer (some ⟨b0, 0, none⟩), .pointer (some ⟨b1, 0, none⟩)] 43)) := (Below.refl _ _).alloc (Nat.le_refl _) _
  generalize w4.alloc (.cells #[.pointer (some ⟨b0, 0, none⟩), .pointer (some ⟨b1, 0, none⟩)] 43) = w5 at *
  have hc8 : (w7.alloc (.cells #[.pointer (some ⟨w5.heap.size, 0, none⟩), .pointer (some ⟨w6.heap.size, 0, none⟩)] 46)).heap[w7.heap.size]? = some (.cells #[.pointer (some ⟨w5.heap.size, 0, none⟩), .pointer (some ⟨w6.heap.size, 0, none⟩)] 46 (0, 0)) := by
    show (w7.heap.push _)[w7.heap.size]? = _
    simp
  have k8 : Below w7.heap.size w7 (w7.alloc (.cells #[.pointer (some ⟨w5.heap.size, 0, none⟩), .pointer (some ⟨w6.heap.size, 0, none⟩)] 46)) := (Below.refl _ _).alloc (Nat.le_refl _) _
  generalize w7.alloc (.cells #[.pointer (some ⟨w5.heap.size, 0, none⟩), .pointer (some ⟨w6.heap.size, 0, none⟩)] 46) = w8 at *
  have l6 := lt_of_row q0
  have l7 := lt_of_row q1
  have z3 := k3.size
  have z4 := k4.size
  have z6 := k6.size
  have z7 := k7.size
  have z8 := k8.size
  have t78 : Below w7.heap.size w7 w8 := k8
  have t68 : Below w6.heap.size w6 w8 := k7.trans (k8.mono z7)
  have t58 : Below w5.heap.size w5 w8 := k6.trans (t68.mono z6)
  have t48 : Below w4.heap.size w4 w8 := k5.trans (t58.mono (by omega))
  have t38 : Below w3.heap.size w3 w8 := k4.trans (t48.mono z4)
  have t28 : Below w2.heap.size w2 w8 := k3.trans (t38.mono z3)
  refine ⟨⟨?_, ?_, ?_, ?_, ?_, ?_, ?_⟩, ⟨?_, ?_, ?_, ?_⟩, ?_, t28⟩
  · intro i j _ _; unfold duo; split <;> split <;> omega
  · intro i j _ _; unfold duo; split <;> split <;> omega
  · intro i j _ _; unfold duo; split <;> split <;> omega
  · intro i j _ _ _; unfold duo; split <;> split <;> omega
  · intro i j _ _ _; unfold duo; split <;> split <;> omega
  · intro i _; unfold duo; split <;> omega
  · intro i _; unfold duo; split <;> omega
  · intro k _
    unfold duo
    split
    · exact ⟨0, c0, r0.keep (P := fun _ => False) (Only.of_below t38) (fun q => q) (fun q => q)⟩
    · exact ⟨0, c1, r1.keep (P := fun _ => False) (Only.of_below t48) (fun q => q) (fun q => q)⟩
  · intro k _
    unfold duo
    split
    · exact q0.keep (P := fun _ => False) (Only.of_below t68) (fun q => q)
    · exact q1.keep (P := fun _ => False) (Only.of_below t78) (fun q => q)
  · intro k hk
    rw [t58.cell (by show w4.heap.size < _; omega), cell_of_row _ _ _ _ _ _ hc5]
    rcases (by omega : k = 0 ∨ k = 1) with rfl | rfl <;> rfl
  · intro k hk
    rw [cell_of_row _ _ _ _ _ _ hc8]
    rcases (by omega : k = 0 ∨ k = 1) with rfl | rfl <;> rfl
  · intro k _; unfold duo; split <;> omega
end Go.Proofs.YthddilflldkmfaaDoor
