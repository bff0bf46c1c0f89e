import Derived.Test.YtllialbdofklgaaGreatDoorZnpp
import Derived.Test.YtllialbdofklgaaGreatDoorNpr
namespace Go.Proofs.YtllialbdofklgaaGreatDoor
open Go.RowKit
set_option maxHeartbeats 16000000
set_option maxRecDepth 8000
theorem two_box (w : World) (A B : Array Value) : Below w.heap.size w ((w.alloc (.cells A 25)).alloc (.cells B 25)) ∧ ((w.alloc (.cells A 25)).alloc (.cells B 25)).heap[w.heap.size]? = some (.cells A 25 (0, 0)) ∧ ((w.alloc (.cells A 25)).alloc (.cells B 25)).heap[w.heap.size + 1]? = some (.cells B 25 (0, 0)) := by
  have h1 := (Below.refl w.heap.size w).alloc (Nat.le_refl _) (.cells A 25)
  have h2 := heap_alloc_new w (.cells A 25)
  have h3 := size_alloc w (.cells A 25)
  have h4 := heap_alloc_new (w.alloc (.cells A 25)) (.cells B 25)
  rw [h3] at h4
  exact ⟨h1.alloc h1.size (.cells B 25), (alloc_old _ (.cells B 25) (lt_of_row h2)).trans h2, h4⟩
theorem owns_z {e n m : Nat} {w : World} {p : Option Addr} {c : Nat} {xs : List Value} (h : w.ownsRow 0 e n (.slice p m c) m xs) : p = none → c = 0 := by
  rintro rfl
  rcases h.2 with ⟨q, _⟩ | ⟨g, cap, cur, e1, _⟩
  · cases q; rfl
  · cases e1
theorem Rws.na' {B : Nat} {n : Nd} {p1 p2 p3 : Option Addr} {y1 y2 y3 : Nat} {w : World} (h : Rws B n (.slice p1 n.keys.length y1) (.slice p2 n.vals.length y2) (.slice p3 n.kids.length y3) w) : NA n p1 p2 p3 w := by
  obtain ⟨ka, va, ia, kc, vc, ic, h1, h2, h3, h4⟩ := h.na
  cases h1
  cases h2
  cases h3
  exact h4
/-- A book: its lists, what they said, pairwise apart. -/
structure Bok (B b : Nat) (T : List (Value × Value × List Bs)) (N : List (Value × Value × List Int)) (w : World) : Prop where
  bx : ∃ vT vU vN vM, Bx B b vT vU vN vM (T.map (·.1)) (T.map (·.2.1)) (N.map (·.1)) (N.map (·.2.1)) w
  t : ∀ x ∈ T, w.ownsRow 0 9 1 x.1 x.2.2.length (x.2.2.map S) ∧ w.ownsRow 0 9 1 x.2.1 x.2.2.length (x.2.2.map S) ∧ (∀ i, x.1.ownBlock = some i → B ≤ i) ∧ x.2.2.length ≤ 4294967296
  n : ∀ x ∈ N, w.ownsRow 0 3 1 x.1 x.2.2.length (x.2.2.map fun z => I z) ∧ w.ownsRow 0 3 1 x.2.1 x.2.2.length (x.2.2.map fun z => I z) ∧ (∀ i, x.1.ownBlock = some i → B ≤ i) ∧ x.2.2.length ≤ 4294967296
  td : T.Pairwise fun x y => dsj x.1 y.1
  nd : N.Pairwise fun x y => dsj x.1 y.1
/-- A new book. -/
theorem bok_new {B b : Nat} {w : World} (h : w.heap[b]? = some (.cells #[.slice none 0 0, .slice none 0 0, .slice none 0 0, .slice none 0 0] 36 (0, 0))) (hb : B ≤ b) : Bok B b [] [] w :=
  ⟨⟨_, _, _, _, h, owns_nil _ _ _, owns_nil _ _ _, owns_nil _ _ _, owns_nil _ _ _, dsj_nil _, dsj_nil _, hb, (fun _ q => nomatch q), (fun _ q => nomatch q), (fun _ q => nomatch q), (fun _ q => nomatch q)⟩, (fun _ q => nomatch q), (fun _ q => nomatch q), List.Pairwise.nil, List.Pairwise.nil⟩
end Go.Proofs.YtllialbdofklgaaGreatDoor
