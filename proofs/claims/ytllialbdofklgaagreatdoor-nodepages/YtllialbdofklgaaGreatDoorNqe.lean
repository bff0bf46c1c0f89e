import Derived.Test.YtllialbdofklgaaGreatDoorNps
import Derived.Test.YtllialbdofklgaaGreatDoorNpu
namespace Go.Proofs.YtllialbdofklgaaGreatDoor
open Go.RowKit
set_option maxHeartbeats 4000000
set_option maxRecDepth 8000
/-- A book all of whose lists lie from C on. -/
structure Bok2 (B C b : Nat) (T : List (Value × Value × List Bs)) (N : List (Value × Value × List Int)) (w : World) : Prop where
  b : Bok B b T N w
  t : ∀ x ∈ T, (∀ i, x.1.ownBlock = some i → C ≤ i) ∧ (∀ i, x.2.1.ownBlock = some i → C ≤ i)
  n : ∀ x ∈ N, (∀ i, x.1.ownBlock = some i → C ≤ i) ∧ (∀ i, x.2.1.ownBlock = some i → C ≤ i)
theorem row_off {w w' : World} {P : Nat → Prop} {e m : Nat} {v : Value} {xs : List Value} (h : w.ownsRow 0 e 1 v m xs) (o : Only P w w') (hP : ∀ k, P k → ∃ cs t, w.heap[k]? = some (.cells cs t (0, 0)) ∧ t ≠ e) : w'.ownsRow 0 e 1 v m xs :=
  owns_only h o (fun k hk q => by
    obtain ⟨cs, t, e1, ht⟩ := hP k q
    obtain ⟨ds, e2⟩ := owns_lt h k hk
    rw [e2] at e1
    cases e1
    exact ht rfl)
theorem Bok2.over {B C b : Nat} {T : List (Value × Value × List Bs)} {N : List (Value × Value × List Int)} {w w' : World} {P : Nat → Prop} (h : Bok2 B C b T N w) (o : Only P w w') (hP : ∀ k, P k → k < C ∧ ∃ cs t, w.heap[k]? = some (.cells cs t (0, 0)) ∧ t ≠ 36 ∧ t ≠ 22 ∧ t ≠ 23) : Bok2 B C b T N w' := by
  obtain ⟨vT, vU, vN, vM, hx⟩ := h.b.bx
  have f : ∀ e, e = 22 ∨ e = 23 → ∀ k, P k → ∃ cs t, w.heap[k]? = some (.cells cs t (0, 0)) ∧ t ≠ e := fun e he k hk => by
    obtain ⟨_, cs, t, e1, h1, h2, h3⟩ := hP k hk
    refine ⟨cs, t, e1, ?_⟩
    rcases he with rfl | rfl
    · exact h2
    · exact h3
  refine ⟨⟨⟨vT, vU, vN, vM, ⟨(o.block b (lt_of_row hx.box) (fun q => ?_)).trans hx.box, row_off hx.rT o (f 22 (.inl rfl)), row_off hx.rU o (f 22 (.inl rfl)), row_off hx.rN o (f 23 (.inr rfl)), row_off hx.rM o (f 23 (.inr rfl)), hx.d1, hx.d2, hx.lo⟩⟩, ?_, ?_, h.b.td, h.b.nd⟩, h.t, h.n⟩
  · obtain ⟨_, cs, t, e1, h1, _⟩ := hP b q
    rw [hx.box] at e1
    cases e1
    exact h1 rfl
  · intro x hx
    obtain ⟨q1, q2, q3, q4⟩ := h.b.t x hx
    exact ⟨owns_only q1 o (fun k hk q => by have := (h.t x hx).1 k hk; have := (hP k q).1; omega), owns_only q2 o (fun k hk q => by have := (h.t x hx).2 k hk; have := (hP k q).1; omega), q3, q4⟩
  · intro x hx
    obtain ⟨q1, q2, q3, q4⟩ := h.b.n x hx
    exact ⟨owns_only q1 o (fun k hk q => by have := (h.n x hx).1 k hk; have := (hP k q).1; omega), owns_only q2 o (fun k hk q => by have := (h.n x hx).2 k hk; have := (hP k q).1; omega), q3, q4⟩
theorem Bok2.below {B C b : Nat} {T : List (Value × Value × List Bs)} {N : List (Value × Value × List Int)} {w w' : World} (h : Bok2 B C b T N w) (hb : Below w.heap.size w w') : Bok2 B C b T N w' := h.over (P := fun _ => False) (Only.of_below hb) (fun _ q => q.elim)
/-- A new book. -/
theorem bok2_new {B C b : Nat} {w : World} (h : w.heap[b]? = some (.cells #[.slice none 0 0, .slice none 0 0, .slice none 0 0, .slice none 0 0] 36 (0, 0))) (hb : B ≤ b) : Bok2 B C b [] [] w := ⟨bok_new h hb, (fun _ q => nomatch q), (fun _ q => nomatch q)⟩
/-- What was lent stays while a book is written. -/
theorem LN.bkt {n : Nd} {g1 g2 g3 B : Nat} {w w' : World} (h : LN n g1 g2 g3 w) (o : Only (Go.Proofs.YtllialbdofklgaaGreatDoor.bkt B w) w w') : LN n g1 g2 g3 w' := by
  have f : ∀ {k : Nat} {cs : Array Value} {t : TypeId}, w.heap[k]? = some (.cells cs t (0, 0)) → t ≠ 36 ∧ t ≠ 22 ∧ t ≠ 23 → w'.heap[k]? = some (.cells cs t (0, 0)) := fun {k cs t} e ht => (o.block k (lt_of_row e) (fun q => by
    obtain ⟨_, ds, u, e1, hu⟩ := q
    rw [e] at e1
    cases e1
    rcases hu with q | q | q
    · exact ht.1 q
    · exact ht.2.1 q
    · exact ht.2.2 q)).trans e
  exact ⟨f h.k (by decide), f h.v (by decide), f h.i (by decide)⟩
end Go.Proofs.YtllialbdofklgaaGreatDoor
