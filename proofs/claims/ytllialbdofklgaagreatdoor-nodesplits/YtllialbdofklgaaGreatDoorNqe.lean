import Derived.Test.YtllialbdofklgaaGreatDoorNps
import Derived.Test.YtllialbdofklgaaGreatDoorNpu
namespace Go.Proofs.YtllialbdofklgaaGreatDoor
open Go.RowKit
set_option maxHeartbeats 4000000
set_option maxRecDepth 8000
/-- A book all of whose lists lie from C on. -/
structure Bok2 (B C b : Nat) (T : List (Value × Value × List Bs)) (N : List (Value × Value × List Int)) (w : World) : Prop where
  b : Bok B b T N w
  t : ∀ x ∈ T, (∀ i, x.1.ownBlock = some i → C ≤ i) ∧ (∀ i, x.2.1.ownBlock = some i → C ≤ i)
  n : ∀ x ∈ N, (∀ i, x.1.ownBlock = some i → C ≤ i) ∧ (∀ i, x.2.1.ownBlock = some i → C ≤ i)
theorem row_off {w w' : World} {P : Nat → Prop} {e m : Nat} {v : Value} {xs : List Value} (h : w.ownsRow 0 e 1 v m xs) (o : Only P w w') (hP : ∀ k, P k → ∃ cs t, w.heap[k]? = some (.cells cs t (0, 0)) ∧ t ≠ e) : w'.ownsRow 0 e 1 v m xs :=
  owns_only h o (fun k hk q => by
    obtain ⟨cs, t, e1, ht⟩ := hP k q
    obtain ⟨ds, e2⟩ := owns_lt h k hk
    rw [e2] at e1
    cases e1
    exact ht rfl)
theorem Bok2.over {B C b : Nat} {T : List (Value × Value × List Bs)} {N : List (Value × Value × List Int)} {w w' : World} {P : Nat → Prop} (h : Bok2 B C b T N w) (o : Only P w w') (hP : ∀ k, P k → k < C ∧ ∃ cs t, w.heap[k]? = some (.cells cs t (0, 0)) ∧ t ≠ 36 ∧ t ≠ 22 ∧ t ≠ 23) : Bok2 B C b T N w' := by
  obtain ⟨vT, vU, vN, vM, hx⟩ := h.b.bx
  have f : ∀ e, e = 22 ∨ e = 23 → ∀ k, P k → ∃ cs t, w.heap[k]? = some (.cells cs t (0, 0)) ∧ t ≠ e := fun e he k hk => by
    obtain ⟨_, cs, t, e1, h1, h2, h3⟩ := hP k hk
    refine ⟨cs, t, e1, ?_⟩
    rcases he with rfl | rfl
    · exact h2
    · exact h3
  refine ⟨⟨⟨vT, vU, vN, vM, ⟨(o.block b (lt_of_row hx.box) (fun q => ?_)).trans hx.box, row_off hx.rT o (f 22 (.inl rfl)), row_off hx.rU o (f 22 (.inl rfl)), row_off hx.rN o (f 23 (.inr rfl)), row_off hx.rM o (f 23 (.inr rfl)), hx.d1, hx.d2, hx.lo⟩⟩, ?_, ?_, h.b.td, h.b.nd⟩, h.t, h.n⟩
  · obtain ⟨_, cs, t, e1, h1, _⟩ := hP b q
    rw [hx.box] at e1
    cases e1
    exact h1 rfl
  · intro x hx
    obtain ⟨q1, q2, q3, q4⟩ := h.b.t x hx
    exact ⟨owns_only q1 o (fun k hk q => by have := (h.t x hx).1 k hk; have := (hP k q).1; omega), owns_only q2 o (fun k hk q => by have := (h.t x hx).2 k hk; have := (hP k q).1; omega), q3, q4⟩
  · intro x hx
    obtain ⟨q1, q2, q3, q4⟩ := h.b.n x hx
    exact ⟨owns_only q1 o (fun k hk q => by have := (h.n x hx).1 k hk; have := (hP k q).1; omega), owns_only q2 o (fun k hk q => by have := (h.n x hx).2 k hk; have := (hP k q).1; omega), q3, q4⟩
theorem Bok2.below {B C b : Nat} {T : List (Value × Value × List Bs)} {N : List (Value × Value × List Int)} {w w' : World} (h : Bok2 B C b T N w) (hb : Below w.heap.size w w') : Bok2 B C b T N w' := h.over (P := fun _ => False) (Only.of_below hb) (fun _ q => q.elim)
/-- A new book. -/
theorem bok2_new {B C b : Nat} {w : World} (h : w.heap[b]? = some (.cells #[.slice none 0 0, .slice none 0 0, .slice none 0 0, .slice none 0 0] 36 (0, 0))) (hb : B ≤ b) : Bok2 B C b [] [] w := ⟨bok_new h hb, (fun _ q => nomatch q), (fun _ q => nomatch q)⟩
/-- What was lent stays while a book is written. -/
theorem LN.bkt {n : Nd} {g1 g2 g3 B : Nat} {w w' : World} (h : LN n g1 g2 g3 w) (o : Only (Go.Proofs.YtllialbdofklgaaGreatDoor.bkt B w) w w') : LN n g1 g2 g3 w' := by
  have f : ∀ {k : Nat} {cs : Array Value} {t : TypeId}, w.heap[k]? = some (.cells cs t (0, 0)) → t ≠ 36 ∧ t ≠ 22 ∧ t ≠ 23 → w'.heap[k]? = some (.cells cs t (0, 0)) := fun {k cs t} e ht => (o.block k (lt_of_row e) (fun q => by
    obtain ⟨_, ds, u, e1, hu⟩ := q
    rw [e] at e1
    cases e1
    rcases hu with q | q | q
    · exact ht.1 q
    · exact ht.2.1 q
    · exact ht.2.2 q)).trans e
  exact ⟨f h.k (by decide), f h.v (by decide), f h.i (by decide)⟩
theorem bok_cut2 (C : Nat) (n : Nd) (B b : Nat) (ka va ia ja ua ha : Option Addr) (kc vc ic jc uc hc : Nat) (T : List (Value × Value × List Bs)) (N : List (Value × Value × List Int)) (w : World) (h : NA n ka va ia w) (g : NA n ja ua ha w) (hb : NB n)
    (ck : n.keys.length ≤ kc) (cv : n.vals.length ≤ vc) (ci : n.kids.length ≤ ic) (hic : ic ≤ 9223372036854775807) (dk : n.keys.length ≤ jc) (dv : n.vals.length ≤ uc) (di : n.kids.length ≤ hc) (hhc : hc ≤ 9223372036854775807)
    (hB2 : Bok2 B C b T N w) (hC : C ≤ w.heap.size) (lT : T.length ≤ 100000) (lN : N.length ≤ 100000) :
    Calls Tryz.prog 29 #[.pointer (some ⟨b, 0, none⟩), nda n ka va ia kc vc ic, nda n ja ua ha jc uc hc] w fun e w' => e = .returned (.bool true) ∧ ∃ T' N', Bok2 B C b T' N' w' ∧ T'.length = T.length + 4 ∧ N'.length = N.length + 2 ∧ Only (bkt B w) w w' := by
  have hB := hB2.b
  obtain ⟨vT, vU, vN, vM, hx⟩ := hB.bx
  refine (bookCut_any n B b ka va ia ja ua ha kc vc ic jc uc hc vT vU vN vM _ _ _ _ w h g hb ck cv ci hic dk dv di hhc hx (by simpa using lT) (by simpa using lT) (by simpa using lN) (by simpa using lN)).mono ?_
  rintro e w' ⟨rfl, m1, m2, vT', vU', vN', vM', vK, vV, vI, uK, uV, uI, cK, cV, cI, dK, dV, dI, hx', r1, r2, s1, s2, ⟨a1, a2, a3⟩, n1, n2, o⟩
  have hlo : B ≤ w.heap.size := by have := hx.lo.1; have := lt_of_row hx.box; omega
  refine ⟨rfl, T ++ [(vK, cK, m1.keys), (vV, cV, m1.vals), (uK, dK, m2.keys), (uV, dV, m2.vals)], N ++ [(vI, cI, m1.kids), (uI, dI, m2.kids)], ⟨⟨⟨vT', vU', vN', vM', by simpa using hx'⟩, ?_, ?_, ?_, ?_⟩, ?_, ?_⟩, by simp, by simp, o⟩
  · intro x hx
    rcases List.mem_append.1 hx with q | q
    · obtain ⟨q1, q2, q3, q4⟩ := hB.t x q
      exact ⟨bkt_row q1 o (by decide), bkt_row q2 o (by decide), q3, q4⟩
    · simp only [List.mem_cons, List.not_mem_nil, or_false] at q
      rcases q with rfl | rfl | rfl | rfl
      · exact ⟨r1.rK, s1.rK, fun i e => Nat.le_trans hlo (r1.bK i e), n1.k⟩
      · exact ⟨r1.rV, s1.rV, fun i e => Nat.le_trans hlo (r1.bV i e), n1.v⟩
      · exact ⟨r2.rK, s2.rK, fun i e => Nat.le_trans hlo (r2.bK i e), n2.k⟩
      · exact ⟨r2.rV, s2.rV, fun i e => Nat.le_trans hlo (r2.bV i e), n2.v⟩
  · intro x hx
    rcases List.mem_append.1 hx with q | q
    · obtain ⟨q1, q2, q3, q4⟩ := hB.n x q
      exact ⟨bkt_row q1 o (by decide), bkt_row q2 o (by decide), q3, q4⟩
    · simp only [List.mem_cons, List.not_mem_nil, or_false] at q
      rcases q with rfl | rfl
      · exact ⟨r1.rI, s1.rI, fun i e => Nat.le_trans hlo (r1.bI i e), n1.i⟩
      · exact ⟨r2.rI, s2.rI, fun i e => Nat.le_trans hlo (r2.bI i e), n2.i⟩
  · refine List.pairwise_append.2 ⟨hB.td, ?_, ?_⟩
    · simp only [List.pairwise_cons, List.mem_cons, List.not_mem_nil, or_false, forall_eq_or_imp, forall_eq, List.Pairwise.nil, and_true, false_implies, implies_true]
      exact ⟨⟨a1.1, a3.1.1, a3.1.2.1⟩, ⟨a3.2.1.1, a3.2.1.2.1⟩, a2.1⟩
    · intro x hx y hy
      have ho := owns_blk (hB.t x hx).1
      simp only [List.mem_cons, List.not_mem_nil, or_false] at hy
      rcases hy with rfl | rfl | rfl | rfl
      · exact (dsj_new ho r1.bK).symm
      · exact (dsj_new ho r1.bV).symm
      · exact (dsj_new ho r2.bK).symm
      · exact (dsj_new ho r2.bV).symm
  · refine List.pairwise_append.2 ⟨hB.nd, ?_, ?_⟩
    · simp only [List.pairwise_cons, List.mem_cons, List.not_mem_nil, or_false, forall_eq, List.Pairwise.nil, and_true, false_implies, implies_true]
      exact a3.2.2.2.2
    · intro x hx y hy
      have ho := owns_blk (hB.n x hx).1
      simp only [List.mem_cons, List.not_mem_nil, or_false] at hy
      rcases hy with rfl | rfl
      · exact (dsj_new ho r1.bI).symm
      · exact (dsj_new ho r2.bI).symm
  · intro x hx
    rcases List.mem_append.1 hx with q | q
    · exact hB2.t x q
    · simp only [List.mem_cons, List.not_mem_nil, or_false] at q
      rcases q with rfl | rfl | rfl | rfl
      · exact ⟨fun i e => Nat.le_trans hC (r1.bK i e), fun i e => Nat.le_trans hC (s1.bK i e)⟩
      · exact ⟨fun i e => Nat.le_trans hC (r1.bV i e), fun i e => Nat.le_trans hC (s1.bV i e)⟩
      · exact ⟨fun i e => Nat.le_trans hC (r2.bK i e), fun i e => Nat.le_trans hC (s2.bK i e)⟩
      · exact ⟨fun i e => Nat.le_trans hC (r2.bV i e), fun i e => Nat.le_trans hC (s2.bV i e)⟩
  · intro x hx
    rcases List.mem_append.1 hx with q | q
    · exact hB2.n x q
    · simp only [List.mem_cons, List.not_mem_nil, or_false] at q
      rcases q with rfl | rfl
      · exact ⟨fun i e => Nat.le_trans hC (r1.bI i e), fun i e => Nat.le_trans hC (s1.bI i e)⟩
      · exact ⟨fun i e => Nat.le_trans hC (r2.bI i e), fun i e => Nat.le_trans hC (s2.bI i e)⟩
end Go.Proofs.YtllialbdofklgaaGreatDoor
