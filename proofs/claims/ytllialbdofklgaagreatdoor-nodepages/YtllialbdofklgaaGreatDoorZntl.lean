import Derived.Test.YtllialbdofklgaaGreatDoorNtk
import Derived.Test.YtllialbdofklgaaGreatDoorNtd
import Derived.Test.YtllialbdofklgaaGreatDoorNqe
namespace Go.Proofs.YtllialbdofklgaaGreatDoor
open Go.RowKit
set_option linter.unusedVariables false
set_option maxHeartbeats 4000000
set_option maxRecDepth 8000
theorem bok_read2 (C : Nat) (k nu bi : Int) (la lb : Option Addr) (ln lc ld : Nat) (L : List Int) (x : Bs) (B b : Nat) (T : List (Value × Value × List Bs)) (N : List (Value × Value × List Int)) (w : World) (hx0 : x.length ≤ 4294967296) (hL : Ins w la ln L) (hM : Ins w lb ln L) (hLn : ln ≤ 4294967296) (z : lb = none → ld = 0) (hl : Lay w)
    (hB2 : Bok2 B C b T N w) (hC : C ≤ w.heap.size) (lT : T.length ≤ 100000) (lN : N.length ≤ 100000) :
    Calls Tryz.prog 20 #[.pointer (some ⟨b, 0, none⟩), .agg #[I k, I nu, I bi, .slice la ln lc, S x], .agg #[I k, I nu, I bi, .slice lb ln ld, S x]] w fun e w' => e = .returned (.bool true) ∧ ∃ T' N', Bok2 B C b T' N' w' ∧ T'.length = T.length + 2 ∧ N'.length = N.length + 1 ∧ Only (bkt B w) w w' := by
  have hB := hB2.b
  obtain ⟨vT, vU, vN, vM, hx⟩ := hB.bx
  refine (bookRead_any k nu bi la lb ln lc ld L x B b vT vU vN vM _ _ _ _ w hx0 hL hM hLn z hl hx (by simpa using lT) (by simpa using lT) (by simpa using lN) (by simpa using lN)).mono ?_
  rintro e w' ⟨rfl, vT', vU', vN', vM', vK, vV, vI, cK, cV, cI, hx', r1, s1, a1, o⟩
  have hlo : B ≤ w.heap.size := by have := hx.lo.1; have := lt_of_row hx.box; omega
  have n1 := prs_nb k L x (by rw [← hL.1]; exact hLn)
  refine ⟨rfl, T ++ [(vK, cK, (prs k L x).keys), (vV, cV, (prs k L x).vals)], N ++ [(vI, cI, (prs k L x).kids)], ⟨⟨⟨vT', vU', vN', vM', by simpa using hx'⟩, ?_, ?_, ?_, ?_⟩, ?_, ?_⟩, by simp, by simp, o⟩
  · intro z hz
    rcases List.mem_append.1 hz with q | q
    · obtain ⟨q1, q2, q3, q4⟩ := hB.t z q
      exact ⟨bkt_row q1 o (by decide), bkt_row q2 o (by decide), q3, q4⟩
    · simp only [List.mem_cons, List.not_mem_nil, or_false] at q
      rcases q with rfl | rfl
      · exact ⟨r1.rK, s1.rK, fun i e => Nat.le_trans hlo (r1.bK i e), n1.k⟩
      · exact ⟨r1.rV, s1.rV, fun i e => Nat.le_trans hlo (r1.bV i e), n1.v⟩
  · intro z hz
    rcases List.mem_append.1 hz with q | q
    · obtain ⟨q1, q2, q3, q4⟩ := hB.n z q
      exact ⟨bkt_row q1 o (by decide), bkt_row q2 o (by decide), q3, q4⟩
    · simp only [List.mem_cons, List.not_mem_nil, or_false] at q
      subst q
      exact ⟨r1.rI, s1.rI, fun i e => Nat.le_trans hlo (r1.bI i e), n1.i⟩
  · refine List.pairwise_append.2 ⟨hB.td, ?_, ?_⟩
    · simp only [List.pairwise_cons, List.mem_cons, List.not_mem_nil, or_false, forall_eq, List.Pairwise.nil, and_true, false_implies, implies_true]
      exact a1.1
    · intro z hz u hu
      have ho := owns_blk (hB.t z hz).1
      simp only [List.mem_cons, List.not_mem_nil, or_false] at hu
      rcases hu with rfl | rfl
      · exact (dsj_new ho r1.bK).symm
      · exact (dsj_new ho r1.bV).symm
  · refine List.pairwise_append.2 ⟨hB.nd, List.pairwise_singleton _ _, ?_⟩
    intro z hz u hu
    have ho := owns_blk (hB.n z hz).1
    simp only [List.mem_cons, List.not_mem_nil, or_false] at hu
    subst hu
    exact (dsj_new ho r1.bI).symm
  · intro z hz
    rcases List.mem_append.1 hz with q | q
    · exact hB2.t z q
    · simp only [List.mem_cons, List.not_mem_nil, or_false] at q
      rcases q with rfl | rfl
      · exact ⟨fun i e => Nat.le_trans hC (r1.bK i e), fun i e => Nat.le_trans hC (s1.bK i e)⟩
      · exact ⟨fun i e => Nat.le_trans hC (r1.bV i e), fun i e => Nat.le_trans hC (s1.bV i e)⟩
  · intro z hz
    rcases List.mem_append.1 hz with q | q
    · exact hB2.n z q
    · simp only [List.mem_cons, List.not_mem_nil, or_false] at q
      subst q
      exact ⟨fun i e => Nat.le_trans hC (r1.bI i e), fun i e => Nat.le_trans hC (s1.bI i e)⟩
theorem bok_laid2 (C : Nat) (n : Nd) (B b : Nat) (ka va ia kb vb ib : Option Addr) (kc vc ic kd vd jd : Nat) (T : List (Value × Value × List Bs)) (N : List (Value × Value × List Int)) (w : World) (hk : ∀ W, Only (bkt B w) w W → NA n ka va ia W ∧ NA n kb vb ib W) (hb : NB n)
    (z3 : ib = none → jd = 0) (di : n.kids.length ≤ jd) (hjd : jd ≤ 9223372036854775807) (hB2 : Bok2 B C b T N w) (hC : C ≤ w.heap.size) (lT : T.length ≤ 100000) (lN : N.length ≤ 100000) :
    Calls Tryz.prog 15 #[.pointer (some ⟨b, 0, none⟩), nda n ka va ia kc vc ic, nda n kb vb ib kd vd jd] w fun e w' => e = .returned (.bool true) ∧ ∃ N', Bok2 B C b T N' w' ∧ N'.length = N.length + 1 ∧ Only (bkt B w) w w' := by
  have hB := hB2.b
  obtain ⟨vT, vU, vN, vM, hx⟩ := hB.bx
  refine (bookLaid_any n B b ka va ia kb vb ib kc vc ic kd vd jd vT vU vN vM _ _ _ _ w hk hb z3 di hjd hx (by simpa using lN) (by simpa using lN)).mono ?_
  rintro e w' ⟨rfl, vN', vM', vI, cI, hx', ⟨r1, a1⟩, ⟨s1, a2⟩, o⟩
  have hlo : B ≤ w.heap.size := by have := hx.lo.1; have := lt_of_row hx.box; omega
  refine ⟨rfl, N ++ [(vI, cI, pvl n)], ⟨⟨⟨vT, vU, vN', vM', by simpa using hx'⟩, ?_, ?_, hB.td, ?_⟩, hB2.t, ?_⟩, by simp, o⟩
  · intro z hz
    obtain ⟨q1, q2, q3, q4⟩ := hB.t z hz
    exact ⟨bkt_row q1 o (by decide), bkt_row q2 o (by decide), q3, q4⟩
  · intro z hz
    rcases List.mem_append.1 hz with q | q
    · obtain ⟨q1, q2, q3, q4⟩ := hB.n z q
      exact ⟨bkt_row q1 o (by decide), bkt_row q2 o (by decide), q3, q4⟩
    · simp only [List.mem_cons, List.not_mem_nil, or_false] at q
      subst q
      exact ⟨r1, s1, fun i e => Nat.le_trans hlo (a1 i e), pvl_nb hb⟩
  · refine List.pairwise_append.2 ⟨hB.nd, List.pairwise_singleton _ _, ?_⟩
    intro z hz u hu
    have ho := owns_blk (hB.n z hz).1
    simp only [List.mem_cons, List.not_mem_nil, or_false] at hu
    subst hu
    exact (dsj_new ho a1).symm
  · intro z hz
    rcases List.mem_append.1 hz with q | q
    · exact hB2.n z q
    · simp only [List.mem_cons, List.not_mem_nil, or_false] at q
      subst q
      exact ⟨fun i e => Nat.le_trans hC (a1 i e), fun i e => Nat.le_trans hC (a2 i e)⟩
end Go.Proofs.YtllialbdofklgaaGreatDoor
namespace Go.Proofs.YtllialbdofklgaaGreatDoor
open Go.RowKit
set_option linter.unusedVariables false
set_option maxHeartbeats 4000000
set_option maxRecDepth 8000
/-- A book all of whose lists lie where Q says. -/
structure BokP (B : Nat) (Q : Nat → Prop) (b : Nat) (T : List (Value × Value × List Bs)) (N : List (Value × Value × List Int)) (w : World) : Prop where
  b : Bok B b T N w
  t : ∀ x ∈ T, (∀ i, x.1.ownBlock = some i → Q i) ∧ (∀ i, x.2.1.ownBlock = some i → Q i)
  n : ∀ x ∈ N, (∀ i, x.1.ownBlock = some i → Q i) ∧ (∀ i, x.2.1.ownBlock = some i → Q i)
theorem BokP.over {B b : Nat} {Q : Nat → Prop} {T : List (Value × Value × List Bs)} {N : List (Value × Value × List Int)} {w w' : World} {P : Nat → Prop} (h : BokP B Q b T N w) (o : Only P w w') (hP : ∀ k, P k → ¬ Q k ∧ ∃ cs t, w.heap[k]? = some (.cells cs t (0, 0)) ∧ t ≠ 36 ∧ t ≠ 22 ∧ t ≠ 23) : BokP B Q b T N w' := by
  obtain ⟨vT, vU, vN, vM, hx⟩ := h.b.bx
  have f : ∀ e, e = 22 ∨ e = 23 → ∀ k, P k → ∃ cs t, w.heap[k]? = some (.cells cs t (0, 0)) ∧ t ≠ e := fun e he k hk => by
    obtain ⟨_, cs, t, e1, h1, h2, h3⟩ := hP k hk
    refine ⟨cs, t, e1, ?_⟩
    rcases he with rfl | rfl
    · exact h2
    · exact h3
  refine ⟨⟨⟨vT, vU, vN, vM, ⟨(o.block b (lt_of_row hx.box) (fun q => ?_)).trans hx.box, row_off hx.rT o (f 22 (.inl rfl)), row_off hx.rU o (f 22 (.inl rfl)), row_off hx.rN o (f 23 (.inr rfl)), row_off hx.rM o (f 23 (.inr rfl)), hx.d1, hx.d2, hx.lo⟩⟩, ?_, ?_, h.b.td, h.b.nd⟩, h.t, h.n⟩
  · obtain ⟨_, cs, t, e1, h1, _⟩ := hP b q
    rw [hx.box] at e1
    cases e1
    exact h1 rfl
  · intro x hx
    obtain ⟨q1, q2, q3, q4⟩ := h.b.t x hx
    exact ⟨owns_only q1 o (fun k hk q => (hP k q).1 ((h.t x hx).1 k hk)), owns_only q2 o (fun k hk q => (hP k q).1 ((h.t x hx).2 k hk)), q3, q4⟩
  · intro x hx
    obtain ⟨q1, q2, q3, q4⟩ := h.b.n x hx
    exact ⟨owns_only q1 o (fun k hk q => (hP k q).1 ((h.n x hx).1 k hk)), owns_only q2 o (fun k hk q => (hP k q).1 ((h.n x hx).2 k hk)), q3, q4⟩
theorem BokP.below {B b : Nat} {Q : Nat → Prop} {T : List (Value × Value × List Bs)} {N : List (Value × Value × List Int)} {w w' : World} (h : BokP B Q b T N w) (hb : Below w.heap.size w w') : BokP B Q b T N w' := h.over (P := fun _ => False) (Only.of_below hb) (fun _ q => q.elim)
/-- A book, ahead of what is laid next. -/
theorem Bok.off {B b G : Nat} {T : List (Value × Value × List Bs)} {N : List (Value × Value × List Int)} {w : World} (h : Bok B b T N w) (hG : w.heap.size ≤ G) : BokP B (fun i => i ≠ G) b T N w :=
  ⟨h, fun x hx => ⟨fun i e => by have := owns_blk (h.t x hx).1 i e; omega, fun i e => by have := owns_blk (h.t x hx).2.1 i e; omega⟩, fun x hx => ⟨fun i e => by have := owns_blk (h.n x hx).1 i e; omega, fun i e => by have := owns_blk (h.n x hx).2.1 i e; omega⟩⟩
theorem bok_readP (Q : Nat → Prop) (k nu bi : Int) (la lb : Option Addr) (ln lc ld : Nat) (L : List Int) (x : Bs) (B b : Nat) (T : List (Value × Value × List Bs)) (N : List (Value × Value × List Int)) (w : World) (hx0 : x.length ≤ 4294967296) (hL : Ins w la ln L) (hM : Ins w lb ln L) (hLn : ln ≤ 4294967296) (z : lb = none → ld = 0) (hl : Lay w)
    (hB2 : BokP B Q b T N w) (hC : ∀ i, w.heap.size ≤ i → Q i) (lT : T.length ≤ 100000) (lN : N.length ≤ 100000) :
    Calls Tryz.prog 20 #[.pointer (some ⟨b, 0, none⟩), .agg #[I k, I nu, I bi, .slice la ln lc, S x], .agg #[I k, I nu, I bi, .slice lb ln ld, S x]] w fun e w' => e = .returned (.bool true) ∧ ∃ T' N', BokP B Q b T' N' w' ∧ T'.length = T.length + 2 ∧ N'.length = N.length + 1 ∧ Only (bkt B w) w w' := by
  have hB := hB2.b
  obtain ⟨vT, vU, vN, vM, hx⟩ := hB.bx
  refine (bookRead_any k nu bi la lb ln lc ld L x B b vT vU vN vM _ _ _ _ w hx0 hL hM hLn z hl hx (by simpa using lT) (by simpa using lT) (by simpa using lN) (by simpa using lN)).mono ?_
  rintro e w' ⟨rfl, vT', vU', vN', vM', vK, vV, vI, cK, cV, cI, hx', r1, s1, a1, o⟩
  have hlo : B ≤ w.heap.size := by have := hx.lo.1; have := lt_of_row hx.box; omega
  have n1 := prs_nb k L x (by rw [← hL.1]; exact hLn)
  refine ⟨rfl, T ++ [(vK, cK, (prs k L x).keys), (vV, cV, (prs k L x).vals)], N ++ [(vI, cI, (prs k L x).kids)], ⟨⟨⟨vT', vU', vN', vM', by simpa using hx'⟩, ?_, ?_, ?_, ?_⟩, ?_, ?_⟩, by simp, by simp, o⟩
  · intro z hz
    rcases List.mem_append.1 hz with q | q
    · obtain ⟨q1, q2, q3, q4⟩ := hB.t z q
      exact ⟨bkt_row q1 o (by decide), bkt_row q2 o (by decide), q3, q4⟩
    · simp only [List.mem_cons, List.not_mem_nil, or_false] at q
      rcases q with rfl | rfl
      · exact ⟨r1.rK, s1.rK, fun i e => Nat.le_trans hlo (r1.bK i e), n1.k⟩
      · exact ⟨r1.rV, s1.rV, fun i e => Nat.le_trans hlo (r1.bV i e), n1.v⟩
  · intro z hz
    rcases List.mem_append.1 hz with q | q
    · obtain ⟨q1, q2, q3, q4⟩ := hB.n z q
      exact ⟨bkt_row q1 o (by decide), bkt_row q2 o (by decide), q3, q4⟩
    · simp only [List.mem_cons, List.not_mem_nil, or_false] at q
      subst q
      exact ⟨r1.rI, s1.rI, fun i e => Nat.le_trans hlo (r1.bI i e), n1.i⟩
  · refine List.pairwise_append.2 ⟨hB.td, ?_, ?_⟩
    · simp only [List.pairwise_cons, List.mem_cons, List.not_mem_nil, or_false, forall_eq, List.Pairwise.nil, and_true, false_implies, implies_true]
      exact a1.1
    · intro z hz u hu
      have ho := owns_blk (hB.t z hz).1
      simp only [List.mem_cons, List.not_mem_nil, or_false] at hu
      rcases hu with rfl | rfl
      · exact (dsj_new ho r1.bK).symm
      · exact (dsj_new ho r1.bV).symm
  · refine List.pairwise_append.2 ⟨hB.nd, List.pairwise_singleton _ _, ?_⟩
    intro z hz u hu
    have ho := owns_blk (hB.n z hz).1
    simp only [List.mem_cons, List.not_mem_nil, or_false] at hu
    subst hu
    exact (dsj_new ho r1.bI).symm
  · intro z hz
    rcases List.mem_append.1 hz with q | q
    · exact hB2.t z q
    · simp only [List.mem_cons, List.not_mem_nil, or_false] at q
      rcases q with rfl | rfl
      · exact ⟨fun i e => hC i (r1.bK i e), fun i e => hC i (s1.bK i e)⟩
      · exact ⟨fun i e => hC i (r1.bV i e), fun i e => hC i (s1.bV i e)⟩
  · intro z hz
    rcases List.mem_append.1 hz with q | q
    · exact hB2.n z q
    · simp only [List.mem_cons, List.not_mem_nil, or_false] at q
      subst q
      exact ⟨fun i e => hC i (r1.bI i e), fun i e => hC i (s1.bI i e)⟩
end Go.Proofs.YtllialbdofklgaaGreatDoor
