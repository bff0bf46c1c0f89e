import Derived.Test.YtllialbdofklgaaGreatDoorNsd
import Derived.Test.YtllialbdofklgaaGreatDoorNqf
import Derived.Test.YtllialbdofklgaaGreatDoorZrgsd
import Derived.Test.YtllialbdofklgaaGreatDoorZnee
import Derived.Test.YtllialbdofklgaaGreatDoorZnds
namespace Go.Proofs.YtllialbdofklgaaGreatDoor
open Go.RowKit
set_option linter.unusedVariables false
set_option maxHeartbeats 16000000
set_option maxRecDepth 8000
theorem bok_put2 (C : Nat) (x y : Nd) (B b ga oa gb ob gc oc gd od : Nat) (ia ib ja ua ha jb ub hb : Option Addr) (kc vc ic kd vd jd jc uc hc je ue he : Nat) (key : Bs) (T : List (Value × Value × List Bs)) (N : List (Value × Value × List Int)) (w : World)
    (hm : NA x (some ⟨ga, oa, none⟩) (some ⟨gc, oc, none⟩) ia w) (hn : NA y (some ⟨gb, ob, none⟩) (some ⟨gd, od, none⟩) ib w) (hp : NA x ja ua ha w) (hq : NA y jb ub hb w) (bm : NB x) (bn : NB y) (z1 : ja = none → jc = 0) (z2 : ua = none → uc = 0) (z3 : ha = none → hc = 0) (y1 : jb = none → je = 0) (y2 : ub = none → ue = 0) (y3 : hb = none → he = 0)
    (ci : x.kids.length ≤ hc) (hic : hc ≤ 9223372036854775807) (cj : y.kids.length ≤ he) (hjd : he ≤ 9223372036854775807) (hk : key.length ≤ 4294967296)
    (hB2 : Bok2 B C b T N w) (hC : C ≤ w.heap.size) (lT : T.length ≤ 100000) (lN : N.length ≤ 100000) :
    Calls Tryz.prog 30 #[.pointer (some ⟨b, 0, none⟩), nda x (some ⟨ga, oa, none⟩) (some ⟨gc, oc, none⟩) ia kc vc ic, S key, nda y (some ⟨gb, ob, none⟩) (some ⟨gd, od, none⟩) ib kd vd jd, nda x ja ua ha jc uc hc, nda y jb ub hb je ue he] w fun e w' => e = .returned (.bool true) ∧ ∃ T' N', Bok2 B C b T' N' w' ∧ T'.length = T.length + 2 ∧ N'.length = N.length + 1 ∧ Only (bkt B w) w w' := by
  have hB := hB2.b
  obtain ⟨vT, vU, vN, vM, hx⟩ := hB.bx
  refine (bookPut_any x y B b ga oa gb ob gc oc gd od ia ib ja ua ha jb ub hb kc vc ic kd vd jd jc uc hc je ue he key vT vU vN vM _ _ _ _ w hm hn hp hq bm bn z1 z2 z3 y1 y2 y3 ci hic cj hjd hk hx (by simpa using lT) (by simpa using lT) (by simpa using lN) (by simpa using lN)).mono ?_
  rintro e w' ⟨rfl, vT', vU', vN', vM', vK, vV, vI, cK, cV, cI, hx', r1, s1, a1, o⟩
  have hlo : B ≤ w.heap.size := by have := hx.lo.1; have := lt_of_row hx.box; omega
  have n1 := jrs_nb x key y
  refine ⟨rfl, T ++ [(vK, cK, (jrs x key y).keys), (vV, cV, (jrs x key y).vals)], N ++ [(vI, cI, (jrs x key y).kids)], ⟨⟨⟨vT', vU', vN', vM', by simpa using hx'⟩, ?_, ?_, ?_, ?_⟩, ?_, ?_⟩, by simp, by simp, o⟩
  · intro z hz
    rcases List.mem_append.1 hz with q | q
    · obtain ⟨q1, q2, q3, q4⟩ := hB.t z q
      exact ⟨bkt_row q1 o (by decide), bkt_row q2 o (by decide), q3, q4⟩
    · simp only [List.mem_cons, List.not_mem_nil, or_false] at q
      rcases q with rfl | rfl
      · exact ⟨r1.rK, s1.rK, fun i e => Nat.le_trans hlo (r1.bK i e), n1.k⟩
      · exact ⟨r1.rV, s1.rV, fun i e => Nat.le_trans hlo (r1.bV i e), n1.v⟩
  · intro z hz
    rcases List.mem_append.1 hz with q | q
    · obtain ⟨q1, q2, q3, q4⟩ := hB.n z q
      exact ⟨bkt_row q1 o (by decide), bkt_row q2 o (by decide), q3, q4⟩
    · simp only [List.mem_cons, List.not_mem_nil, or_false] at q
      subst q
      exact ⟨r1.rI, s1.rI, fun i e => Nat.le_trans hlo (r1.bI i e), n1.i⟩
  · refine List.pairwise_append.2 ⟨hB.td, ?_, ?_⟩
    · simp only [List.pairwise_cons, List.mem_cons, List.not_mem_nil, or_false, forall_eq, List.Pairwise.nil, and_true, false_implies, implies_true]
      exact a1.1
    · intro z hz u hu
      have ho := owns_blk (hB.t z hz).1
      simp only [List.mem_cons, List.not_mem_nil, or_false] at hu
      rcases hu with rfl | rfl
      · exact (dsj_new ho r1.bK).symm
      · exact (dsj_new ho r1.bV).symm
  · refine List.pairwise_append.2 ⟨hB.nd, List.pairwise_singleton _ _, ?_⟩
    intro z hz u hu
    have ho := owns_blk (hB.n z hz).1
    simp only [List.mem_cons, List.not_mem_nil, or_false] at hu
    subst hu
    exact (dsj_new ho r1.bI).symm
  · intro z hz
    rcases List.mem_append.1 hz with q | q
    · exact hB2.t z q
    · simp only [List.mem_cons, List.not_mem_nil, or_false] at q
      rcases q with rfl | rfl
      · exact ⟨fun i e => Nat.le_trans hC (r1.bK i e), fun i e => Nat.le_trans hC (s1.bK i e)⟩
      · exact ⟨fun i e => Nat.le_trans hC (r1.bV i e), fun i e => Nat.le_trans hC (s1.bV i e)⟩
  · intro z hz
    rcases List.mem_append.1 hz with q | q
    · exact hB2.n z q
    · simp only [List.mem_cons, List.not_mem_nil, or_false] at q
      subst q
      exact ⟨fun i e => Nat.le_trans hC (r1.bI i e), fun i e => Nat.le_trans hC (s1.bI i e)⟩
/-- What stands between two calls of the body. -/
structure Bdj (W2 : World) (b ou ov C g1 g2 g3 h1 h2 h3 : Nat) (oc1 oc2 : Array Value) (nn yy : Nd) (T : List (Value × Value × List Bs)) (N : List (Value × Value × List Int)) (W : World) : Prop where
  bel : Below W2.heap.size W2 W
  own1 : W.heap[ou]? = some (.cells oc1 25 (0, 0))
  own2 : W.heap[ov]? = some (.cells oc2 25 (0, 0))
  ln1 : LN nn g1 g2 g3 W
  ln2 : LN yy h1 h2 h3 W
  bk : Bok2 b C b T N W
  sz : C ≤ W.heap.size
  lo : W2.heap.size ≤ b ∧ W2.heap.size ≤ g1 ∧ g1 < g2 ∧ g2 < g3 ∧ g3 < h1 ∧ h1 < h2 ∧ h2 < h3 ∧ h3 < C
theorem Bdj.below {W2 : World} {b ou ov C g1 g2 g3 h1 h2 h3 : Nat} {oc1 oc2 : Array Value} {nn yy : Nd} {T : List (Value × Value × List Bs)} {N : List (Value × Value × List Int)} {W W' : World} (h : Bdj W2 b ou ov C g1 g2 g3 h1 h2 h3 oc1 oc2 nn yy T N W) (q : Below W.heap.size W W') : Bdj W2 b ou ov C g1 g2 g3 h1 h2 h3 oc1 oc2 nn yy T N W' :=
  ⟨h.bel.trans (q.mono h.bel.size), (q.block _ (lt_of_row h.own1)).trans h.own1, (q.block _ (lt_of_row h.own2)).trans h.own2, h.ln1.below q, h.ln2.below q, h.bk.below q, Nat.le_trans h.sz q.size, h.lo⟩
theorem Bdj.cut {W2 : World} {b ou ov C g1 g2 g3 h1 h2 h3 : Nat} {oc1 oc2 : Array Value} {nn yy : Nd} {T T' : List (Value × Value × List Bs)} {N N' : List (Value × Value × List Int)} {W W' : World} (h : Bdj W2 b ou ov C g1 g2 g3 h1 h2 h3 oc1 oc2 nn yy T N W) (o : Only (bkt b W) W W') (k : Bok2 b C b T' N' W') : Bdj W2 b ou ov C g1 g2 g3 h1 h2 h3 oc1 oc2 nn yy T' N' W' :=
  ⟨o.below h.bel h.bel.size (fun j q => Nat.le_trans h.lo.1 q.1), bkt_box h.own1 o (by decide), bkt_box h.own2 o (by decide), h.ln1.bkt o, h.ln2.bkt o, k, Nat.le_trans h.sz o.size, h.lo⟩
theorem Bdj.over {W2 : World} {b ou ov C g1 g2 g3 h1 h2 h3 : Nat} {oc1 oc2 : Array Value} {nn yy : Nd} {mm : Nd} {T : List (Value × Value × List Bs)} {N : List (Value × Value × List Int)} {W W' : World} (h : Bdj W2 b ou ov C g1 g2 g3 h1 h2 h3 oc1 oc2 nn yy T N W) (o : Only (fun k => k = g1 ∨ k = g2 ∨ k = g3) W W') (l : LN mm g1 g2 g3 W') : Bdj W2 b ou ov C g1 g2 g3 h1 h2 h3 oc1 oc2 mm yy T N W' := by
  have hl := h.lo
  have ty : ∀ {k : Nat} {cs : Array Value}, W.heap[k]? = some (.cells cs 25 (0, 0)) → ¬ (k = g1 ∨ k = g2 ∨ k = g3) := fun {k cs} e q => by
    rcases q with rfl | rfl | rfl
    · have := h.ln1.k; unfold Blk at this; rw [e] at this; cases this
    · have := h.ln1.v; unfold Blk at this; rw [e] at this; cases this
    · have := h.ln1.i; unfold BlI at this; rw [e] at this; cases this
  refine ⟨o.below h.bel h.bel.size (fun j q => by omega), (o.block _ (lt_of_row h.own1) (ty h.own1)).trans h.own1, (o.block _ (lt_of_row h.own2) (ty h.own2)).trans h.own2, l, ⟨?_, ?_, ?_⟩, h.bk.over o (fun k q => ⟨by omega, ?_⟩), Nat.le_trans h.sz o.size, h.lo⟩
  · exact (o.block _ h.ln2.k.lt (fun q => by omega)).trans h.ln2.k
  · exact (o.block _ h.ln2.v.lt (fun q => by omega)).trans h.ln2.v
  · exact (o.block _ h.ln2.i.lt (fun q => by omega)).trans h.ln2.i
  rcases q with rfl | rfl | rfl
  · exact ⟨_, _, h.ln1.k, by decide, by decide, by decide⟩
  · exact ⟨_, _, h.ln1.v, by decide, by decide, by decide⟩
  · exact ⟨_, _, h.ln1.i, by decide, by decide, by decide⟩
theorem three_box (w : World) (A B C : Array Value) : Below w.heap.size w (((w.alloc (.cells A 25)).alloc (.cells B 25)).alloc (.cells C 25)) ∧ (((w.alloc (.cells A 25)).alloc (.cells B 25)).alloc (.cells C 25)).heap[w.heap.size]? = some (.cells A 25 (0, 0)) ∧ (((w.alloc (.cells A 25)).alloc (.cells B 25)).alloc (.cells C 25)).heap[w.heap.size + 1]? = some (.cells B 25 (0, 0)) ∧ (((w.alloc (.cells A 25)).alloc (.cells B 25)).alloc (.cells C 25)).heap[w.heap.size + 1 + 1]? = some (.cells C 25 (0, 0)) := by
  obtain ⟨a1, a2, a3⟩ := two_box w A B
  have hs : ((w.alloc (.cells A 25)).alloc (.cells B 25)).heap.size = w.heap.size + 1 + 1 := by simp
  generalize (w.alloc (.cells A 25)).alloc (.cells B 25) = W at a1 a2 a3 hs
  have b1 := (Below.refl W.heap.size W).alloc (Nat.le_refl _) (.cells C 25)
  have b2 := heap_alloc_new W (.cells C 25)
  rw [hs] at b2
  exact ⟨a1.trans (b1.mono a1.size), (b1.block _ (lt_of_row a2)).trans a2, (b1.block _ (lt_of_row a3)).trans a3, b2⟩
end Go.Proofs.YtllialbdofklgaaGreatDoor
