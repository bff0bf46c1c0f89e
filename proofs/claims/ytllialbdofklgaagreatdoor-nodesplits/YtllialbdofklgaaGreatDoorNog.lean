import Derived.Test.YtllialbdofklgaaGreatDoorNof
import Derived.Test.YtllialbdofklgaaGreatDoorZrgsd
namespace Go.Proofs.YtllialbdofklgaaGreatDoor
open Go.RowKit
set_option maxHeartbeats 16000000
set_option maxRecDepth 8000
/-- Two nodes come out. -/
theorem outNN {fn : Func} {p q : Tmp} {W : World} {a : Act} {Y Z : Nat} {u0 u1 u2 u3 v0 v1 v2 v3 : Value} {Post : Ending → World → Prop} (hf : fn.results = #[.cell p 25, .cell q 25]) (hd : a.defers = []) (hs : a.tmps.getD p undef = .pointer (some ⟨Y, 0, none⟩)) (ht : a.tmps.getD q undef = .pointer (some ⟨Z, 0, none⟩)) (g : W.heap[Y]? = some (.cells #[u0, u1, u2, u3] 25 (0, 0))) (h : W.heap[Z]? = some (.cells #[v0, v1, v2, v3] 25 (0, 0))) (hp : Post (.returned (.tuple #[.agg #[u0, u1, u2, u3], .agg #[v0, v1, v2, v3]])) W) : bodyPost Tryz.prog fn Post .ret a W := by
  obtain ⟨d0, d1, d2, d3⟩ := box4 g (Below.refl _ _) (lt_of_row g)
  obtain ⟨e0, e1, e2, e3⟩ := box4 h (Below.refl _ _) (lt_of_row h)
  refine bodyPost_ret ?_ hd hp
  have hs' : a.tmps[p]?.getD undef = .pointer (some ⟨Y, 0, none⟩) := by simpa using hs
  have ht' : a.tmps[q]?.getD undef = .pointer (some ⟨Z, 0, none⟩) := by simpa using ht
  simp only [results, hf]
  simp [hs', ht', asAddr, loadVar25 Y u0 u1 u2 u3 W d0 d1 d2 d3, loadVar25 Z v0 v1 v2 v3 W e0 e1 e2 e3]
theorem getD_of {xs : Array Value} {i : Nat} {v d : Value} (h : xs[i]? = some v) : xs.getD i d = v := by simp [h]
/-- Between two operations of sides' region: base W2, the boxes A and D. -/
structure Wsd (W2 : World) (A D : Nat) (u v : Array Value) (L : Nat → Bool) (W : World) : Prop where
  only : Only (fun k => k = A ∨ k = D) W2 W
  a : W.heap[A]? = some (.cells (if L 9 then u else #[.bool false, .slice none 0 0, .slice none 0 0, .slice none 0 0]) 25 (0, 0))
  b : W.heap[D]? = some (.cells (if L 10 then v else #[.bool false, .slice none 0 0, .slice none 0 0, .slice none 0 0]) 25 (0, 0))
theorem Wsd.pure {W2 W : World} {A D : Nat} {u v : Array Value} {L : Nat → Bool} (h : Wsd W2 A D u v L W) (i : Nat) (h1 : i ≠ 9) (h2 : i ≠ 10) : Wsd W2 A D u v (upd L i) W :=
  ⟨h.only, by rw [upd_ne h1.symm]; exact h.a, by rw [upd_ne h2.symm]; exact h.b⟩
theorem Wsd.grow {W2 W W' : World} {A D : Nat} {u v : Array Value} {L : Nat → Bool} (h : Wsd W2 A D u v L W) (q : Below W.heap.size W W') : Wsd W2 A D u v L W' :=
  ⟨h.only.trans (Only.of_below q) (fun _ _ e => e), (q.block _ (lt_of_row h.a)).trans h.a, (q.block _ (lt_of_row h.b)).trans h.b⟩
theorem Wsd.box {W2 W : World} {A D X : Nat} {u v : Array Value} {L : Nat → Bool} {x0 x1 x2 x3 : Value} (h : Wsd W2 A D u v L W) (hX : X < W2.heap.size) (g : W2.heap[X]? = some (.cells #[x0, x1, x2, x3] 25 (0, 0))) (hA : X ≠ A) (hD : X ≠ D) : W.cell? ⟨X, 0, none⟩ = some x0 ∧ W.cell? ⟨X, 1, none⟩ = some x1 ∧ W.cell? ⟨X, 2, none⟩ = some x2 ∧ W.cell? ⟨X, 3, none⟩ = some x3 := by
  have g2 := (h.only.block X hX (fun e => by rcases e with e | e; exact hA e; exact hD e)).trans g
  exact box4 g2 (Below.refl _ _) (lt_of_row g2)
theorem sides_gen (lf : Bool) (ka va ia : Option Addr) (m kc vl vc il ic i be : Nat) (p1 p2 p3 q1 q2 q3 : Option Addr) (a1 a2 a3 b1 b2 b3 d1 d2 d3 e1 e2 e3 : Nat) (w : World) (hi : i < 4294967296) (hbe : be = if lf then i else i + 1)
    (h1 : ∀ W, Calls Tryz.prog 99 #[.agg #[.bool lf, .slice ka m kc, .slice va vl vc, .slice ia il ic], I 0, I i] W fun e w' => e = .returned (.agg #[.bool lf, .slice p1 a1 d1, .slice p2 a2 d2, .slice p3 a3 d3]) ∧ Below W.heap.size W w')
    (h2 : ∀ W, Calls Tryz.prog 99 #[.agg #[.bool lf, .slice ka m kc, .slice va vl vc, .slice ia il ic], I be, I m] W fun e w' => e = .returned (.agg #[.bool lf, .slice q1 b1 e1, .slice q2 b2 e2, .slice q3 b3 e3]) ∧ Below W.heap.size W w') :
    Calls Tryz.prog 66 #[.agg #[.bool lf, .slice ka m kc, .slice va vl vc, .slice ia il ic], I i] w fun e w' => e = .returned (.tuple #[.agg #[.bool lf, .slice p1 a1 d1, .slice p2 a2 d2, .slice p3 a3 d3], .agg #[.bool lf, .slice q1 b1 e1, .slice q2 b2 e2, .slice q3 b3 e3]]) ∧ Below w.heap.size w w' := by
  have hA := (Below.refl w.heap.size w).alloc (Nat.le_refl _) (.cells #[.bool lf, .slice ka m kc, .slice va vl vc, .slice ia il ic] 25)
  have hg := heap_alloc_new w (.cells #[.bool lf, .slice ka m kc, .slice va vl vc, .slice ia il ic] 25)
  have hs0 := size_alloc w (.cells #[.bool lf, .slice ka m kc, .slice va vl vc, .slice ia il ic] 25)
  generalize hW0 : w.alloc (.cells #[.bool lf, .slice ka m kc, .slice va vl vc, .slice ia il ic] 25) = W0 at hA hg hs0
  have hA1 := hA.alloc hA.size (.cells #[.bool false, .slice none 0 0, .slice none 0 0, .slice none 0 0] 25)
  have hg1 := (alloc_old W0 (.cells #[.bool false, .slice none 0 0, .slice none 0 0, .slice none 0 0] 25) (lt_of_row hg)).trans hg
  have hk1 := heap_alloc_new W0 (.cells #[.bool false, .slice none 0 0, .slice none 0 0, .slice none 0 0] 25)
  have hs1 := size_alloc W0 (.cells #[.bool false, .slice none 0 0, .slice none 0 0, .slice none 0 0] 25)
  generalize hW1 : W0.alloc (.cells #[.bool false, .slice none 0 0, .slice none 0 0, .slice none 0 0] 25) = W1 at hA1 hg1 hk1 hs1
  have hA2 := hA1.alloc hA1.size (.cells #[.bool false, .slice none 0 0, .slice none 0 0, .slice none 0 0] 25)
  have hp := heap_alloc_new W1 (.cells #[.bool false, .slice none 0 0, .slice none 0 0, .slice none 0 0] 25)
  have hg2 := (alloc_old W1 (.cells #[.bool false, .slice none 0 0, .slice none 0 0, .slice none 0 0] 25) (lt_of_row hg1)).trans hg1
  have hk2 := (alloc_old W1 (.cells #[.bool false, .slice none 0 0, .slice none 0 0, .slice none 0 0] 25) (lt_of_row hk1)).trans hk1
  have hs2 := size_alloc W1 (.cells #[.bool false, .slice none 0 0, .slice none 0 0, .slice none 0 0] 25)
  generalize hW2 : W1.alloc (.cells #[.bool false, .slice none 0 0, .slice none 0 0, .slice none 0 0] 25) = W2 at hA2 hp hg2 hk2 hs2
  have HX := hide (show W0.heap.size = w.heap.size + 1 ∧ W1.heap.size = W0.heap.size + 1 ∧ W2.heap.size = W1.heap.size + 1 from ⟨hs0, hs1, hs2⟩)
  have H1 := hide h1
  have H2 := hide h2
  have HA2 := hide hA2
  have HP := hide hp
  have HK := hide hk2
  have HG := hide hg2
  have HB := hide ((Below.refl W2.heap.size W2).drew)
  have hz2 : w.heap.size < W2.heap.size := by omega
  have hz3 : W0.heap.size < W2.heap.size := by omega
  have hz4 : W1.heap.size < W2.heap.size := by omega
  obtain ⟨c0, c1, c2, c3⟩ := box4 hg2 (Below.refl _ _) hz2
  clear hA hg hA1 hg1 hk1 hA2 hp hg2 hk2 hs0 hs1 hs2 h1 h2
  have hwr : IntKind.i64.wrap ((i : Int) + 1) = ((i + 1 : Nat) : Int) := by rw [IntKind.wrap_i64]; omega
  have hne : ¬ W0.heap.size = W1.heap.size := by have := unhide HX; omega
  have hK : ∀ (a0 : Act), a0.tmps.size = 22 → a0.defers = [] → a0.tmps[1]? = some (I i) → a0.tmps[2]? = some (.pointer (some ⟨w.heap.size, 0, none⟩)) → a0.tmps[4]? = some (.pointer (some ⟨W0.heap.size, 0, none⟩)) → a0.tmps[5]? = some (.pointer (some ⟨W1.heap.size, 0, none⟩)) → a0.tmps[6]? = some (I be) → ∀ {ops : Array Oper} {id : Nat} {K : Exit → Act → World → Prop}, ops.toList.map (fun o => (o.op, o.dst, o.guard)) = rsdT → deplB rsdD ops = true → acB ops = true → (∀ a W, a.defers = [] → a.tmps[4]? = some (.pointer (some ⟨W0.heap.size, 0, none⟩)) → a.tmps[5]? = some (.pointer (some ⟨W1.heap.size, 0, none⟩)) → W.heap[W0.heap.size]? = some (.cells #[.bool lf, .slice p1 a1 d1, .slice p2 a2 d2, .slice p3 a3 d3] 25 (0, 0)) → W.heap[W1.heap.size]? = some (.cells #[.bool lf, .slice q1 b1 e1, .slice q2 b2 e2, .slice q3 b3 e3] 25 (0, 0)) → Below w.heap.size w W → K .normal a W) → (Code.region id ops true).wp Tryz.prog K a0 W2 := by
    intro a0 hs hd o1 o2 o4 o5 o6 ops id K htab hdep hac hfin
    refine rsd w.heap.size W0.heap.size W1.heap.size m kc vl vc il ic i be a1 a2 a3 b1 b2 b3 d1 d2 d3 e1 e2 e3 ka va ia p1 p2 p3 q1 q2 q3 lf htab hdep hac a0 W2 (by omega) o1 o2 o4 o5 o6 (Wsd W2 W0.heap.size W1.heap.size #[.bool lf, .slice p1 a1 d1, .slice p2 a2 d2, .slice p3 a3 d3] #[.bool lf, .slice q1 b1 e1, .slice q2 b2 e2, .slice q3 b3 e3]) ?_ ?_ ?_ ?_ ?_ ?_ ?_ ?_ ?_ ?_
    · exact ⟨⟨rfl, rfl, rfl, Nat.le_refl _, fun _ _ _ => rfl⟩, unhide HK, unhide HP⟩
    · intro j hj L W hW
      simp only [List.mem_cons, List.not_mem_nil, or_false, not_or] at hj
      exact hW.pure j (fun e => hj.2.2.1 e) (fun e => hj.2.2.2 e)
    · intro L W hW; exact hW.box hz2 (unhide HG) (by have := unhide HX; omega) (by have := unhide HX; omega)
    · intro L W hW; exact hW.box hz2 (unhide HG) (by have := unhide HX; omega) (by have := unhide HX; omega)
    · intro L W hW; exact (hW.box hz2 (unhide HG) (by have := unhide HX; omega) (by have := unhide HX; omega)).2.1
    · intro L W hW _
      refine (unhide H1 W).mono ?_
      rintro e w' ⟨rfl, b⟩
      exact ⟨rfl, (hW.grow b).pure 2 (by decide) (by decide)⟩
    · intro L W hW _
      refine (unhide H2 W).mono ?_
      rintro e w' ⟨rfl, b⟩
      exact ⟨rfl, (hW.grow b).pure 8 (by decide) (by decide)⟩
    · intro L W hW h9 _
      have ha := hW.a
      rw [h9] at ha
      have o := set4_only W W0.heap.size (.bool lf) (.slice p1 a1 d1) (.slice p2 a2 d2) (.slice p3 a3 d3)
      refine ⟨⟨hW.only.trans o (fun k _ e => .inl e), by rw [upd_eq]; exact set4 ha rfl _ _ _ _, ?_⟩, ha⟩
      rw [upd_ne (by decide)]
      exact (o.block _ (lt_of_row hW.b) (fun e => hne e.symm)).trans hW.b
    · intro L W hW h10 _
      have hb := hW.b
      rw [h10] at hb
      have o := set4_only W W1.heap.size (.bool lf) (.slice q1 b1 e1) (.slice q2 b2 e2) (.slice q3 b3 e3)
      refine ⟨⟨hW.only.trans o (fun k _ e => .inr e), ?_, by rw [upd_eq]; exact set4 hb rfl _ _ _ _⟩, hb⟩
      rw [upd_ne (by decide)]
      exact (o.block _ (lt_of_row hW.a) hne).trans hW.a
    · intro L W hall hW
      have ha := hW.a
      have hb := hW.b
      rw [hall 9 (by omega)] at ha
      rw [hall 10 (by omega)] at hb
      have hX := unhide HX
      refine hfin _ W ?_ ?_ ?_ ha hb (hW.only.below (unhide HA2) (unhide HA2).size (fun k e => by omega))
      · simp [Act.put, hd]
      · simp [Act.put, o4]
      · simp [Act.put, o5]
  clear HP HK H1 H2 HB
  cases lf
  · simp only [Bool.false_eq_true, if_false] at hbe
    subst hbe
    have HK := hide @hK
    clear hK
    go_enter Tryz.func66, Tryz.ntmps66
    go_wp2
    refine unhide HK _ (by rfl) (by rfl) (by rfl) (by rfl) (by rfl) (by rfl) (by first | rfl | (simp; done)) (by kernel_rfl) (by kernel_rfl) (by kernel_rfl) ?_
    intro a W hd h4 h5 r1 r2 r3
    go_wp2
    exact outNN (p := 4) (q := 5) rfl hd (getD_of h4) (getD_of h5) r1 r2 ⟨rfl, r3⟩
  · simp only [if_true] at hbe
    subst hbe
    have HK := hide @hK
    clear hK
    go_enter Tryz.func66, Tryz.ntmps66
    go_wp2
    refine unhide HK _ (by rfl) (by rfl) (by rfl) (by rfl) (by rfl) (by rfl) (by first | rfl | (simp; done)) (by kernel_rfl) (by kernel_rfl) (by kernel_rfl) ?_
    intro a W hd h4 h5 r1 r2 r3
    go_wp2
    exact outNN (p := 4) (q := 5) rfl hd (getD_of h4) (getD_of h5) r1 r2 ⟨rfl, r3⟩
end Go.Proofs.YtllialbdofklgaaGreatDoor
