import Derived.Test.YthddilflldkmfaaDoorWgha
namespace Go.Proofs.YthddilflldkmfaaDoor
open Go.RowKit Go.Lib
/-- Where four Readers and a Writer stand. -/
structure Spots where
  b1 : Nat
  g1 : Nat
  b2 : Nat
  g2 : Nat
  b3 : Nat
  g3 : Nat
  b4 : Nat
  g4 : Nat
  c : Nat
def Spots.all (s : Spots) : List Nat := [s.b1, s.g1, s.b2, s.g2, s.b3, s.g3, s.b4, s.g4]
/-- Four Readers and a Writer, apart from each other. -/
structure Five (s : Spots) (v : Value) (R1 R2 R3 R4 X : List UInt8) (E1 E2 E3 E4 F : Nat) (W : World) : Prop where
  r1 : ∃ off cap, RAt s.b1 s.g1 off cap R1 E1 W
  r2 : ∃ off cap, RAt s.b2 s.g2 off cap R2 E2 W
  r3 : ∃ off cap, RAt s.b3 s.g3 off cap R3 E3 W
  r4 : ∃ off cap, RAt s.b4 s.g4 off cap R4 E4 W
  w : WAt s.c v X F W
  nd : (s.c :: s.all).Nodup
  own : ∀ k ∈ s.all, v.ownBlock ≠ some k
theorem RAt.keepE {b g : Nat} {R : List UInt8} {E : Nat} {w w' : World} {P : Nat → Prop} (h : ∃ off cap, RAt b g off cap R E w) (ho : Only P w w') (hb : ¬ P b) (hg : ¬ P g) : ∃ off cap, RAt b g off cap R E w' := by
  obtain ⟨off, cap, h⟩ := h
  exact ⟨off, cap, h.keep ho hb hg⟩
theorem Five.below {s : Spots} {v : Value} {R1 R2 R3 R4 X : List UInt8} {E1 E2 E3 E4 F : Nat} {W W' : World} (h : Five s v R1 R2 R3 R4 X E1 E2 E3 E4 F W) (hb : Below W.heap.size W W') : Five s v R1 R2 R3 R4 X E1 E2 E3 E4 F W' := by
  have ho := Only.of_below (P := fun _ => False) hb
  exact ⟨RAt.keepE h.r1 ho id id, RAt.keepE h.r2 ho id id, RAt.keepE h.r3 ho id id, RAt.keepE h.r4 ho id id, h.w.below hb, h.nd, h.own⟩
theorem Five.step1 {s : Spots} {v : Value} {R1 R2 R3 R4 X R' : List UInt8} {E1 E2 E3 E4 F E' : Nat} {W W' : World} (h : Five s v R1 R2 R3 R4 X E1 E2 E3 E4 F W) (ht : RTo s.b1 s.g1 R' E' W W') : Five s v R' R2 R3 R4 X E' E2 E3 E4 F W' := by
  have nd := h.nd
  simp only [Spots.all, List.nodup_cons, List.mem_cons, List.not_mem_nil, or_false, not_or] at nd
  refine ⟨ht.1, RAt.keepE h.r2 ht.2 ?_ ?_, RAt.keepE h.r3 ht.2 ?_ ?_, RAt.keepE h.r4 ht.2 ?_ ?_, h.w.keep ht.2 ?_ (fun k hk q => h.own s.b1 (by simp [Spots.all]) (by rw [hk, q])), h.nd, h.own⟩
  all_goals (intro e0; first | exact absurd (show _ = _ from e0) (by simp only [nd, not_false_eq_true]) | exact absurd (show _ = _ from e0).symm (by simp only [nd, not_false_eq_true]))
theorem Five.step2 {s : Spots} {v : Value} {R1 R2 R3 R4 X R' : List UInt8} {E1 E2 E3 E4 F E' : Nat} {W W' : World} (h : Five s v R1 R2 R3 R4 X E1 E2 E3 E4 F W) (ht : RTo s.b2 s.g2 R' E' W W') : Five s v R1 R' R3 R4 X E1 E' E3 E4 F W' := by
  have nd := h.nd
  simp only [Spots.all, List.nodup_cons, List.mem_cons, List.not_mem_nil, or_false, not_or] at nd
  refine ⟨RAt.keepE h.r1 ht.2 ?_ ?_, ht.1, RAt.keepE h.r3 ht.2 ?_ ?_, RAt.keepE h.r4 ht.2 ?_ ?_, h.w.keep ht.2 ?_ (fun k hk q => h.own s.b2 (by simp [Spots.all]) (by rw [hk, q])), h.nd, h.own⟩
  all_goals (intro e0; first | exact absurd (show _ = _ from e0) (by simp only [nd, not_false_eq_true]) | exact absurd (show _ = _ from e0).symm (by simp only [nd, not_false_eq_true]))
theorem Five.step3 {s : Spots} {v : Value} {R1 R2 R3 R4 X R' : List UInt8} {E1 E2 E3 E4 F E' : Nat} {W W' : World} (h : Five s v R1 R2 R3 R4 X E1 E2 E3 E4 F W) (ht : RTo s.b3 s.g3 R' E' W W') : Five s v R1 R2 R' R4 X E1 E2 E' E4 F W' := by
  have nd := h.nd
  simp only [Spots.all, List.nodup_cons, List.mem_cons, List.not_mem_nil, or_false, not_or] at nd
  refine ⟨RAt.keepE h.r1 ht.2 ?_ ?_, RAt.keepE h.r2 ht.2 ?_ ?_, ht.1, RAt.keepE h.r4 ht.2 ?_ ?_, h.w.keep ht.2 ?_ (fun k hk q => h.own s.b3 (by simp [Spots.all]) (by rw [hk, q])), h.nd, h.own⟩
  all_goals (intro e0; first | exact absurd (show _ = _ from e0) (by simp only [nd, not_false_eq_true]) | exact absurd (show _ = _ from e0).symm (by simp only [nd, not_false_eq_true]))
/-- All these spots are old. -/
theorem Five.lt {s : Spots} {v : Value} {R1 R2 R3 R4 X : List UInt8} {E1 E2 E3 E4 F : Nat} {W : World} (h : Five s v R1 R2 R3 R4 X E1 E2 E3 E4 F W) : ∀ k ∈ s.all, k < W.heap.size := by
  obtain ⟨_, _, a1⟩ := h.r1
  obtain ⟨_, _, a2⟩ := h.r2
  obtain ⟨_, _, a3⟩ := h.r3
  obtain ⟨_, _, a4⟩ := h.r4
  intro k hk
  simp only [Spots.all, List.mem_cons, List.not_mem_nil, or_false] at hk
  rcases hk with rfl | rfl | rfl | rfl | rfl | rfl | rfl | rfl
  · exact lt_of_row a1.row
  · exact a1.bys.lt
  · exact lt_of_row a2.row
  · exact a2.bys.lt
  · exact lt_of_row a3.row
  · exact a3.bys.lt
  · exact lt_of_row a4.row
  · exact a4.bys.lt
theorem Five.step4 {s : Spots} {v : Value} {R1 R2 R3 R4 X R' X' : List UInt8} {E1 E2 E3 E4 F E' F' : Nat} {W W' : World} (h : Five s v R1 R2 R3 R4 X E1 E2 E3 E4 F W) (ht : Both s.b4 s.g4 s.c v R' E' X' F' W W') : ∃ v', Five s v' R1 R2 R3 R' X' E1 E2 E3 E' F' W' ∧ ∀ q, v'.ownBlock = some q → v.ownBlock = some q ∨ W.heap.size ≤ q := by
  have nd := h.nd
  simp only [Spots.all, List.nodup_cons, List.mem_cons, List.not_mem_nil, or_false, not_or] at nd
  obtain ⟨v', a, d, o, f⟩ := ht
  have far : ∀ k ∈ s.all, k ≠ s.b4 → k ≠ s.c → ¬ (k = s.b4 ∨ foot s.c v k) := by
    intro k hk n1 n2
    rintro (q | q | q)
    · exact n1 q
    · exact n2 q
    · exact h.own k hk q
  refine ⟨v', ⟨RAt.keepE h.r1 o (far _ (by simp [Spots.all]) ?_ ?_) (far _ (by simp [Spots.all]) ?_ ?_), RAt.keepE h.r2 o (far _ (by simp [Spots.all]) ?_ ?_) (far _ (by simp [Spots.all]) ?_ ?_), RAt.keepE h.r3 o (far _ (by simp [Spots.all]) ?_ ?_) (far _ (by simp [Spots.all]) ?_ ?_), a, d, h.nd, ?_⟩, f⟩
  case refine_13 =>
    intro k hk q
    rcases f k q with r | r
    · exact h.own k hk r
    · have := h.lt k hk
      omega
  all_goals (intro e0; first | exact absurd (show _ = _ from e0) (by simp only [nd, not_false_eq_true]) | exact absurd (show _ = _ from e0).symm (by simp only [nd, not_false_eq_true]))
end Go.Proofs.YthddilflldkmfaaDoor
