import Derived.Test.YthddilflldkmfaaDoorPasb
namespace Go.Proofs.YthddilflldkmfaaDoor
open Go.RowKit Go.Lib
theorem Raw.kind_eq (x : Raw) : x.itm.kind = pk x.k 3 := rfl
theorem reads_any (x : Raw) (b g off cap : Nat) (R : List UInt8) (E : Nat) (w : World) (h : x.Fit) (hr : RAt b g off cap R E w) (hR : R.length ≤ 9223372036854775807) :
    Calls Tryd.prog 37 #[x.val, .pointer (some ⟨b, 0, none⟩)] w fun e w' => e = .returned (.bool (x.itm.same R E)) ∧ RTo b g (x.itm.go R E).1 (x.itm.go R E).2 w w' := by
  rcases pk3 x.k with hk | hk | hk
  · obtain ⟨_, g, m, _⟩ := x.itm.e0 hk
    rw [g, m]
    exact reads0 x b _ off cap R E w h hk hr hR
  · obtain ⟨_, g, m, _⟩ := x.itm.e1 hk
    rw [g, m]
    exact reads1 x b _ off cap R E w h hk hr hR
  · obtain ⟨_, g, m, _⟩ := x.itm.e2 (by rw [x.kind_eq, hk]; decide) (by rw [x.kind_eq, hk]; decide)
    rw [g, m]
    exact reads2 x b _ off cap R E w h hk hr hR
theorem again_any (x : Raw) (b gr off cap c : Nat) (v : Value) (R X : List UInt8) (E F : Nat) (w : World) (h : x.Fit) (hr : RAt b gr off cap R E w) (hw : WAt c v X F w) (hR : R.length ≤ 9223372036854775807) (hX : X.length + R.length + 65538 ≤ 70368744177664)
    (hb : b ≠ c) (hbv : v.ownBlock ≠ some b) (hg : gr ≠ c) (hgv : v.ownBlock ≠ some gr) :
    Calls Tryd.prog 38 #[x.val, .pointer (some ⟨b, 0, none⟩), .pointer (some ⟨c, 0, none⟩)] w fun e w' => e = .returned (.tuple #[]) ∧ Both b gr c v (x.itm.go R E).1 (x.itm.go R E).2 (x.itm.put R E X F).1 (x.itm.put R E X F).2 w w' := by
  rcases pk3 x.k with hk | hk | hk
  · obtain ⟨_, g, _, p⟩ := x.itm.e0 hk
    rw [g, p]
    exact again0 x b gr off cap c v R X E F w h hk hr hw hR hX hb hbv hg hgv
  · obtain ⟨_, g, _, p⟩ := x.itm.e1 hk
    rw [g, p]
    exact again1 x b gr off cap c v R X E F w h hk hr hw hR hX hb hbv hg hgv
  · obtain ⟨_, g, _, p⟩ := x.itm.e2 (by rw [x.kind_eq, hk]; decide) (by rw [x.kind_eq, hk]; decide)
    rw [g, p]
    exact again2 x b gr off cap c v R X E F w h hk hr hw hR hX hb hbv hg hgv
theorem rGo_len (R : List UInt8) (E e k : Nat) : (rGo R E e k).1.length ≤ R.length := by
  unfold rGo
  split
  · exact Nat.le_refl _
  · split
    · exact Nat.le_refl _
    · simp only [List.length_drop]; omega
theorem wPut_len (X : List UInt8) (F e : Nat) (Y : List UInt8) : (wPut X F e Y).1.length ≤ X.length + Y.length := by
  unfold wPut
  split
  · simp
  · split
    · simp
    · simp only [List.length_append]; omega
theorem Itm.go_len (x : Itm) (R : List UInt8) (E : Nat) : (x.go R E).1.length ≤ R.length := by
  unfold Itm.go
  split <;> exact rGo_len _ _ _ _
/-- The bytes of a Reader and a Writer grow by eight at most. -/
theorem Itm.put_len (x : Itm) (h : x.Ok) (R X : List UInt8) (E F : Nat) : (x.put R E X F).1.length + (x.go R E).1.length ≤ X.length + R.length + 8 := by
  have hs8 := h.s8
  have hm := ahd_le x.most
  by_cases q : E = 0 ∧ (x.go R 0).2 = 0
  · obtain ⟨rfl, q⟩ := q
    by_cases hF : F = 0
    · subst hF
      obtain ⟨Y, e, p⟩ := x.go_again h R X q
      rw [p]
      have := congrArg List.length e
      rw [List.length_append] at this
      simp only [List.length_append]
      omega
    · have e : x.put R 0 X F = (X, F) := by
        unfold Itm.put
        split <;> exact wPut_old hF
      have := x.go_len R 0
      rw [e]
      show X.length + _ ≤ _
      omega
  · have := x.go_len R E
    rcases x.kinds with hk | hk | ⟨h0, h1⟩
    · obtain ⟨_, g, _, p⟩ := x.e0 hk
      have := wPut_len X F (numE x.size (if fine E (rNumE x.size R) then (nat (R.take x.size) : Int) else 0)) (numY x.size (if fine E (rNumE x.size R) then (nat (R.take x.size) : Int) else 0))
      rw [p]
      unfold numY at this ⊢
      rw [be_len, Int.toNat_natCast] at this
      rw [Int.toNat_natCast]
      omega
    · obtain ⟨_, g, _, p⟩ := x.e1 hk
      have hf : fine E (rTextE x.most R) = false := by
        cases e : fine E (rTextE x.most R)
        · rfl
        · unfold fine at e
          simp at e
          refine absurd ⟨e.1, ?_⟩ q
          rw [g, e.2, rGo_ok]
      rw [p, hf]
      have := wPut_len X F (textE x.most (if false = true then rTextS x.most R else []).length) (textY x.most (if false = true then rTextS x.most R else []))
      have e : (textY x.most (if false = true then rTextS x.most R else [])).length ≤ 2 := by
        unfold textY
        simp [be_len]
        exact hm.2
      omega
    · obtain ⟨_, g, _, p⟩ := x.e2 h0 h1
      have hf : fine E (rRawE x.txt.length R) = false := by
        cases e : fine E (rRawE x.txt.length R)
        · rfl
        · unfold fine at e
          simp at e
          refine absurd ⟨e.1, ?_⟩ q
          rw [g, e.2, rGo_ok]
      rw [p, hf]
      have := wPut_len X F 0 (if false = true then R.take x.txt.length else [])
      simp at this ⊢
      omega
/-- The bytes of items, one behind the other. -/
def lays (xs : List Itm) : List UInt8 := xs.flatMap Itm.laid
theorem lays_cons (x : Itm) (xs : List Itm) : lays (x :: xs) = x.laid ++ lays xs := rfl
/-- The short Reader: what holds before the items xs are read. -/
def Short (xs : List Itm) (R : List UInt8) (E : Nat) : Prop := E = 22 ∨ (E = 0 ∧ lays xs ≠ [] ∧ R = (lays xs).dropLast)
theorem Short.step {x : Itm} {xs : List Itm} {R : List UInt8} {E : Nat} (hx : x.Ok) (h : Short (x :: xs) R E) : Short xs (x.go R E).1 (x.go R E).2 := by
  rcases h with rfl | ⟨rfl, hn, rfl⟩
  · exact .inl (by rw [x.go_old R 22 (by decide)])
  · rw [lays_cons] at hn ⊢
    by_cases q : lays xs = []
    · rw [q, List.append_nil] at hn ⊢
      exact .inl (x.go_short hx hn)
    · rw [List.dropLast_append_of_ne_nil q, (x.go_laid hx _).1]
      exact .inr ⟨rfl, q, rfl⟩
theorem Short.stop {R : List UInt8} {E : Nat} (h : Short [] R E) : E = 22 := by
  rcases h with h | ⟨_, h, _⟩
  · exact h
  · exact absurd rfl h
/-- The Reader of any text and the Writer that lays it again. -/
def Redo (T R : List UInt8) (E : Nat) (X : List UInt8) (F : Nat) : Prop := E ≠ 0 ∨ (E = 0 ∧ F = 0 ∧ T = X ++ R)
theorem Redo.step {x : Itm} {T R X : List UInt8} {E F : Nat} (hx : x.Ok) (h : Redo T R E X F) : Redo T (x.go R E).1 (x.go R E).2 (x.put R E X F).1 (x.put R E X F).2 := by
  rcases h with h | ⟨rfl, rfl, e⟩
  · exact .inl (by rw [x.go_old R E h]; exact h)
  · by_cases q : (x.go R 0).2 = 0
    · obtain ⟨Y, e2, p⟩ := x.go_again hx R X q
      refine .inr ⟨q, by rw [p], ?_⟩
      rw [p, e, List.append_assoc, ← e2]
    · exact .inl q
/-- Done of the Reader is 0: the Writer has the whole text. -/
theorem Redo.stop {T R X : List UInt8} {E F : Nat} (h : Redo T R E X F) (hd : rDone R E = 0) : F = 0 ∧ X = T := by
  unfold rDone at hd
  rcases h with h | ⟨rfl, rfl, e⟩
  · rw [if_pos h] at hd
    exact absurd hd h
  · simp at hd
    rw [e, hd, List.append_nil]
    exact ⟨rfl, rfl⟩
end Go.Proofs.YthddilflldkmfaaDoor
