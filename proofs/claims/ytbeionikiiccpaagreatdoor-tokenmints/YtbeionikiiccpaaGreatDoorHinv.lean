import Derived.WalkKit
/- A region that draws its order, by an invariant: one goal an operation, not one an order. -/
namespace Go.Proofs.YtbeionikiiccpaaGreatDoor
variable {P : Program} {ops : Array Oper} {Q : Exit → Act → World → Prop}
def upd (L : Nat → Bool) (i : Nat) : Nat → Bool := fun j => if j = i then true else L j
def left (listed : Array Bool) : Nat → Nat
  | 0 => 0
  | n + 1 => left listed n + (if listed.getD n true = false then 1 else 0)
theorem left_zero {listed : Array Bool} : ∀ {n : Nat}, left listed n = 0 → ∀ i, i < n → listed.getD i true = true := by
  intro n
  induction n with
  | zero => intro _ i hi; omega
  | succ n ih =>
    intro h i hi
    simp only [left] at h
    by_cases e : i = n
    · subst e
      cases hq : listed.getD i true
      · simp [hq] at h
      · rfl
    · exact ih (by omega) i (by omega)
theorem left_set {listed : Array Bool} {i : Nat} (hi : listed.getD i true = false) : ∀ {n : Nat}, i < n → left (listed.setIfInBounds i true) n + 1 = left listed n := by
  have hlt : i < listed.size := by
    rcases Nat.lt_or_ge i listed.size with h' | h'
    · exact h'
    · simp [Array.getElem?_eq_none h'] at hi
  have hself : (listed.setIfInBounds i true).getD i true = true := by simp [hlt]
  have low : ∀ n, n ≤ i → left (listed.setIfInBounds i true) n = left listed n := by
    intro n
    induction n with
    | zero => intro _; rfl
    | succ n ih =>
      intro h
      simp only [left]
      rw [ih (by omega), getD_set_ne true (by omega)]
  intro n
  induction n with
  | zero => intro h; omega
  | succ n ih =>
    intro h
    simp only [left]
    by_cases e : i = n
    · subst e
      rw [low i (Nat.le_refl _), hself, hi]
      simp
    · rw [getD_set_ne true e]
      have := ih (by omega)
      omega
theorem any_invH (IH : (Nat → Bool) → Act → World → Prop)
    (hac : ∀ i o, ops[i]? = some o → ∀ e ∈ o.after, Region.binds .any e = true → e.on < i)
    (hstep : ∀ L a w i o, ops[i]? = some o → L i = false → (∀ e ∈ o.after, Region.binds .any e = true → L e.on = true) → IH L a w → wpOp P ops Q i (fun a' w' => IH (upd L i) a' w') a w)
    (hend : ∀ L a w, (∀ i, i < ops.size → L i = true) → IH L a w → Q .normal a w) :
    ∀ fuel listed a w, listed.size = ops.size → left listed ops.size ≤ fuel → IH (fun j => listed.getD j false) a w → wpAny P .any ops Q fuel listed a w := by
  have same : ∀ (listed : Array Bool) (j : Nat), j < listed.size → listed.getD j true = listed.getD j false := by
    intro listed j hj; simp [hj]
  have nil : ∀ (listed : Array Bool) (a : Act) (w : World), listed.size = ops.size → IH (fun j => listed.getD j false) a w → Region.ready .any ops listed = [] → Q .normal a w := by
    intro listed a w hs hI hr
    refine hend _ a w ?_ hI
    intro i
    induction i using Nat.strongRecOn with
    | ind i ih =>
      intro hi
      cases hq : listed.getD i false
      · exfalso
        have hm : i ∈ Region.ready .any ops listed := by
          rw [mem_ready]
          refine ⟨by rw [same listed i (by omega)]; exact hq, ops[i], by simp [hi], ?_⟩
          intro e he hb
          have hlt := hac i ops[i] (by simp [hi]) e he hb
          exact ih e.on hlt (by omega)
        rw [hr] at hm
        cases hm
      · rfl
  intro fuel
  induction fuel with
  | zero =>
    intro listed a w hs hl hI
    have hr : Region.ready .any ops listed = [] := by
      cases hq : Region.ready .any ops listed with
      | nil => rfl
      | cons x xs =>
        have hm : x ∈ Region.ready .any ops listed := by rw [hq]; simp
        rw [mem_ready] at hm
        obtain ⟨h1, o, ho, _⟩ := hm
        have hlt : x < ops.size := (Array.getElem?_eq_some_iff.1 ho).1
        have := left_zero (listed := listed) (n := ops.size) (by omega) x hlt
        rw [this] at h1
        cases h1
    exact ⟨hr, nil listed a w hs hI hr⟩
  | succ fuel ih =>
    intro listed a w hs hl hI
    refine ⟨nil listed a w hs hI, ?_⟩
    intro i hi
    rw [mem_ready] at hi
    obtain ⟨h1, o, ho, hall⟩ := hi
    have hlt : i < ops.size := (Array.getElem?_eq_some_iff.1 ho).1
    refine wpOp_mono ?_ (hstep (fun j => listed.getD j false) a w i o ho (by rw [← same listed i (by omega)]; exact h1) hall hI)
    intro a' w' hI'
    refine ih (listed.setIfInBounds i true) a' w' (by simpa using hs) (by have := left_set h1 hlt; omega) ?_
    have e : (fun j => (listed.setIfInBounds i true).getD j false) = upd (fun j => listed.getD j false) i := by
      funext j
      unfold upd
      by_cases hj : j = i
      · subst hj
        simp [hs, hlt]
      · rw [if_neg hj, getD_set_ne false (Ne.symm hj)]
    rw [e]
    exact hI'
theorem region_invH {id : Nat} {a : Act} {w : World} (hm : P.follows .mixedOrders = true) (IH : (Nat → Bool) → Act → World → Prop)
    (hac : ∀ i o, ops[i]? = some o → ∀ e ∈ o.after, Region.binds .any e = true → e.on < i)
    (h0 : IH (fun _ => false) a w.drew)
    (hstep : ∀ L a w i o, ops[i]? = some o → L i = false → (∀ e ∈ o.after, Region.binds .any e = true → L e.on = true) → IH L a w → wpOp P ops Q i (fun a' w' => IH (upd L i) a' w') a w)
    (hend : ∀ L a w, (∀ i, i < ops.size → L i = true) → IH L a w → Q .normal a w) : (Code.region id ops true).wp P Q a w := by
  refine wp_region_any hm ?_
  refine any_invH IH hac hstep hend ops.size _ a _ (by simp) ?_ ?_
  · have : ∀ n, n ≤ ops.size → left (Array.replicate ops.size false) n ≤ n := by
      intro n
      induction n with
      | zero => intro _; simp [left]
      | succ n ih => intro h; simp only [left]; have := ih (by omega); split <;> omega
    exact this _ (Nat.le_refl _)
  · have e : (fun j => (Array.replicate ops.size false).getD j false) = fun _ => false := by
      funext j
      by_cases hj : j < ops.size
      · simp [hj]
      · simp [Array.getElem?_eq_none (show (Array.replicate ops.size false).size ≤ j by simp; omega)]
    rw [e]
    exact h0
end Go.Proofs.YtbeionikiiccpaaGreatDoor
