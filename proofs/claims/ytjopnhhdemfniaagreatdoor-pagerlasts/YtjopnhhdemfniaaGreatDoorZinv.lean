import Derived.WalkKit
/- A region that draws its order, by an invariant: one goal an operation, not one an order. -/
namespace Go.Proofs.YtjopnhhdemfniaaGreatDoor
variable {P : Program} {ops : Array Oper} {Q : Exit → Act → World → Prop}
def upd (L : Nat → Bool) (i : Nat) : Nat → Bool := fun j => if j = i then true else L j
def left (listed : Array Bool) : Nat → Nat
  | 0 => 0
  | n + 1 => left listed n + (if listed.getD n true = false then 1 else 0)
theorem left_zero {listed : Array Bool} : ∀ {n : Nat}, left listed n = 0 → ∀ i, i < n → listed.getD i true = true := by
  intro n
  induction n with
  | zero => intro _ i hi; omega
  | succ n ih =>
    intro h i hi
    simp only [left] at h
    by_cases e : i = n
    · subst e
      cases hq : listed.getD i true
      · simp [hq] at h
      · rfl
    · exact ih (by omega) i (by omega)
theorem left_set {listed : Array Bool} {i : Nat} (hi : listed.getD i true = false) : ∀ {n : Nat}, i < n → left (listed.setIfInBounds i true) n + 1 = left listed n := by
  have hlt : i < listed.size := by
    rcases Nat.lt_or_ge i listed.size with h' | h'
    · exact h'
    · simp [Array.getElem?_eq_none h'] at hi
  have hself : (listed.setIfInBounds i true).getD i true = true := by simp [hlt]
  have low : ∀ n, n ≤ i → left (listed.setIfInBounds i true) n = left listed n := by
    intro n
    induction n with
    | zero => intro _; rfl
    | succ n ih =>
      intro h
      simp only [left]
      rw [ih (by omega), getD_set_ne true (by omega)]
  intro n
  induction n with
  | zero => intro h; omega
  | succ n ih =>
    intro h
    simp only [left]
    by_cases e : i = n
    · subst e
      rw [low i (Nat.le_refl _), hself, hi]
      simp
    · rw [getD_set_ne true e]
      have := ih (by omega)
      omega
theorem any_inv (I : (Nat → Bool) → Act → World → Prop)
    (hac : ∀ i o, ops[i]? = some o → ∀ e ∈ o.after, Region.binds .any e = true → e.on < i)
    (hstep : ∀ L a w i o, ops[i]? = some o → L i = false → (∀ e ∈ o.after, Region.binds .any e = true → L e.on = true) → I L a w → wpOp P ops Q i (fun a' w' => I (upd L i) a' w') a w)
    (hend : ∀ L a w, (∀ i, i < ops.size → L i = true) → I L a w → Q .normal a w) :
    ∀ fuel listed a w, listed.size = ops.size → left listed ops.size ≤ fuel → I (fun j => listed.getD j false) a w → wpAny P .any ops Q fuel listed a w := by
  have same : ∀ (listed : Array Bool) (j : Nat), j < listed.size → listed.getD j true = listed.getD j false := by
    intro listed j hj; simp [hj]
  have nil : ∀ (listed : Array Bool) (a : Act) (w : World), listed.size = ops.size → I (fun j => listed.getD j false) a w → Region.ready .any ops listed = [] → Q .normal a w := by
    intro listed a w hs hI hr
    refine hend _ a w ?_ hI
    intro i
    induction i using Nat.strongRecOn with
    | ind i ih =>
      intro hi
      cases hq : listed.getD i false
      · exfalso
        have hm : i ∈ Region.ready .any ops listed := by
          rw [mem_ready]
          refine ⟨by rw [same listed i (by omega)]; exact hq, ops[i], by simp [hi], ?_⟩
          intro e he hb
          have hlt := hac i ops[i] (by simp [hi]) e he hb
          exact ih e.on hlt (by omega)
        rw [hr] at hm
        cases hm
      · rfl
  intro fuel
  induction fuel with
  | zero =>
    intro listed a w hs hl hI
    have hr : Region.ready .any ops listed = [] := by
      cases hq : Region.ready .any ops listed with
      | nil => rfl
      | cons x xs =>
        have hm : x ∈ Region.ready .any ops listed := by rw [hq]; simp
        rw [mem_ready] at hm
        obtain ⟨h1, o, ho, _⟩ := hm
        have hlt : x < ops.size := (Array.getElem?_eq_some_iff.1 ho).1
        have := left_zero (listed := listed) (n := ops.size) (by omega) x hlt
        rw [this] at h1
        cases h1
    exact ⟨hr, nil listed a w hs hI hr⟩
  | succ fuel ih =>
    intro listed a w hs hl hI
    refine ⟨nil listed a w hs hI, ?_⟩
    intro i hi
    rw [mem_ready] at hi
    obtain ⟨h1, o, ho, hall⟩ := hi
    have hlt : i < ops.size := (Array.getElem?_eq_some_iff.1 ho).1
    refine wpOp_mono ?_ (hstep (fun j => listed.getD j false) a w i o ho (by rw [← same listed i (by omega)]; exact h1) hall hI)
    intro a' w' hI'
    refine ih (listed.setIfInBounds i true) a' w' (by simpa using hs) (by have := left_set h1 hlt; omega) ?_
    have e : (fun j => (listed.setIfInBounds i true).getD j false) = upd (fun j => listed.getD j false) i := by
      funext j
      unfold upd
      by_cases hj : j = i
      · subst hj
        simp [hs, hlt]
      · rw [if_neg hj, getD_set_ne false (Ne.symm hj)]
    rw [e]
    exact hI'
theorem region_inv {id : Nat} {a : Act} {w : World} (hm : P.follows .mixedOrders = true) (I : (Nat → Bool) → Act → World → Prop)
    (hac : ∀ i o, ops[i]? = some o → ∀ e ∈ o.after, Region.binds .any e = true → e.on < i)
    (h0 : I (fun _ => false) a w.drew)
    (hstep : ∀ L a w i o, ops[i]? = some o → L i = false → (∀ e ∈ o.after, Region.binds .any e = true → L e.on = true) → I L a w → wpOp P ops Q i (fun a' w' => I (upd L i) a' w') a w)
    (hend : ∀ L a w, (∀ i, i < ops.size → L i = true) → I L a w → Q .normal a w) : (Code.region id ops true).wp P Q a w := by
  refine wp_region_any hm ?_
  refine any_inv I hac hstep hend ops.size _ a _ (by simp) ?_ ?_
  · have : ∀ n, n ≤ ops.size → left (Array.replicate ops.size false) n ≤ n := by
      intro n
      induction n with
      | zero => intro _; simp [left]
      | succ n ih => intro h; simp only [left]; have := ih (by omega); split <;> omega
    exact this _ (Nat.le_refl _)
  · have e : (fun j => (Array.replicate ops.size false).getD j false) = fun _ => false := by
      funext j
      by_cases hj : j < ops.size
      · simp [hj]
      · simp [Array.getElem?_eq_none (show (Array.replicate ops.size false).size ≤ j by simp; omega)]
    rw [e]
    exact h0
end Go.Proofs.YtjopnhhdemfniaaGreatDoor
/- A region that draws its order, each of whose operations yields one value, whatever the order: one goal an operation, over a frame of which a few slots are known. -/
namespace Go.Proofs.YtjopnhhdemfniaaGreatDoor
variable {P : Program} {ops : Array Oper} {Q : Exit → Act → World → Prop}
/-- Where an operation lays what it yields. -/
def dstOf (ops : Array Oper) (i : Nat) : Option Tmp := (ops[i]?).bind (·.dst)
/-- The frame behind those operations that came up. -/
def frm (ops : Array Oper) (a0 : Act) (val : Nat → Value) (L : Nat → Bool) : Nat → Act
  | 0 => a0
  | n + 1 => if L n = true then (frm ops a0 val L n).put (dstOf ops n) (val n) else frm ops a0 val L n
theorem put_comm (a : Act) (d e : Option Tmp) (u v : Value) (h : d ≠ e ∨ d = none) : (a.put d u).put e v = (a.put e v).put d u := by
  cases d with
  | none => rfl
  | some x =>
    cases e with
    | none => rfl
    | some y =>
      have hne : x ≠ y := by
        rcases h with h | h
        · intro q; exact h (by rw [q])
        · cases h
      simp only [Act.put]
      rw [Array.setIfInBounds_comm _ _ hne]
theorem frm_upd (a0 : Act) (val : Nat → Value) (L : Nat → Bool) (i : Nat) (hL : L i = false) (hd : ∀ j, j ≠ i → dstOf ops j ≠ dstOf ops i ∨ dstOf ops j = none) :
    ∀ n, frm ops a0 val (upd L i) n = if i < n then (frm ops a0 val L n).put (dstOf ops i) (val i) else frm ops a0 val L n := by
  intro n
  induction n with
  | zero => simp [frm]
  | succ n ih =>
    by_cases e : n = i
    · subst e
      have e1 : upd L n n = true := by simp [upd]
      have e2 : frm ops a0 val L (n + 1) = frm ops a0 val L n := by simp [frm, hL]
      have e3 : frm ops a0 val (upd L n) (n + 1) = (frm ops a0 val (upd L n) n).put (dstOf ops n) (val n) := by simp [frm, e1]
      rw [e3, e2, ih, if_neg (Nat.lt_irrefl n), if_pos (Nat.lt_succ_self n)]
    · have e1 : upd L i n = L n := by simp [upd, e]
      cases hn : L n with
      | false =>
        have e2 : frm ops a0 val L (n + 1) = frm ops a0 val L n := by simp [frm, hn]
        have e3 : frm ops a0 val (upd L i) (n + 1) = frm ops a0 val (upd L i) n := by simp [frm, e1, hn]
        rw [e3, e2, ih]
        by_cases hlt : i < n
        · rw [if_pos hlt, if_pos (show i < n + 1 by omega)]
        · rw [if_neg hlt, if_neg (show ¬ i < n + 1 by omega)]
      | true =>
        have e2 : frm ops a0 val L (n + 1) = (frm ops a0 val L n).put (dstOf ops n) (val n) := by simp [frm, hn]
        have e3 : frm ops a0 val (upd L i) (n + 1) = (frm ops a0 val (upd L i) n).put (dstOf ops n) (val n) := by simp [frm, e1, hn]
        rw [e3, e2, ih]
        by_cases hlt : i < n
        · rw [if_pos hlt, if_pos (show i < n + 1 by omega)]
          exact (put_comm _ _ _ _ _ (hd n e)).symm
        · rw [if_neg hlt, if_neg (show ¬ i < n + 1 by omega)]
theorem put_size (a : Act) (d : Option Tmp) (v : Value) : (a.put d v).tmps.size = a.tmps.size := by
  cases d with
  | none => rfl
  | some x => simp [Act.put]
theorem frm_size (a0 : Act) (val : Nat → Value) (L : Nat → Bool) : ∀ n, (frm ops a0 val L n).tmps.size = a0.tmps.size := by
  intro n
  induction n with
  | zero => rfl
  | succ n ih =>
    simp only [frm]
    split
    · rw [put_size, ih]
    · exact ih
theorem put_get_ne (a : Act) (d : Option Tmp) (v : Value) (s : Nat) (h : d ≠ some s) : (a.put d v).tmps[s]? = a.tmps[s]? := by
  cases d with
  | none => rfl
  | some x =>
    have : x ≠ s := fun q => h (by rw [q])
    simp [Act.put, this]
theorem put_get (a : Act) (s : Nat) (v : Value) (h : s < a.tmps.size) : (a.put (some s) v).tmps[s]? = some v := by
  simp [Act.put, h]
/-- A slot that no operation of the region lays. -/
theorem frm_out (a0 : Act) (val : Nat → Value) (L : Nat → Bool) (s : Nat) : ∀ n, (∀ j, j < n → dstOf ops j ≠ some s) → (frm ops a0 val L n).tmps[s]? = a0.tmps[s]? := by
  intro n
  induction n with
  | zero => intro _; rfl
  | succ n ih =>
    intro h
    simp only [frm]
    split
    · rw [put_get_ne _ _ _ _ (h n (by omega))]; exact ih (fun j hj => h j (by omega))
    · exact ih (fun j hj => h j (by omega))
/-- What an operation that came up has laid. -/
theorem frm_in (a0 : Act) (val : Nat → Value) (L : Nat → Bool) (i s : Nat) (hi : dstOf ops i = some s) (hs : s < a0.tmps.size) (hL : L i = true) (hd : ∀ j, j ≠ i → dstOf ops j ≠ some s) : ∀ n, i < n → (frm ops a0 val L n).tmps[s]? = some (val i) := by
  intro n
  induction n with
  | zero => intro h; omega
  | succ n ih =>
    intro h
    simp only [frm]
    by_cases e : n = i
    · subst e
      rw [if_pos hL, hi, put_get _ _ _ (by rw [frm_size]; exact hs)]
    · have := ih (by omega)
      split
      · rw [put_get_ne _ _ _ _ (hd n e)]; exact this
      · exact this
theorem eval_of {a : Act} {s : Nat} {v : Value} (h : a.tmps[s]? = some v) : a.eval (.tmp s) = v := by
  simp [Act.eval, h]
theorem wanted_none {o : Oper} {y : Nat → Option Bool} (h : o.guard = none) : Region.wanted o y = true := by simp [Region.wanted, h]
theorem wanted_at {o : Oper} {ops : Array Oper} {a : Act} {j s : Nat} {b want : Bool} (h : o.guard = some (j, want)) (hd : dstOf ops j = some s) (hs : a.tmps[s]? = some (.bool b)) : Region.wanted o (yielded ops a.tmps) = (b == want) := by
  unfold dstOf at hd
  simp only [Region.wanted, h, yielded, hd, Option.bind_some, hs]
  cases b <;> cases want <;> rfl
def acB (ops : Array Oper) : Bool := (List.range ops.size).all fun i => match ops[i]? with | some o => o.after.toList.all (fun e => !(Region.binds .any e) || decide (e.on < i)) | none => true
theorem hac_of (h : acB ops = true) : ∀ i o, ops[i]? = some o → ∀ e ∈ o.after, Region.binds .any e = true → e.on < i := by
  intro i o ho e he hb
  have hi : i < ops.size := (Array.getElem?_eq_some_iff.1 ho).1
  have h1 := List.all_eq_true.1 h i (List.mem_range.2 hi)
  simp only [ho] at h1
  have h2 := List.all_eq_true.1 h1 e (by simpa using he)
  simpa [hb] using h2
/-- What an operation that came up has laid. -/
theorem frm_at (hdis : ∀ i j, j ≠ i → dstOf ops j ≠ dstOf ops i ∨ dstOf ops j = none) {a a0 : Act} {val : Nat → Value} {L : Nat → Bool} (ha : a = frm ops a0 val L ops.size) (i s : Nat) (hi : dstOf ops i = some s) (hs : s < a0.tmps.size) (hL : L i = true) : a.tmps[s]? = some (val i) := by
  rw [ha]
  have hlt : i < ops.size := by
    rcases Nat.lt_or_ge i ops.size with h | h
    · exact h
    · simp [dstOf, Array.getElem?_eq_none h] at hi
  refine frm_in a0 val L i s hi hs hL (fun j hj => ?_) _ hlt
  rcases hdis i j hj with q | q
  · rw [← hi]; exact q
  · rw [q]; simp
theorem frm_old {a a0 : Act} {val : Nat → Value} {L : Nat → Bool} (ha : a = frm ops a0 val L ops.size) (s : Nat) (v : Value) (h : (List.range ops.size).all (fun j => !(dstOf ops j == some s)) = true) (h0 : a0.tmps[s]? = some v) : a.tmps[s]? = some v := by
  rw [ha, frm_out a0 val L s ops.size, h0]
  intro j hj q
  have := List.all_eq_true.1 h j (List.mem_range.2 hj)
  rw [q] at this
  simp at this
end Go.Proofs.YtjopnhhdemfniaaGreatDoor
