import Derived.Test.YtllialbdofklgaaGreatDoorDsa
namespace Go.Proofs.YtllialbdofklgaaGreatDoor
open Go.RowKit
/-! ### Order of texts -/
theorem lt_irrefl' (a : Bs) : ¬ a < a := List.lt_irrefl a
theorem lt_trans' {a b c : Bs} (h : a < b) (h' : b < c) : a < c := List.lt_trans h h'
theorem lt_total' {a b : Bs} (h : ¬ a < b) (h' : a ≠ b) : b < a := by
  rcases Decidable.em (b < a) with h2 | h2
  · exact h2
  · exact absurd (List.le_antisymm (List.not_lt.1 h2) (List.not_lt.1 h)) h'
theorem less_eq : ∀ (x y : List UInt8), Op.bytesLess x y = decide (x < y)
  | [], [] => by simp [Op.bytesLess]
  | [], _ :: _ => by simp [Op.bytesLess]
  | _ :: _, [] => by simp [Op.bytesLess]
  | a :: x, b :: y => by
    rw [Op.bytesLess, less_eq x y, Bool.eq_iff_iff]
    simp [List.cons_lt_cons_iff]
theorem le_or (x y : Bs) : (Op.bytesLess x y || x == y) = decide (¬ y < x) := by
  rw [less_eq, Bool.eq_iff_iff]
  simp only [Bool.or_eq_true, decide_eq_true_eq, beq_iff_eq]
  constructor
  · rintro (h | rfl) h2
    · exact lt_irrefl' _ (lt_trans' h h2)
    · exact lt_irrefl' _ h2
  · intro h
    rcases Decidable.em (x = y) with q | q
    · exact .inr q
    · exact .inl (lt_total' h (fun e => q e.symm))
theorem run_lss (x y : Bs) (W : World) : (binOp .lss 9 (S x) (S y)).run Tryz.prog W = .ok (.bool (decide (x < y))) W := by
  rw [← less_eq x y]
  simp [binOp, Op.stringOp]
theorem run_leq (x y : Bs) (W : World) : (binOp .leq 9 (S x) (S y)).run Tryz.prog W = .ok (.bool (decide (¬ y < x))) W := by
  rw [← le_or x y]
  simp [binOp, Op.stringOp]
theorem run_gtr (x y : Bs) (W : World) : (binOp .gtr 9 (S x) (S y)).run Tryz.prog W = .ok (.bool (decide (y < x))) W := by
  have e : decide (y < x) = !decide (¬ y < x) := by by_cases h : y < x <;> simp [h]
  rw [e, ← le_or x y]
  simp [binOp, Op.stringOp]
theorem run_geq (x y : Bs) (W : World) : (binOp .geq 9 (S x) (S y)).run Tryz.prog W = .ok (.bool (decide (¬ x < y))) W := by
  have e : decide (¬ x < y) = !decide (x < y) := by by_cases h : x < y <;> simp [h]
  rw [e, ← less_eq x y]
  simp [binOp, Op.stringOp]
theorem run_eql (x y : Bs) (W : World) : (binOp .eql 9 (S x) (S y)).run Tryz.prog W = .ok (.bool (decide (x = y))) W := by
  have e : decide (x = y) = (x == y) := by by_cases h : x = y <;> simp [h]
  rw [e]
  simp [binOp, Op.stringOp]
/-! ### Rising lists -/
def up : List Bs → Bool
  | a :: b :: r => decide (a < b) && up (b :: r)
  | _ => true
abbrev Rs (l : List Bs) : Prop := l.Pairwise (· < ·)
theorem up_iff : ∀ l : List Bs, up l = true ↔ Rs l
  | [] => by simp [up]
  | [a] => by simp [up]
  | a :: b :: r => by
    simp only [up, Bool.and_eq_true, decide_eq_true_eq, up_iff (b :: r)]
    constructor
    · rintro ⟨h, h2⟩
      refine List.pairwise_cons.2 ⟨fun x hx => ?_, h2⟩
      rcases List.mem_cons.1 hx with rfl | hx
      · exact h
      · exact lt_trans' h ((List.pairwise_cons.1 h2).1 x hx)
    · intro h
      exact ⟨(List.pairwise_cons.1 h).1 b (by simp), (List.pairwise_cons.1 h).2⟩
theorem up_of_get {l : List Bs} (h : ∀ i, (hi : i + 1 < l.length) → l[i] < l[i+1]) : up l = true := by
  induction l with
  | nil => rfl
  | cons a r ih =>
    cases r with
    | nil => rfl
    | cons b r =>
      simp only [up, Bool.and_eq_true, decide_eq_true_eq]
      refine ⟨by simpa using h 0 (by simp), ih fun i hi => ?_⟩
      have := h (i+1) (by simp only [List.length_cons] at hi ⊢; omega)
      simpa using this
theorem get_of_up {l : List Bs} (h : up l = true) (i : Nat) (hi : i + 1 < l.length) : l[i] < l[i+1] :=
  List.pairwise_iff_getElem.1 ((up_iff l).1 h) i (i+1) (by omega) hi (by omega)
theorem up_next {l : List Bs} (k : Nat) (hk : k + 1 < l.length) (h : up (l.take (k + 1)) = true) (hl : l.getD k [] < l.getD (k + 1) []) : up (l.take (k + 2)) = true := by
  refine up_of_get fun i hi => ?_
  simp only [List.length_take] at hi
  simp only [List.getElem_take]
  by_cases e : i = k
  · subst e
    rw [List.getD_eq_getElem?_getD, List.getD_eq_getElem?_getD, List.getElem?_eq_getElem (by omega), List.getElem?_eq_getElem hk] at hl
    exact hl
  · have := get_of_up h i (by simp only [List.length_take]; omega)
    simpa using this
theorem up_bad {l : List Bs} (k : Nat) (hk : k + 1 < l.length) (hl : ¬ l.getD k [] < l.getD (k + 1) []) : up l = false := by
  rw [Bool.eq_false_iff]
  intro q
  apply hl
  have := get_of_up q k hk
  rw [List.getD_eq_getElem?_getD, List.getD_eq_getElem?_getD, List.getElem?_eq_getElem (by omega), List.getElem?_eq_getElem hk]
  exact this
theorem up_one (l : List Bs) : up (l.take 1) = true := by
  cases l with
  | nil => rfl
  | cons a r => rfl
theorem up_take {l : List Bs} (h : up l = true) (k : Nat) : up (l.take k) = true := by
  rw [up_iff] at h ⊢
  exact h.sublist (List.take_sublist k l)
/-! ### Between -/
def alk : Bs → Bs → Nat
  | a :: x, b :: y => if a = b then alk x y + 1 else 0
  | _, _ => 0
def btw (a b : Bs) : Bs := if a < b then b.take (alk a b + 1) else b
theorem alk_le : ∀ a b : Bs, alk a b ≤ a.length ∧ alk a b ≤ b.length
  | [], b => by simp [alk]
  | a :: x, [] => by simp [alk]
  | a :: x, b :: y => by
    have := alk_le x y
    unfold alk
    split
    · simp only [List.length_cons]; omega
    · simp
theorem alk_lt : ∀ {a b : Bs}, a < b → alk a b < b.length
  | [], [], h => absurd h (lt_irrefl' _)
  | [], b :: y, _ => by simp [alk]
  | a :: x, [], h => by simp at h
  | a :: x, b :: y, h => by
    unfold alk
    split
    · rename_i e
      subst e
      have := alk_lt (List.cons_lt_cons_iff.1 h |>.resolve_left (by simp) |>.2)
      simp only [List.length_cons]; omega
    · simp
/-- As far as they are alike, and no farther. -/
theorem alk_at : ∀ (a b : Bs) (k : Nat), k < alk a b → a.getD k 0 = b.getD k 0
  | [], b, k, h => by simp [alk] at h
  | a :: x, [], k, h => by simp [alk] at h
  | a :: x, b :: y, k, h => by
    unfold alk at h
    split at h
    · rename_i e
      cases k with
      | zero => simpa using e
      | succ k => simpa using alk_at x y k (by omega)
    · omega
theorem alk_end : ∀ (a b : Bs), alk a b < a.length → alk a b < b.length → a.getD (alk a b) 0 ≠ b.getD (alk a b) 0
  | [], b, h, _ => by simp at h
  | a :: x, [], _, h => by simp at h
  | a :: x, b :: y, h1, h2 => by
    unfold alk at h1 h2 ⊢
    split
    · rename_i e
      rw [if_pos e] at h1 h2
      simpa using alk_end x y (by simpa using h1) (by simpa using h2)
    · rename_i e
      simpa using e
theorem alk_of {a b : Bs} {k : Nat} (h : ∀ j, j < k → a.getD j 0 = b.getD j 0) (ha : k ≤ a.length) (hb : k ≤ b.length) : k ≤ alk a b := by
  induction k generalizing a b with
  | zero => omega
  | succ k ih =>
    cases a with
    | nil => simp at ha
    | cons c x =>
      cases b with
      | nil => simp at hb
      | cons d y =>
        have e : c = d := by simpa using h 0 (by omega)
        unfold alk
        rw [if_pos e]
        have := ih (a := x) (b := y) (fun j hj => by simpa using h (j + 1) (by omega)) (by simpa using ha) (by simpa using hb)
        omega
theorem btw_gt : ∀ {a b : Bs}, a < b → a < b.take (alk a b + 1)
  | [], [], h => absurd h (lt_irrefl' _)
  | [], b :: y, _ => by simp
  | a :: x, [], h => by simp at h
  | a :: x, b :: y, h => by
    unfold alk
    split
    · rename_i e
      subst e
      have := btw_gt (List.cons_lt_cons_iff.1 h |>.resolve_left (by simp) |>.2)
      rw [List.take_succ_cons, List.cons_lt_cons_iff]
      exact .inr ⟨rfl, this⟩
    · rename_i e
      rw [List.take_succ_cons, List.cons_lt_cons_iff]
      exact .inl ((List.cons_lt_cons_iff.1 h).resolve_right (fun q => e q.1))
theorem pre_le : ∀ (b : Bs) (k : Nat), ¬ b < b.take k
  | [], k => by simp
  | b :: y, 0 => by simp
  | b :: y, k + 1 => by
    rw [List.take_succ_cons, List.cons_lt_cons_iff]
    rintro (h | ⟨_, h⟩)
    · exact absurd h (by simp)
    · exact pre_le y k h
theorem pre_lt : ∀ (a b : Bs) (k : Nat), k ≤ alk a b → ¬ a < b.take k
  | a, b, 0, _ => by simp
  | [], b, k + 1, h => by simp [alk] at h
  | a :: x, [], k + 1, h => by simp [alk] at h
  | a :: x, b :: y, k + 1, h => by
    unfold alk at h
    split at h
    · rename_i e
      subst e
      rw [List.take_succ_cons, List.cons_lt_cons_iff]
      rintro (q | ⟨_, q⟩)
      · exact absurd q (by simp)
      · exact pre_lt x y k (by omega) q
    · omega
theorem btw_len {a b : Bs} (h : a < b) : (btw a b).length = alk a b + 1 := by
  have := alk_lt h
  simp only [btw, h, if_true, List.length_take]
  omega
/-! ### Nodes -/
structure Nd where
  leaf : Bool
  keys : List Bs
  vals : List Bs
  kids : List Int
def tot (l : List Bs) : Nat := (l.map List.length).sum
theorem tot_app (a b : List Bs) : tot (a ++ b) = tot a + tot b := by simp [tot, List.map_append, List.sum_append]
theorem tot_next (l : List Bs) (k : Nat) (hk : k < l.length) : tot (l.take (k + 1)) = tot (l.take k) + (l.getD k []).length := by
  rw [List.take_succ_eq_append_getElem hk, tot_app, List.getD_eq_getElem?_getD, List.getElem?_eq_getElem hk]
  simp [tot]
theorem tot_take (l : List Bs) (k : Nat) : tot (l.take k) ≤ tot l := by
  have := tot_app (l.take k) (l.drop k)
  rw [List.take_append_drop] at this
  omega
def Nd.siz (n : Nd) : Nat := if n.leaf then 2 * max n.keys.length n.vals.length + tot n.keys + tot n.vals else 4 * n.kids.length + n.keys.length + tot n.keys
def noKey (x : Bs) : Bool := decide (x.length < 1) || decide (36 < x.length)
def kok (l : List Bs) : Bool := l.all (fun x => !noKey x) && up l
/-- How many are below the key. -/
def blw (l : List Bs) (key : Bs) : Nat := match l with
  | [] => 0
  | a :: r => if a < key then blw r key + 1 else 0
def fnd (n : Nd) (key : Bs) : Nat × Bool :=
  if up n.keys then
    (let at_ := blw n.keys key
     let is := decide (at_ < n.keys.length ∧ n.keys.getD at_ [] = key)
     if n.leaf then (at_, is) else (if is then at_ + 1 else at_, false))
  else (0, false)
theorem blw_le : ∀ (l : List Bs) (key : Bs), blw l key ≤ l.length
  | [], _ => by simp [blw]
  | a :: r, key => by
    have := blw_le r key
    unfold blw
    split
    · simp only [List.length_cons]; omega
    · simp
theorem blw_lt : ∀ (l : List Bs) (key : Bs) (k : Nat), k < blw l key → l.getD k [] < key
  | [], _, k, h => by simp [blw] at h
  | a :: r, key, k, h => by
    unfold blw at h
    split at h
    · rename_i e
      cases k with
      | zero => simpa using e
      | succ k => simpa using blw_lt r key k (by omega)
    · omega
theorem blw_end : ∀ (l : List Bs) (key : Bs), blw l key < l.length → ¬ l.getD (blw l key) [] < key
  | [], _, h => by simp at h
  | a :: r, key, h => by
    unfold blw at h ⊢
    split
    · rename_i e
      rw [if_pos e] at h
      simpa using blw_end r key (by simpa using h)
    · rename_i e
      simpa using e
theorem blw_of {l : List Bs} {key : Bs} {k : Nat} (h : ∀ j, j < k → l.getD j [] < key) (hk : k ≤ l.length) : k ≤ blw l key := by
  induction k generalizing l with
  | zero => omega
  | succ k ih =>
    cases l with
    | nil => simp at hk
    | cons a r =>
      have e : a < key := by simpa using h 0 (by omega)
      unfold blw
      rw [if_pos e]
      have := ih (l := r) (fun j hj => by simpa using h (j + 1) (by omega)) (by simpa using hk)
      omega
end Go.Proofs.YtllialbdofklgaaGreatDoor
