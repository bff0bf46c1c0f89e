import Derived.Test.YtpelmacblglhoaaDta
import Derived.Test.YtpelmacblglhoaaDsy
namespace Go.Proofs.Ytpelmacblglhoaa
/-- Two rows by rising blocks that tell the same of each block are the same. -/
theorem srt_ext {a b : List Wr} (ha : Srt a) (hb : Srt b) (h : ∀ m, fnd a m = fnd b m) : a = b := by
  induction a generalizing b with
  | nil =>
    cases b with
    | nil => rfl
    | cons y b =>
      have := h y.1
      rw [fnd_cons, if_pos rfl] at this
      cases this
  | cons x a ih =>
    cases b with
    | nil =>
      have := h x.1
      rw [fnd_cons, if_pos rfl] at this
      cases this
    | cons y b =>
      have e1 := h x.1
      have e2 := h y.1
      rw [fnd_cons, if_pos rfl, fnd_cons] at e1
      rw [fnd_cons, fnd_cons, if_pos rfl] at e2
      have hxy : x.1 = y.1 := by
        by_cases q : y.1 = x.1
        · exact q.symm
        · rw [if_neg q] at e1
          rw [if_neg (fun r => q r.symm)] at e2
          have m1 := hb.head _ (fnd_mem e1.symm)
          have m2 := ha.head _ (fnd_mem e2)
          simp only at m1 m2
          omega
      rw [if_pos hxy.symm] at e1
      have hx2 : x.2 = y.2 := Option.some.inj e1
      have ex : x = y := Prod.ext hxy hx2
      subst ex
      congr 1
      refine ih ha.tail hb.tail (fun m => ?_)
      have := h m
      rw [fnd_cons, fnd_cons] at this
      by_cases q : x.1 = m
      · have n1 : fnd a m = none := by
          cases r : fnd a m with
          | none => rfl
          | some s => have := ha.head _ (fnd_mem r); simp only at this; omega
        have n2 : fnd b m = none := by
          cases r : fnd b m with
          | none => rfl
          | some s => have := hb.head _ (fnd_mem r); simp only at this; omega
        rw [n1, n2]
      · rwa [if_neg q, if_neg q] at this
/-- What is pending by the law's own book: of the first k blocks those that have a text. -/
def pnd (now : List Bs) : Nat → List Wr
  | 0 => []
  | k + 1 => if now.getD k [] = [] then pnd now k else pnd now k ++ [(k, now.getD k [])]
theorem pnd_lt (now : List Bs) (k : Nat) : ∀ x ∈ pnd now k, x.1 < k := by
  induction k with
  | zero => intro x hx; cases hx
  | succ k ih =>
    intro x hx
    unfold pnd at hx
    split at hx
    · have := ih x hx; omega
    · rcases List.mem_append.1 hx with q | q
      · have := ih x q; omega
      · rw [List.mem_singleton.1 q]; exact Nat.lt_succ_self k
theorem pnd_le (now : List Bs) (k : Nat) : (pnd now k).length ≤ k := by
  induction k with
  | zero => simp [pnd]
  | succ k ih =>
    unfold pnd
    split
    · omega
    · simp
      omega
theorem Srt.snoc {l : List Wr} {x : Wr} (h : Srt l) (hx : ∀ y ∈ l, y.1 < x.1) : Srt (l ++ [x]) := by
  intro i j hij hj
  simp at hj
  have gi : (l ++ [x]).getD i (0, []) = l.getD i (0, []) := by
    rw [List.getD_eq_getElem?_getD, List.getElem?_append_left (by omega), List.getD_eq_getElem?_getD]
  rw [gi]
  by_cases q : j < l.length
  · have gj : (l ++ [x]).getD j (0, []) = l.getD j (0, []) := by
      rw [List.getD_eq_getElem?_getD, List.getElem?_append_left q, List.getD_eq_getElem?_getD]
    rw [gj]
    exact h i j hij q
  · obtain rfl : j = l.length := by omega
    have gj : (l ++ [x]).getD l.length (0, []) = x := by simp
    rw [gj]
    exact hx _ (mem_getD (by omega))
theorem pnd_srt (now : List Bs) (k : Nat) : Srt (pnd now k) := by
  induction k with
  | zero => intro i j h1 h2; simp [pnd] at h2
  | succ k ih =>
    unfold pnd
    split
    · exact ih
    · exact ih.snoc (fun y hy => pnd_lt now k y hy)
theorem fnd_append (a b : List Wr) (m : Nat) : fnd (a ++ b) m = match fnd a m with | some s => some s | none => fnd b m := by
  induction a with
  | nil => rfl
  | cons x a ih =>
    rw [List.cons_append, fnd_cons, fnd_cons]
    split
    · rfl
    · exact ih
theorem pnd_fnd (now : List Bs) (k m : Nat) : fnd (pnd now k) m = if m < k ∧ now.getD m [] ≠ [] then some (now.getD m []) else none := by
  induction k with
  | zero => simp [pnd, fnd]
  | succ k ih =>
    unfold pnd
    by_cases q : now.getD k [] = []
    · rw [if_pos q, ih]
      by_cases hm : m = k
      · subst hm
        rw [if_neg (by omega), if_neg (fun r => r.2 q)]
      · by_cases r : m < k ∧ now.getD m [] ≠ []
        · rw [if_pos r, if_pos ⟨by omega, r.2⟩]
        · rw [if_neg r, if_neg (fun s => r ⟨by omega, s.2⟩)]
    · rw [if_neg q, fnd_append, ih]
      by_cases hm : m = k
      · subst hm
        rw [if_neg (by omega), if_pos ⟨by omega, q⟩]
        simp [fnd]
      · by_cases r : m < k ∧ now.getD m [] ≠ []
        · rw [if_pos r, if_pos ⟨by omega, r.2⟩]
        · rw [if_neg r, if_neg (fun s => r ⟨by omega, s.2⟩)]
          have : ¬ k = m := fun e => hm e.symm
          simp [fnd, this]
theorem pnd_put (now : List Bs) (b : Nat) (s : Bs) (h : now.length = 9) (hb : b < 9) (hs : s ≠ []) : putW (pnd now 9) b s = pnd (now.set b s) 9 := by
  refine srt_ext (putW_srt (pnd_srt _ _)) (pnd_srt _ _) (fun m => ?_)
  rw [putW_fnd, pnd_fnd, pnd_fnd]
  by_cases q : m = b
  · subst q
    have e : (now.set m s).getD m [] = s := by simp [h, hb]
    rw [if_pos rfl, e, if_pos ⟨hb, hs⟩]
  · have e : (now.set b s).getD m [] = now.getD m [] := by
      rw [List.getD_eq_getElem?_getD, List.getD_eq_getElem?_getD, List.getElem?_set_ne (fun r => q r.symm)]
    rw [if_neg q, e]
/-- What lasts behind a Sync, by the law's own book. -/
theorem snc_at (last : List Bs) (ws : List Wr) (hs : Srt ws) (k m : Nat) (hk : k ≤ ws.length) (hl : ∀ x ∈ ws, x.1 < last.length) : (snc last ws k).getD m [] = (fnd (ws.take k) m).getD (last.getD m []) := by
  induction k with
  | zero => simp [snc, fnd]
  | succ k ih =>
    have hk' : k < ws.length := by omega
    have ex : ws.getD k (0, []) = ws[k] := by simp [hk']
    have hlt := hl _ (mem_getD (z := (0, [])) hk')
    rw [List.take_succ_eq_append_getElem hk', fnd_append]
    unfold snc
    by_cases q : m = (ws.getD k (0, [])).1
    · have n1 : fnd (ws.take k) m = none := by
        cases r : fnd (ws.take k) m with
        | none => rfl
        | some s =>
          have hm := fnd_mem r
          obtain ⟨j, hj, e⟩ := List.getElem_of_mem hm
          have hj2 : j < k := by simp at hj; omega
          have := hs j k hj2 hk'
          rw [List.getElem_take] at e
          have ej : ws.getD j (0, []) = (m, s) := by rw [← e]; simp [show j < ws.length by omega]
          rw [ej] at this
          simp only at this
          omega
      rw [n1]
      simp only
      rw [q, List.getD_eq_getElem?_getD, List.getElem?_set_self (by rw [snc_len]; exact hlt)]
      rw [ex]
      simp [fnd]
    · rw [List.getD_eq_getElem?_getD, List.getElem?_set_ne (fun r => q r.symm), ← List.getD_eq_getElem?_getD, ih (by omega)]
      cases r : fnd (ws.take k) m with
      | some s => rfl
      | none =>
        have : ¬ ws[k].1 = m := by rw [← ex]; exact fun e => q e.symm
        simp [fnd, this]
end Go.Proofs.Ytpelmacblglhoaa
