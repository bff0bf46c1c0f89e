import Derived.Test.YtpelmacblglhoaaDsj
namespace Go.Proofs.Ytpelmacblglhoaa
open Go.RowKit
set_option maxHeartbeats 4000000
set_option maxRecDepth 8000
/-- The write of a block, in the place of an earlier one, or at its place. -/
def putW : List Wr → Nat → Bs → List Wr
  | [], b, s => [(b, s)]
  | x :: l, b, s => if x.1 < b then x :: putW l b s else if x.1 = b then (b, s) :: l else (b, s) :: x :: l
theorem putW_set (l : List Wr) (b i : Nat) (s : Bs) (hp : Plc l b i) (h : hit l b i = true) : l.set i (b, s) = putW l b s := by
  induction l generalizing i with
  | nil => simp [hit] at h
  | cons x l ih =>
    obtain ⟨h1, h2⟩ : i < (x :: l).length ∧ ((x :: l).getD i (0, [])).1 = b := by simpa [hit] using h
    cases i with
    | zero =>
      have e : x.1 = b := h2
      simp [putW, e]
    | succ i =>
      have e : x.1 < b := hp.2.1 0 (by omega)
      simp only [putW, if_pos e, List.set_cons_succ]
      rw [ih i ⟨by have := hp.1; simp at this; omega, fun t ht => hp.2.1 (t + 1) (by omega), fun t h3 h4 => hp.2.2 (t + 1) (by omega) (by simp; omega)⟩ (by simp only [hit, Bool.and_eq_true, decide_eq_true_eq]; exact ⟨by simpa using h1, h2⟩)]
theorem putW_ins (l : List Wr) (b i : Nat) (s : Bs) (hp : Plc l b i) (h : hit l b i = false) : ins l i (b, s) = putW l b s := by
  induction l generalizing i with
  | nil =>
    have := hp.1
    simp at this
    subst this
    rfl
  | cons x l ih =>
    cases i with
    | zero =>
      have h1 : b ≤ x.1 := hp.2.2 0 (by omega) (by simp)
      have h2 : x.1 ≠ b := by
        intro e
        have : hit (x :: l) b 0 = true := by simp [hit, e]
        rw [this] at h
        cases h
      have n1 : ¬ x.1 < b := by omega
      simp [putW, n1, h2, ins]
    | succ i =>
      have e : x.1 < b := hp.2.1 0 (by omega)
      simp only [putW, if_pos e]
      have hle : i ≤ l.length := by have := hp.1; simp at this; omega
      have := ih i ⟨hle, fun t ht => hp.2.1 (t + 1) (by omega), fun t h3 h4 => hp.2.2 (t + 1) (by omega) (by simp; omega)⟩ (by
        rw [← h]
        unfold hit
        simp only [List.length_cons, List.getD_cons_succ]
        by_cases q : i < l.length
        · simp [q]
        · simp [q])
      rw [← this]
      rfl
theorem fnd_cons (x : Wr) (l : List Wr) (b : Nat) : fnd (x :: l) b = if x.1 = b then some x.2 else fnd l b := by
  unfold fnd
  rw [List.find?_cons]
  by_cases h : x.1 = b
  · simp [h]
  · have : (x.1 == b) = false := by simpa using h
    rw [this, if_neg h]
theorem Srt.tail {x : Wr} {l : List Wr} (h : Srt (x :: l)) : Srt l := fun i j hij hj => h (i + 1) (j + 1) (by omega) (by simp; omega)
theorem Srt.head {x : Wr} {l : List Wr} (h : Srt (x :: l)) : ∀ y ∈ l, x.1 < y.1 := by
  intro y hy
  obtain ⟨j, hj, rfl⟩ := List.getElem_of_mem hy
  have := h 0 (j + 1) (by omega) (by simp; omega)
  simpa [hj] using this
theorem Srt.cons {x : Wr} {l : List Wr} (h : Srt l) (hx : ∀ y ∈ l, x.1 < y.1) : Srt (x :: l) := by
  intro i j hij hj
  cases j with
  | zero => omega
  | succ j =>
    have hj' : j < l.length := by simpa using hj
    cases i with
    | zero => exact hx _ (mem_getD hj')
    | succ i => exact h i j (by omega) hj'
theorem putW_mem {l : List Wr} {b : Nat} {s : Bs} {y : Wr} (h : y ∈ putW l b s) : y = (b, s) ∨ y ∈ l := by
  induction l with
  | nil => simp [putW] at h; exact .inl h
  | cons x l ih =>
    unfold putW at h
    split at h
    · rcases List.mem_cons.1 h with q | q
      · exact .inr (by simp [q])
      · exact (ih q).imp id (fun r => List.mem_cons_of_mem _ r)
    · split at h
      · rcases List.mem_cons.1 h with q | q
        · exact .inl q
        · exact .inr (List.mem_cons_of_mem _ q)
      · rcases List.mem_cons.1 h with q | q
        · exact .inl q
        · exact .inr q
theorem putW_srt {l : List Wr} {b : Nat} {s : Bs} (h : Srt l) : Srt (putW l b s) := by
  induction l with
  | nil => intro i j h1 h2; simp [putW] at h2; omega
  | cons x l ih =>
    unfold putW
    split
    · rename_i q
      refine (ih h.tail).cons (fun y hy => ?_)
      rcases putW_mem hy with r | r
      · rw [r]; exact q
      · exact h.head y r
    · rename_i q1
      split
      · rename_i q
        exact h.tail.cons (fun y hy => by have := h.head y hy; show b < y.1; omega)
      · rename_i q
        refine h.cons (fun y hy => ?_)
        show b < y.1
        rcases List.mem_cons.1 hy with r | r
        · rw [r]; omega
        · have := h.head y r
          omega
theorem putW_fnd (l : List Wr) (b c : Nat) (s : Bs) : fnd (putW l b s) c = if c = b then some s else fnd l c := by
  induction l with
  | nil =>
    simp only [putW, fnd_cons]
    by_cases h : c = b
    · subst h; simp
    · rw [if_neg (fun e => h e.symm), if_neg h]
  | cons x l ih =>
    unfold putW
    split
    · rename_i q
      rw [fnd_cons, ih, fnd_cons]
      by_cases h : c = b
      · subst h
        rw [if_neg (by omega), if_pos rfl, if_pos rfl]
      · rw [if_neg h, if_neg h]
    · split
      · rename_i q1 q2
        rw [fnd_cons, fnd_cons]
        by_cases h : c = b
        · subst h; simp
        · rw [if_neg (show ¬ b = c from fun e => h e.symm), if_neg h, if_neg (by omega)]
      · rename_i q1 q2
        rw [fnd_cons]
        by_cases h : c = b
        · subst h; simp
        · rw [if_neg (show ¬ b = c from fun e => h e.symm), if_neg h]
def Ds.put (d : Ds) (b : Nat) (s : Bs) : Ds := { d with ws := putW d.ws b s }
theorem Ok.put {d : Ds} (h : Ok d) {b : Nat} {s : Bs} (hb : b < d.last.length) (hs : s.length = 512) : Ok (d.put b s) :=
  ⟨putW_srt h.srt, fun x hx => by
    rcases putW_mem hx with r | r
    · rw [r]; exact ⟨hb, hs⟩
    · exact h.lt x r, h.sz, h.len, h.fuse⟩
end Go.Proofs.Ytpelmacblglhoaa
