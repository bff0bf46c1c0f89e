import Derived.Test.YtbmcaejbfjpmiaaDoorPurb
namespace Go.Proofs.YtbmcaejbfjpmiaaDoor
open Go.Lib
/-- Fields that were read so far, and where the next piece begins. -/
def addl (l : List Fl) (k : Nat) : Rs (List Fl) → Rs (List Fl)
  | .ok m => .ok (l ++ m)
  | .error (e, p) => .error (e, k + p)
theorem addl_nil (r : Rs (List Fl)) : addl [] 0 r = r := by
  cases r with
  | ok l => rfl
  | error e => obtain ⟨e, p⟩ := e; simp [addl]
theorem addl_add (l : List Fl) (k j : Nat) (f : Fl) (r : Rs (List Fl)) : addl l k (add f j r) = addl (l ++ [f]) (k + j) r := by
  cases r with
  | ok m => simp [addl, add]
  | error e => obtain ⟨e, p⟩ := e; simp [addl, add]; omega
theorem addl_one (l : List Fl) (k : Nat) (f : Fl) : addl l k (.ok [f]) = .ok (l ++ [f]) := rfl
/-- A round of Parse: the first piece of what is left. -/
theorem prs_many (s : List UInt8) (l : List Fl) (k : Nat) (h : l.length = 32) : addl l k (prs (32 - l.length) s) = .error (32, k) := by
  rw [h]
  simp [prs, addl]
theorem prs_err (s : List UInt8) (l : List Fl) (k e p : Nat) (h : l.length < 32) (hp : pc (hd 38 s) = .error (e, p)) : addl l k (prs (32 - l.length) s) = .error (e, k + p) := by
  obtain ⟨j, hj⟩ : ∃ j, 32 - l.length = j + 1 := ⟨31 - l.length, by omega⟩
  rw [hj]
  unfold prs
  rw [hp]
  rfl
theorem prs_last (s : List UInt8) (l : List Fl) (k : Nat) (f : Fl) (h : l.length < 32) (hp : pc (hd 38 s) = .ok f) (hl : ¬ (hd 38 s).length < s.length) : addl l k (prs (32 - l.length) s) = .ok (l ++ [f]) := by
  obtain ⟨j, hj⟩ : ∃ j, 32 - l.length = j + 1 := ⟨31 - l.length, by omega⟩
  rw [hj]
  unfold prs
  rw [hp]
  simp only [hl, if_false]
  rfl
theorem tl_drop (c : UInt8) (s : List UInt8) (hl : (hd c s).length < s.length) : tl c s = s.drop ((hd c s).length + 1) := by
  rcases hd_tl c s with ⟨_, h1, _⟩ | h
  · rw [h1] at hl; omega
  · have h9 : ∀ (a b : List UInt8), (a ++ c :: b).drop (a.length + 1) = b := fun a b => by
      rw [List.drop_append, List.drop_of_length_le (by omega)]
      simp
    have := h9 (hd c s) (tl c s)
    rw [← h] at this
    exact this.symm
theorem hd_take (c : UInt8) (s : List UInt8) : s.take (hd c s).length = hd c s := by
  rcases hd_tl c s with ⟨_, h1, _⟩ | h
  · rw [h1, List.take_length]
  · have h9 : ∀ (a b : List UInt8), (a ++ c :: b).take a.length = a := fun a b => by simp
    have := h9 (hd c s) (tl c s)
    rw [← h] at this
    exact this
theorem hd_le (c : UInt8) (s : List UInt8) : (hd c s).length ≤ s.length := List.Sublist.length_le (List.takeWhile_sublist _)
theorem prs_next (s : List UInt8) (l : List Fl) (k : Nat) (f : Fl) (h : l.length < 32) (hp : pc (hd 38 s) = .ok f) (hl : (hd 38 s).length < s.length) : addl l k (prs (32 - l.length) s) = addl (l ++ [f]) (k + ((hd 38 s).length + 1)) (prs (32 - (l ++ [f]).length) (s.drop ((hd 38 s).length + 1))) := by
  obtain ⟨j, hj⟩ : ∃ j, 32 - l.length = j + 1 := ⟨31 - l.length, by omega⟩
  rw [show 32 - (l ++ [f]).length = j by simp; omega, hj]
  conv => lhs; unfold prs
  rw [hp]
  simp only [hl, if_true]
  rw [addl_add, tl_drop _ _ hl]
/-- Where the first c stands, by steps: no c ahead, and one there or the end. -/
theorem hd_len (c : UInt8) (s : List UInt8) (n : Nat) (hn : n ≤ s.length) (h1 : ∀ k, k < n → s[k]? ≠ some c) (h2 : n = s.length ∨ s[n]? = some c) : (hd c s).length = n := by
  induction s generalizing n with
  | nil => simp at hn; subst hn; rfl
  | cons a s ih =>
    by_cases h : a = c
    · subst h
      cases n with
      | zero => simp [hd]
      | succ n =>
        have := h1 0 (by omega)
        simp at this
    · have e : hd c (a :: s) = a :: hd c s := by simp [hd, h]
      rw [e]
      cases n with
      | zero =>
        rcases h2 with h2 | h2
        · simp at h2
        · simp at h2; exact absurd h2 h
      | succ n =>
        have h3 : n = s.length ∨ s[n]? = some c := by
          rcases h2 with h2 | h2
          · left; simpa using h2
          · right; simpa using h2
        rw [List.length_cons, ih n (by simpa using hn) (fun k hk => by have := h1 (k + 1) (by omega); simpa using this) h3]
/-! ### Reading, step by step -/
theorem drop_at (s : List UInt8) (i : Nat) (h : i < s.length) : s.drop i = s[i] :: s.drop (i + 1) := List.drop_eq_getElem_cons h
end Go.Proofs.YtbmcaejbfjpmiaaDoor
