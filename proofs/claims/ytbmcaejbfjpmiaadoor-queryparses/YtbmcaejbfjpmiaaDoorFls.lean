import Derived.Test.YtbmcaejbfjpmiaaDoorReb
namespace Go.Proofs.YtbmcaejbfjpmiaaDoor
open Go.RowKit Go.Lib
abbrev S (l : List UInt8) : Value := .string ⟨l.toArray⟩
def f0 : Fl := ([], [])
/-- Fields, one behind the other in memory. -/
def Fls (w : World) (a : Option Addr) (n : Nat) (fs : List Fl) : Prop :=
  n = fs.length ∧ (0 < n → ∃ p o, a = some ⟨p, o, none⟩ ∧ ∀ j, j < n → w.cell? ⟨p, o + j * 2, none⟩ = some (S (fs.getD j f0).1) ∧ w.cell? ⟨p, o + j * 2 + 1, none⟩ = some (S (fs.getD j f0).2))
theorem blk_lt {w : World} {p o : Nat} {v : Value} (h : w.cell? ⟨p, o, none⟩ = some v) : p < w.heap.size := by
  rcases Nat.lt_or_ge p w.heap.size with h' | h'
  · exact h'
  · simp [World.cell?, Array.getElem?_eq_none h'] at h
theorem Fls.at {w : World} {a : Option Addr} {n : Nat} {fs : List Fl} (h : Fls w a n fs) {j : Nat} (hj : j < n) : ∃ p o, a = some ⟨p, o, none⟩ ∧ p < w.heap.size ∧ w.cell? ⟨p, o + j * 2, none⟩ = some (S (fs.getD j f0).1) ∧ w.cell? ⟨p, o + j * 2 + 1, none⟩ = some (S (fs.getD j f0).2) := by
  obtain ⟨p, o, e, hc⟩ := h.2 (by omega)
  exact ⟨p, o, e, blk_lt (hc j hj).1, hc j hj⟩
theorem Fls.nil (w : World) (a : Option Addr) : Fls w a 0 [] := ⟨rfl, fun h => absurd h (Nat.lt_irrefl 0)⟩
theorem Fls.below {w w' : World} {a : Option Addr} {n : Nat} {fs : List Fl} (h : Fls w a n fs) (hb : Below w.heap.size w w') : Fls w' a n fs := by
  refine ⟨h.1, fun hn => ?_⟩
  obtain ⟨p, o, e, hc⟩ := h.2 hn
  exact ⟨p, o, e, fun j hj => ⟨(hb.cell (by exact blk_lt (hc j hj).1)).trans (hc j hj).1, (hb.cell (by exact blk_lt (hc j hj).2)).trans (hc j hj).2⟩⟩
theorem Fls.keep {w w' : World} {B : Nat} {a : Option Addr} {n : Nat} {fs : List Fl} (h : Fls w a n fs) (hb : Below B w w') (ha : ∀ p o, a = some ⟨p, o, none⟩ → p < B) : Fls w' a n fs := by
  refine ⟨h.1, fun hn => ?_⟩
  obtain ⟨p, o, e, hc⟩ := h.2 hn
  exact ⟨p, o, e, fun j hj => ⟨(hb.cell (by exact ha p o e)).trans (hc j hj).1, (hb.cell (by exact ha p o e)).trans (hc j hj).2⟩⟩
/-- How much they are. -/
def siz : List Fl → Nat
  | [] => 0
  | f :: l => f.1.length + f.2.length + 1 + siz l
theorem siz_append (a b : List Fl) : siz (a ++ b) = siz a + siz b := by
  induction a with
  | nil => simp [siz]
  | cons f a ih => simp [siz, ih]; omega
theorem siz_at (fs : List Fl) (k : Nat) (h : k < fs.length) : siz (fs.take (k + 1)) = siz (fs.take k) + ((fs.getD k f0).1.length + (fs.getD k f0).2.length + 1) := by
  rw [List.take_succ_eq_append_getElem h, siz_append]
  simp [siz, h]
theorem siz_take_le (fs : List Fl) (k : Nat) : siz (fs.take k) ≤ siz fs := by
  conv => rhs; rw [← List.take_append_drop k fs, siz_append]
  omega
theorem siz_len (fs : List Fl) : fs.length ≤ siz fs := by
  induction fs with
  | nil => simp
  | cons f l ih => simp [siz]; omega
theorem siz_get (fs : List Fl) (k : Nat) : (fs.getD k f0).1.length + (fs.getD k f0).2.length ≤ siz fs := by
  by_cases h : k < fs.length
  · have h1 := siz_at fs k h
    have h2 := siz_take_le fs (k + 1)
    omega
  · rw [List.getD_eq_getElem?_getD, List.getElem?_eq_none (by omega)]
    simp [f0]
theorem prt_snoc (l : List Fl) (f : Fl) : prt (l ++ [f]) = prt l ++ ((if l = [] then [] else [38]) ++ fld f) := by
  cases l with
  | nil => simp [prt]
  | cons g l => simp [prt]
theorem prt_at (fs : List Fl) (k : Nat) (h : k < fs.length) : prt (fs.take (k + 1)) = prt (fs.take k) ++ ((if k = 0 then [] else [38]) ++ fld (fs.getD k f0)) := by
  rw [List.take_succ_eq_append_getElem h, prt_snoc]
  have e : (fs.take k = []) = (k = 0) := by
    apply propext
    constructor
    · intro q
      have := congrArg List.length q
      simp at this
      rcases this with h1 | h1
      · exact h1
      · subst h1; simp at h
    · intro q; simp [q]
  simp [e, h]
theorem fld_len (f : Fl) : (fld f).length ≤ 3 * (f.1.length + f.2.length) + 1 := by
  have h1 := esc_len f.1
  have h2 := esc_len f.2
  unfold fld
  simp
  omega
theorem prt_len (fs : List Fl) (k : Nat) (h : k ≤ fs.length) : (prt (fs.take k)).length ≤ 3 * siz (fs.take k) := by
  induction k with
  | zero => simp [prt]
  | succ k ih =>
    rw [prt_at fs k (by omega), siz_at fs k (by omega), List.length_append, List.length_append]
    have h1 := ih (by omega)
    have h2 := fld_len (fs.getD k f0)
    generalize fs.getD k f0 = f at *
    split
    · simp; omega
    · simp; omega
end Go.Proofs.YtbmcaejbfjpmiaaDoor
