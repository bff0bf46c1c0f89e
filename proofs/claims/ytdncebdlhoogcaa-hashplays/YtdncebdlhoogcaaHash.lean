import Derived.Test.YtdncebdlhoogcaaMixB
namespace Go.Proofs.Ytdncebdlhoogcaa
open Go.RowKit
open Sha
def spl (t : List UInt8) (r : Nat) (l : List UInt8) : List UInt8 := t.take r ++ l ++ t.drop (r + l.length)
theorem spl_len (t : List UInt8) (r : Nat) (l : List UInt8) (h : r + l.length ≤ t.length) : (spl t r l).length = t.length := by
  simp [spl]; omega
theorem spl_nil (t : List UInt8) (r : Nat) : spl t r [] = t := by simp [spl]
theorem spl_cons (t : List UInt8) (r : Nat) (c : UInt8) (l : List UInt8) (h : r + (l.length + 1) ≤ t.length) : spl (t.set r c) (r + 1) l = spl t r (c :: l) := by
  unfold spl
  have e1 : (t.set r c).take (r + 1) = t.take r ++ [c] := by
    rw [List.take_succ_eq_append_getElem (by simp; omega), List.take_set_of_le (Nat.le_refl _)]
    simp
  have e2 : (t.set r c).drop (r + 1 + l.length) = t.drop (r + (c :: l).length) := by
    rw [List.drop_set_of_lt (by omega)]
    simp [Nat.add_assoc, Nat.add_comm 1]
  rw [e1, e2]
  simp
/-- A part that does not go beyond the block. -/
theorem took_chunk (l : List UInt8) : ∀ (h : Ha), h.t.length = 64 → h.n % 64 + l.length ≤ 64 → l ≠ [] →
    took h l = if (h.n + l.length) % 64 = 0 then ⟨mx h.s (spl h.t (h.n % 64) l), spl h.t (h.n % 64) l, h.n + l.length⟩ else ⟨h.s, spl h.t (h.n % 64) l, h.n + l.length⟩ := by
  induction l with
  | nil => intro h _ _ hne; exact absurd rfl hne
  | cons c l ih =>
    intro h ht hle _
    by_cases hl : l = []
    · subst hl
      have e : spl h.t (h.n % 64) [c] = h.t.set (h.n % 64) c := by
        rw [← spl_cons h.t (h.n % 64) c [] (by simp; omega), spl_nil]
      rw [e]
      simp only [took, List.foldl_cons, List.foldl_nil, put, List.length_singleton]
    · have hlp : 0 < l.length := List.length_pos_iff.2 hl
      simp only [List.length_cons] at hle
      have hne : ¬ (h.n + 1) % 64 = 0 := by omega
      have ep : put h c = ⟨h.s, h.t.set (h.n % 64) c, h.n + 1⟩ := by rw [put, if_neg hne]
      have hm : (h.n + 1) % 64 = h.n % 64 + 1 := by omega
      have := ih ⟨h.s, h.t.set (h.n % 64) c, h.n + 1⟩ (by simpa using ht) (by simp only; omega) hl
      rw [show took h (c :: l) = took (put h c) l from rfl, ep, this]
      simp only [hm]
      rw [spl_cons h.t (h.n % 64) c l (by omega)]
      simp only [List.length_cons, show h.n + 1 + l.length = h.n + (l.length + 1) from by omega]
theorem took_append (h : Ha) (a b : List UInt8) : took h (a ++ b) = took (took h a) b := by simp [took]
theorem took_n (l : List UInt8) : ∀ h : Ha, (took h l).n = h.n + l.length := by
  induction l with
  | nil => intro h; rfl
  | cons c l ih =>
    intro h
    rw [show took h (c :: l) = took (put h c) l from rfl, ih]
    have : (put h c).n = h.n + 1 := by unfold put; split <;> rfl
    rw [this, List.length_cons]; omega
theorem took_t (l : List UInt8) : ∀ h : Ha, (took h l).t.length = h.t.length := by
  induction l with
  | nil => intro h; rfl
  | cons c l ih =>
    intro h
    rw [show took h (c :: l) = took (put h c) l from rfl, ih]
    unfold put; split <;> simp
/-- A hasher's cells. -/
def hc (h : Ha) : Array Value := (h.s.l.map U ++ (h.t.map B ++ [Value.int .i64 h.n])).toArray
theorem hc_size (h : Ha) (ht : h.t.length = 64) : (hc h).size = 73 := by simp [hc, ht, St.l]
theorem hc_n (h : Ha) (ht : h.t.length = 64) : (hc h)[72]? = some (.int .i64 h.n) := by
  simp [hc, St.l, ht]
theorem hc_toList (h : Ha) : (hc h).toList = h.s.l.map U ++ (h.t.map B ++ [Value.int .i64 h.n]) := by simp [hc]
theorem hc_copy (h : Ha) (r : Nat) (l : List UInt8) (ht : h.t.length = 64) (hr : r + l.length ≤ 64) :
    ((hc h).toList.take (8 + r) ++ l.map B ++ (hc h).toList.drop (8 + r + (l.map B).length)).toArray = hc ⟨h.s, spl h.t r l, h.n⟩ := by
  rw [hc_toList]
  have e8 : (h.s.l.map U).length = 8 := rfl
  have et : (h.t.map B).length = 64 := by simpa using ht
  have a1 : (h.s.l.map U ++ (h.t.map B ++ [Value.int .i64 h.n])).take (8 + r) = h.s.l.map U ++ (h.t.map B).take r := by
    rw [← e8, List.take_append, List.take_of_length_le (by omega), Nat.add_sub_cancel_left, List.take_append_of_le_length (by omega)]
  have a2 : (h.s.l.map U ++ (h.t.map B ++ [Value.int .i64 h.n])).drop (8 + r + (l.map B).length) = (h.t.map B).drop (r + l.length) ++ [Value.int .i64 h.n] := by
    rw [List.length_map, Nat.add_assoc, ← e8, List.drop_append, List.drop_eq_nil_of_le (by omega), List.nil_append, Nat.add_sub_cancel_left, List.drop_append_of_le_length (by omega)]
  rw [a1, a2]
  simp [hc, spl, List.map_take, List.map_drop]
theorem hc_setn (h : Ha) (n : Nat) (ht : h.t.length = 64) : (hc h).setIfInBounds 72 (.int .i64 (n : Int)) = hc ⟨h.s, h.t, n⟩ := by
  unfold hc
  simp only [List.setIfInBounds_toArray]
  congr 1
  have e8 : (h.s.l.map U).length = 8 := rfl
  have et : (h.t.map B).length = 64 := by simpa using ht
  rw [List.set_append_right _ _ (by omega), e8, List.set_append_right _ _ (by omega), et]
  rfl
end Go.Proofs.Ytdncebdlhoogcaa
