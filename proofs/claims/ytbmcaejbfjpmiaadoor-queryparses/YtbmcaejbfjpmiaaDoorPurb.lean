import Derived.Test.YtbmcaejbfjpmiaaDoorPura
import Derived.Lib.IndexMore
import Derived.Lib.DecodeN
import Derived.Lib.RuneCountTail
import Derived.Laws.RangeAny
import Derived.Lib.Bytealg
namespace Go.Proofs.YtbmcaejbfjpmiaaDoor
open Go.Lib
theorem index_one (p : List UInt8) (c : UInt8) : index p [c] = if (hd c p).length < p.length then ((hd c p).length : Int) else -1 := by
  induction p with
  | nil => simp [index, hd]
  | cons a p ih =>
    unfold index
    by_cases h : a = c
    · subst h
      simp [hd, List.isPrefixOf]
    · have h1 : List.isPrefixOf [c] (a :: p) = false := by simp [List.isPrefixOf, Ne.symm h]
      have h2 : hd c (a :: p) = a :: hd c p := by simp [hd, h]
      rw [h1, ih, h2]
      simp only [Bool.false_eq_true, if_false, List.length_cons]
      split
      · rw [if_neg (by simp), if_pos (by omega)]
        omega
      · rw [if_pos (by simp), if_neg (by omega)]
theorem cut_one (p : List UInt8) (c : UInt8) : cut p [c] = (hd c p, tl c p, decide ((hd c p).length < p.length)) := by
  unfold cut
  rw [index_one]
  rcases hd_tl c p with ⟨h0, h1, h2⟩ | h
  · rw [h1, h2]
    simp
  · have hl : (hd c p).length < p.length := by
      conv => rhs; rw [h]
      simp
    rw [if_pos hl]
    simp only [Int.toNat_natCast, hl, decide_true]
    rw [if_pos (by omega)]
    have e1 : p.take (hd c p).length = hd c p := by
      conv => lhs; rw [h]
      rw [List.take_append_of_le_length (by rw [← h]; exact Nat.le_refl _)]
      rw [← h, List.take_length]
    have e2 : p.drop ((hd c p).length + [c].length) = tl c p := by
      have h9 : ∀ (a b : List UInt8), (a ++ c :: b).drop (a.length + 1) = b := fun a b => by
        rw [List.drop_append, List.drop_of_length_le (by omega)]
        simp
      have := h9 (hd c p) (tl c p)
      rw [← h] at this
      exact this
    rw [e1, e2]
/-- The bytes of a rune that is none of ASCII. -/
theorem rune_bytes (s : ByteArray) (pos : Nat) (h : pos < s.size) (ha : 128 ≤ (s[pos]'h).toNat) : 1 ≤ (Utf8.decode s pos).2 ∧ (Utf8.decode s pos).2 ≤ 4 ∧ pos + (Utf8.decode s pos).2 ≤ s.size ∧ ∀ k, k < (Utf8.decode s pos).2 → 128 ≤ (s.get! (pos + k)).toNat := by
  have h0 : (s.get! pos).toNat = (s[pos]'h).toNat := by
    have := get_at s pos h
    rw [Nat.add_zero] at this
    rw [this]
  rw [decode_at]
  unfold decodeN
  rw [h0]
  generalize (s[pos]'h).toNat = b at *
  obtain ⟨n, hn⟩ : ∃ n, s.size - pos = n := ⟨_, rfl⟩
  rw [hn]
  repeat' split
  all_goals
    refine ⟨by simp, by simp, by dsimp only; omega, ?_⟩
    intro k hk
    simp only at hk
    have h4 : k = 0 ∨ k = 1 ∨ k = 2 ∨ k = 3 := by omega
    rcases h4 with rfl | rfl | rfl | rfl <;> (try rw [Nat.add_zero, h0]) <;> omega
def highesc (c : UInt8) : Bool := decide (c.toNat < 128) || (esc1 c == [37, hexd (c.toNat / 16), hexd (c.toNat % 16)])
theorem highesc_all (c : UInt8) : highesc c = true := every (by decide +kernel) c
theorem esc1_high (c : UInt8) (h : 128 ≤ c.toNat) : esc1 c = [37, hexd (c.toNat / 16), hexd (c.toNat % 16)] := by
  have := highesc_all c
  unfold highesc at this
  simp at this
  exact this.resolve_left (by omega)
/-- The program's worth of a digit. -/
def low (c : UInt8) : UInt8 := if 97 ≤ c.toNat ∧ c.toNat ≤ 102 then UInt8.ofNat (c.toNat - 32) else c
def worthB (c : UInt8) : Bool := indexByte hexs (low c) == dg c
theorem worth_all (c : UInt8) : worthB c = true := every (by decide +kernel) c
theorem worth_dg (c : UInt8) : indexByte hexs (low c) = dg c := by
  have := worth_all c
  unfold worthB at this
  simpa using this
theorem dg_range (c : UInt8) : -1 ≤ dg c ∧ dg c ≤ 15 := by
  unfold dg
  split
  · omega
  · split
    · omega
    · split <;> omega
end Go.Proofs.YtbmcaejbfjpmiaaDoor
