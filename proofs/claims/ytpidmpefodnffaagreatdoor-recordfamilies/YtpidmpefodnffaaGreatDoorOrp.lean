import Derived.Test.YtpidmpefodnffaaGreatDoorZrgof
import Derived.Test.YtpidmpefodnffaaGreatDoorZidx
import Derived.Test.YtpidmpefodnffaaGreatDoorZprc
import Derived.Test.YtpidmpefodnffaaGreatDoorZfde
namespace Go.Proofs.YtpidmpefodnffaaGreatDoor
open Go.RowKit
set_option maxHeartbeats 4000000
set_option maxRecDepth 8000
/-- A number that was laid is read as it was. -/
theorem rv_laid (n z : Nat) (r : Bs) (h1 : 1 ≤ n) (h8 : n ≤ 8) (hz : z < 256 ^ n) (h63 : z < 9223372036854775808) : rv n (be n z ++ r, 0) = z ∧ rs n (be n z ++ r, 0) = (r, 0) := by
  have hl := be_len n z
  have ht : (be n z ++ r).take n = be n z := by rw [List.take_append_of_le_length (by omega), List.take_of_length_le (by omega)]
  have hd : (be n z ++ r).drop n = r := by rw [List.drop_append_of_le_length (by omega), List.drop_of_length_le (by omega), List.nil_append]
  have hn : nat (be n z) = z := by rw [nat_be]; exact Nat.mod_eq_of_lt hz
  have he : rNumE n (be n z ++ r) = 0 := by
    unfold rNumE
    rw [if_pos (by omega), if_neg (by simp [hl]; omega), if_neg]
    rintro ⟨q, q2⟩
    have q : n = 8 := by omega
    subst q
    have := (nat_first (be 8 z) hl).1 (by omega)
    rw [← ht, getD_take _ _ (by omega)] at this
    omega
  constructor
  · unfold rv
    simp only [he]
    rw [if_pos fine_ok, ht, hn]
  · unfold rs
    simp only [he]
    rw [rGo_ok, hd]
theorem rr_laid (p r : Bs) (n : Int) (hn : n = p.length) : ra n (p ++ r, 0) = p ∧ rr2 n (p ++ r, 0) = (r, 0) := by
  subst hn
  have he : rRawE (p.length : Int) (p ++ r) = 0 := by
    unfold rRawE
    rw [if_neg (by omega), if_neg (by simp; omega)]
  constructor
  · unfold ra
    simp only [he]
    rw [if_pos fine_ok]
    simp
  · unfold rr2
    simp only [he]
    rw [rGo_ok]
    simp
end Go.Proofs.YtpidmpefodnffaaGreatDoor
