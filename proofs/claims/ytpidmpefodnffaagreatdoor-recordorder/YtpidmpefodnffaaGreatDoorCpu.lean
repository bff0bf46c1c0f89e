import Derived.Test.YtpidmpefodnffaaGreatDoorRedb
/- C8, of lists alone: what was laid down is read as it was. -/
namespace Go.Proofs.YtpidmpefodnffaaGreatDoor
theorem nat_app (a b : List UInt8) : nat (a ++ b) = nat a * 256 ^ b.length + nat b := by
  have gen : ∀ (b : List UInt8) (n : Nat), b.foldl (fun n c => n * 256 + c.toNat) n = n * 256 ^ b.length + nat b := by
    intro b
    induction b with
    | nil => intro n; simp [nat]
    | cons c b ih =>
      intro n
      have h1 := ih (n * 256 + c.toNat)
      have h2 := ih c.toNat
      have e : nat (c :: b) = b.foldl (fun n c => n * 256 + c.toNat) c.toNat := by simp [nat]
      rw [List.foldl_cons, h1, e, h2, List.length_cons, Nat.pow_succ, Nat.add_mul, Nat.mul_assoc, Nat.mul_comm 256, ← Nat.add_assoc]
  unfold nat
  rw [List.foldl_append]
  exact gen b _
theorem be_succ (size n : Nat) : be (size + 1) n = be size (n / 256) ++ [UInt8.ofNat n] := by
  unfold be
  rw [List.range_succ, List.map_append]
  congr 1
  · apply List.map_congr_left
    intro i hi
    have hi' : i < size := List.mem_range.1 hi
    congr 1
    rw [show size + 1 - 1 - i = (size - 1 - i) + 1 by omega, Nat.pow_succ, Nat.mul_comm, ← Nat.div_div_eq_div_mul]
  · simp
theorem nat_be (size n : Nat) : nat (be size n) = n % 256 ^ size := by
  induction size generalizing n with
  | zero => simp [be, nat, Nat.mod_one]
  | succ size ih =>
    rw [be_succ, nat_app, ih]
    have e : nat [UInt8.ofNat n] = n % 256 := by simp [nat]
    rw [e]
    simp only [List.length_singleton, Nat.pow_one]
    rw [Nat.pow_succ, Nat.mul_comm (256 ^ size) 256, Nat.mod_mul]
    omega
end Go.Proofs.YtpidmpefodnffaaGreatDoor
