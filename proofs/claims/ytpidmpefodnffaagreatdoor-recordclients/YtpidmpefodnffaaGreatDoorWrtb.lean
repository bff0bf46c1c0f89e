import Derived.Test.YtpidmpefodnffaaGreatDoorWrta
namespace Go.Proofs.YtpidmpefodnffaaGreatDoor
open Go.RowKit Go.Lib
/-- A number by so many bytes, the highest first. -/
def be (size n : Nat) : List UInt8 := (List.range size).map fun i => UInt8.ofNat (n / 256 ^ (size - 1 - i))
theorem be_len (size n : Nat) : (be size n).length = size := by simp [be]
theorem be_next (size n k : Nat) (h : k < size) : (be size n).take (k + 1) = (be size n).take k ++ [UInt8.ofNat (n / 256 ^ (size - 1 - k))] := by
  rw [List.take_succ_eq_append_getElem (by rw [be_len]; exact h)]
  simp [be]
/-- What a Writer becomes. -/
def WTo (b : Nat) (v : Value) (X' : List UInt8) (E' : Nat) (w w' : World) : Prop :=
  ∃ v', WAt b v' X' E' w' ∧ Only (foot b v) w w' ∧ ∀ q, v'.ownBlock = some q → v.ownBlock = some q ∨ w.heap.size ≤ q
theorem WTo.step {b : Nat} {v v1 : Value} {X2 : List UInt8} {E2 : Nat} {w w1 w2 : World} (h1 : Only (foot b v) w w1) (h1f : ∀ q, v1.ownBlock = some q → v.ownBlock = some q ∨ w.heap.size ≤ q) (h2 : WTo b v1 X2 E2 w1 w2) : WTo b v X2 E2 w w2 := by
  obtain ⟨v2, a, o, f⟩ := h2
  refine ⟨v2, a, h1.trans o ?_, ?_⟩
  · intro k hk q
    rcases q with q | q
    · exact .inl q
    · rcases h1f k q with r | r
      · exact .inr r
      · omega
  · intro q hq
    rcases f q hq with r | r
    · exact h1f q r
    · exact .inr (Nat.le_trans h1.size r)
theorem WTo.same {b : Nat} {v : Value} {X : List UInt8} {E : Nat} {w : World} (h : WAt b v X E w) : WTo b v X E w w := ⟨v, h, Only.refl _ _, fun _ q => .inl q⟩
theorem WTo.err {b : Nat} {v : Value} {X : List UInt8} {E E' : Nat} {w : World} (h : WAt b v X E w) : WTo b v X E' w (w.setCell ⟨b, 1, none⟩ (errV E')) :=
  ⟨v, h.set1, (Only.setCell w ⟨b, 1, none⟩ (errV E')).trans (Only.refl (fun _ => False) _) (fun _ _ q => q.elim) |> fun o => ⟨o.os, o.tape, o.output, o.size, fun k hk hp => o.block k hk (fun e => hp (.inl e))⟩, fun _ q => .inl q⟩
set_option maxHeartbeats 1000000 in
theorem newwriter_any (w : World) :
    Calls Tryz.prog 150 #[] w fun e w' => e = .returned (.pointer (some ⟨w.heap.size, 0, none⟩)) ∧ WAt w.heap.size (.slice none 0 0) [] 0 w' ∧ Below w.heap.size w w' := by
  go_enter Tryz.func150, Tryz.ntmps150
  go_wp2
  go_ret
  refine ⟨rfl, ⟨?_, World.ownsRow_nil _ _ _ _, by simp [Value.ownBlock]⟩, (Below.refl _ _).alloc (Nat.le_refl _) _⟩
  exact heap_alloc_new _ _
theorem sized_any (size : Int) (w : World) :
    Calls Tryz.prog 159 #[.int .i64 size] w fun e w' => e = .returned (.bool (decide (1 ≤ size ∧ size ≤ 8))) ∧ w' = w := by
  by_cases h1 : 1 ≤ size
  · by_cases h8 : size ≤ 8
    · have hd : decide (1 ≤ size ∧ size ≤ 8) = true := by simp; omega
      rw [hd]
      go_enter Tryz.func159, Tryz.ntmps159
      go_wp2
      go_ret
      exact ⟨ret_bool (by simp), rfl⟩
    · have hd : decide (1 ≤ size ∧ size ≤ 8) = false := by simp; omega
      rw [hd]
      go_enter Tryz.func159, Tryz.ntmps159
      go_wp2
      go_ret
      exact ⟨ret_bool (by simp), rfl⟩
  · have hd : decide (1 ≤ size ∧ size ≤ 8) = false := by simp; omega
    have hd1 : decide (1 ≤ size) = false := by simp; omega
    rw [hd]
    go_enter Tryz.func159, Tryz.ntmps159
    go_wp2
    go_ret
    exact ⟨ret_bool (by simp), rfl⟩
theorem bounded_any (most : Int) (w : World) :
    Calls Tryz.prog 163 #[.int .i64 most] w fun e w' => e = .returned (.bool (decide (0 ≤ most ∧ most ≤ 65535))) ∧ w' = w := by
  by_cases h1 : 0 ≤ most
  · by_cases h8 : most ≤ 65535
    · have hd : decide (0 ≤ most ∧ most ≤ 65535) = true := by simp; omega
      rw [hd]
      go_enter Tryz.func163, Tryz.ntmps163
      go_wp2
      go_ret
      exact ⟨ret_bool (by simp), rfl⟩
    · have hd : decide (0 ≤ most ∧ most ≤ 65535) = false := by simp; omega
      rw [hd]
      go_enter Tryz.func163, Tryz.ntmps163
      go_wp2
      go_ret
      exact ⟨ret_bool (by simp), rfl⟩
  · have hd : decide (0 ≤ most ∧ most ≤ 65535) = false := by simp; omega
    have hd1 : decide (0 ≤ most) = false := by simp; omega
    rw [hd]
    go_enter Tryz.func163, Tryz.ntmps163
    go_wp2
    go_ret
    exact ⟨ret_bool (by simp), rfl⟩
/-- By how many bytes a text's length stands. -/
def ahd (most : Int) : Nat := if most ≤ 255 then 1 else 2
theorem lengthSize_any (most : Int) (w : World) :
    Calls Tryz.prog 164 #[.int .i64 most] w fun e w' => e = .returned (.int .i64 (ahd most)) ∧ w' = w := by
  by_cases h : most ≤ 255
  · have e : ahd most = 1 := by simp [ahd, h]
    rw [e]
    go_enter Tryz.func164, Tryz.ntmps164
    go_wp2
    go_ret
    exact ⟨rfl, rfl⟩
  · have e : ahd most = 2 := by simp [ahd, h]
    rw [e]
    go_enter Tryz.func164, Tryz.ntmps164
    go_wp2
    go_ret
    exact ⟨rfl, rfl⟩
/-- A number stands by so many bytes. -/
def stn (size : Nat) (n : Int) : Prop := 0 ≤ n ∧ n < 256 ^ size
theorem stands_any (size : Nat) (n : Int) (w : World) (h1 : 1 ≤ size) (h8 : size ≤ 8) (hn : n ≤ 9223372036854775807) (ok : Bool) (hok : ok = true ↔ stn size n) :
    Calls Tryz.prog 160 #[.int .i64 size, .int .i64 n] w fun e w' => e = .returned (.bool ok) ∧ w' = w := by
  unfold stn at hok
  by_cases h0 : 0 ≤ n
  · rcases (by omega : size = 1 ∨ size = 2 ∨ size = 3 ∨ size = 4 ∨ size = 5 ∨ size = 6 ∨ size = 7 ∨ size = 8) with rfl | rfl | rfl | rfl | rfl | rfl | rfl | rfl
    all_goals
      simp only [Int.reducePow] at hok
      have HOK := hide hok
      clear hok h1 h8
      go_enter Tryz.func160, Tryz.ntmps160
      go_wp2
      go_ret
      refine ⟨ret_bool ?_, rfl⟩
      have hok := unhide HOK
      rw [Bool.eq_iff_iff]
      rw [hok]
      simp
      omega
  · have hf : ok = false := by
      cases ok
      · rfl
      · exact absurd (hok.1 rfl).1 h0
    subst hf
    clear hok
    have hd : decide (0 ≤ n) = false := by simp; omega
    go_enter Tryz.func160, Tryz.ntmps160
    go_wp2
    go_ret
    exact ⟨ret_bool (by simp), rfl⟩
end Go.Proofs.YtpidmpefodnffaaGreatDoor
