import Derived.Test.YthlacailhfhjnaaGreatDoorWdh
import Derived.Test.YthlacailhfhjnaaGreatDoorWdd
namespace Go.Proofs.YthlacailhfhjnaaGreatDoor
open Go.RowKit Go.Lib
def wth (a b : Nat) (c : UInt8) : Bool := decide (a ≤ c.toNat ∧ c.toNat ≤ b)
theorem wth_up (s : Bs) : s.all (wth 65 90) = s.all up := rfl
theorem wth_shn (s : Bs) : s.all (wth 32 126) = s.all shn := rfl
theorem wth_dgt (s : Bs) : s.all (wth 48 57) = s.all dgt := rfl
theorem wth_pby (s : Bs) : s.all (wth 33 126) = s.all pby := by
  have q : ∀ c : UInt8, wth 33 126 c = pby c := all_u8 (by decide +kernel)
  exact congrArg s.all (funext q)
set_option maxHeartbeats 4000000 in
set_option maxRecDepth 8000 in
theorem within_any (s : Bs) (a b : Nat) (w : World) (hs : s.length ≤ 9223372036854775806) : Calls Tryz.prog 82 #[S s, .int .u8 (a : Int), .int .u8 (b : Int)] w fun e w' => e = .returned (.bool (s.all (wth a b))) ∧ w' = w := by
  go_enter Tryz.func82, Tryz.ntmps82
  go_wp2
  go_loop [7] (fun i => ∃ k : Nat, k ≤ s.length ∧ i = .int .i64 k ∧ (s.take k).all (wth a b) = true) (fun i => s.length - (Go.RowKit.intOf i).toNat)
  case atStart => exact ⟨0, by omega, rfl, by simp⟩
  case round =>
    obtain ⟨k, hk, rfl, ha⟩ := hrel
    by_cases hlt : k < s.length
    · have hsz : k < (ByteArray.mk s.toArray).size := by simpa [ByteArray.size] using hlt
      have hC : (ByteArray.mk s.toArray)[k]'hsz = s[k] := rfl
      have hA := hide ha
      have hT := hide (take_snoc s k hlt)
      have hE := hide (all_no (wth a b) s k hlt)
      have hklt : (k : Int) < (s.length : Int) := by omega
      clear ha
      generalize s[k] = c at *
      have hI := hide (show wth a b c = decide (a ≤ c.toNat ∧ c.toNat ≤ b) from rfl)
      by_cases q0 : a ≤ c.toNat
      · by_cases q1 : c.toNat ≤ b
        · have hR := hide (show (s.take (k + 1)).all (wth a b) = true by rw [unhide hT]; simp [unhide hA, unhide hI, q0, q1])
          have f0 : ¬ ((c.toNat : Int) < (a : Int)) := by omega
          have f1 : ¬ ((b : Int) < (c.toNat : Int)) := by omega
          clear hE hT hA hI q0 q1
          go_wp2
          refine ⟨⟨k + 1, by omega, by go_num, unhide hR⟩, ?_⟩
          simp [Go.RowKit.intOf]; omega
        · have hR := hide (unhide hE (by rw [unhide hI]; simp; omega))
          have f0 : ¬ ((c.toNat : Int) < (a : Int)) := by omega
          have f1 : (b : Int) < (c.toNat : Int) := by omega
          clear hE hT hA hI q0 q1
          go_wp2
          go_ret
          exact ⟨ret_bool (unhide hR).symm, rfl⟩
      · have hR := hide (unhide hE (by rw [unhide hI]; simp; omega))
        have f0 : (c.toNat : Int) < (a : Int) := by omega
        clear hE hT hA hI q0
        go_wp2
        go_ret
        exact ⟨ret_bool (unhide hR).symm, rfl⟩
    · have hR := hide (show s.all (wth a b) = true by rw [List.take_of_length_le (by omega)] at ha; exact ha)
      have hd : decide ((k : Int) < (s.length : Int)) = false := by simp; omega
      clear ha
      go_wp2
      go_ret
      exact ⟨ret_bool (unhide hR).symm, rfl⟩
set_option maxHeartbeats 4000000 in
set_option maxRecDepth 8000 in
theorem rMethod_any (s : Bs) (w : World) (hs : s.length ≤ 9223372036854775806) : Calls Tryz.prog 70 #[S s] w fun e w' => e = .returned (.bool (meth s)) ∧ w' = w := by
  have HW := hide (within_any s 65 90 w hs)
  rw [wth_up] at HW
  have HM : Hid (meth s = (decide (1 ≤ s.length ∧ s.length ≤ 16) && s.all up)) := hide rfl
  generalize s.all up = A at *
  generalize meth s = M at *
  go_enter Tryz.func70, Tryz.ntmps70
  go_wp2_with fail
  refine (unhide HW).mono ?_
  rintro e w1 ⟨rfl, hw⟩
  rw [hw]
  clear hw HW w1
  cases A
  · go_wp2
    go_ret
    exact ⟨ret_bool (by rw [unhide HM]; simp), rfl⟩
  · by_cases h1 : 1 ≤ s.length
    · have h1' : (1 : Int) ≤ (s.length : Int) := by omega
      go_wp2
      go_ret
      exact ⟨ret_bool (by rw [unhide HM, Bool.and_true]; exact decide_eq_decide.2 (by omega)), rfl⟩
    · have h1' : decide ((1 : Int) ≤ (s.length : Int)) = false := by simp; omega
      go_wp2
      go_ret
      exact ⟨ret_bool (by rw [unhide HM, Bool.and_true, decide_eq_false (by omega)]), rfl⟩
theorem head_at (s : Bs) (h : 0 < s.length) : s.head? = some s[0] := by
  cases s with
  | nil => simp at h
  | cons a l => rfl
theorem last_at (s : Bs) (h : 0 < s.length) : s.getLast? = some (s[s.length - 1]'(by omega)) := by
  rw [List.getLast?_eq_getElem?, List.getElem?_eq_getElem (by omega)]
set_option maxHeartbeats 4000000 in
set_option maxRecDepth 8000 in
theorem rPath_any (s : Bs) (w : World) (hs : s.length ≤ 9223372036854775806) : Calls Tryz.prog 71 #[S s] w fun e w' => e = .returned (.bool (pth s)) ∧ w' = w := by
  have HW := hide (within_any s 33 126 w hs)
  rw [wth_pby] at HW
  have HM : Hid (pth s = (decide (s.length ≤ 200) && s.head? == some 47 && s.all pby)) := hide rfl
  generalize s.all pby = A at *
  generalize pth s = M at *
  go_enter Tryz.func71, Tryz.ntmps71
  go_wp2_with fail
  refine (unhide HW).mono ?_
  rintro e w1 ⟨rfl, hw⟩
  rw [hw]
  clear hw HW w1
  cases A
  · go_wp2
    go_ret
    exact ⟨ret_bool (by rw [unhide HM]; simp), rfl⟩
  · by_cases h1 : 1 ≤ s.length
    · have h1' : (1 : Int) ≤ (s.length : Int) := by omega
      by_cases h2 : s.length ≤ 200
      · have h2' : (s.length : Int) ≤ 200 := by omega
        have hsz : 0 < (ByteArray.mk s.toArray).size := by simp [ByteArray.size]; omega
        have hC : (ByteArray.mk s.toArray)[0]'hsz = s[0] := rfl
        have hH := hide (head_at s (by omega))
        rw [unhide hH] at HM
        generalize s[0] = c at *
        have h0 : (0 : Int) < (s.length : Int) := by omega
        go_wp2
        go_ret
        refine ⟨ret_bool ?_, rfl⟩
        rw [unhide HM, decide_eq_true h2, Bool.and_true, Bool.true_and]
        have q : ∀ c : UInt8, ((c.toNat : Int) == 47) = (some c == some 47) := all_u8 (by decide +kernel)
        exact q c
      · have h2' : decide ((s.length : Int) ≤ 200) = false := by simp; omega
        go_wp2
        go_ret
        exact ⟨ret_bool (by rw [unhide HM, decide_eq_false h2]; rfl), rfl⟩
    · have h1' : decide ((1 : Int) ≤ (s.length : Int)) = false := by simp; omega
      obtain rfl : s = [] := List.eq_nil_of_length_eq_zero (by omega)
      go_wp2
      go_ret
      exact ⟨ret_bool (by rw [unhide HM]; rfl), rfl⟩
def sg14 : Bs := [33, 35, 36, 37, 38, 39, 42, 43, 45, 46, 94, 95, 124, 126]
theorem nby_iff (c : UInt8) : nby c = (decide (97 ≤ c.toNat ∧ c.toNat ≤ 122) || decide (65 ≤ c.toNat ∧ c.toNat ≤ 90) || decide (48 ≤ c.toNat ∧ c.toNat ≤ 57) || decide (c.toNat = 96) || sg14.contains c) := by
  have q : ∀ c : UInt8, nby c = (decide (97 ≤ c.toNat ∧ c.toNat ≤ 122) || decide (65 ≤ c.toNat ∧ c.toNat ≤ 90) || decide (48 ≤ c.toNat ∧ c.toNat ≤ 57) || decide (c.toNat = 96) || sg14.contains c) := all_u8 (by decide +kernel)
  exact q c
theorem u8_eq (a c : UInt8) : (a.toNat : Int) = (c.toNat : Int) ↔ a = c := by
  constructor
  · intro h
    exact UInt8.toNat_inj.1 (by omega)
  · rintro rfl; rfl
/-- The signs, one by one. -/
theorem signs_walk (c : UInt8) (k : Nat) (hk : k < sg14.length) (h : (sg14.take k).contains c = false) : (sg14[k] = c → sg14.contains c = true) ∧ (sg14[k] ≠ c → (sg14.take (k + 1)).contains c = false) := by
  refine ⟨fun e => ?_, fun e => ?_⟩
  · rw [← e]
    simp
  · rw [take_snoc sg14 k hk, List.contains_append, h]
    simp
    exact fun q => e q.symm
end Go.Proofs.YthlacailhfhjnaaGreatDoor
