import Derived.Test.YthlacailhfhjnaaGreatDoorZzap
import Derived.Test.YthlacailhfhjnaaGreatDoorZzao
namespace Go.Proofs.YthlacailhfhjnaaGreatDoor
open Go.RowKit Go.Lib
def wth (a b : Nat) (c : UInt8) : Bool := decide (a ≤ c.toNat ∧ c.toNat ≤ b)
theorem wth_up (s : Bs) : s.all (wth 65 90) = s.all up := rfl
theorem wth_shn (s : Bs) : s.all (wth 32 126) = s.all shn := rfl
theorem wth_dgt (s : Bs) : s.all (wth 48 57) = s.all dgt := rfl
theorem wth_pby (s : Bs) : s.all (wth 33 126) = s.all pby := by
  have q : ∀ c : UInt8, wth 33 126 c = pby c := all_u8 (by decide +kernel)
  exact congrArg s.all (funext q)
set_option maxHeartbeats 4000000 in
set_option maxRecDepth 8000 in
theorem within_any (s : Bs) (a b : Nat) (w : World) (hs : s.length ≤ 9223372036854775806) : Calls Tryz.prog 82 #[S s, .int .u8 (a : Int), .int .u8 (b : Int)] w fun e w' => e = .returned (.bool (s.all (wth a b))) ∧ w' = w := by
  go_enter Tryz.func82, Tryz.ntmps82
  go_wp2
  go_loop [7] (fun i => ∃ k : Nat, k ≤ s.length ∧ i = .int .i64 k ∧ (s.take k).all (wth a b) = true) (fun i => s.length - (Go.RowKit.intOf i).toNat)
  case atStart => exact ⟨0, by omega, rfl, by simp⟩
  case round =>
    obtain ⟨k, hk, rfl, ha⟩ := hrel
    by_cases hlt : k < s.length
    · have hsz : k < (ByteArray.mk s.toArray).size := by simpa [ByteArray.size] using hlt
      have hC : (ByteArray.mk s.toArray)[k]'hsz = s[k] := rfl
      have hA := hide ha
      have hT := hide (take_snoc s k hlt)
      have hE := hide (all_no (wth a b) s k hlt)
      have hklt : (k : Int) < (s.length : Int) := by omega
      clear ha
      generalize s[k] = c at *
      have hI := hide (show wth a b c = decide (a ≤ c.toNat ∧ c.toNat ≤ b) from rfl)
      by_cases q0 : a ≤ c.toNat
      · by_cases q1 : c.toNat ≤ b
        · have hR := hide (show (s.take (k + 1)).all (wth a b) = true by rw [unhide hT]; simp [unhide hA, unhide hI, q0, q1])
          have f0 : ¬ ((c.toNat : Int) < (a : Int)) := by omega
          have f1 : ¬ ((b : Int) < (c.toNat : Int)) := by omega
          clear hE hT hA hI q0 q1
          go_wp2
          refine ⟨⟨k + 1, by omega, by go_num, unhide hR⟩, ?_⟩
          simp [Go.RowKit.intOf]; omega
        · have hR := hide (unhide hE (by rw [unhide hI]; simp; omega))
          have f0 : ¬ ((c.toNat : Int) < (a : Int)) := by omega
          have f1 : (b : Int) < (c.toNat : Int) := by omega
          clear hE hT hA hI q0 q1
          go_wp2
          go_ret
          exact ⟨ret_bool (unhide hR).symm, rfl⟩
      · have hR := hide (unhide hE (by rw [unhide hI]; simp; omega))
        have f0 : (c.toNat : Int) < (a : Int) := by omega
        clear hE hT hA hI q0
        go_wp2
        go_ret
        exact ⟨ret_bool (unhide hR).symm, rfl⟩
    · have hR := hide (show s.all (wth a b) = true by rw [List.take_of_length_le (by omega)] at ha; exact ha)
      have hd : decide ((k : Int) < (s.length : Int)) = false := by simp; omega
      clear ha
      go_wp2
      go_ret
      exact ⟨ret_bool (unhide hR).symm, rfl⟩
set_option maxHeartbeats 4000000 in
set_option maxRecDepth 8000 in
theorem rMethod_any (s : Bs) (w : World) (hs : s.length ≤ 9223372036854775806) : Calls Tryz.prog 70 #[S s] w fun e w' => e = .returned (.bool (meth s)) ∧ w' = w := by
  have HW := hide (within_any s 65 90 w hs)
  rw [wth_up] at HW
  have HM : Hid (meth s = (decide (1 ≤ s.length ∧ s.length ≤ 16) && s.all up)) := hide rfl
  generalize s.all up = A at *
  generalize meth s = M at *
  go_enter Tryz.func70, Tryz.ntmps70
  go_wp2_with fail
  refine (unhide HW).mono ?_
  rintro e w1 ⟨rfl, hw⟩
  rw [hw]
  clear hw HW w1
  cases A
  · go_wp2
    go_ret
    exact ⟨ret_bool (by rw [unhide HM]; simp), rfl⟩
  · by_cases h1 : 1 ≤ s.length
    · have h1' : (1 : Int) ≤ (s.length : Int) := by omega
      go_wp2
      go_ret
      exact ⟨ret_bool (by rw [unhide HM, Bool.and_true]; exact decide_eq_decide.2 (by omega)), rfl⟩
    · have h1' : decide ((1 : Int) ≤ (s.length : Int)) = false := by simp; omega
      go_wp2
      go_ret
      exact ⟨ret_bool (by rw [unhide HM, Bool.and_true, decide_eq_false (by omega)]), rfl⟩
theorem head_at (s : Bs) (h : 0 < s.length) : s.head? = some s[0] := by
  cases s with
  | nil => simp at h
  | cons a l => rfl
theorem last_at (s : Bs) (h : 0 < s.length) : s.getLast? = some (s[s.length - 1]'(by omega)) := by
  rw [List.getLast?_eq_getElem?, List.getElem?_eq_getElem (by omega)]
set_option maxHeartbeats 4000000 in
set_option maxRecDepth 8000 in
theorem rPath_any (s : Bs) (w : World) (hs : s.length ≤ 9223372036854775806) : Calls Tryz.prog 71 #[S s] w fun e w' => e = .returned (.bool (pth s)) ∧ w' = w := by
  have HW := hide (within_any s 33 126 w hs)
  rw [wth_pby] at HW
  have HM : Hid (pth s = (decide (s.length ≤ 200) && s.head? == some 47 && s.all pby)) := hide rfl
  generalize s.all pby = A at *
  generalize pth s = M at *
  go_enter Tryz.func71, Tryz.ntmps71
  go_wp2_with fail
  refine (unhide HW).mono ?_
  rintro e w1 ⟨rfl, hw⟩
  rw [hw]
  clear hw HW w1
  cases A
  · go_wp2
    go_ret
    exact ⟨ret_bool (by rw [unhide HM]; simp), rfl⟩
  · by_cases h1 : 1 ≤ s.length
    · have h1' : (1 : Int) ≤ (s.length : Int) := by omega
      by_cases h2 : s.length ≤ 200
      · have h2' : (s.length : Int) ≤ 200 := by omega
        have hsz : 0 < (ByteArray.mk s.toArray).size := by simp [ByteArray.size]; omega
        have hC : (ByteArray.mk s.toArray)[0]'hsz = s[0] := rfl
        have hH := hide (head_at s (by omega))
        rw [unhide hH] at HM
        generalize s[0] = c at *
        have h0 : (0 : Int) < (s.length : Int) := by omega
        go_wp2
        go_ret
        refine ⟨ret_bool ?_, rfl⟩
        rw [unhide HM, decide_eq_true h2, Bool.and_true, Bool.true_and]
        have q : ∀ c : UInt8, ((c.toNat : Int) == 47) = (some c == some 47) := all_u8 (by decide +kernel)
        exact q c
      · have h2' : decide ((s.length : Int) ≤ 200) = false := by simp; omega
        go_wp2
        go_ret
        exact ⟨ret_bool (by rw [unhide HM, decide_eq_false h2]; rfl), rfl⟩
    · have h1' : decide ((1 : Int) ≤ (s.length : Int)) = false := by simp; omega
      obtain rfl : s = [] := List.eq_nil_of_length_eq_zero (by omega)
      go_wp2
      go_ret
      exact ⟨ret_bool (by rw [unhide HM]; rfl), rfl⟩
def sg14 : Bs := [33, 35, 36, 37, 38, 39, 42, 43, 45, 46, 94, 95, 124, 126]
theorem nby_iff (c : UInt8) : nby c = (decide (97 ≤ c.toNat ∧ c.toNat ≤ 122) || decide (65 ≤ c.toNat ∧ c.toNat ≤ 90) || decide (48 ≤ c.toNat ∧ c.toNat ≤ 57) || decide (c.toNat = 96) || sg14.contains c) := by
  have q : ∀ c : UInt8, nby c = (decide (97 ≤ c.toNat ∧ c.toNat ≤ 122) || decide (65 ≤ c.toNat ∧ c.toNat ≤ 90) || decide (48 ≤ c.toNat ∧ c.toNat ≤ 57) || decide (c.toNat = 96) || sg14.contains c) := all_u8 (by decide +kernel)
  exact q c
theorem u8_eq (a c : UInt8) : (a.toNat : Int) = (c.toNat : Int) ↔ a = c := by
  constructor
  · intro h
    exact UInt8.toNat_inj.1 (by omega)
  · rintro rfl; rfl
/-- The signs, one by one. -/
theorem signs_walk (c : UInt8) (k : Nat) (hk : k < sg14.length) (h : (sg14.take k).contains c = false) : (sg14[k] = c → sg14.contains c = true) ∧ (sg14[k] ≠ c → (sg14.take (k + 1)).contains c = false) := by
  refine ⟨fun e => ?_, fun e => ?_⟩
  · rw [← e]
    simp
  · rw [take_snoc sg14 k hk, List.contains_append, h]
    simp
    exact fun q => e q.symm
end Go.Proofs.YthlacailhfhjnaaGreatDoor
namespace Go.Proofs.YthlacailhfhjnaaGreatDoor
open Go.RowKit Go.Lib
set_option maxHeartbeats 8000000 in
set_option maxRecDepth 8000 in
theorem tokA (c : UInt8) (w : World) (h : c.toNat < 48) :
    Calls Tryz.prog 101 #[.int .u8 (c.toNat : Int)] w fun e w' => e = .returned (.bool (sg14.contains c)) ∧ w' = w := by
  have HW := hide (signs_walk c)
  have HQ := hide (fun a : UInt8 => u8_eq a c)
  have HF : Hid (sg14.take 14 = sg14) := hide rfl
  have a0 : ¬ (97 : Int) ≤ (c.toNat : Int) := by omega
  have a1 : ¬ (65 : Int) ≤ (c.toNat : Int) := by omega
  have a2 : ¬ (48 : Int) ≤ (c.toNat : Int) := by omega
  have a3 : ¬ (c.toNat : Int) = 96 := by omega
  clear h
  generalize hG : sg14.contains c = G at *
  go_enter Tryz.func101, Tryz.ntmps101
  go_wp2
  go_loop [4] (fun i => ∃ k : Nat, k ≤ 14 ∧ i = .int .i64 k ∧ (sg14.take k).contains c = false) (fun i => 14 - (Go.RowKit.intOf i).toNat)
  case atStart => exact ⟨0, by omega, rfl, rfl⟩
  case round =>
    obtain ⟨k, hk, rfl, ha⟩ := hrel
    have HA := hide ha
    have HG := hide hG
    clear ha hG
    by_cases hlt : k < 14
    · have hlt' : (k : Int) < 14 := by omega
      have hsz : k < (ByteArray.mk #[33, 35, 36, 37, 38, 39, 42, 43, 45, 46, 94, 95, 124, 126]).size := hlt
      have hC : (ByteArray.mk #[33, 35, 36, 37, 38, 39, 42, 43, 45, 46, 94, 95, 124, 126])[k]'hsz = sg14[k]'hlt := rfl
      have HX := hide (unhide HW k hlt (unhide HA))
      have HY := hide (unhide HQ (sg14[k]'hlt))
      generalize sg14[k]'hlt = x at *
      clear HA HW HQ
      by_cases e : x = c
      · have hR := hide ((unhide HX).1 e)
        have heq := (unhide HY).2 e
        go_wp2
        go_ret
        exact ⟨ret_bool (unhide hR).symm, rfl⟩
      · have hR := hide ((unhide HX).2 e)
        have hne : ¬ (x.toNat : Int) = (c.toNat : Int) := fun q => e ((unhide HY).1 q)
        go_wp2
        refine ⟨⟨k + 1, by omega, by go_num, unhide hR⟩, ?_⟩
        simp [Go.RowKit.intOf]; omega
    · have hlt' : decide ((k : Int) < 14) = false := by simp; omega
      obtain rfl : k = 14 := by omega
      have hR := hide (show G = false by rw [← unhide HG, ← unhide HA, unhide HF])
      clear HA HW HQ
      go_wp2
      go_ret
      exact ⟨ret_bool (unhide hR).symm, rfl⟩
set_option maxHeartbeats 8000000 in
set_option maxRecDepth 8000 in
theorem tokB (c : UInt8) (w : World) (h : 57 < c.toNat ∧ c.toNat < 65) :
    Calls Tryz.prog 101 #[.int .u8 (c.toNat : Int)] w fun e w' => e = .returned (.bool (sg14.contains c)) ∧ w' = w := by
  have HW := hide (signs_walk c)
  have HQ := hide (fun a : UInt8 => u8_eq a c)
  have HF : Hid (sg14.take 14 = sg14) := hide rfl
  have a0 : ¬ (97 : Int) ≤ (c.toNat : Int) := by omega
  have a1 : ¬ (65 : Int) ≤ (c.toNat : Int) := by omega
  have a2 : (48 : Int) ≤ (c.toNat : Int) := by omega
  have a3 : ¬ (c.toNat : Int) ≤ 57 := by omega
  have a4 : ¬ (c.toNat : Int) = 96 := by omega
  clear h
  generalize hG : sg14.contains c = G at *
  go_enter Tryz.func101, Tryz.ntmps101
  go_wp2
  go_loop [4] (fun i => ∃ k : Nat, k ≤ 14 ∧ i = .int .i64 k ∧ (sg14.take k).contains c = false) (fun i => 14 - (Go.RowKit.intOf i).toNat)
  case atStart => exact ⟨0, by omega, rfl, rfl⟩
  case round =>
    obtain ⟨k, hk, rfl, ha⟩ := hrel
    have HA := hide ha
    have HG := hide hG
    clear ha hG
    by_cases hlt : k < 14
    · have hlt' : (k : Int) < 14 := by omega
      have hsz : k < (ByteArray.mk #[33, 35, 36, 37, 38, 39, 42, 43, 45, 46, 94, 95, 124, 126]).size := hlt
      have hC : (ByteArray.mk #[33, 35, 36, 37, 38, 39, 42, 43, 45, 46, 94, 95, 124, 126])[k]'hsz = sg14[k]'hlt := rfl
      have HX := hide (unhide HW k hlt (unhide HA))
      have HY := hide (unhide HQ (sg14[k]'hlt))
      generalize sg14[k]'hlt = x at *
      clear HA HW HQ
      by_cases e : x = c
      · have hR := hide ((unhide HX).1 e)
        have heq := (unhide HY).2 e
        go_wp2
        go_ret
        exact ⟨ret_bool (unhide hR).symm, rfl⟩
      · have hR := hide ((unhide HX).2 e)
        have hne : ¬ (x.toNat : Int) = (c.toNat : Int) := fun q => e ((unhide HY).1 q)
        go_wp2
        refine ⟨⟨k + 1, by omega, by go_num, unhide hR⟩, ?_⟩
        simp [Go.RowKit.intOf]; omega
    · have hlt' : decide ((k : Int) < 14) = false := by simp; omega
      obtain rfl : k = 14 := by omega
      have hR := hide (show G = false by rw [← unhide HG, ← unhide HA, unhide HF])
      clear HA HW HQ
      go_wp2
      go_ret
      exact ⟨ret_bool (unhide hR).symm, rfl⟩
set_option maxHeartbeats 8000000 in
set_option maxRecDepth 8000 in
theorem tokC (c : UInt8) (w : World) (h : 90 < c.toNat ∧ c.toNat < 96) :
    Calls Tryz.prog 101 #[.int .u8 (c.toNat : Int)] w fun e w' => e = .returned (.bool (sg14.contains c)) ∧ w' = w := by
  have HW := hide (signs_walk c)
  have HQ := hide (fun a : UInt8 => u8_eq a c)
  have HF : Hid (sg14.take 14 = sg14) := hide rfl
  have a0 : ¬ (97 : Int) ≤ (c.toNat : Int) := by omega
  have a1 : (65 : Int) ≤ (c.toNat : Int) := by omega
  have a2 : ¬ (c.toNat : Int) ≤ 90 := by omega
  have a3 : (48 : Int) ≤ (c.toNat : Int) := by omega
  have a4 : ¬ (c.toNat : Int) ≤ 57 := by omega
  have a5 : ¬ (c.toNat : Int) = 96 := by omega
  clear h
  generalize hG : sg14.contains c = G at *
  go_enter Tryz.func101, Tryz.ntmps101
  go_wp2
  go_loop [4] (fun i => ∃ k : Nat, k ≤ 14 ∧ i = .int .i64 k ∧ (sg14.take k).contains c = false) (fun i => 14 - (Go.RowKit.intOf i).toNat)
  case atStart => exact ⟨0, by omega, rfl, rfl⟩
  case round =>
    obtain ⟨k, hk, rfl, ha⟩ := hrel
    have HA := hide ha
    have HG := hide hG
    clear ha hG
    by_cases hlt : k < 14
    · have hlt' : (k : Int) < 14 := by omega
      have hsz : k < (ByteArray.mk #[33, 35, 36, 37, 38, 39, 42, 43, 45, 46, 94, 95, 124, 126]).size := hlt
      have hC : (ByteArray.mk #[33, 35, 36, 37, 38, 39, 42, 43, 45, 46, 94, 95, 124, 126])[k]'hsz = sg14[k]'hlt := rfl
      have HX := hide (unhide HW k hlt (unhide HA))
      have HY := hide (unhide HQ (sg14[k]'hlt))
      generalize sg14[k]'hlt = x at *
      clear HA HW HQ
      by_cases e : x = c
      · have hR := hide ((unhide HX).1 e)
        have heq := (unhide HY).2 e
        go_wp2
        go_ret
        exact ⟨ret_bool (unhide hR).symm, rfl⟩
      · have hR := hide ((unhide HX).2 e)
        have hne : ¬ (x.toNat : Int) = (c.toNat : Int) := fun q => e ((unhide HY).1 q)
        go_wp2
        refine ⟨⟨k + 1, by omega, by go_num, unhide hR⟩, ?_⟩
        simp [Go.RowKit.intOf]; omega
    · have hlt' : decide ((k : Int) < 14) = false := by simp; omega
      obtain rfl : k = 14 := by omega
      have hR := hide (show G = false by rw [← unhide HG, ← unhide HA, unhide HF])
      clear HA HW HQ
      go_wp2
      go_ret
      exact ⟨ret_bool (unhide hR).symm, rfl⟩
set_option maxHeartbeats 8000000 in
set_option maxRecDepth 8000 in
theorem tokD (c : UInt8) (w : World) (h : 122 < c.toNat) :
    Calls Tryz.prog 101 #[.int .u8 (c.toNat : Int)] w fun e w' => e = .returned (.bool (sg14.contains c)) ∧ w' = w := by
  have HW := hide (signs_walk c)
  have HQ := hide (fun a : UInt8 => u8_eq a c)
  have HF : Hid (sg14.take 14 = sg14) := hide rfl
  have a0 : (97 : Int) ≤ (c.toNat : Int) := by omega
  have a1 : ¬ (c.toNat : Int) ≤ 122 := by omega
  have a2 : (65 : Int) ≤ (c.toNat : Int) := by omega
  have a3 : ¬ (c.toNat : Int) ≤ 90 := by omega
  have a4 : (48 : Int) ≤ (c.toNat : Int) := by omega
  have a5 : ¬ (c.toNat : Int) ≤ 57 := by omega
  have a6 : ¬ (c.toNat : Int) = 96 := by omega
  clear h
  generalize hG : sg14.contains c = G at *
  go_enter Tryz.func101, Tryz.ntmps101
  go_wp2
  go_loop [4] (fun i => ∃ k : Nat, k ≤ 14 ∧ i = .int .i64 k ∧ (sg14.take k).contains c = false) (fun i => 14 - (Go.RowKit.intOf i).toNat)
  case atStart => exact ⟨0, by omega, rfl, rfl⟩
  case round =>
    obtain ⟨k, hk, rfl, ha⟩ := hrel
    have HA := hide ha
    have HG := hide hG
    clear ha hG
    by_cases hlt : k < 14
    · have hlt' : (k : Int) < 14 := by omega
      have hsz : k < (ByteArray.mk #[33, 35, 36, 37, 38, 39, 42, 43, 45, 46, 94, 95, 124, 126]).size := hlt
      have hC : (ByteArray.mk #[33, 35, 36, 37, 38, 39, 42, 43, 45, 46, 94, 95, 124, 126])[k]'hsz = sg14[k]'hlt := rfl
      have HX := hide (unhide HW k hlt (unhide HA))
      have HY := hide (unhide HQ (sg14[k]'hlt))
      generalize sg14[k]'hlt = x at *
      clear HA HW HQ
      by_cases e : x = c
      · have hR := hide ((unhide HX).1 e)
        have heq := (unhide HY).2 e
        go_wp2
        go_ret
        exact ⟨ret_bool (unhide hR).symm, rfl⟩
      · have hR := hide ((unhide HX).2 e)
        have hne : ¬ (x.toNat : Int) = (c.toNat : Int) := fun q => e ((unhide HY).1 q)
        go_wp2
        refine ⟨⟨k + 1, by omega, by go_num, unhide hR⟩, ?_⟩
        simp [Go.RowKit.intOf]; omega
    · have hlt' : decide ((k : Int) < 14) = false := by simp; omega
      obtain rfl : k = 14 := by omega
      have hR := hide (show G = false by rw [← unhide HG, ← unhide HA, unhide HF])
      clear HA HW HQ
      go_wp2
      go_ret
      exact ⟨ret_bool (unhide hR).symm, rfl⟩
set_option maxHeartbeats 8000000 in
set_option maxRecDepth 8000 in
theorem token_any (c : UInt8) (w : World) : Calls Tryz.prog 101 #[.int .u8 (c.toNat : Int)] w fun e w' => e = .returned (.bool (nby c)) ∧ w' = w := by
  rw [nby_iff c]
  by_cases h1 : 97 ≤ c.toNat ∧ c.toNat ≤ 122
  · rw [decide_eq_true h1]
    have a1 : (97 : Int) ≤ (c.toNat : Int) := by omega
    have a2 : (c.toNat : Int) ≤ 122 := by omega
    go_enter Tryz.func101, Tryz.ntmps101
    go_wp2
    go_ret
    exact ⟨rfl, rfl⟩
  by_cases h2 : 65 ≤ c.toNat ∧ c.toNat ≤ 90
  · rw [decide_eq_true h2]
    have a1 : ¬ (97 : Int) ≤ (c.toNat : Int) := by omega
    have a2 : (65 : Int) ≤ (c.toNat : Int) := by omega
    have a3 : (c.toNat : Int) ≤ 90 := by omega
    go_enter Tryz.func101, Tryz.ntmps101
    go_wp2
    go_ret
    exact ⟨ret_bool (by simp), rfl⟩
  by_cases h3 : 48 ≤ c.toNat ∧ c.toNat ≤ 57
  · rw [decide_eq_true h3]
    have a1 : ¬ (97 : Int) ≤ (c.toNat : Int) := by omega
    have a2 : ¬ (65 : Int) ≤ (c.toNat : Int) := by omega
    have a3 : (48 : Int) ≤ (c.toNat : Int) := by omega
    have a4 : (c.toNat : Int) ≤ 57 := by omega
    go_enter Tryz.func101, Tryz.ntmps101
    go_wp2
    go_ret
    exact ⟨ret_bool (by simp), rfl⟩
  by_cases h4 : c.toNat = 96
  · rw [decide_eq_true h4]
    have a1 : ¬ (97 : Int) ≤ (c.toNat : Int) := by omega
    have a2 : (65 : Int) ≤ (c.toNat : Int) := by omega
    have a3 : ¬ (c.toNat : Int) ≤ 90 := by omega
    have a4 : (48 : Int) ≤ (c.toNat : Int) := by omega
    have a5 : ¬ (c.toNat : Int) ≤ 57 := by omega
    have a6 : (c.toNat : Int) = 96 := by omega
    go_enter Tryz.func101, Tryz.ntmps101
    go_wp2
    go_ret
    exact ⟨ret_bool (by simp), rfl⟩
  rw [decide_eq_false h1, decide_eq_false h2, decide_eq_false h3, decide_eq_false h4, Bool.or_false, Bool.or_false, Bool.or_false, Bool.false_or]
  rcases (show c.toNat < 48 ∨ (57 < c.toNat ∧ c.toNat < 65) ∨ (90 < c.toNat ∧ c.toNat < 96) ∨ 122 < c.toNat by omega) with h | h | h | h
  · exact tokA c w h
  · exact tokB c w h
  · exact tokC c w h
  · exact tokD c w h
set_option maxHeartbeats 8000000 in
set_option maxRecDepth 8000 in
theorem rName_any (s : Bs) (w : World) (hs : s.length ≤ 9223372036854775806) : Calls Tryz.prog 81 #[S s] w fun e w' => e = .returned (.bool (hnm s)) ∧ w' = w := by
  have HM : Hid (hnm s = (decide (1 ≤ s.length ∧ s.length ≤ 40) && s.all nby)) := hide rfl
  generalize hnm s = M at *
  go_enter Tryz.func81, Tryz.ntmps81
  go_wp2
  go_loop [3] (fun i => ∃ k : Nat, k ≤ s.length ∧ i = .int .i64 k ∧ (s.take k).all nby = true) (fun i => s.length - (Go.RowKit.intOf i).toNat)
  case atStart => exact ⟨0, by omega, rfl, by simp⟩
  case round =>
    obtain ⟨k, hk, rfl, ha⟩ := hrel
    by_cases hlt : k < s.length
    · have hsz : k < (ByteArray.mk s.toArray).size := by simpa [ByteArray.size] using hlt
      have hC : (ByteArray.mk s.toArray)[k]'hsz = s[k] := rfl
      have hA := hide ha
      have hT := hide (take_snoc s k hlt)
      have hE := hide (all_no nby s k hlt)
      have hklt : (k : Int) < (s.length : Int) := by omega
      clear ha
      generalize s[k] = c at *
      have HK := hide (fun W => token_any c W)
      go_wp2_with fail
      refine (unhide HK _).mono ?_
      rintro e w1 ⟨rfl, hw⟩
      rw [hw]
      clear hw HK w1
      cases hn : nby c
      · have hR := hide (unhide hE hn)
        clear hn hE hT hA
        go_wp2
        go_ret
        exact ⟨ret_bool (by rw [unhide HM, unhide hR, Bool.and_false]), rfl⟩
      · have hR := hide (show (s.take (k + 1)).all nby = true by rw [unhide hT]; simp [unhide hA, hn])
        clear hn hE hT hA
        go_wp2
        refine ⟨⟨k + 1, by omega, by go_num, unhide hR⟩, ?_⟩
        simp [Go.RowKit.intOf]; omega
    · have hR := hide (show s.all nby = true by rw [List.take_of_length_le (by omega)] at ha; exact ha)
      have hd : decide ((k : Int) < (s.length : Int)) = false := by simp; omega
      clear ha
      by_cases h1 : 1 ≤ s.length
      · have h1' : (1 : Int) ≤ (s.length : Int) := by omega
        go_wp2
        go_ret
        exact ⟨ret_bool (by rw [unhide HM, unhide hR, Bool.and_true]; exact decide_eq_decide.2 (by omega)), rfl⟩
      · have h1' : decide ((1 : Int) ≤ (s.length : Int)) = false := by simp; omega
        go_wp2
        go_ret
        exact ⟨ret_bool (by rw [unhide HM, unhide hR, Bool.and_true, decide_eq_false (by omega)]), rfl⟩
end Go.Proofs.YthlacailhfhjnaaGreatDoor
namespace Go.Proofs.YthlacailhfhjnaaGreatDoor
open Go.RowKit Go.Lib
def slen : Value → Nat
  | .slice _ n _ => n
  | _ => 0
set_option maxHeartbeats 8000000 in
set_option maxRecDepth 8000 in
theorem letters_any (OF s : Bs) (M : Nat) (w : World) (hOF : 0 < OF.length) (hOF2 : OF.length ≤ 1000) (hM : 1 ≤ M) (hM2 : M ≤ 1000) (hs : s.length ≤ 9223372036854775807) :
    Calls Tryz.prog 38 #[S s, S OF, .int .i64 1, .int .i64 (M : Int)] w fun e w' => (∃ l : Bs, e = .returned (S l) ∧ 1 ≤ l.length ∧ l.length ≤ M ∧ ∀ c ∈ l, c ∈ OF) ∧ Below w.heap.size w w' := by
  have hO0 : 0 < (ByteArray.mk OF.toArray).size := by rw [ba_size]; exact hOF
  have hOC : (ByteArray.mk OF.toArray)[0]'hO0 = OF[0] := rfl
  have hOm := hide (List.getElem_mem hOF)
  have HG := hide (fun (j : Nat) (hj : j < OF.length) => And.intro (List.getElem_mem hj) (show (ByteArray.mk OF.toArray)[j]'(by rw [ba_size]; exact hj) = OF[j] from rfl))
  generalize OF[0] = o0 at *
  have hoi : (0 : Int) < (OF.length : Int) := by omega
  go_enter Tryz.func38, Tryz.ntmps38
  go_wp2
  go_loopw [9, 10] (fun v i wr => ∃ (k : Nat) (l : Bs), k ≤ M ∧ k ≤ s.length ∧ i = .int .i64 k ∧ l.length = k ∧ (∀ c ∈ l, c ∈ OF) ∧ Own w.heap.size v l w wr) (fun _ i _ => s.length - (Go.RowKit.intOf i).toNat)
  case atStart => exact ⟨0, [], by omega, by omega, rfl, rfl, (fun c h => nomatch h), Own.nil w⟩
  case round =>
    obtain ⟨k, l, hkM, hk, rfl, hl, hc, hown⟩ := hrel
    by_cases hlt : k < s.length ∧ k < M
    · obtain ⟨hlt, hltM⟩ := hlt
      have hsz : k < (ByteArray.mk s.toArray).size := by rw [ba_size]; exact hlt
      have hC : (ByteArray.mk s.toArray)[k]'hsz = s[k] := rfl
      have hclt := s[k].toNat_lt
      generalize s[k] = b at *
      obtain ⟨M1, hM1⟩ : ∃ M1, M1 = b.toNat % OF.length := ⟨_, rfl⟩
      have l1 : M1 < OF.length := by rw [hM1]; exact Nat.mod_lt _ hOF
      have q3 : (b.toNat : Int) % (OF.length : Int) = (M1 : Int) := by rw [hM1]; omega
      have q1 : Int.tmod (b.toNat : Int) (OF.length : Int) = (M1 : Int) := by rw [Int.tmod_eq_emod_of_nonneg (by omega)]; exact q3
      have hni : ¬ (OF.length : Int) = 0 := by omega
      have i1 : (M1 : Int) < (OF.length : Int) := by omega
      have hj := unhide HG M1 l1
      have hjs : M1 < (ByteArray.mk OF.toArray).size := by rw [ba_size]; exact l1
      have hD := hj.2
      have hDm := hide hj.1
      generalize OF[M1] = d at *
      have hki : (k : Int) < (s.length : Int) := by omega
      have hkm : (k : Int) < (M : Int) := by omega
      have HO := hide hown
      have HL := hide (And.intro hl hc)
      have hl4 : l.length ≤ 1000 := by omega
      clear hown hl hc hj hM1
      go_wp2_with (first | (at_builtin; refine push rfl (.tmp 22) (.tmp 32) rfl w.heap.size _ l (by rfl) w _ _ d (by rfl) (unhide HO) (by rfl) (by omega) ?_; intro v2 w2 hb2))
      refine ⟨⟨k + 1, l ++ [d], by omega, by omega, by go_num, by rw [List.length_append, (unhide HL).1]; rfl, ?_, hb2⟩, ?_⟩
      · intro c hcm
        rw [List.mem_append, List.mem_singleton] at hcm
        rcases hcm with q | q
        · exact (unhide HL).2 c q
        · rw [q]; exact unhide hDm
      · simp [Go.RowKit.intOf]; omega
    · have HO := hide hown
      have HL := hide (And.intro hl hc)
      have hd : decide (k < s.length) = false ∨ ((k : Int) < (s.length : Int) ∧ decide (k < M) = false) := by
        by_cases q : k < s.length
        · right; exact ⟨by omega, by simp; omega⟩
        · left; simp; omega
      clear hown hc
      rcases hd with hd | ⟨hd0, hd⟩
      · go_wp2
        go_loopw [9] (fun v wr => ∃ (l : Bs), l.length ≤ M ∧ (∀ c ∈ l, c ∈ OF) ∧ Own w.heap.size v l w wr) (fun v _ => 1 - slen v)
        case atStart => exact ⟨l, by rw [(unhide HL).1]; exact hkM, (unhide HL).2, unhide HO⟩
        case round =>
          clear HO HL hd hl hlt
          obtain ⟨l2, hl2, hc2, hown2⟩ := hrel
          obtain ⟨pa, ca, hpa⟩ := hown2.len
          by_cases hz : l2.length < 1
          · have hl0 : l2 = [] := List.eq_nil_of_length_eq_zero (by omega)
            subst hl0
            rw [show ([] : Bs).length = 0 from rfl] at hpa
            subst hpa
            have HO := hide hown2
            clear hown2
            go_wp2_with (first | (at_builtin; refine push rfl (.tmp 38) (.tmp 41) rfl w.heap.size _ [] (by rfl) w _ _ o0 (by rfl) (unhide HO) (by rfl) (by simp) ?_; intro v2 w2 hb2))
            obtain ⟨pb, cb, hpb⟩ := hb2.len
            refine ⟨⟨[] ++ [o0], by simp; omega, ?_, hb2⟩, ?_⟩
            · intro c hcm
              simp at hcm
              rw [hcm]
              exact unhide hOm
            · rw [hpb]
              simp [slen]
          · have hz2 : ¬ (l2.length : Int) < 1 := by omega
            have hz3 : decide (l2.length < 1) = false := decide_eq_false hz
            have HT := hide hown2.text
            subst hpa
            have HR := hide (And.intro (show 1 ≤ l2.length by omega) (And.intro hl2 (And.intro hc2 hown2.2.1)))
            clear hown2 hc2 hz
            go_wp2_with (first | (refine wpList_conv rfl 102 9 (.tmp 43) rfl _ _ (by rfl) (unhide HT) ?_))
            go_ret
            exact ⟨⟨l2, rfl, (unhide HR).1, (unhide HR).2.1, (unhide HR).2.2.1⟩, (unhide HR).2.2.2⟩
      · go_wp2
        go_loopw [9] (fun v wr => ∃ (l : Bs), l.length ≤ M ∧ (∀ c ∈ l, c ∈ OF) ∧ Own w.heap.size v l w wr) (fun v _ => 1 - slen v)
        case atStart => exact ⟨l, by rw [(unhide HL).1]; exact hkM, (unhide HL).2, unhide HO⟩
        case round =>
          clear HO HL hd hl hlt
          obtain ⟨l2, hl2, hc2, hown2⟩ := hrel
          obtain ⟨pa, ca, hpa⟩ := hown2.len
          by_cases hz : l2.length < 1
          · have hl0 : l2 = [] := List.eq_nil_of_length_eq_zero (by omega)
            subst hl0
            rw [show ([] : Bs).length = 0 from rfl] at hpa
            subst hpa
            have HO := hide hown2
            clear hown2
            go_wp2_with (first | (at_builtin; refine push rfl (.tmp 38) (.tmp 41) rfl w.heap.size _ [] (by rfl) w _ _ o0 (by rfl) (unhide HO) (by rfl) (by simp) ?_; intro v2 w2 hb2))
            obtain ⟨pb, cb, hpb⟩ := hb2.len
            refine ⟨⟨[] ++ [o0], by simp; omega, ?_, hb2⟩, ?_⟩
            · intro c hcm
              simp at hcm
              rw [hcm]
              exact unhide hOm
            · rw [hpb]
              simp [slen]
          · have hz2 : ¬ (l2.length : Int) < 1 := by omega
            have hz3 : decide (l2.length < 1) = false := decide_eq_false hz
            have HT := hide hown2.text
            subst hpa
            have HR := hide (And.intro (show 1 ≤ l2.length by omega) (And.intro hl2 (And.intro hc2 hown2.2.1)))
            clear hown2 hc2 hz
            go_wp2_with (first | (refine wpList_conv rfl 102 9 (.tmp 43) rfl _ _ (by rfl) (unhide HT) ?_))
            go_ret
            exact ⟨⟨l2, rfl, (unhide HR).1, (unhide HR).2.1, (unhide HR).2.2.1⟩, (unhide HR).2.2.2⟩
end Go.Proofs.YthlacailhfhjnaaGreatDoor
