import Derived.Test.YthlacailhfhjnaaGreatDoorWfa
namespace Go.Proofs.YthlacailhfhjnaaGreatDoor
open Go.RowKit Go.Lib
set_option maxHeartbeats 8000000 in
set_option maxRecDepth 8000 in
theorem tokA (c : UInt8) (w : World) (h : c.toNat < 48) :
    Calls Tryz.prog 101 #[.int .u8 (c.toNat : Int)] w fun e w' => e = .returned (.bool (sg14.contains c)) ∧ w' = w := by
  have HW := hide (signs_walk c)
  have HQ := hide (fun a : UInt8 => u8_eq a c)
  have HF : Hid (sg14.take 14 = sg14) := hide rfl
  have a0 : ¬ (97 : Int) ≤ (c.toNat : Int) := by omega
  have a1 : ¬ (65 : Int) ≤ (c.toNat : Int) := by omega
  have a2 : ¬ (48 : Int) ≤ (c.toNat : Int) := by omega
  have a3 : ¬ (c.toNat : Int) = 96 := by omega
  clear h
  generalize hG : sg14.contains c = G at *
  go_enter Tryz.func101, Tryz.ntmps101
  go_wp2
  go_loop [4] (fun i => ∃ k : Nat, k ≤ 14 ∧ i = .int .i64 k ∧ (sg14.take k).contains c = false) (fun i => 14 - (Go.RowKit.intOf i).toNat)
  case atStart => exact ⟨0, by omega, rfl, rfl⟩
  case round =>
    obtain ⟨k, hk, rfl, ha⟩ := hrel
    have HA := hide ha
    have HG := hide hG
    clear ha hG
    by_cases hlt : k < 14
    · have hlt' : (k : Int) < 14 := by omega
      have hsz : k < (ByteArray.mk #[33, 35, 36, 37, 38, 39, 42, 43, 45, 46, 94, 95, 124, 126]).size := hlt
      have hC : (ByteArray.mk #[33, 35, 36, 37, 38, 39, 42, 43, 45, 46, 94, 95, 124, 126])[k]'hsz = sg14[k]'hlt := rfl
      have HX := hide (unhide HW k hlt (unhide HA))
      have HY := hide (unhide HQ (sg14[k]'hlt))
      generalize sg14[k]'hlt = x at *
      clear HA HW HQ
      by_cases e : x = c
      · have hR := hide ((unhide HX).1 e)
        have heq := (unhide HY).2 e
        go_wp2
        go_ret
        exact ⟨ret_bool (unhide hR).symm, rfl⟩
      · have hR := hide ((unhide HX).2 e)
        have hne : ¬ (x.toNat : Int) = (c.toNat : Int) := fun q => e ((unhide HY).1 q)
        go_wp2
        refine ⟨⟨k + 1, by omega, by go_num, unhide hR⟩, ?_⟩
        simp [Go.RowKit.intOf]; omega
    · have hlt' : decide ((k : Int) < 14) = false := by simp; omega
      obtain rfl : k = 14 := by omega
      have hR := hide (show G = false by rw [← unhide HG, ← unhide HA, unhide HF])
      clear HA HW HQ
      go_wp2
      go_ret
      exact ⟨ret_bool (unhide hR).symm, rfl⟩
set_option maxHeartbeats 8000000 in
set_option maxRecDepth 8000 in
theorem tokB (c : UInt8) (w : World) (h : 57 < c.toNat ∧ c.toNat < 65) :
    Calls Tryz.prog 101 #[.int .u8 (c.toNat : Int)] w fun e w' => e = .returned (.bool (sg14.contains c)) ∧ w' = w := by
  have HW := hide (signs_walk c)
  have HQ := hide (fun a : UInt8 => u8_eq a c)
  have HF : Hid (sg14.take 14 = sg14) := hide rfl
  have a0 : ¬ (97 : Int) ≤ (c.toNat : Int) := by omega
  have a1 : ¬ (65 : Int) ≤ (c.toNat : Int) := by omega
  have a2 : (48 : Int) ≤ (c.toNat : Int) := by omega
  have a3 : ¬ (c.toNat : Int) ≤ 57 := by omega
  have a4 : ¬ (c.toNat : Int) = 96 := by omega
  clear h
  generalize hG : sg14.contains c = G at *
  go_enter Tryz.func101, Tryz.ntmps101
  go_wp2
  go_loop [4] (fun i => ∃ k : Nat, k ≤ 14 ∧ i = .int .i64 k ∧ (sg14.take k).contains c = false) (fun i => 14 - (Go.RowKit.intOf i).toNat)
  case atStart => exact ⟨0, by omega, rfl, rfl⟩
  case round =>
    obtain ⟨k, hk, rfl, ha⟩ := hrel
    have HA := hide ha
    have HG := hide hG
    clear ha hG
    by_cases hlt : k < 14
    · have hlt' : (k : Int) < 14 := by omega
      have hsz : k < (ByteArray.mk #[33, 35, 36, 37, 38, 39, 42, 43, 45, 46, 94, 95, 124, 126]).size := hlt
      have hC : (ByteArray.mk #[33, 35, 36, 37, 38, 39, 42, 43, 45, 46, 94, 95, 124, 126])[k]'hsz = sg14[k]'hlt := rfl
      have HX := hide (unhide HW k hlt (unhide HA))
      have HY := hide (unhide HQ (sg14[k]'hlt))
      generalize sg14[k]'hlt = x at *
      clear HA HW HQ
      by_cases e : x = c
      · have hR := hide ((unhide HX).1 e)
        have heq := (unhide HY).2 e
        go_wp2
        go_ret
        exact ⟨ret_bool (unhide hR).symm, rfl⟩
      · have hR := hide ((unhide HX).2 e)
        have hne : ¬ (x.toNat : Int) = (c.toNat : Int) := fun q => e ((unhide HY).1 q)
        go_wp2
        refine ⟨⟨k + 1, by omega, by go_num, unhide hR⟩, ?_⟩
        simp [Go.RowKit.intOf]; omega
    · have hlt' : decide ((k : Int) < 14) = false := by simp; omega
      obtain rfl : k = 14 := by omega
      have hR := hide (show G = false by rw [← unhide HG, ← unhide HA, unhide HF])
      clear HA HW HQ
      go_wp2
      go_ret
      exact ⟨ret_bool (unhide hR).symm, rfl⟩
set_option maxHeartbeats 8000000 in
set_option maxRecDepth 8000 in
theorem tokC (c : UInt8) (w : World) (h : 90 < c.toNat ∧ c.toNat < 96) :
    Calls Tryz.prog 101 #[.int .u8 (c.toNat : Int)] w fun e w' => e = .returned (.bool (sg14.contains c)) ∧ w' = w := by
  have HW := hide (signs_walk c)
  have HQ := hide (fun a : UInt8 => u8_eq a c)
  have HF : Hid (sg14.take 14 = sg14) := hide rfl
  have a0 : ¬ (97 : Int) ≤ (c.toNat : Int) := by omega
  have a1 : (65 : Int) ≤ (c.toNat : Int) := by omega
  have a2 : ¬ (c.toNat : Int) ≤ 90 := by omega
  have a3 : (48 : Int) ≤ (c.toNat : Int) := by omega
  have a4 : ¬ (c.toNat : Int) ≤ 57 := by omega
  have a5 : ¬ (c.toNat : Int) = 96 := by omega
  clear h
  generalize hG : sg14.contains c = G at *
  go_enter Tryz.func101, Tryz.ntmps101
  go_wp2
  go_loop [4] (fun i => ∃ k : Nat, k ≤ 14 ∧ i = .int .i64 k ∧ (sg14.take k).contains c = false) (fun i => 14 - (Go.RowKit.intOf i).toNat)
  case atStart => exact ⟨0, by omega, rfl, rfl⟩
  case round =>
    obtain ⟨k, hk, rfl, ha⟩ := hrel
    have HA := hide ha
    have HG := hide hG
    clear ha hG
    by_cases hlt : k < 14
    · have hlt' : (k : Int) < 14 := by omega
      have hsz : k < (ByteArray.mk #[33, 35, 36, 37, 38, 39, 42, 43, 45, 46, 94, 95, 124, 126]).size := hlt
      have hC : (ByteArray.mk #[33, 35, 36, 37, 38, 39, 42, 43, 45, 46, 94, 95, 124, 126])[k]'hsz = sg14[k]'hlt := rfl
      have HX := hide (unhide HW k hlt (unhide HA))
      have HY := hide (unhide HQ (sg14[k]'hlt))
      generalize sg14[k]'hlt = x at *
      clear HA HW HQ
      by_cases e : x = c
      · have hR := hide ((unhide HX).1 e)
        have heq := (unhide HY).2 e
        go_wp2
        go_ret
        exact ⟨ret_bool (unhide hR).symm, rfl⟩
      · have hR := hide ((unhide HX).2 e)
        have hne : ¬ (x.toNat : Int) = (c.toNat : Int) := fun q => e ((unhide HY).1 q)
        go_wp2
        refine ⟨⟨k + 1, by omega, by go_num, unhide hR⟩, ?_⟩
        simp [Go.RowKit.intOf]; omega
    · have hlt' : decide ((k : Int) < 14) = false := by simp; omega
      obtain rfl : k = 14 := by omega
      have hR := hide (show G = false by rw [← unhide HG, ← unhide HA, unhide HF])
      clear HA HW HQ
      go_wp2
      go_ret
      exact ⟨ret_bool (unhide hR).symm, rfl⟩
set_option maxHeartbeats 8000000 in
set_option maxRecDepth 8000 in
theorem tokD (c : UInt8) (w : World) (h : 122 < c.toNat) :
    Calls Tryz.prog 101 #[.int .u8 (c.toNat : Int)] w fun e w' => e = .returned (.bool (sg14.contains c)) ∧ w' = w := by
  have HW := hide (signs_walk c)
  have HQ := hide (fun a : UInt8 => u8_eq a c)
  have HF : Hid (sg14.take 14 = sg14) := hide rfl
  have a0 : (97 : Int) ≤ (c.toNat : Int) := by omega
  have a1 : ¬ (c.toNat : Int) ≤ 122 := by omega
  have a2 : (65 : Int) ≤ (c.toNat : Int) := by omega
  have a3 : ¬ (c.toNat : Int) ≤ 90 := by omega
  have a4 : (48 : Int) ≤ (c.toNat : Int) := by omega
  have a5 : ¬ (c.toNat : Int) ≤ 57 := by omega
  have a6 : ¬ (c.toNat : Int) = 96 := by omega
  clear h
  generalize hG : sg14.contains c = G at *
  go_enter Tryz.func101, Tryz.ntmps101
  go_wp2
  go_loop [4] (fun i => ∃ k : Nat, k ≤ 14 ∧ i = .int .i64 k ∧ (sg14.take k).contains c = false) (fun i => 14 - (Go.RowKit.intOf i).toNat)
  case atStart => exact ⟨0, by omega, rfl, rfl⟩
  case round =>
    obtain ⟨k, hk, rfl, ha⟩ := hrel
    have HA := hide ha
    have HG := hide hG
    clear ha hG
    by_cases hlt : k < 14
    · have hlt' : (k : Int) < 14 := by omega
      have hsz : k < (ByteArray.mk #[33, 35, 36, 37, 38, 39, 42, 43, 45, 46, 94, 95, 124, 126]).size := hlt
      have hC : (ByteArray.mk #[33, 35, 36, 37, 38, 39, 42, 43, 45, 46, 94, 95, 124, 126])[k]'hsz = sg14[k]'hlt := rfl
      have HX := hide (unhide HW k hlt (unhide HA))
      have HY := hide (unhide HQ (sg14[k]'hlt))
      generalize sg14[k]'hlt = x at *
      clear HA HW HQ
      by_cases e : x = c
      · have hR := hide ((unhide HX).1 e)
        have heq := (unhide HY).2 e
        go_wp2
        go_ret
        exact ⟨ret_bool (unhide hR).symm, rfl⟩
      · have hR := hide ((unhide HX).2 e)
        have hne : ¬ (x.toNat : Int) = (c.toNat : Int) := fun q => e ((unhide HY).1 q)
        go_wp2
        refine ⟨⟨k + 1, by omega, by go_num, unhide hR⟩, ?_⟩
        simp [Go.RowKit.intOf]; omega
    · have hlt' : decide ((k : Int) < 14) = false := by simp; omega
      obtain rfl : k = 14 := by omega
      have hR := hide (show G = false by rw [← unhide HG, ← unhide HA, unhide HF])
      clear HA HW HQ
      go_wp2
      go_ret
      exact ⟨ret_bool (unhide hR).symm, rfl⟩
set_option maxHeartbeats 8000000 in
set_option maxRecDepth 8000 in
theorem token_any (c : UInt8) (w : World) : Calls Tryz.prog 101 #[.int .u8 (c.toNat : Int)] w fun e w' => e = .returned (.bool (nby c)) ∧ w' = w := by
  rw [nby_iff c]
  by_cases h1 : 97 ≤ c.toNat ∧ c.toNat ≤ 122
  · rw [decide_eq_true h1]
    have a1 : (97 : Int) ≤ (c.toNat : Int) := by omega
    have a2 : (c.toNat : Int) ≤ 122 := by omega
    go_enter Tryz.func101, Tryz.ntmps101
    go_wp2
    go_ret
    exact ⟨rfl, rfl⟩
  by_cases h2 : 65 ≤ c.toNat ∧ c.toNat ≤ 90
  · rw [decide_eq_true h2]
    have a1 : ¬ (97 : Int) ≤ (c.toNat : Int) := by omega
    have a2 : (65 : Int) ≤ (c.toNat : Int) := by omega
    have a3 : (c.toNat : Int) ≤ 90 := by omega
    go_enter Tryz.func101, Tryz.ntmps101
    go_wp2
    go_ret
    exact ⟨ret_bool (by simp), rfl⟩
  by_cases h3 : 48 ≤ c.toNat ∧ c.toNat ≤ 57
  · rw [decide_eq_true h3]
    have a1 : ¬ (97 : Int) ≤ (c.toNat : Int) := by omega
    have a2 : ¬ (65 : Int) ≤ (c.toNat : Int) := by omega
    have a3 : (48 : Int) ≤ (c.toNat : Int) := by omega
    have a4 : (c.toNat : Int) ≤ 57 := by omega
    go_enter Tryz.func101, Tryz.ntmps101
    go_wp2
    go_ret
    exact ⟨ret_bool (by simp), rfl⟩
  by_cases h4 : c.toNat = 96
  · rw [decide_eq_true h4]
    have a1 : ¬ (97 : Int) ≤ (c.toNat : Int) := by omega
    have a2 : (65 : Int) ≤ (c.toNat : Int) := by omega
    have a3 : ¬ (c.toNat : Int) ≤ 90 := by omega
    have a4 : (48 : Int) ≤ (c.toNat : Int) := by omega
    have a5 : ¬ (c.toNat : Int) ≤ 57 := by omega
    have a6 : (c.toNat : Int) = 96 := by omega
    go_enter Tryz.func101, Tryz.ntmps101
    go_wp2
    go_ret
    exact ⟨ret_bool (by simp), rfl⟩
  rw [decide_eq_false h1, decide_eq_false h2, decide_eq_false h3, decide_eq_false h4, Bool.or_false, Bool.or_false, Bool.or_false, Bool.false_or]
  rcases (show c.toNat < 48 ∨ (57 < c.toNat ∧ c.toNat < 65) ∨ (90 < c.toNat ∧ c.toNat < 96) ∨ 122 < c.toNat by omega) with h | h | h | h
  · exact tokA c w h
  · exact tokB c w h
  · exact tokC c w h
  · exact tokD c w h
set_option maxHeartbeats 8000000 in
set_option maxRecDepth 8000 in
theorem rName_any (s : Bs) (w : World) (hs : s.length ≤ 9223372036854775806) : Calls Tryz.prog 81 #[S s] w fun e w' => e = .returned (.bool (hnm s)) ∧ w' = w := by
  have HM : Hid (hnm s = (decide (1 ≤ s.length ∧ s.length ≤ 40) && s.all nby)) := hide rfl
  generalize hnm s = M at *
  go_enter Tryz.func81, Tryz.ntmps81
  go_wp2
  go_loop [3] (fun i => ∃ k : Nat, k ≤ s.length ∧ i = .int .i64 k ∧ (s.take k).all nby = true) (fun i => s.length - (Go.RowKit.intOf i).toNat)
  case atStart => exact ⟨0, by omega, rfl, by simp⟩
  case round =>
    obtain ⟨k, hk, rfl, ha⟩ := hrel
    by_cases hlt : k < s.length
    · have hsz : k < (ByteArray.mk s.toArray).size := by simpa [ByteArray.size] using hlt
      have hC : (ByteArray.mk s.toArray)[k]'hsz = s[k] := rfl
      have hA := hide ha
      have hT := hide (take_snoc s k hlt)
      have hE := hide (all_no nby s k hlt)
      have hklt : (k : Int) < (s.length : Int) := by omega
      clear ha
      generalize s[k] = c at *
      have HK := hide (fun W => token_any c W)
      go_wp2_with fail
      refine (unhide HK _).mono ?_
      rintro e w1 ⟨rfl, hw⟩
      rw [hw]
      clear hw HK w1
      cases hn : nby c
      · have hR := hide (unhide hE hn)
        clear hn hE hT hA
        go_wp2
        go_ret
        exact ⟨ret_bool (by rw [unhide HM, unhide hR, Bool.and_false]), rfl⟩
      · have hR := hide (show (s.take (k + 1)).all nby = true by rw [unhide hT]; simp [unhide hA, hn])
        clear hn hE hT hA
        go_wp2
        refine ⟨⟨k + 1, by omega, by go_num, unhide hR⟩, ?_⟩
        simp [Go.RowKit.intOf]; omega
    · have hR := hide (show s.all nby = true by rw [List.take_of_length_le (by omega)] at ha; exact ha)
      have hd : decide ((k : Int) < (s.length : Int)) = false := by simp; omega
      clear ha
      by_cases h1 : 1 ≤ s.length
      · have h1' : (1 : Int) ≤ (s.length : Int) := by omega
        go_wp2
        go_ret
        exact ⟨ret_bool (by rw [unhide HM, unhide hR, Bool.and_true]; exact decide_eq_decide.2 (by omega)), rfl⟩
      · have h1' : decide ((1 : Int) ≤ (s.length : Int)) = false := by simp; omega
        go_wp2
        go_ret
        exact ⟨ret_bool (by rw [unhide HM, unhide hR, Bool.and_true, decide_eq_false (by omega)]), rfl⟩
end Go.Proofs.YthlacailhfhjnaaGreatDoor
