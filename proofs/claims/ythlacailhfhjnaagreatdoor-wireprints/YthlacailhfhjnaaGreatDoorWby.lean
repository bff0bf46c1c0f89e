import Derived.Test.YthlacailhfhjnaaGreatDoorBase
import Derived.Deep.QuietTactic
import Derived.BigQuiet
namespace Go.Proofs.YthlacailhfhjnaaGreatDoor
open Go.RowKit Go.Lib
abbrev S (l : List UInt8) : Value := .string ⟨l.toArray⟩
abbrev Fn1 (k : Nat) : Value := .func (.func k) #[] #[]
set_option maxHeartbeats 1000000 in
theorem isUpper_any (c : UInt8) (w : World) : Calls Tryz.prog 87 #[.int .u8 (c.toNat : Int)] w fun e w' => e = .returned (.bool (up c)) ∧ w' = w := by
  unfold up
  generalize c.toNat = n
  by_cases h1 : 65 ≤ n
  · by_cases h2 : n ≤ 90
    · have i1 : (65 : Int) ≤ (n : Int) := by omega
      have i2 : (n : Int) ≤ 90 := by omega
      go_enter Tryz.func87, Tryz.ntmps87
      go_wp2
      go_ret
      exact ⟨ret_bool (by simp [h1, h2]), rfl⟩
    · have i1 : (65 : Int) ≤ (n : Int) := by omega
      have i2 : ¬ (n : Int) ≤ 90 := by omega
      go_enter Tryz.func87, Tryz.ntmps87
      go_wp2
      go_ret
      exact ⟨ret_bool (by simp), rfl⟩
  · have i1 : ¬ (65 : Int) ≤ (n : Int) := by omega
    go_enter Tryz.func87, Tryz.ntmps87
    go_wp2
    go_ret
    exact ⟨ret_bool (by simp), rfl⟩
set_option maxHeartbeats 1000000 in
theorem isShown_any (c : UInt8) (w : World) : Calls Tryz.prog 96 #[.int .u8 (c.toNat : Int)] w fun e w' => e = .returned (.bool (shn c)) ∧ w' = w := by
  unfold shn
  generalize c.toNat = n
  by_cases h1 : 32 ≤ n
  · by_cases h2 : n ≤ 126
    · have i1 : (32 : Int) ≤ (n : Int) := by omega
      have i2 : (n : Int) ≤ 126 := by omega
      go_enter Tryz.func96, Tryz.ntmps96
      go_wp2
      go_ret
      exact ⟨ret_bool (by simp [h1, h2]), rfl⟩
    · have i1 : (32 : Int) ≤ (n : Int) := by omega
      have i2 : ¬ (n : Int) ≤ 126 := by omega
      go_enter Tryz.func96, Tryz.ntmps96
      go_wp2
      go_ret
      exact ⟨ret_bool (by simp), rfl⟩
  · have i1 : ¬ (32 : Int) ≤ (n : Int) := by omega
    go_enter Tryz.func96, Tryz.ntmps96
    go_wp2
    go_ret
    exact ⟨ret_bool (by simp), rfl⟩
set_option maxHeartbeats 1000000 in
theorem isDigit_any (c : UInt8) (w : World) : Calls Tryz.prog 109 #[.int .u8 (c.toNat : Int)] w fun e w' => e = .returned (.bool (dgt c)) ∧ w' = w := by
  unfold dgt
  generalize c.toNat = n
  by_cases h1 : 48 ≤ n
  · by_cases h2 : n ≤ 57
    · have i1 : (48 : Int) ≤ (n : Int) := by omega
      have i2 : (n : Int) ≤ 57 := by omega
      go_enter Tryz.func109, Tryz.ntmps109
      go_wp2
      go_ret
      exact ⟨ret_bool (by simp [h1, h2]), rfl⟩
    · have i1 : (48 : Int) ≤ (n : Int) := by omega
      have i2 : ¬ (n : Int) ≤ 57 := by omega
      go_enter Tryz.func109, Tryz.ntmps109
      go_wp2
      go_ret
      exact ⟨ret_bool (by simp), rfl⟩
  · have i1 : ¬ (48 : Int) ≤ (n : Int) := by omega
    go_enter Tryz.func109, Tryz.ntmps109
    go_wp2
    go_ret
    exact ⟨ret_bool (by simp), rfl⟩
theorem toNat_ne {c d : UInt8} (h : c ≠ d) : ¬ ((c.toNat : Nat) : Int) = (d.toNat : Int) := fun q => h (UInt8.toNat_inj.1 (by omega))
set_option maxHeartbeats 1000000 in
theorem isPathByte_any (c : UInt8) (w : World) : Calls Tryz.prog 89 #[.int .u8 (c.toNat : Int)] w fun e w' => e = .returned (.bool (pby c)) ∧ w' = w := by
  have H := hide (isShown_any c w)
  unfold pby
  by_cases h1 : shn c = true
  · rw [h1] at H ⊢
    by_cases h2 : c = 32
    · subst h2
      have i2 : (((32 : UInt8).toNat : Nat) : Int) = 32 := rfl
      go_enter Tryz.func89, Tryz.ntmps89
      go_wp2_with (go_at_call 96; refine (unhide H).mono ?_; rintro e w' ⟨rfl, rfl⟩)
      go_ret
      exact ⟨ret_bool (by simp), rfl⟩
    · have i2 : ¬ ((c.toNat : Nat) : Int) = 32 := toNat_ne h2
      go_enter Tryz.func89, Tryz.ntmps89
      go_wp2_with (go_at_call 96; refine (unhide H).mono ?_; rintro e w' ⟨rfl, rfl⟩)
      go_ret
      refine ⟨ret_bool ?_, rfl⟩
      have e1 : (c == 32) = false := by simpa using h2
      rw [e1]
      simpa using i2
  · have h1' : shn c = false := by simpa using h1
    rw [h1'] at H ⊢
    go_enter Tryz.func89, Tryz.ntmps89
    go_wp2_with (go_at_call 96; refine (unhide H).mono ?_; rintro e w' ⟨rfl, rfl⟩)
    go_ret
    exact ⟨rfl, rfl⟩
set_option maxHeartbeats 1000000 in
theorem lower_any (c : UInt8) (w : World) : Calls Tryz.prog 73 #[.int .u8 (c.toNat : Int)] w fun e w' => e = .returned (.int .u8 ((low c).toNat : Int)) ∧ w' = w := by
  have H := hide (isUpper_any c w)
  unfold low
  by_cases h1 : up c = true
  · have h2 : 65 ≤ c.toNat ∧ c.toNat ≤ 90 := by unfold up at h1; simpa using h1
    rw [if_pos h1]
    rw [h1] at H
    have h3 : Hid ((c + 32).toNat = c.toNat + 32) := hide (by rw [UInt8.toNat_add]; show (c.toNat + 32) % 256 = _; omega)
    have i3 : (c.toNat : Int) + 32 ≤ 255 := by omega
    go_enter Tryz.func73, Tryz.ntmps73
    go_wp2_with (go_at_call 87; refine (unhide H).mono ?_; rintro e w' ⟨rfl, rfl⟩)
    go_ret
    refine ⟨ret_int ?_, rfl⟩
    rw [unhide h3]
    try rw [IntKind.wrap_u8]
    omega
  · have h1' : up c = false := by simpa using h1
    rw [if_neg h1]
    rw [h1'] at H
    go_enter Tryz.func73, Tryz.ntmps73
    go_wp2_with (go_at_call 87; refine (unhide H).mono ?_; rintro e w' ⟨rfl, rfl⟩)
    go_ret
    exact ⟨rfl, rfl⟩
end Go.Proofs.YthlacailhfhjnaaGreatDoor
namespace Go.Proofs.YthlacailhfhjnaaGreatDoor
open Go.RowKit Go.Lib
theorem all_no (P : UInt8 → Bool) (s : List UInt8) (k : Nat) (h : k < s.length) (hp : P s[k] = false) : s.all P = false := by
  rw [Bool.eq_false_iff]
  intro q
  rw [List.all_eq_true] at q
  rw [q _ (List.getElem_mem h)] at hp
  cases hp
set_option maxHeartbeats 2000000 in
set_option maxRecDepth 8000 in
theorem all87_any (s : List UInt8) (w : World) (hs : s.length ≤ 9223372036854775807) : Calls Tryz.prog 86 #[S s, Fn1 87] w fun e w' => e = .returned (.bool (s.all up)) ∧ w' = w := by
  go_enter Tryz.func86, Tryz.ntmps86
  go_wp2
  go_loop [8] (fun i => ∃ k : Nat, k ≤ s.length ∧ i = .int .i64 k ∧ (s.take k).all up = true) (fun i => s.length - (Go.RowKit.intOf i).toNat)
  case atStart => exact ⟨0, by omega, rfl, rfl⟩
  case round =>
    obtain ⟨k, hk, rfl, ha⟩ := hrel
    by_cases hlt : k < s.length
    · have hsz : k < (ByteArray.mk s.toArray).size := by simpa [ByteArray.size] using hlt
      have hC : (ByteArray.mk s.toArray)[k]'hsz = s[k] := rfl
      have hA := hide ha
      have hT := hide (take_snoc s k hlt)
      have hE := hide (all_no up s k hlt)
      have hklt : (k : Int) < (s.length : Int) := by omega
      have HQ := hide (fun W => isUpper_any s[k] W)
      clear ha
      generalize s[k] = c at *
      by_cases hp : up c = true
      · rw [hp] at HQ
        have hR := hide (show (s.take (k + 1)).all up = true by rw [unhide hT]; simp [unhide hA, hp])
        clear hT hp hE
        go_wp2_with (go_at_call 87; refine (unhide HQ _).mono ?_; rintro e w' ⟨rfl, rfl⟩)
        go_round
        case rel => exact ⟨k + 1, by omega, by go_num, unhide hR⟩
        case measure => simp [Go.RowKit.intOf]; omega
      · have hp' : up c = false := by simpa using hp
        rw [hp'] at HQ
        have hF := hide (unhide hE hp')
        clear hp hp' hE hT hA
        go_wp2_with (go_at_call 87; refine (unhide HQ _).mono ?_; rintro e w' ⟨rfl, rfl⟩)
        go_ret
        exact ⟨ret_bool (unhide hF).symm, rfl⟩
    · have hd : decide (k < s.length) = false := by simp; omega
      have e : s.take k = s := List.take_of_length_le (by omega)
      rw [e] at ha
      have hA := hide ha
      clear ha e
      go_wp2
      go_ret
      exact ⟨ret_bool (unhide hA).symm, rfl⟩
set_option maxHeartbeats 2000000 in
set_option maxRecDepth 8000 in
theorem all89_any (s : List UInt8) (w : World) (hs : s.length ≤ 9223372036854775807) : Calls Tryz.prog 86 #[S s, Fn1 89] w fun e w' => e = .returned (.bool (s.all pby)) ∧ w' = w := by
  go_enter Tryz.func86, Tryz.ntmps86
  go_wp2
  go_loop [8] (fun i => ∃ k : Nat, k ≤ s.length ∧ i = .int .i64 k ∧ (s.take k).all pby = true) (fun i => s.length - (Go.RowKit.intOf i).toNat)
  case atStart => exact ⟨0, by omega, rfl, rfl⟩
  case round =>
    obtain ⟨k, hk, rfl, ha⟩ := hrel
    by_cases hlt : k < s.length
    · have hsz : k < (ByteArray.mk s.toArray).size := by simpa [ByteArray.size] using hlt
      have hC : (ByteArray.mk s.toArray)[k]'hsz = s[k] := rfl
      have hA := hide ha
      have hT := hide (take_snoc s k hlt)
      have hE := hide (all_no pby s k hlt)
      have hklt : (k : Int) < (s.length : Int) := by omega
      have HQ := hide (fun W => isPathByte_any s[k] W)
      clear ha
      generalize s[k] = c at *
      by_cases hp : pby c = true
      · rw [hp] at HQ
        have hR := hide (show (s.take (k + 1)).all pby = true by rw [unhide hT]; simp [unhide hA, hp])
        clear hT hp hE
        go_wp2_with (go_at_call 89; refine (unhide HQ _).mono ?_; rintro e w' ⟨rfl, rfl⟩)
        go_round
        case rel => exact ⟨k + 1, by omega, by go_num, unhide hR⟩
        case measure => simp [Go.RowKit.intOf]; omega
      · have hp' : pby c = false := by simpa using hp
        rw [hp'] at HQ
        have hF := hide (unhide hE hp')
        clear hp hp' hE hT hA
        go_wp2_with (go_at_call 89; refine (unhide HQ _).mono ?_; rintro e w' ⟨rfl, rfl⟩)
        go_ret
        exact ⟨ret_bool (unhide hF).symm, rfl⟩
    · have hd : decide (k < s.length) = false := by simp; omega
      have e : s.take k = s := List.take_of_length_le (by omega)
      rw [e] at ha
      have hA := hide ha
      clear ha e
      go_wp2
      go_ret
      exact ⟨ret_bool (unhide hA).symm, rfl⟩
set_option maxHeartbeats 2000000 in
set_option maxRecDepth 8000 in
theorem all96_any (s : List UInt8) (w : World) (hs : s.length ≤ 9223372036854775807) : Calls Tryz.prog 86 #[S s, Fn1 96] w fun e w' => e = .returned (.bool (s.all shn)) ∧ w' = w := by
  go_enter Tryz.func86, Tryz.ntmps86
  go_wp2
  go_loop [8] (fun i => ∃ k : Nat, k ≤ s.length ∧ i = .int .i64 k ∧ (s.take k).all shn = true) (fun i => s.length - (Go.RowKit.intOf i).toNat)
  case atStart => exact ⟨0, by omega, rfl, rfl⟩
  case round =>
    obtain ⟨k, hk, rfl, ha⟩ := hrel
    by_cases hlt : k < s.length
    · have hsz : k < (ByteArray.mk s.toArray).size := by simpa [ByteArray.size] using hlt
      have hC : (ByteArray.mk s.toArray)[k]'hsz = s[k] := rfl
      have hA := hide ha
      have hT := hide (take_snoc s k hlt)
      have hE := hide (all_no shn s k hlt)
      have hklt : (k : Int) < (s.length : Int) := by omega
      have HQ := hide (fun W => isShown_any s[k] W)
      clear ha
      generalize s[k] = c at *
      by_cases hp : shn c = true
      · rw [hp] at HQ
        have hR := hide (show (s.take (k + 1)).all shn = true by rw [unhide hT]; simp [unhide hA, hp])
        clear hT hp hE
        go_wp2_with (go_at_call 96; refine (unhide HQ _).mono ?_; rintro e w' ⟨rfl, rfl⟩)
        go_round
        case rel => exact ⟨k + 1, by omega, by go_num, unhide hR⟩
        case measure => simp [Go.RowKit.intOf]; omega
      · have hp' : shn c = false := by simpa using hp
        rw [hp'] at HQ
        have hF := hide (unhide hE hp')
        clear hp hp' hE hT hA
        go_wp2_with (go_at_call 96; refine (unhide HQ _).mono ?_; rintro e w' ⟨rfl, rfl⟩)
        go_ret
        exact ⟨ret_bool (unhide hF).symm, rfl⟩
    · have hd : decide (k < s.length) = false := by simp; omega
      have e : s.take k = s := List.take_of_length_le (by omega)
      rw [e] at ha
      have hA := hide ha
      clear ha e
      go_wp2
      go_ret
      exact ⟨ret_bool (unhide hA).symm, rfl⟩
set_option maxHeartbeats 2000000 in
set_option maxRecDepth 8000 in
theorem all109_any (s : List UInt8) (w : World) (hs : s.length ≤ 9223372036854775807) : Calls Tryz.prog 86 #[S s, Fn1 109] w fun e w' => e = .returned (.bool (s.all dgt)) ∧ w' = w := by
  go_enter Tryz.func86, Tryz.ntmps86
  go_wp2
  go_loop [8] (fun i => ∃ k : Nat, k ≤ s.length ∧ i = .int .i64 k ∧ (s.take k).all dgt = true) (fun i => s.length - (Go.RowKit.intOf i).toNat)
  case atStart => exact ⟨0, by omega, rfl, rfl⟩
  case round =>
    obtain ⟨k, hk, rfl, ha⟩ := hrel
    by_cases hlt : k < s.length
    · have hsz : k < (ByteArray.mk s.toArray).size := by simpa [ByteArray.size] using hlt
      have hC : (ByteArray.mk s.toArray)[k]'hsz = s[k] := rfl
      have hA := hide ha
      have hT := hide (take_snoc s k hlt)
      have hE := hide (all_no dgt s k hlt)
      have hklt : (k : Int) < (s.length : Int) := by omega
      have HQ := hide (fun W => isDigit_any s[k] W)
      clear ha
      generalize s[k] = c at *
      by_cases hp : dgt c = true
      · rw [hp] at HQ
        have hR := hide (show (s.take (k + 1)).all dgt = true by rw [unhide hT]; simp [unhide hA, hp])
        clear hT hp hE
        go_wp2_with (go_at_call 109; refine (unhide HQ _).mono ?_; rintro e w' ⟨rfl, rfl⟩)
        go_round
        case rel => exact ⟨k + 1, by omega, by go_num, unhide hR⟩
        case measure => simp [Go.RowKit.intOf]; omega
      · have hp' : dgt c = false := by simpa using hp
        rw [hp'] at HQ
        have hF := hide (unhide hE hp')
        clear hp hp' hE hT hA
        go_wp2_with (go_at_call 109; refine (unhide HQ _).mono ?_; rintro e w' ⟨rfl, rfl⟩)
        go_ret
        exact ⟨ret_bool (unhide hF).symm, rfl⟩
    · have hd : decide (k < s.length) = false := by simp; omega
      have e : s.take k = s := List.take_of_length_le (by omega)
      rw [e] at ha
      have hA := hide ha
      clear ha e
      go_wp2
      go_ret
      exact ⟨ret_bool (unhide hA).symm, rfl⟩
end Go.Proofs.YthlacailhfhjnaaGreatDoor
namespace Go.Proofs.YthlacailhfhjnaaGreatDoor
open Go.RowKit Go.Lib
theorem alk_len {a b : Bs} (h : a.length ≠ b.length) : alk a b = false := by
  unfold alk
  rw [beq_eq_false_iff_ne]
  intro e
  have := congrArg List.length e
  simp at this
  exact h this
theorem alk_all {a b : Bs} (h : a.length = b.length) (hk : ∀ k (h1 : k < a.length) (h2 : k < b.length), low a[k] = low b[k]) : alk a b = true := by
  unfold alk
  rw [beq_iff_eq]
  apply List.ext_getElem
  · simpa using h
  · intro k h1 h2
    simp only [List.getElem_map]
    exact hk k (by simpa using h1) (by simpa using h2)
theorem alk_no {a b : Bs} (k : Nat) (h1 : k < a.length) (h2 : k < b.length) (h : low a[k] ≠ low b[k]) : alk a b = false := by
  unfold alk
  rw [beq_eq_false_iff_ne]
  intro e
  apply h
  have h3 : (a.map low)[k]? = (b.map low)[k]? := by rw [e]
  simpa [h1, h2] using h3
set_option maxHeartbeats 2000000 in
set_option maxRecDepth 8000 in
theorem alike_any (a b : Bs) (w : World) (ha : a.length ≤ 9223372036854775807) : Calls Tryz.prog 43 #[S a, S b] w fun e w' => e = .returned (.bool (alk a b)) ∧ ∃ n, w' = w.drewN n := by
  by_cases hl : a.length = b.length
  · go_enter Tryz.func43, Tryz.ntmps43
    have HL := hide hl
    have hli : (a.length : Int) = (b.length : Int) := by omega
    go_wp2
    go_loopw [13] (fun i wr => ∃ k : Nat, k ≤ a.length ∧ i = .int .i64 k ∧ (∀ j (h1 : j < a.length) (h2 : j < b.length), j < k → low a[j] = low b[j]) ∧ ∃ n, wr = w.drewN n) (fun i _ => a.length - (Go.RowKit.intOf i).toNat)
    case atStart => exact ⟨0, by omega, rfl, fun j _ _ h => absurd h (Nat.not_lt_zero j), 0, rfl⟩
    case round =>
      obtain ⟨k, hk, rfl, hq, n, rfl⟩ := hrel
      have HQ := hide hq
      clear hq hl
      by_cases hlt : k < a.length
      · have hlt2 : k < b.length := by have := unhide HL; omega
        have hsa : k < (ByteArray.mk a.toArray).size := by simpa [ByteArray.size] using hlt
        have hsb : k < (ByteArray.mk b.toArray).size := by simpa [ByteArray.size] using hlt2
        have hC : (ByteArray.mk a.toArray)[k]'hsa = a[k] := rfl
        have hD : (ByteArray.mk b.toArray)[k]'hsb = b[k] := rfl
        have hki : (k : Int) < (a.length : Int) := by omega
        have hkj : (k : Int) < (b.length : Int) := by omega
        have HN := hide (fun h => alk_no (a := a) (b := b) k hlt hlt2 h)
        have HS := hide (fun (h : low a[k] = low b[k]) (j : Nat) (h1 : j < a.length) (h2 : j < b.length) (h3 : j < k + 1) => (show low a[j] = low b[j] by
          by_cases e : j = k
          · subst e; exact h
          · exact unhide HQ j h1 h2 (by omega)))
        clear HQ
        generalize a[k] = c at *
        generalize b[k] = d at *
        by_cases he : low c = low d
        · have HS2 := hide (unhide HS he)
          clear HS HN
          have hne : ((low c).toNat : Int) = ((low d).toNat : Int) := by rw [he]
          have hneq : (((low c).toNat : Int) != ((low d).toNat : Int)) = false := by rw [bne_eq_false_iff_eq]; exact hne
          go_wp2
          generalize hw1 : w.drewN n = w1
          have HW := hide hw1
          clear hw1
          go_quiet ((go_at_call 73; exact Calls.quiet_of_same (lower_any _ _)))
          go_wp2
          refine ⟨⟨k + 1, by omega, by go_num, unhide HS2, n + nq, by rw [← unhide HW, World.drewN_drewN]⟩, ?_⟩
          simp [Go.RowKit.intOf]; omega
        · have HF := hide (unhide HN he)
          clear HS HN
          have hne : ¬ ((low c).toNat : Int) = ((low d).toNat : Int) := toNat_ne he
          have hneq : (((low c).toNat : Int) != ((low d).toNat : Int)) = true := by rw [bne_iff_ne]; exact hne
          go_wp2
          generalize hw1 : w.drewN n = w1
          have HW := hide hw1
          clear hw1
          go_quiet ((go_at_call 73; exact Calls.quiet_of_same (lower_any _ _)))
          go_wp2
          go_ret
          exact ⟨ret_bool (unhide HF).symm, n + nq, by rw [← unhide HW, World.drewN_drewN]⟩
      · have hd : decide (k < a.length) = false := by simp; omega
        have HA := hide (alk_all (unhide HL) (fun j h1 h2 => unhide HQ j h1 h2 (by omega)))
        clear HQ
        go_wp2
        go_ret
        exact ⟨ret_bool (unhide HA).symm, _, rfl⟩
  · have hli : ¬ (a.length : Int) = (b.length : Int) := by omega
    have HA := hide (alk_len hl)
    clear hl
    go_enter Tryz.func43, Tryz.ntmps43
    go_wp2
    go_ret
    exact ⟨ret_bool (unhide HA).symm, 0, rfl⟩
end Go.Proofs.YthlacailhfhjnaaGreatDoor
