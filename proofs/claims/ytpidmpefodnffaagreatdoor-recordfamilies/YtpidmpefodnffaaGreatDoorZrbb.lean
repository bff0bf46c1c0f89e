import Derived.Test.YtpidmpefodnffaaGreatDoorZwrta
import Derived.Test.YtpidmpefodnffaaGreatDoorZfde
import Derived.Test.YtpidmpefodnffaaGreatDoorZscb
import Derived.Deep.Cut
import Derived.Deep.CutRange
namespace Go.Proofs.YtpidmpefodnffaaGreatDoor
open Go.RowKit Go.Lib
theorem rTime_any (z : Int) (w : World) : Calls Tryz.prog 104 #[I z] w fun e w' => e = .returned (.bool (tim z)) ∧ w' = w := by
  go_enter Tryz.func104, Tryz.ntmps104
  go_wp2
  all_goals go_ret
  all_goals refine ⟨ret_bool ?_, rfl⟩
  all_goals (rw [Bool.eq_iff_iff]; simp [tim]; try omega)
theorem rId_any (z : Int) (w : World) : Calls Tryz.prog 109 #[I z] w fun e w' => e = .returned (.bool (idn z)) ∧ w' = w := by
  go_enter Tryz.func109, Tryz.ntmps109
  go_wp2
  all_goals go_ret
  all_goals refine ⟨ret_bool ?_, rfl⟩
  all_goals (rw [Bool.eq_iff_iff]; simp [idn]; try omega)
theorem sg_iff (c : UInt8) : sg c = true ↔ (97 ≤ c.toNat ∧ c.toNat ≤ 122) ∨ (48 ≤ c.toNat ∧ c.toNat ≤ 57) ∨ c.toNat = 45 ∨ c.toNat = 95 ∨ c.toNat = 46 := by
  unfold sg
  simp only [Bool.or_eq_true, Bool.and_eq_true, decide_eq_true_eq, beq_iff_eq, or_assoc]
set_option maxHeartbeats 8000000 in
set_option maxRecDepth 8000 in
theorem refName_any (s : Bs) (w : World) (hs : s.length ≤ 9223372036854775807) : Calls Tryz.prog 110 #[S s] w fun e w' => e = .returned (.bool (nm s)) ∧ w' = w := by
  go_enter Tryz.func110, Tryz.ntmps110
  go_wp2
  go_loop [3] (fun i => ∃ k : Nat, k ≤ s.length ∧ i = .int .i64 k ∧ (s.take k).all sg = true) (fun i => s.length - (Go.RowKit.intOf i).toNat)
  case atStart => exact ⟨0, by omega, rfl, by simp⟩
  case round =>
    obtain ⟨k, hk, rfl, ha⟩ := hrel
    by_cases hlt : k < s.length
    · have hsz : k < (ByteArray.mk s.toArray).size := by simpa [ByteArray.size] using hlt
      have hC : (ByteArray.mk s.toArray)[k]'hsz = s[k] := rfl
      have hA := hide ha
      have hT := hide (take_snoc s k hlt)
      have hE := hide (all_no sg s k hlt)
      have hklt : (k : Int) < (s.length : Int) := by omega
      clear ha
      generalize s[k] = c at *
      have hI := hide (sg_iff c)
      by_cases q0 : 97 ≤ c.toNat ∧ c.toNat ≤ 122
      ·
        have hp := (unhide hI).2 (by omega)
        have hR := hide (show (s.take (k + 1)).all sg = true by rw [unhide hT]; simp [unhide hA, hp])
        have f0 : decide (97 ≤ (c.toNat : Int)) = true := by rw [decide_eq_true_eq]; omega
        have f1 : decide ((c.toNat : Int) ≤ 122) = true := by rw [decide_eq_true_eq]; omega
        have f2 : decide (48 ≤ (c.toNat : Int)) = true := by rw [decide_eq_true_eq]; omega
        have f3 : decide ((c.toNat : Int) ≤ 57) = false := by rw [decide_eq_false_iff_not]; omega
        clear hp hE hT hA hI q0
        go_wp2
        refine ⟨⟨k + 1, by omega, by go_num, unhide hR⟩, ?_⟩
        simp [Go.RowKit.intOf]; omega
      by_cases q1 : 48 ≤ c.toNat ∧ c.toNat ≤ 57
      ·
        have hp := (unhide hI).2 (by omega)
        have hR := hide (show (s.take (k + 1)).all sg = true by rw [unhide hT]; simp [unhide hA, hp])
        have f0 : decide (97 ≤ (c.toNat : Int)) = false := by rw [decide_eq_false_iff_not]; omega
        have f1 : decide (48 ≤ (c.toNat : Int)) = true := by rw [decide_eq_true_eq]; omega
        have f2 : decide ((c.toNat : Int) ≤ 57) = true := by rw [decide_eq_true_eq]; omega
        clear hp hE hT hA hI q0 q1
        go_wp2
        refine ⟨⟨k + 1, by omega, by go_num, unhide hR⟩, ?_⟩
        simp [Go.RowKit.intOf]; omega
      by_cases q2 : c.toNat = 45
      ·
        have hp := (unhide hI).2 (by omega)
        have hR := hide (show (s.take (k + 1)).all sg = true by rw [unhide hT]; simp [unhide hA, hp])
        have f0 : decide (97 ≤ (c.toNat : Int)) = false := by rw [decide_eq_false_iff_not]; omega
        have f1 : decide (48 ≤ (c.toNat : Int)) = false := by rw [decide_eq_false_iff_not]; omega
        have f2 : ((c.toNat : Int) != 45) = false := by rw [bne_eq_false_iff_eq]; omega
        clear hp hE hT hA hI q0 q1 q2
        go_wp2
        refine ⟨⟨k + 1, by omega, by go_num, unhide hR⟩, ?_⟩
        simp [Go.RowKit.intOf]; omega
      by_cases q3 : c.toNat = 95
      ·
        have hp := (unhide hI).2 (by omega)
        have hR := hide (show (s.take (k + 1)).all sg = true by rw [unhide hT]; simp [unhide hA, hp])
        have f0 : decide (97 ≤ (c.toNat : Int)) = false := by rw [decide_eq_false_iff_not]; omega
        have f1 : decide (48 ≤ (c.toNat : Int)) = true := by rw [decide_eq_true_eq]; omega
        have f2 : decide ((c.toNat : Int) ≤ 57) = false := by rw [decide_eq_false_iff_not]; omega
        have f3 : ((c.toNat : Int) != 45) = true := by rw [bne_iff_ne]; omega
        have f4 : ((c.toNat : Int) != 95) = false := by rw [bne_eq_false_iff_eq]; omega
        clear hp hE hT hA hI q0 q1 q2 q3
        go_wp2
        refine ⟨⟨k + 1, by omega, by go_num, unhide hR⟩, ?_⟩
        simp [Go.RowKit.intOf]; omega
      by_cases q4 : c.toNat = 46
      ·
        have hp := (unhide hI).2 (by omega)
        have hR := hide (show (s.take (k + 1)).all sg = true by rw [unhide hT]; simp [unhide hA, hp])
        have f0 : decide (97 ≤ (c.toNat : Int)) = false := by rw [decide_eq_false_iff_not]; omega
        have f1 : decide (48 ≤ (c.toNat : Int)) = false := by rw [decide_eq_false_iff_not]; omega
        have f2 : ((c.toNat : Int) != 45) = true := by rw [bne_iff_ne]; omega
        have f3 : ((c.toNat : Int) != 95) = true := by rw [bne_iff_ne]; omega
        have f4 : ((c.toNat : Int) != 46) = false := by rw [bne_eq_false_iff_eq]; omega
        clear hp hE hT hA hI q0 q1 q2 q3 q4
        go_wp2
        refine ⟨⟨k + 1, by omega, by go_num, unhide hR⟩, ?_⟩
        simp [Go.RowKit.intOf]; omega
      by_cases q5 : 97 ≤ c.toNat
      ·
        have hp : sg c = false := by rw [Bool.eq_false_iff]; intro h; have := (unhide hI).1 h; omega
        have hF := hide (unhide hE hp)
        have f0 : decide (97 ≤ (c.toNat : Int)) = true := by rw [decide_eq_true_eq]; omega
        have f1 : decide ((c.toNat : Int) ≤ 122) = false := by rw [decide_eq_false_iff_not]; omega
        have f2 : decide (48 ≤ (c.toNat : Int)) = true := by rw [decide_eq_true_eq]; omega
        have f3 : decide ((c.toNat : Int) ≤ 57) = false := by rw [decide_eq_false_iff_not]; omega
        have f4 : ((c.toNat : Int) != 45) = true := by rw [bne_iff_ne]; omega
        have f5 : ((c.toNat : Int) != 95) = true := by rw [bne_iff_ne]; omega
        have f6 : ((c.toNat : Int) != 46) = true := by rw [bne_iff_ne]; omega
        clear hp hE hT hA hI q0 q1 q2 q3 q4 q5
        go_wp2
        go_ret
        exact ⟨ret_bool (by simp [nm, unhide hF]), rfl⟩
      by_cases q6 : 48 ≤ c.toNat
      ·
        have hp : sg c = false := by rw [Bool.eq_false_iff]; intro h; have := (unhide hI).1 h; omega
        have hF := hide (unhide hE hp)
        have f0 : decide (97 ≤ (c.toNat : Int)) = false := by rw [decide_eq_false_iff_not]; omega
        have f1 : decide (48 ≤ (c.toNat : Int)) = true := by rw [decide_eq_true_eq]; omega
        have f2 : decide ((c.toNat : Int) ≤ 57) = false := by rw [decide_eq_false_iff_not]; omega
        have f3 : ((c.toNat : Int) != 45) = true := by rw [bne_iff_ne]; omega
        have f4 : ((c.toNat : Int) != 95) = true := by rw [bne_iff_ne]; omega
        have f5 : ((c.toNat : Int) != 46) = true := by rw [bne_iff_ne]; omega
        clear hp hE hT hA hI q0 q1 q2 q3 q4 q5 q6
        go_wp2
        go_ret
        exact ⟨ret_bool (by simp [nm, unhide hF]), rfl⟩
      ·
        have hp : sg c = false := by rw [Bool.eq_false_iff]; intro h; have := (unhide hI).1 h; omega
        have hF := hide (unhide hE hp)
        have f0 : decide (97 ≤ (c.toNat : Int)) = false := by rw [decide_eq_false_iff_not]; omega
        have f1 : decide (48 ≤ (c.toNat : Int)) = false := by rw [decide_eq_false_iff_not]; omega
        have f2 : ((c.toNat : Int) != 45) = true := by rw [bne_iff_ne]; omega
        have f3 : ((c.toNat : Int) != 95) = true := by rw [bne_iff_ne]; omega
        have f4 : ((c.toNat : Int) != 46) = true := by rw [bne_iff_ne]; omega
        clear hp hE hT hA hI q0 q1 q2 q3 q4 q5 q6
        go_wp2
        go_ret
        exact ⟨ret_bool (by simp [nm, unhide hF]), rfl⟩
    · have e : s.take k = s := List.take_of_length_le (by omega)
      rw [e] at ha
      have hA := hide ha
      have hklt : ¬ (k : Int) < (s.length : Int) := by omega
      clear ha e
      by_cases hz : s.length = 0
      · have hz' : decide (1 ≤ (s.length : Int)) = false := by rw [decide_eq_false_iff_not]; omega
        go_wp2
        go_ret
        refine ⟨ret_bool ?_, rfl⟩
        simp [nm, hz]
      · have hz' : decide (1 ≤ (s.length : Int)) = true := by rw [decide_eq_true_eq]; omega
        go_wp2
        go_ret
        refine ⟨ret_bool ?_, rfl⟩
        rw [Bool.eq_iff_iff]
        simp [nm, unhide hA]
        omega
/-- What number makes of bytes. -/
def nmr (s : Bs) : Int := if s.length = 0 ∨ 8 < s.length ∨ (s.length = 8 ∧ 127 < (s.getD 0 0).toNat) then -1 else nat s
theorem nat_snok (s : Bs) (k : Nat) (hk : k < s.length) : nat (s.take (k + 1)) = nat (s.take k) * 256 + (s.getD k 0).toNat := by
  rw [List.take_succ_eq_append_getElem hk, nat_app]
  simp [nat, hk]
theorem nat_take_lt (s : Bs) (k : Nat) (h8 : s.length ≤ 8) (hf : ¬ (s.length = 8 ∧ 127 < (s.getD 0 0).toNat)) (hk : k ≤ s.length) : nat (s.take k) < 9223372036854775808 := by
  have hl := nat_lt (s.take k)
  rw [List.length_take, Nat.min_eq_left hk] at hl
  by_cases q : k < 8
  · have : 256 ^ k ≤ 256 ^ 7 := Nat.pow_le_pow_right (by decide) (by omega)
    have h7 : 256 ^ 7 = 72057594037927936 := by decide
    omega
  · have hk8 : k = 8 := by omega
    have hs8 : s.length = 8 := by omega
    have := (nat_first s hs8)
    rw [List.take_of_length_le (by omega)]
    omega
set_option maxHeartbeats 8000000 in
set_option maxRecDepth 8000 in
theorem rNumber_any (s : Bs) (w : World) (hs : s.length ≤ 9223372036854775807) : Calls Tryz.prog 127 #[S s] w fun e w' => e = .returned (I (nmr s)) ∧ w' = w := by
  by_cases q0 : s.length = 0
  · have HE := hide (show nmr s = -1 by simp [nmr, q0])
    generalize nmr s = R at *
    go_enter Tryz.func127, Tryz.ntmps127
    go_wp2
    go_ret
    exact ⟨ret_int (by rw [unhide HE]), rfl⟩
  by_cases q1 : 8 < s.length
  · have HE := hide (show nmr s = -1 by simp [nmr, q1])
    generalize nmr s = R at *
    have e0 : ((s.length : Int) == 0) = false := by rw [beq_eq_false_iff_ne]; omega
    have e1 : decide (8 < (s.length : Int)) = true := by rw [decide_eq_true_eq]; omega
    go_enter Tryz.func127, Tryz.ntmps127
    go_wp2
    go_ret
    exact ⟨ret_int (by rw [unhide HE]), rfl⟩
  have e0 : ((s.length : Int) == 0) = false := by rw [beq_eq_false_iff_ne]; omega
  have e1 : decide (8 < (s.length : Int)) = false := by rw [decide_eq_false_iff_not]; omega
  by_cases q2 : s.length = 8 ∧ 127 < (s.getD 0 0).toNat
  · have HE := hide (show nmr s = -1 by simp only [nmr]; rw [if_pos (.inr (.inr q2))])
    generalize nmr s = R at *
    obtain ⟨q2, q3⟩ := q2
    have e2 : ((s.length : Int) == 8) = true := by rw [beq_iff_eq]; omega
    have hsz : 0 < (ByteArray.mk s.toArray).size := by simp [ByteArray.size]; omega
    have hC : (ByteArray.mk s.toArray)[0]'hsz = s.getD 0 0 := by
      have : s.getD 0 0 = s[0]'(by omega) := by simp [show 0 < s.length by omega]
      rw [this]; rfl
    have e3 : decide (127 < ((s.getD 0 0).toNat : Int)) = true := by rw [decide_eq_true_eq]; omega
    generalize s.getD 0 0 = c at *
    go_enter Tryz.func127, Tryz.ntmps127
    go_wp2
    go_ret
    exact ⟨ret_int (by rw [unhide HE]), rfl⟩
  have HE := hide (show nmr s = nat s by simp only [nmr]; rw [if_neg (fun h => h.elim q0 (fun h => h.elim q1 q2))])
  have HL := hide (fun k => nat_take_lt s k (by omega) q2)
  have HS := hide (nat_snok s)
  have HF := hide (show (s.length = 8 → (s.getD 0 0).toNat ≤ 127) from fun h => by have := fun q => q2 ⟨h, q⟩; omega)
  generalize nmr s = R at *
  clear q2
  go_enter Tryz.func127, Tryz.ntmps127
  go_upto_region 1 with fail
  go_cut [22] from 5 to 22 (fun v wc => v = .bool false ∧ wc = w)
  case first =>
    by_cases q3 : s.length = 8
    · have e2 : ((s.length : Int) == 8) = true := by rw [beq_iff_eq]; omega
      have hsz : 0 < (ByteArray.mk s.toArray).size := by simp [ByteArray.size]; omega
      have hC : (ByteArray.mk s.toArray)[0]'hsz = s.getD 0 0 := by
        have : s.getD 0 0 = s[0]'(by omega) := by simp [show 0 < s.length by omega]
        rw [this]; rfl
      have e3 : decide (127 < ((s.getD 0 0).toNat : Int)) = false := by rw [decide_eq_false_iff_not]; have := unhide HF q3; omega
      clear HE HL HS HF
      generalize s.getD 0 0 = c at *
      go_wp2
      go_meet
      exact ⟨rfl, rfl⟩
    · have e2 : ((s.length : Int) == 8) = false := by rw [beq_eq_false_iff_ne]; omega
      clear HE HL HS HF
      go_wp2
      go_meet
      exact ⟨rfl, rfl⟩
  case rest =>
  obtain ⟨rfl, hwc⟩ := hcut
  rw [hwc]
  clear hwc
  go_wp2
  go_loopw [3, 4] (fun a i wr => ∃ k : Nat, k ≤ s.length ∧ i = .int .i64 k ∧ a = .int .i64 (nat (s.take k) : Nat) ∧ wr = w) (fun _ i _ => s.length - (Go.RowKit.intOf i).toNat)
  case atStart => exact ⟨0, by omega, rfl, rfl, rfl⟩
  case round =>
    obtain ⟨k, hk, rfl, rfl, rfl⟩ := hrel
    by_cases hlt : k < s.length
    · have hlt' : (k : Int) < (s.length : Int) := by omega
      have h1 := unhide HL k hk
      have h2 := unhide HL (k + 1) hlt
      have h3 := unhide HS k hlt
      rw [h3] at h2
      have H3 := hide h3
      clear h3
      have hc := (s.getD k 0).toNat_lt
      have hsz : k < (ByteArray.mk s.toArray).size := by simpa [ByteArray.size] using hlt
      have hg : (ByteArray.mk s.toArray)[k]'hsz = s.getD k 0 := by
        have : s.getD k 0 = s[k] := by simp [hlt]
        rw [this]
        rfl
      generalize s.getD k 0 = c at *
      generalize nat (s.take k) = n at *
      go_wp2
      refine ⟨⟨k + 1, by omega, by go_num, ?_, trivial⟩, by simp [Go.RowKit.intOf]; omega⟩
      rw [unhide H3]
      exact congrArg (Value.int .i64) (by push_cast; rfl)
    · have hlt' : ¬ (k : Int) < (s.length : Int) := by omega
      obtain rfl : k = s.length := by omega
      rw [List.take_length]
      go_wp2
      go_ret
      exact ⟨ret_int (by rw [unhide HE]), rfl⟩
end Go.Proofs.YtpidmpefodnffaaGreatDoor
namespace Go.Proofs.YtpidmpefodnffaaGreatDoor
open Go.RowKit Go.Lib
theorem ba_app (x y : Bs) : (ByteArray.mk x.toArray ++ ByteArray.mk y.toArray) = ⟨(x ++ y).toArray⟩ := by
  apply ByteArray.ext
  simp [ByteArray.data_append]
set_option maxHeartbeats 8000000 in
set_option maxRecDepth 8000 in
theorem refText_any (a : Option Addr) (n cap : Nat) (l : List Bs) (w : World) (hp : Sts w a n l) (hl : (tx l).length ≤ 140737488355000) (hn : n ≤ 140737488355000) :
    Calls Tryz.prog 65 #[.slice a n cap] w fun e w' => e = .returned (S (tx l)) ∧ w' = w := by
  have HP := hide hp
  have HN := hide hp.1
  clear hp
  go_enter Tryz.func65, Tryz.ntmps65
  go_wp2
  go_loop [3, 4] (fun v i => ∃ k : Nat, k ≤ n ∧ i = .int .i64 k ∧ v = S (tx (l.take k))) (fun _ i => n - (Go.RowKit.intOf i).toNat)
  case atStart => exact ⟨0, by omega, rfl, rfl⟩
  case round =>
    obtain ⟨k, hk, rfl, rfl⟩ := hrel
    have hle := tx_le l k
    by_cases hlt : k < n
    · obtain ⟨p, o, rfl, hpl, hc0⟩ := (unhide HP).at hlt
      have hkl : k < l.length := by have := unhide HN; omega
      have hl2 := tx_le l (k + 1)
      have hlt' : (k : Int) < (n : Int) := by omega
      by_cases h0 : k = 0
      · subst h0
        have HT := hide (tx_first l hkl)
        rw [unhide HT] at hl2
        rw [Nat.add_zero] at hc0
        generalize l.getD 0 [] = x at *
        have e0 : tx (l.take 0) = [] := rfl
        rw [e0]
        go_wp2
        refine ⟨⟨1, by omega, by go_num, ?_⟩, by simp [Go.RowKit.intOf]; omega⟩
        rw [unhide HT]
        exact congrArg Value.string (ba_app [] x)
      · have HT := hide (tx_step l k hkl (by omega))
        rw [unhide HT, List.length_append, List.length_append] at hl2
        simp only [List.length_cons, List.length_nil] at hl2
        generalize l.getD k [] = x at *
        generalize tx (l.take k) = ACC at *
        have h0' : (0 : Int) < (k : Int) := by omega
        go_wp2
        refine ⟨⟨k + 1, by omega, by go_num, ?_⟩, by simp [Go.RowKit.intOf]; omega⟩
        rw [unhide HT]
        refine congrArg Value.string ?_
        rw [show (ByteArray.mk #[32]) = ⟨([32] : Bs).toArray⟩ from rfl, ba_app, ba_app]
    · have hd : ¬ (k : Int) < (n : Int) := by omega
      have e : l.take k = l := List.take_of_length_le (by have := unhide HN; omega)
      rw [e]
      clear e
      go_wp2
      go_ret
      exact ⟨rfl, rfl⟩
end Go.Proofs.YtpidmpefodnffaaGreatDoor
