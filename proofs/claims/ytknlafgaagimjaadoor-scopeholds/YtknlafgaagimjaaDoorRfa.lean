import Derived.Test.YtknlafgaagimjaaDoorScd
namespace Go.Proofs.YtknlafgaagimjaaDoor
open Go.RowKit Go.Lib
theorem sg_iff (c : UInt8) : sg c = true ↔ (97 ≤ c.toNat ∧ c.toNat ≤ 122) ∨ (48 ≤ c.toNat ∧ c.toNat ≤ 57) ∨ c.toNat = 45 ∨ c.toNat = 95 ∨ c.toNat = 46 := by
  unfold sg
  simp only [Bool.or_eq_true, Bool.and_eq_true, decide_eq_true_eq, beq_iff_eq, or_assoc]
set_option maxHeartbeats 8000000 in
set_option maxRecDepth 8000 in
theorem refName_any (s : Bs) (w : World) (hs : s.length ≤ 9223372036854775806) : Calls Tryd.prog 30 #[S s] w fun e w' => e = .returned (.bool (nm s)) ∧ w' = w := by
  go_enter Tryd.func30, Tryd.ntmps30
  go_wp2
  go_loop [3] (fun i => ∃ k : Nat, k ≤ s.length ∧ i = .int .i64 k ∧ (s.take k).all sg = true) (fun i => s.length - (Go.RowKit.intOf i).toNat)
  case atStart => exact ⟨0, by omega, rfl, by simp⟩
  case round =>
    obtain ⟨k, hk, rfl, ha⟩ := hrel
    by_cases hlt : k < s.length
    · have hsz : k < (ByteArray.mk s.toArray).size := by simpa [ByteArray.size] using hlt
      have hC : (ByteArray.mk s.toArray)[k]'hsz = s[k] := rfl
      have hA := hide ha
      have hT := hide (take_snoc s k hlt)
      have hE := hide (all_no sg s k hlt)
      have hklt : (k : Int) < (s.length : Int) := by omega
      clear ha
      generalize s[k] = c at *
      have hI := hide (sg_iff c)
      by_cases q0 : 97 ≤ c.toNat ∧ c.toNat ≤ 122
      ·
        have hp := (unhide hI).2 (by omega)
        have hR := hide (show (s.take (k + 1)).all sg = true by rw [unhide hT]; simp [unhide hA, hp])
        have f0 : decide (97 ≤ (c.toNat : Int)) = true := by rw [decide_eq_true_eq]; omega
        have f1 : decide ((c.toNat : Int) ≤ 122) = true := by rw [decide_eq_true_eq]; omega
        have f2 : decide (48 ≤ (c.toNat : Int)) = true := by rw [decide_eq_true_eq]; omega
        have f3 : decide ((c.toNat : Int) ≤ 57) = false := by rw [decide_eq_false_iff_not]; omega
        clear hp hE hT hA hI q0
        go_wp2
        refine ⟨⟨k + 1, by omega, by go_num, unhide hR⟩, ?_⟩
        simp [Go.RowKit.intOf]; omega
      by_cases q1 : 48 ≤ c.toNat ∧ c.toNat ≤ 57
      ·
        have hp := (unhide hI).2 (by omega)
        have hR := hide (show (s.take (k + 1)).all sg = true by rw [unhide hT]; simp [unhide hA, hp])
        have f0 : decide (97 ≤ (c.toNat : Int)) = false := by rw [decide_eq_false_iff_not]; omega
        have f1 : decide (48 ≤ (c.toNat : Int)) = true := by rw [decide_eq_true_eq]; omega
        have f2 : decide ((c.toNat : Int) ≤ 57) = true := by rw [decide_eq_true_eq]; omega
        clear hp hE hT hA hI q0 q1
        go_wp2
        refine ⟨⟨k + 1, by omega, by go_num, unhide hR⟩, ?_⟩
        simp [Go.RowKit.intOf]; omega
      by_cases q2 : c.toNat = 45
      ·
        have hp := (unhide hI).2 (by omega)
        have hR := hide (show (s.take (k + 1)).all sg = true by rw [unhide hT]; simp [unhide hA, hp])
        have f0 : decide (97 ≤ (c.toNat : Int)) = false := by rw [decide_eq_false_iff_not]; omega
        have f1 : decide (48 ≤ (c.toNat : Int)) = false := by rw [decide_eq_false_iff_not]; omega
        have f2 : ((c.toNat : Int) != 45) = false := by rw [bne_eq_false_iff_eq]; omega
        clear hp hE hT hA hI q0 q1 q2
        go_wp2
        refine ⟨⟨k + 1, by omega, by go_num, unhide hR⟩, ?_⟩
        simp [Go.RowKit.intOf]; omega
      by_cases q3 : c.toNat = 95
      ·
        have hp := (unhide hI).2 (by omega)
        have hR := hide (show (s.take (k + 1)).all sg = true by rw [unhide hT]; simp [unhide hA, hp])
        have f0 : decide (97 ≤ (c.toNat : Int)) = false := by rw [decide_eq_false_iff_not]; omega
        have f1 : decide (48 ≤ (c.toNat : Int)) = true := by rw [decide_eq_true_eq]; omega
        have f2 : decide ((c.toNat : Int) ≤ 57) = false := by rw [decide_eq_false_iff_not]; omega
        have f3 : ((c.toNat : Int) != 45) = true := by rw [bne_iff_ne]; omega
        have f4 : ((c.toNat : Int) != 95) = false := by rw [bne_eq_false_iff_eq]; omega
        clear hp hE hT hA hI q0 q1 q2 q3
        go_wp2
        refine ⟨⟨k + 1, by omega, by go_num, unhide hR⟩, ?_⟩
        simp [Go.RowKit.intOf]; omega
      by_cases q4 : c.toNat = 46
      ·
        have hp := (unhide hI).2 (by omega)
        have hR := hide (show (s.take (k + 1)).all sg = true by rw [unhide hT]; simp [unhide hA, hp])
        have f0 : decide (97 ≤ (c.toNat : Int)) = false := by rw [decide_eq_false_iff_not]; omega
        have f1 : decide (48 ≤ (c.toNat : Int)) = false := by rw [decide_eq_false_iff_not]; omega
        have f2 : ((c.toNat : Int) != 45) = true := by rw [bne_iff_ne]; omega
        have f3 : ((c.toNat : Int) != 95) = true := by rw [bne_iff_ne]; omega
        have f4 : ((c.toNat : Int) != 46) = false := by rw [bne_eq_false_iff_eq]; omega
        clear hp hE hT hA hI q0 q1 q2 q3 q4
        go_wp2
        refine ⟨⟨k + 1, by omega, by go_num, unhide hR⟩, ?_⟩
        simp [Go.RowKit.intOf]; omega
      by_cases q5 : 97 ≤ c.toNat
      ·
        have hp : sg c = false := by rw [Bool.eq_false_iff]; intro h; have := (unhide hI).1 h; omega
        have hF := hide (unhide hE hp)
        have f0 : decide (97 ≤ (c.toNat : Int)) = true := by rw [decide_eq_true_eq]; omega
        have f1 : decide ((c.toNat : Int) ≤ 122) = false := by rw [decide_eq_false_iff_not]; omega
        have f2 : decide (48 ≤ (c.toNat : Int)) = true := by rw [decide_eq_true_eq]; omega
        have f3 : decide ((c.toNat : Int) ≤ 57) = false := by rw [decide_eq_false_iff_not]; omega
        have f4 : ((c.toNat : Int) != 45) = true := by rw [bne_iff_ne]; omega
        have f5 : ((c.toNat : Int) != 95) = true := by rw [bne_iff_ne]; omega
        have f6 : ((c.toNat : Int) != 46) = true := by rw [bne_iff_ne]; omega
        clear hp hE hT hA hI q0 q1 q2 q3 q4 q5
        go_wp2
        go_ret
        exact ⟨ret_bool (by simp [nm, unhide hF]), rfl⟩
      by_cases q6 : 48 ≤ c.toNat
      ·
        have hp : sg c = false := by rw [Bool.eq_false_iff]; intro h; have := (unhide hI).1 h; omega
        have hF := hide (unhide hE hp)
        have f0 : decide (97 ≤ (c.toNat : Int)) = false := by rw [decide_eq_false_iff_not]; omega
        have f1 : decide (48 ≤ (c.toNat : Int)) = true := by rw [decide_eq_true_eq]; omega
        have f2 : decide ((c.toNat : Int) ≤ 57) = false := by rw [decide_eq_false_iff_not]; omega
        have f3 : ((c.toNat : Int) != 45) = true := by rw [bne_iff_ne]; omega
        have f4 : ((c.toNat : Int) != 95) = true := by rw [bne_iff_ne]; omega
        have f5 : ((c.toNat : Int) != 46) = true := by rw [bne_iff_ne]; omega
        clear hp hE hT hA hI q0 q1 q2 q3 q4 q5 q6
        go_wp2
        go_ret
        exact ⟨ret_bool (by simp [nm, unhide hF]), rfl⟩
      ·
        have hp : sg c = false := by rw [Bool.eq_false_iff]; intro h; have := (unhide hI).1 h; omega
        have hF := hide (unhide hE hp)
        have f0 : decide (97 ≤ (c.toNat : Int)) = false := by rw [decide_eq_false_iff_not]; omega
        have f1 : decide (48 ≤ (c.toNat : Int)) = false := by rw [decide_eq_false_iff_not]; omega
        have f2 : ((c.toNat : Int) != 45) = true := by rw [bne_iff_ne]; omega
        have f3 : ((c.toNat : Int) != 95) = true := by rw [bne_iff_ne]; omega
        have f4 : ((c.toNat : Int) != 46) = true := by rw [bne_iff_ne]; omega
        clear hp hE hT hA hI q0 q1 q2 q3 q4 q5 q6
        go_wp2
        go_ret
        exact ⟨ret_bool (by simp [nm, unhide hF]), rfl⟩
    · have e : s.take k = s := List.take_of_length_le (by omega)
      rw [e] at ha
      have hA := hide ha
      have hklt : ¬ (k : Int) < (s.length : Int) := by omega
      clear ha e
      by_cases hz : s.length = 0
      · have hz' : decide (1 ≤ (s.length : Int)) = false := by rw [decide_eq_false_iff_not]; omega
        go_wp2
        go_ret
        refine ⟨ret_bool ?_, rfl⟩
        simp [nm, hz]
      · have hz' : decide (1 ≤ (s.length : Int)) = true := by rw [decide_eq_true_eq]; omega
        go_wp2
        go_ret
        refine ⟨ret_bool ?_, rfl⟩
        rw [Bool.eq_iff_iff]
        simp [nm, unhide hA]
        omega
/-! ### The text, and what fits -/
theorem ba_app (x y : Bs) : (ByteArray.mk x.toArray ++ ByteArray.mk y.toArray) = ⟨(x ++ y).toArray⟩ := by
  apply ByteArray.ext
  simp [ByteArray.data_append]
set_option maxHeartbeats 8000000 in
set_option maxRecDepth 8000 in
theorem refText_any (a : Option Addr) (n cap : Nat) (l : List Bs) (w : World) (hp : Sts w a n l) (hl : (tx l).length ≤ 140737488355000) (hn : n ≤ 140737488355000) :
    Calls Tryd.prog 50 #[.slice a n cap] w fun e w' => e = .returned (S (tx l)) ∧ w' = w := by
  have HP := hide hp
  have HN := hide hp.1
  clear hp
  go_enter Tryd.func50, Tryd.ntmps50
  go_wp2
  go_loop [3, 4] (fun v i => ∃ k : Nat, k ≤ n ∧ i = .int .i64 k ∧ v = S (tx (l.take k))) (fun _ i => n - (Go.RowKit.intOf i).toNat)
  case atStart => exact ⟨0, by omega, rfl, rfl⟩
  case round =>
    obtain ⟨k, hk, rfl, rfl⟩ := hrel
    have hle := tx_le l k
    by_cases hlt : k < n
    · obtain ⟨p, o, rfl, hpl, hc0⟩ := (unhide HP).at hlt
      have hkl : k < l.length := by have := unhide HN; omega
      have hl2 := tx_le l (k + 1)
      have hlt' : (k : Int) < (n : Int) := by omega
      by_cases h0 : k = 0
      · subst h0
        have HT := hide (tx_first l hkl)
        rw [unhide HT] at hl2
        rw [Nat.add_zero] at hc0
        generalize l.getD 0 [] = x at *
        have e0 : tx (l.take 0) = [] := rfl
        rw [e0]
        go_wp2
        refine ⟨⟨1, by omega, by go_num, ?_⟩, by simp [Go.RowKit.intOf]; omega⟩
        rw [unhide HT]
        exact congrArg Value.string (ba_app [] x)
      · have HT := hide (tx_step l k hkl (by omega))
        rw [unhide HT, List.length_append, List.length_append] at hl2
        simp only [List.length_cons, List.length_nil] at hl2
        generalize l.getD k [] = x at *
        generalize tx (l.take k) = ACC at *
        have h0' : (0 : Int) < (k : Int) := by omega
        go_wp2
        refine ⟨⟨k + 1, by omega, by go_num, ?_⟩, by simp [Go.RowKit.intOf]; omega⟩
        rw [unhide HT]
        refine congrArg Value.string ?_
        rw [show (ByteArray.mk #[32]) = ⟨([32] : Bs).toArray⟩ from rfl, ba_app, ba_app]
    · have hd : ¬ (k : Int) < (n : Int) := by omega
      have e : l.take k = l := List.take_of_length_le (by have := unhide HN; omega)
      rw [e]
      clear e
      go_wp2
      go_ret
      exact ⟨rfl, rfl⟩
set_option maxHeartbeats 4000000 in
theorem fits_any (a : Option Addr) (n cap : Nat) (l : List Bs) (w : World) (hp : Sts w a n l) (hn : n ≤ 140737488355000) (hl : n ≤ 8 → (tx l).length ≤ 140737488355000) :
    Calls Tryd.prog 32 #[.slice a n cap] w fun e w' => e = .returned (.bool (!many l)) ∧ w' = w := by
  have hnl := hp.1
  by_cases h8 : n ≤ 8
  · have HT := hide (refText_any a n cap l w hp (hl h8) hn)
    have i8 : decide (8 < (n : Int)) = false := by simp; omega
    have hm : (!many l) = decide ((tx l).length ≤ 60) := by
      unfold many
      rw [show decide (8 < l.length) = false by simp; omega, Bool.false_or, Bool.eq_iff_iff]
      simp
    rw [hm]
    clear hm hp hl hnl
    generalize tx l = t at *
    go_enter Tryd.func32, Tryd.ntmps32
    go_wp2_with (first | (go_at_call 50; refine (unhide HT).mono ?_; rintro e w2 ⟨rfl, rfl⟩))
    go_ret
    refine ⟨ret_bool ?_, rfl⟩
    rw [Bool.eq_iff_iff]
    simp
    omega
  · have hm : (!many l) = false := by
      unfold many
      rw [show decide (8 < l.length) = true by simp; omega]
      rfl
    rw [hm]
    have i8 : decide (8 < (n : Int)) = true := by simp; omega
    clear hm hp hl hnl
    go_enter Tryd.func32, Tryd.ntmps32
    go_wp2
    go_ret
    exact ⟨rfl, rfl⟩
end Go.Proofs.YtknlafgaagimjaaDoor
