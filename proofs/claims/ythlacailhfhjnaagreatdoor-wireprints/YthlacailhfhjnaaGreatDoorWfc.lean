import Derived.Test.YthlacailhfhjnaaGreatDoorWfb
import Derived.Test.YthlacailhfhjnaaGreatDoorWdi
namespace Go.Proofs.YthlacailhfhjnaaGreatDoor
open Go.RowKit Go.Lib
set_option maxHeartbeats 8000000 in
set_option maxRecDepth 8000 in
theorem small_wide (s : Bs) (w : World) (hs : s.length ≤ 140737488351232) : Calls Tryz.prog 45 #[S s] w fun e w' => e = .returned (S (s.map low)) ∧ Below w.heap.size w w' := by
  go_enter Tryz.func45, Tryz.ntmps45
  go_wp2_with (refine wpList_bytesF rfl (.tmp 5) rfl s (by rfl) ?_; intro w1 cap1 hb1 hf1 hbe1)
  have H0 := hide (show Smb w.heap.size s 0 w w1 from ⟨fun j hj => by rw [sml_at s 0 j hj, if_neg (by omega)]; have := hb1.cell j hj; rwa [Nat.zero_add] at this, hf1, hb1.lt, hbe1⟩)
  have hcap := hb1.cap
  clear hb1 hf1 hbe1
  go_loopw [4] (fun i wr => ∃ k : Nat, k ≤ s.length ∧ i = .int .i64 k ∧ Smb w.heap.size s k w wr) (fun i _ => s.length - (Go.RowKit.intOf i).toNat)
  case atStart => exact ⟨0, by omega, rfl, unhide H0⟩
  case round =>
    obtain ⟨k, hk, rfl, hi⟩ := hrel
    clear H0
    by_cases hlt : k < s.length
    · have hc := hi.cell k hlt
      rw [sml_at s k k hlt, if_neg (by omega)] at hc
      have hf := hi.fz k hlt
      have hl := hi.lt
      have hki : (k : Int) < (s.length : Int) := by omega
      by_cases hu : up (s.getD k 0) = true
      · have hu2 : 65 ≤ (s.getD k 0).toNat ∧ (s.getD k 0).toNat ≤ 90 := by unfold up at hu; simpa using hu
        have hlow : (low (s.getD k 0)).toNat = (s.getD k 0).toNat + 32 := by
          unfold low
          rw [if_pos hu, UInt8.toNat_add]
          show ((s.getD k 0).toNat + 32) % 256 = _
          omega
        have HS := hide (hi.set hlt (Nat.le_refl _))
        rw [hlow] at HS
        generalize (s.getD k 0).toNat = n at *
        have i1 : (65 : Int) ≤ (n : Int) := by omega
        have i2 : (n : Int) ≤ 90 := by omega
        have i3 : (n : Int) + 32 ≤ 255 := by omega
        clear hi hu hlow
        go_wp2
        refine ⟨⟨k + 1, by omega, by go_num, ?_⟩, ?_⟩
        · have := unhide HS
          simpa using this
        · simp [Go.RowKit.intOf]; omega
      · have hu' : up (s.getD k 0) = false := by simpa using hu
        have HS := hide (hi.same hlt hu')
        have hu2 : ¬ (65 ≤ (s.getD k 0).toNat ∧ (s.getD k 0).toNat ≤ 90) := by unfold up at hu'; simpa using hu'
        generalize (s.getD k 0).toNat = n at *
        clear hi hu hu'
        by_cases h1 : 65 ≤ n
        · have i1 : (65 : Int) ≤ (n : Int) := by omega
          have i2 : ¬ (n : Int) ≤ 90 := by omega
          have i3 : decide ((n : Int) ≤ 90) = false := by simpa using i2
          go_wp2
          refine ⟨⟨k + 1, by omega, by go_num, unhide HS⟩, ?_⟩
          simp [Go.RowKit.intOf]; omega
        · have i1 : ¬ (65 : Int) ≤ (n : Int) := by omega
          have i3 : decide ((65 : Int) ≤ (n : Int)) = false := by simpa using i1
          go_wp2
          refine ⟨⟨k + 1, by omega, by go_num, unhide HS⟩, ?_⟩
          simp [Go.RowKit.intOf]; omega
    · have hd : decide (k < s.length) = false := by simp; omega
      have hke : k = s.length := by omega
      have HT : Hid ((convert 102 9 (.slice (some ⟨w.heap.size, 0, none⟩) s.length cap1)).run Tryz.prog wr = .ok (S (s.map low)) wr) := hide (by
        refine run_text wr w.heap.size 0 s.length cap1 (s.map low) (by simp) ?_
        intro j hj
        rw [Nat.zero_add, hi.cell j hj, sml_at s k j hj, if_pos (by omega)]
        simp [hj])
      have HB := hide hi.bel
      clear hi hke
      go_wp2_with (first | (refine wpList_conv rfl 102 9 (.tmp 33) rfl _ _ (by rfl) (unhide HT) ?_))
      go_ret
      exact ⟨rfl, unhide HB⟩
set_option maxHeartbeats 8000000 in
set_option maxRecDepth 8000 in
theorem rValue_any (s : Bs) (w : World) (hs : s.length ≤ 9223372036854775806) : Calls Tryz.prog 102 #[S s] w fun e w' => e = .returned (.bool (hvl s)) ∧ w' = w := by
  have HW := hide (within_any s 32 126 w hs)
  rw [wth_shn] at HW
  have HM : Hid (hvl s = (s.all shn && !(s.head? == some 32) && !(s.getLast? == some 32))) := hide rfl
  generalize s.all shn = A at *
  generalize hvl s = M at *
  go_enter Tryz.func102, Tryz.ntmps102
  go_wp2_with fail
  refine (unhide HW).mono ?_
  rintro e w1 ⟨rfl, hw⟩
  rw [hw]
  clear hw HW w1
  cases A
  · go_wp2
    go_ret
    exact ⟨ret_bool (by rw [unhide HM]; simp), rfl⟩
  · by_cases h1 : s = []
    · subst h1
      go_wp2
      go_ret
      exact ⟨ret_bool (by rw [unhide HM]; rfl), rfl⟩
    · have hl : 0 < s.length := List.length_pos_iff.2 h1
      have hl' : (0 : Int) < (s.length : Int) := by omega
      have hl2 : (1 : Int) ≤ (s.length : Int) := by omega
      have hsz : 0 < (ByteArray.mk s.toArray).size := by simp [ByteArray.size]; omega
      have hC : (ByteArray.mk s.toArray)[0]'hsz = s[0] := rfl
      have hsz2 : s.length - 1 < (ByteArray.mk s.toArray).size := by simp [ByteArray.size]; omega
      have hC2 : (ByteArray.mk s.toArray)[s.length - 1]'hsz2 = s[s.length - 1] := rfl
      rw [head_at s hl, last_at s hl] at HM
      have hne : (s == []) = false := by simpa using h1
      generalize s[0] = c at *
      generalize s[s.length - 1]'(by omega) = d at *
      have q : ∀ c : UInt8, ((c.toNat : Int) == 32) = (some c == some 32) := all_u8 (by decide +kernel)
      have q1 := q c
      have q2 := q d
      clear q
      generalize (some c == some 32) = P1 at *
      generalize (some d == some 32) = P2 at *
      by_cases p1 : (c.toNat : Int) = 32
      · have e1 : P1 = true := by rw [← q1]; simpa using p1
        subst e1
        clear q1 q2
        go_wp2
        go_ret
        exact ⟨ret_bool (by rw [unhide HM]; rfl), rfl⟩
      · have e1 : P1 = false := by rw [← q1]; simpa using p1
        subst e1
        have HQ := hide q2
        clear q1 q2
        have hll : (s.length : Int) - 1 < (s.length : Int) := by omega
        go_wp2
        go_ret
        exact ⟨ret_bool (by rw [unhide HM, ← unhide HQ]; simp [bne, p1]), rfl⟩
theorem hdr_eq (n v : Bs) : hdr (n, v) = (hnm n && hvl v && decide (n.length + 2 + v.length ≤ 1000) && !(n.map low == [99, 111, 110, 116, 101, 110, 116, 45, 108, 101, 110, 103, 116, 104]) && !(n.map low == [116, 114, 97, 110, 115, 102, 101, 114, 45, 101, 110, 99, 111, 100, 105, 110, 103])) := by
  unfold hdr
  rw [alk_cl, alk_te]
  generalize (n.map low == [99, 111, 110, 116, 101, 110, 116, 45, 108, 101, 110, 103, 116, 104]) = A
  generalize (n.map low == [116, 114, 97, 110, 115, 102, 101, 114, 45, 101, 110, 99, 111, 100, 105, 110, 103]) = B
  generalize hnm n = C
  generalize hvl v = D
  show (decide (n.length + 2 + v.length ≤ 1000) && C && D && !A && !B) = _
  generalize decide (n.length + 2 + v.length ≤ 1000) = E
  cases A <;> cases B <;> cases C <;> cases D <;> cases E <;> rfl
set_option maxHeartbeats 8000000 in
set_option maxRecDepth 8000 in
theorem rHeader_any (f : Fl) (w : World) (h1 : f.1.length ≤ 140737488351232) (h2 : f.2.length ≤ 140737488351232) : Calls Tryz.prog 85 #[.agg #[S f.1, S f.2]] w fun e w' => e = .returned (.bool (hdr f)) ∧ Below w.heap.size w w' := by
  obtain ⟨n, v⟩ := f
  simp only at h1 h2 ⊢
  have b0 := (Below.refl w.heap.size w).alloc (Nat.le_refl _) (.cells #[S n, S v] 35)
  have x0 := heap_alloc_new w (.cells #[S n, S v] 35)
  have H1 := hide (rName_any n (w.alloc (.cells #[S n, S v] 35)) (by omega))
  have H2 := hide (rValue_any v (w.alloc (.cells #[S n, S v] 35)) (by omega))
  have H3 := hide (small_wide n (w.alloc (.cells #[S n, S v] 35)) (by omega))
  have HX := hide (hdr_eq n v)
  generalize hdr (n, v) = X at *
  generalize hnm n = A at *
  generalize hvl v = B1 at *
  generalize n.map low = L at *
  have X0 := hide (And.intro b0 x0)
  clear b0 x0
  go_enter Tryz.func85, Tryz.ntmps85
  go_wp2_with fail
  refine (unhide H1).mono ?_
  rintro e w1 ⟨rfl, hw⟩
  rw [hw]
  clear hw w1 H1
  go_wp2_with fail
  refine (unhide H2).mono ?_
  rintro e w1 ⟨rfl, hw⟩
  rw [hw]
  clear hw w1 H2
  go_wp2_with fail
  refine (unhide H3).mono ?_
  rintro e w1 ⟨rfl, b1⟩
  have x1 := (b1.block _ (lt_of_row (unhide X0).2)).trans (unhide X0).2
  have HB := hide ((unhide X0).1.trans (b1.mono (unhide X0).1.size))
  have d0 : w1.cell? ⟨w.heap.size, 0, none⟩ = some (S n) := cell_of_row w1 _ 0 _ 35 (0, 0) x1
  have d1 : w1.cell? ⟨w.heap.size, 1, none⟩ = some (S v) := cell_of_row w1 _ 1 _ 35 (0, 0) x1
  clear b1 x1 X0 H3
  cases A
  · go_wp2
    go_ret
    exact ⟨ret_bool (by rw [unhide HX]; rfl), unhide HB⟩
  cases B1
  · go_wp2
    go_ret
    exact ⟨ret_bool (by rw [unhide HX]; rfl), unhide HB⟩
  by_cases hl : n.length + 2 + v.length ≤ 1000
  · have il : (n.length : Int) + 2 + (v.length : Int) ≤ 1000 := by omega
    rw [decide_eq_true hl] at HX
    by_cases hA : (L == [99, 111, 110, 116, 101, 110, 116, 45, 108, 101, 110, 103, 116, 104]) = true
    · rw [hA] at HX
      go_wp2
      go_ret
      exact ⟨ret_bool (by rw [unhide HX]; rfl), unhide HB⟩
    · have hA' : (L == [99, 111, 110, 116, 101, 110, 116, 45, 108, 101, 110, 103, 116, 104]) = false := by simpa using hA
      rw [hA'] at HX
      by_cases hC : (L == [116, 114, 97, 110, 115, 102, 101, 114, 45, 101, 110, 99, 111, 100, 105, 110, 103]) = true
      · rw [hC] at HX
        go_wp2
        go_ret
        exact ⟨ret_bool (by rw [unhide HX]; rfl), unhide HB⟩
      · have hC' : (L == [116, 114, 97, 110, 115, 102, 101, 114, 45, 101, 110, 99, 111, 100, 105, 110, 103]) = false := by simpa using hC
        rw [hC'] at HX
        go_wp2
        go_ret
        exact ⟨ret_bool (by rw [unhide HX]; rfl), unhide HB⟩
  · have il : ¬ (n.length : Int) + 2 + (v.length : Int) ≤ 1000 := by omega
    rw [decide_eq_false hl] at HX
    go_wp2
    go_ret
    exact ⟨ret_bool (by rw [unhide HX]; rfl), unhide HB⟩
end Go.Proofs.YthlacailhfhjnaaGreatDoor
