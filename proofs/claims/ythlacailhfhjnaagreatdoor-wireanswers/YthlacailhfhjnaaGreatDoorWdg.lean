import Derived.Test.YthlacailhfhjnaaGreatDoorZzap
namespace Go.Proofs.YthlacailhfhjnaaGreatDoor
open Go.RowKit Go.Lib
set_option maxHeartbeats 8000000 in
set_option maxRecDepth 8000 in
theorem plain32_any (s : Bs) (M : Nat) (w : World) (hM2 : M ≤ 1000) (hs : s.length ≤ 9223372036854775807) :
    Calls Tryz.prog 39 #[S s, .int .i64 32, .int .i64 (M : Int)] w fun e w' => (∃ l : Bs, e = .returned (S l) ∧ l.length ≤ M ∧ ∀ c ∈ l, 32 ≤ c.toNat ∧ c.toNat ≤ 126) ∧ Below w.heap.size w w' := by
  go_enter Tryz.func39, Tryz.ntmps39
  go_wp2
  go_loopw [7, 8] (fun v i wr => ∃ (k : Nat) (l : Bs), k ≤ M ∧ k ≤ s.length ∧ i = .int .i64 k ∧ l.length = k ∧ (∀ c ∈ l, 32 ≤ c.toNat ∧ c.toNat ≤ 126) ∧ Own w.heap.size v l w wr) (fun _ i _ => s.length - (Go.RowKit.intOf i).toNat)
  case atStart => exact ⟨0, [], by omega, by omega, rfl, rfl, (fun c h => nomatch h), Own.nil w⟩
  case round =>
    obtain ⟨k, l, hkM, hk, rfl, hl, hc, hown⟩ := hrel
    by_cases hlt : k < s.length ∧ k < M
    · obtain ⟨hlt, hltM⟩ := hlt
      have hsz : k < (ByteArray.mk s.toArray).size := by rw [ba_size]; exact hlt
      have hC : (ByteArray.mk s.toArray)[k]'hsz = s[k] := rfl
      have hclt := s[k].toNat_lt
      generalize s[k] = b at *
      obtain ⟨M1, hM1⟩ : ∃ M1, M1 = b.toNat % 95 := ⟨_, rfl⟩
      have l1 : M1 < 95 := by omega
      have q3 : (b.toNat : Int) % 95 = (M1 : Int) := by omega
      have q1 : Int.tmod (b.toNat : Int) 95 = (M1 : Int) := by rw [Int.tmod_eq_emod_of_nonneg (by omega)]; exact q3
      have wr1 : IntKind.u8.wrap (32 + (M1 : Int)) = 32 + (M1 : Int) := by rw [IntKind.wrap_u8]; omega
      obtain ⟨d, hd⟩ : ∃ d : UInt8, d = UInt8.ofNat (32 + M1) := ⟨_, rfl⟩
      have hdn : d.toNat = 32 + M1 := by rw [hd, UInt8.toNat_ofNat']; omega
      have HD := hide (show 32 + (M1 : Int) = (d.toNat : Int) by omega)
      have HDB := hide (show 32 ≤ d.toNat ∧ d.toNat ≤ 126 by omega)
      have hki : (k : Int) < (s.length : Int) := by omega
      have hkm : (k : Int) < (M : Int) := by omega
      have HO := hide hown
      have HL := hide (And.intro hl hc)
      have hl4 : l.length ≤ 1000 := by omega
      clear hown hl hc hM1 hd hdn
      go_wp2_with (first | (at_builtin; refine push rfl (.tmp 20) (.tmp 31) rfl w.heap.size _ l (by rfl) w _ _ d (by first | exact unhide HD | (rw [← unhide HD]; rfl)) (unhide HO) (by rfl) (by omega) ?_; intro v2 w2 hb2))
      refine ⟨⟨k + 1, l ++ [d], by omega, by omega, by go_num, by rw [List.length_append, (unhide HL).1]; rfl, ?_, hb2⟩, ?_⟩
      · intro c hcm
        rw [List.mem_append, List.mem_singleton] at hcm
        rcases hcm with q | q
        · exact (unhide HL).2 c q
        · rw [q]; exact unhide HDB
      · simp [Go.RowKit.intOf]; omega
    · have HT := hide hown.text
      have HR := hide (And.intro (show l.length ≤ M by omega) (And.intro hc hown.2.1))
      have hd : decide (k < s.length) = false ∨ ((k : Int) < (s.length : Int) ∧ decide (k < M) = false) := by
        by_cases q : k < s.length
        · right; exact ⟨by omega, by simp; omega⟩
        · left; simp; omega
      clear hown hc hl
      rcases hd with hd | ⟨hd0, hd⟩
      · go_wp2_with (first | (refine wpList_conv rfl 102 9 (.tmp 33) rfl _ _ (by rfl) (unhide HT) ?_))
        go_ret
        exact ⟨⟨l, rfl, (unhide HR).1, (unhide HR).2.1⟩, (unhide HR).2.2⟩
      · go_wp2_with (first | (refine wpList_conv rfl 102 9 (.tmp 33) rfl _ _ (by rfl) (unhide HT) ?_))
        go_ret
        exact ⟨⟨l, rfl, (unhide HR).1, (unhide HR).2.1⟩, (unhide HR).2.2⟩
set_option maxHeartbeats 8000000 in
set_option maxRecDepth 8000 in
theorem plain33_any (s : Bs) (M : Nat) (w : World) (hM2 : M ≤ 1000) (hs : s.length ≤ 9223372036854775807) :
    Calls Tryz.prog 39 #[S s, .int .i64 33, .int .i64 (M : Int)] w fun e w' => (∃ l : Bs, e = .returned (S l) ∧ l.length ≤ M ∧ ∀ c ∈ l, 33 ≤ c.toNat ∧ c.toNat ≤ 126) ∧ Below w.heap.size w w' := by
  go_enter Tryz.func39, Tryz.ntmps39
  go_wp2
  go_loopw [7, 8] (fun v i wr => ∃ (k : Nat) (l : Bs), k ≤ M ∧ k ≤ s.length ∧ i = .int .i64 k ∧ l.length = k ∧ (∀ c ∈ l, 33 ≤ c.toNat ∧ c.toNat ≤ 126) ∧ Own w.heap.size v l w wr) (fun _ i _ => s.length - (Go.RowKit.intOf i).toNat)
  case atStart => exact ⟨0, [], by omega, by omega, rfl, rfl, (fun c h => nomatch h), Own.nil w⟩
  case round =>
    obtain ⟨k, l, hkM, hk, rfl, hl, hc, hown⟩ := hrel
    by_cases hlt : k < s.length ∧ k < M
    · obtain ⟨hlt, hltM⟩ := hlt
      have hsz : k < (ByteArray.mk s.toArray).size := by rw [ba_size]; exact hlt
      have hC : (ByteArray.mk s.toArray)[k]'hsz = s[k] := rfl
      have hclt := s[k].toNat_lt
      generalize s[k] = b at *
      obtain ⟨M1, hM1⟩ : ∃ M1, M1 = b.toNat % 94 := ⟨_, rfl⟩
      have l1 : M1 < 94 := by omega
      have q3 : (b.toNat : Int) % 94 = (M1 : Int) := by omega
      have q1 : Int.tmod (b.toNat : Int) 94 = (M1 : Int) := by rw [Int.tmod_eq_emod_of_nonneg (by omega)]; exact q3
      have wr1 : IntKind.u8.wrap (33 + (M1 : Int)) = 33 + (M1 : Int) := by rw [IntKind.wrap_u8]; omega
      obtain ⟨d, hd⟩ : ∃ d : UInt8, d = UInt8.ofNat (33 + M1) := ⟨_, rfl⟩
      have hdn : d.toNat = 33 + M1 := by rw [hd, UInt8.toNat_ofNat']; omega
      have HD := hide (show 33 + (M1 : Int) = (d.toNat : Int) by omega)
      have HDB := hide (show 33 ≤ d.toNat ∧ d.toNat ≤ 126 by omega)
      have hki : (k : Int) < (s.length : Int) := by omega
      have hkm : (k : Int) < (M : Int) := by omega
      have HO := hide hown
      have HL := hide (And.intro hl hc)
      have hl4 : l.length ≤ 1000 := by omega
      clear hown hl hc hM1 hd hdn
      go_wp2_with (first | (at_builtin; refine push rfl (.tmp 20) (.tmp 31) rfl w.heap.size _ l (by rfl) w _ _ d (by first | exact unhide HD | (rw [← unhide HD]; rfl)) (unhide HO) (by rfl) (by omega) ?_; intro v2 w2 hb2))
      refine ⟨⟨k + 1, l ++ [d], by omega, by omega, by go_num, by rw [List.length_append, (unhide HL).1]; rfl, ?_, hb2⟩, ?_⟩
      · intro c hcm
        rw [List.mem_append, List.mem_singleton] at hcm
        rcases hcm with q | q
        · exact (unhide HL).2 c q
        · rw [q]; exact unhide HDB
      · simp [Go.RowKit.intOf]; omega
    · have HT := hide hown.text
      have HR := hide (And.intro (show l.length ≤ M by omega) (And.intro hc hown.2.1))
      have hd : decide (k < s.length) = false ∨ ((k : Int) < (s.length : Int) ∧ decide (k < M) = false) := by
        by_cases q : k < s.length
        · right; exact ⟨by omega, by simp; omega⟩
        · left; simp; omega
      clear hown hc hl
      rcases hd with hd | ⟨hd0, hd⟩
      · go_wp2_with (first | (refine wpList_conv rfl 102 9 (.tmp 33) rfl _ _ (by rfl) (unhide HT) ?_))
        go_ret
        exact ⟨⟨l, rfl, (unhide HR).1, (unhide HR).2.1⟩, (unhide HR).2.2⟩
      · go_wp2_with (first | (refine wpList_conv rfl 102 9 (.tmp 33) rfl _ _ (by rfl) (unhide HT) ?_))
        go_ret
        exact ⟨⟨l, rfl, (unhide HR).1, (unhide HR).2.1⟩, (unhide HR).2.2⟩
end Go.Proofs.YthlacailhfhjnaaGreatDoor
