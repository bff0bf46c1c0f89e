import Derived.Test.YthlacailhfhjnaaGreatDoorWgb
namespace Go.Proofs.YthlacailhfhjnaaGreatDoor
open Go.RowKit Go.Lib
def slen : Value → Nat
  | .slice _ n _ => n
  | _ => 0
set_option maxHeartbeats 8000000 in
set_option maxRecDepth 8000 in
theorem letters_any (OF s : Bs) (M : Nat) (w : World) (hOF : 0 < OF.length) (hOF2 : OF.length ≤ 1000) (hM : 1 ≤ M) (hM2 : M ≤ 1000) (hs : s.length ≤ 9223372036854775807) :
    Calls Tryz.prog 38 #[S s, S OF, .int .i64 1, .int .i64 (M : Int)] w fun e w' => (∃ l : Bs, e = .returned (S l) ∧ 1 ≤ l.length ∧ l.length ≤ M ∧ ∀ c ∈ l, c ∈ OF) ∧ Below w.heap.size w w' := by
  have hO0 : 0 < (ByteArray.mk OF.toArray).size := by rw [ba_size]; exact hOF
  have hOC : (ByteArray.mk OF.toArray)[0]'hO0 = OF[0] := rfl
  have hOm := hide (List.getElem_mem hOF)
  have HG := hide (fun (j : Nat) (hj : j < OF.length) => And.intro (List.getElem_mem hj) (show (ByteArray.mk OF.toArray)[j]'(by rw [ba_size]; exact hj) = OF[j] from rfl))
  generalize OF[0] = o0 at *
  have hoi : (0 : Int) < (OF.length : Int) := by omega
  go_enter Tryz.func38, Tryz.ntmps38
  go_wp2
  go_loopw [9, 10] (fun v i wr => ∃ (k : Nat) (l : Bs), k ≤ M ∧ k ≤ s.length ∧ i = .int .i64 k ∧ l.length = k ∧ (∀ c ∈ l, c ∈ OF) ∧ Own w.heap.size v l w wr) (fun _ i _ => s.length - (Go.RowKit.intOf i).toNat)
  case atStart => exact ⟨0, [], by omega, by omega, rfl, rfl, (fun c h => nomatch h), Own.nil w⟩
  case round =>
    obtain ⟨k, l, hkM, hk, rfl, hl, hc, hown⟩ := hrel
    by_cases hlt : k < s.length ∧ k < M
    · obtain ⟨hlt, hltM⟩ := hlt
      have hsz : k < (ByteArray.mk s.toArray).size := by rw [ba_size]; exact hlt
      have hC : (ByteArray.mk s.toArray)[k]'hsz = s[k] := rfl
      have hclt := s[k].toNat_lt
      generalize s[k] = b at *
      obtain ⟨M1, hM1⟩ : ∃ M1, M1 = b.toNat % OF.length := ⟨_, rfl⟩
      have l1 : M1 < OF.length := by rw [hM1]; exact Nat.mod_lt _ hOF
      have q3 : (b.toNat : Int) % (OF.length : Int) = (M1 : Int) := by rw [hM1]; omega
      have q1 : Int.tmod (b.toNat : Int) (OF.length : Int) = (M1 : Int) := by rw [Int.tmod_eq_emod_of_nonneg (by omega)]; exact q3
      have hni : ¬ (OF.length : Int) = 0 := by omega
      have i1 : (M1 : Int) < (OF.length : Int) := by omega
      have hj := unhide HG M1 l1
      have hjs : M1 < (ByteArray.mk OF.toArray).size := by rw [ba_size]; exact l1
      have hD := hj.2
      have hDm := hide hj.1
      generalize OF[M1] = d at *
      have hki : (k : Int) < (s.length : Int) := by omega
      have hkm : (k : Int) < (M : Int) := by omega
      have HO := hide hown
      have HL := hide (And.intro hl hc)
      have hl4 : l.length ≤ 1000 := by omega
      clear hown hl hc hj hM1
      go_wp2_with (first | (at_builtin; refine push rfl (.tmp 22) (.tmp 32) rfl w.heap.size _ l (by rfl) w _ _ d (by rfl) (unhide HO) (by rfl) (by omega) ?_; intro v2 w2 hb2))
      refine ⟨⟨k + 1, l ++ [d], by omega, by omega, by go_num, by rw [List.length_append, (unhide HL).1]; rfl, ?_, hb2⟩, ?_⟩
      · intro c hcm
        rw [List.mem_append, List.mem_singleton] at hcm
        rcases hcm with q | q
        · exact (unhide HL).2 c q
        · rw [q]; exact unhide hDm
      · simp [Go.RowKit.intOf]; omega
    · have HO := hide hown
      have HL := hide (And.intro hl hc)
      have hd : decide (k < s.length) = false ∨ ((k : Int) < (s.length : Int) ∧ decide (k < M) = false) := by
        by_cases q : k < s.length
        · right; exact ⟨by omega, by simp; omega⟩
        · left; simp; omega
      clear hown hc
      rcases hd with hd | ⟨hd0, hd⟩
      · go_wp2
        go_loopw [9] (fun v wr => ∃ (l : Bs), l.length ≤ M ∧ (∀ c ∈ l, c ∈ OF) ∧ Own w.heap.size v l w wr) (fun v _ => 1 - slen v)
        case atStart => exact ⟨l, by rw [(unhide HL).1]; exact hkM, (unhide HL).2, unhide HO⟩
        case round =>
          clear HO HL hd hl hlt
          obtain ⟨l2, hl2, hc2, hown2⟩ := hrel
          obtain ⟨pa, ca, hpa⟩ := hown2.len
          by_cases hz : l2.length < 1
          · have hl0 : l2 = [] := List.eq_nil_of_length_eq_zero (by omega)
            subst hl0
            rw [show ([] : Bs).length = 0 from rfl] at hpa
            subst hpa
            have HO := hide hown2
            clear hown2
            go_wp2_with (first | (at_builtin; refine push rfl (.tmp 38) (.tmp 41) rfl w.heap.size _ [] (by rfl) w _ _ o0 (by rfl) (unhide HO) (by rfl) (by simp) ?_; intro v2 w2 hb2))
            obtain ⟨pb, cb, hpb⟩ := hb2.len
            refine ⟨⟨[] ++ [o0], by simp; omega, ?_, hb2⟩, ?_⟩
            · intro c hcm
              simp at hcm
              rw [hcm]
              exact unhide hOm
            · rw [hpb]
              simp [slen]
          · have hz2 : ¬ (l2.length : Int) < 1 := by omega
            have hz3 : decide (l2.length < 1) = false := decide_eq_false hz
            have HT := hide hown2.text
            subst hpa
            have HR := hide (And.intro (show 1 ≤ l2.length by omega) (And.intro hl2 (And.intro hc2 hown2.2.1)))
            clear hown2 hc2 hz
            go_wp2_with (first | (refine wpList_conv rfl 102 9 (.tmp 43) rfl _ _ (by rfl) (unhide HT) ?_))
            go_ret
            exact ⟨⟨l2, rfl, (unhide HR).1, (unhide HR).2.1, (unhide HR).2.2.1⟩, (unhide HR).2.2.2⟩
      · go_wp2
        go_loopw [9] (fun v wr => ∃ (l : Bs), l.length ≤ M ∧ (∀ c ∈ l, c ∈ OF) ∧ Own w.heap.size v l w wr) (fun v _ => 1 - slen v)
        case atStart => exact ⟨l, by rw [(unhide HL).1]; exact hkM, (unhide HL).2, unhide HO⟩
        case round =>
          clear HO HL hd hl hlt
          obtain ⟨l2, hl2, hc2, hown2⟩ := hrel
          obtain ⟨pa, ca, hpa⟩ := hown2.len
          by_cases hz : l2.length < 1
          · have hl0 : l2 = [] := List.eq_nil_of_length_eq_zero (by omega)
            subst hl0
            rw [show ([] : Bs).length = 0 from rfl] at hpa
            subst hpa
            have HO := hide hown2
            clear hown2
            go_wp2_with (first | (at_builtin; refine push rfl (.tmp 38) (.tmp 41) rfl w.heap.size _ [] (by rfl) w _ _ o0 (by rfl) (unhide HO) (by rfl) (by simp) ?_; intro v2 w2 hb2))
            obtain ⟨pb, cb, hpb⟩ := hb2.len
            refine ⟨⟨[] ++ [o0], by simp; omega, ?_, hb2⟩, ?_⟩
            · intro c hcm
              simp at hcm
              rw [hcm]
              exact unhide hOm
            · rw [hpb]
              simp [slen]
          · have hz2 : ¬ (l2.length : Int) < 1 := by omega
            have hz3 : decide (l2.length < 1) = false := decide_eq_false hz
            have HT := hide hown2.text
            subst hpa
            have HR := hide (And.intro (show 1 ≤ l2.length by omega) (And.intro hl2 (And.intro hc2 hown2.2.1)))
            clear hown2 hc2 hz
            go_wp2_with (first | (refine wpList_conv rfl 102 9 (.tmp 43) rfl _ _ (by rfl) (unhide HT) ?_))
            go_ret
            exact ⟨⟨l2, rfl, (unhide HR).1, (unhide HR).2.1, (unhide HR).2.2.1⟩, (unhide HR).2.2.2⟩
end Go.Proofs.YthlacailhfhjnaaGreatDoor
