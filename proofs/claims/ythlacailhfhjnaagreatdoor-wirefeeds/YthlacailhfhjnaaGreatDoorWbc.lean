import Derived.Test.YthlacailhfhjnaaGreatDoorZbase
import Derived.Deep.QuietTactic
import Derived.BigQuiet
namespace Go.Proofs.YthlacailhfhjnaaGreatDoor
open Go.RowKit Go.Lib
theorem alk_len {a b : Bs} (h : a.length ≠ b.length) : alk a b = false := by
  unfold alk
  rw [beq_eq_false_iff_ne]
  intro e
  have := congrArg List.length e
  simp at this
  exact h this
theorem alk_all {a b : Bs} (h : a.length = b.length) (hk : ∀ k (h1 : k < a.length) (h2 : k < b.length), low a[k] = low b[k]) : alk a b = true := by
  unfold alk
  rw [beq_iff_eq]
  apply List.ext_getElem
  · simpa using h
  · intro k h1 h2
    simp only [List.getElem_map]
    exact hk k (by simpa using h1) (by simpa using h2)
theorem alk_no {a b : Bs} (k : Nat) (h1 : k < a.length) (h2 : k < b.length) (h : low a[k] ≠ low b[k]) : alk a b = false := by
  unfold alk
  rw [beq_eq_false_iff_ne]
  intro e
  apply h
  have h3 : (a.map low)[k]? = (b.map low)[k]? := by rw [e]
  simpa [h1, h2] using h3
set_option maxHeartbeats 2000000 in
set_option maxRecDepth 8000 in
theorem alike_any (a b : Bs) (w : World) (ha : a.length ≤ 9223372036854775807) : Calls Tryz.prog 43 #[S a, S b] w fun e w' => e = .returned (.bool (alk a b)) ∧ ∃ n, w' = w.drewN n := by
  by_cases hl : a.length = b.length
  · go_enter Tryz.func43, Tryz.ntmps43
    have HL := hide hl
    have hli : (a.length : Int) = (b.length : Int) := by omega
    go_wp2
    go_loopw [13] (fun i wr => ∃ k : Nat, k ≤ a.length ∧ i = .int .i64 k ∧ (∀ j (h1 : j < a.length) (h2 : j < b.length), j < k → low a[j] = low b[j]) ∧ ∃ n, wr = w.drewN n) (fun i _ => a.length - (Go.RowKit.intOf i).toNat)
    case atStart => exact ⟨0, by omega, rfl, fun j _ _ h => absurd h (Nat.not_lt_zero j), 0, rfl⟩
    case round =>
      obtain ⟨k, hk, rfl, hq, n, rfl⟩ := hrel
      have HQ := hide hq
      clear hq hl
      by_cases hlt : k < a.length
      · have hlt2 : k < b.length := by have := unhide HL; omega
        have hsa : k < (ByteArray.mk a.toArray).size := by simpa [ByteArray.size] using hlt
        have hsb : k < (ByteArray.mk b.toArray).size := by simpa [ByteArray.size] using hlt2
        have hC : (ByteArray.mk a.toArray)[k]'hsa = a[k] := rfl
        have hD : (ByteArray.mk b.toArray)[k]'hsb = b[k] := rfl
        have hki : (k : Int) < (a.length : Int) := by omega
        have hkj : (k : Int) < (b.length : Int) := by omega
        have HN := hide (fun h => alk_no (a := a) (b := b) k hlt hlt2 h)
        have HS := hide (fun (h : low a[k] = low b[k]) (j : Nat) (h1 : j < a.length) (h2 : j < b.length) (h3 : j < k + 1) => (show low a[j] = low b[j] by
          by_cases e : j = k
          · subst e; exact h
          · exact unhide HQ j h1 h2 (by omega)))
        clear HQ
        generalize a[k] = c at *
        generalize b[k] = d at *
        by_cases he : low c = low d
        · have HS2 := hide (unhide HS he)
          clear HS HN
          have hne : ((low c).toNat : Int) = ((low d).toNat : Int) := by rw [he]
          have hneq : (((low c).toNat : Int) != ((low d).toNat : Int)) = false := by rw [bne_eq_false_iff_eq]; exact hne
          go_wp2
          generalize hw1 : w.drewN n = w1
          have HW := hide hw1
          clear hw1
          go_quiet ((go_at_call 73; exact Calls.quiet_of_same (lower_any _ _)))
          go_wp2
          refine ⟨⟨k + 1, by omega, by go_num, unhide HS2, n + nq, by rw [← unhide HW, World.drewN_drewN]⟩, ?_⟩
          simp [Go.RowKit.intOf]; omega
        · have HF := hide (unhide HN he)
          clear HS HN
          have hne : ¬ ((low c).toNat : Int) = ((low d).toNat : Int) := toNat_ne he
          have hneq : (((low c).toNat : Int) != ((low d).toNat : Int)) = true := by rw [bne_iff_ne]; exact hne
          go_wp2
          generalize hw1 : w.drewN n = w1
          have HW := hide hw1
          clear hw1
          go_quiet ((go_at_call 73; exact Calls.quiet_of_same (lower_any _ _)))
          go_wp2
          go_ret
          exact ⟨ret_bool (unhide HF).symm, n + nq, by rw [← unhide HW, World.drewN_drewN]⟩
      · have hd : decide (k < a.length) = false := by simp; omega
        have HA := hide (alk_all (unhide HL) (fun j h1 h2 => unhide HQ j h1 h2 (by omega)))
        clear HQ
        go_wp2
        go_ret
        exact ⟨ret_bool (unhide HA).symm, _, rfl⟩
  · have hli : ¬ (a.length : Int) = (b.length : Int) := by omega
    have HA := hide (alk_len hl)
    clear hl
    go_enter Tryz.func43, Tryz.ntmps43
    go_wp2
    go_ret
    exact ⟨ret_bool (unhide HA).symm, 0, rfl⟩
end Go.Proofs.YthlacailhfhjnaaGreatDoor
