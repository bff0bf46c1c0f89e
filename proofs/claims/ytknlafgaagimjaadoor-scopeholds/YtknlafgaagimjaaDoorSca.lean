import Derived.Test.YtknlafgaagimjaaDoorProg
import Derived.Test.YtknlafgaagimjaaDoorPsa
import Derived.WalkKit
namespace Go.Proofs.YtknlafgaagimjaaDoor
open Go.RowKit
theorem hide {p : Prop} (h : p) : Hid p := h
theorem unhide {p : Prop} (h : Hid p) : p := h
theorem ret_int {k : IntKind} {a b : Int} (h : a = b) : Ending.returned (.int k a) = .returned (.int k b) := by rw [h]
theorem ret_bool {a b : Bool} (h : a = b) : Ending.returned (.bool a) = .returned (.bool b) := by rw [h]
abbrev S (l : Bs) : Value := .string ⟨l.toArray⟩
set_option maxHeartbeats 2000000 in
theorem isSign_any (c : UInt8) (w : World) : Calls Tryd.prog 47 #[.int .u8 (c.toNat : Int)] w fun e w' => e = .returned (.bool (sg c)) ∧ w' = w := by
  have hc := c.toNat_lt
  unfold sg
  generalize c.toNat = n at *
  go_enter Tryd.func47, Tryd.ntmps47
  go_wp2
  all_goals go_ret
  all_goals refine ⟨ret_bool ?_, rfl⟩
  all_goals (rw [Bool.eq_iff_iff]; simp; try omega)
theorem ba_len (s : Bs) : (ByteArray.mk s.toArray).size = s.length := by simp [ByteArray.size]
theorem ba_get (s : Bs) (j : Nat) (h : j < s.length) : (ByteArray.mk s.toArray)[j]? = some (s.getD j 0) := by
  show (s.toArray)[j]? = _
  simp [h]
theorem all_no (P : UInt8 → Bool) (s : Bs) (k : Nat) (h : k < s.length) (hp : P s[k] = false) : s.all P = false := by
  rw [Bool.eq_false_iff]
  intro q
  rw [List.all_eq_true] at q
  rw [q _ (List.getElem_mem h)] at hp
  cases hp
theorem take_snoc {α : Type} (l : List α) (k : Nat) (h : k < l.length) : l.take (k + 1) = l.take k ++ [l[k]] := List.take_succ_eq_append_getElem h
set_option maxHeartbeats 4000000 in
set_option maxRecDepth 8000 in
theorem isName_any (s : Bs) (w : World) (hs : s.length ≤ 9223372036854775807) : Calls Tryd.prog 26 #[S s] w fun e w' => e = .returned (.bool (nm s)) ∧ w' = w := by
  by_cases h0 : s.length = 0
  · have := List.eq_nil_of_length_eq_zero h0
    subst this
    go_enter Tryd.func26, Tryd.ntmps26
    go_wp2
    go_ret
    exact ⟨ret_bool rfl, rfl⟩
  · have i0 : ((s.length : Int) == 0) = false := by rw [beq_eq_false_iff_ne]; omega
    by_cases h1 : s.length ≤ 16
    · have i1 : decide (16 < (s.length : Int)) = false := by simp; omega
      go_enter Tryd.func26, Tryd.ntmps26
      go_wp2
      go_loop [14] (fun i => ∃ k : Nat, k ≤ s.length ∧ i = .int .i64 k ∧ (s.take k).all sg = true) (fun i => s.length - (Go.RowKit.intOf i).toNat)
      case atStart => exact ⟨0, by omega, rfl, by simp⟩
      case round =>
        obtain ⟨k, hk, rfl, ha⟩ := hrel
        by_cases hlt : k < s.length
        · have hsz : k < (ByteArray.mk s.toArray).size := by simpa [ByteArray.size] using hlt
          have hC : (ByteArray.mk s.toArray)[k]'hsz = s[k] := rfl
          have hA := hide ha
          have hT := hide (take_snoc s k hlt)
          have hE := hide (all_no sg s k hlt)
          have hklt : (k : Int) < (s.length : Int) := by omega
          have HQ := hide (fun W => isSign_any s[k] W)
          clear ha
          generalize s[k] = c at *
          by_cases hp : sg c = true
          · rw [hp] at HQ
            have hR := hide (show (s.take (k + 1)).all sg = true by rw [unhide hT]; simp [unhide hA, hp])
            clear hT hp hE
            go_wp2_with (go_at_call 47; refine (unhide HQ _).mono ?_; rintro e w' ⟨rfl, rfl⟩)
            go_round
            case rel => exact ⟨k + 1, by omega, by go_num, unhide hR⟩
            case measure => simp [Go.RowKit.intOf]; omega
          · have hp' : sg c = false := by simpa using hp
            rw [hp'] at HQ
            have hF := hide (unhide hE hp')
            clear hp hp' hE hT hA
            go_wp2_with (go_at_call 47; refine (unhide HQ _).mono ?_; rintro e w' ⟨rfl, rfl⟩)
            go_ret
            exact ⟨ret_bool (by simp [nm, unhide hF]), rfl⟩
        · have e : s.take k = s := List.take_of_length_le (by omega)
          rw [e] at ha
          have hA := hide ha
          have hklt : ¬ (k : Int) < (s.length : Int) := by omega
          clear ha e
          go_wp2
          go_ret
          exact ⟨ret_bool (by simp [nm, unhide hA, h1]; omega), rfl⟩
    · have i1 : decide (16 < (s.length : Int)) = true := by simp; omega
      go_enter Tryd.func26, Tryd.ntmps26
      go_wp2
      go_ret
      exact ⟨ret_bool (by simp [nm, h1]), rfl⟩
end Go.Proofs.YtknlafgaagimjaaDoor
