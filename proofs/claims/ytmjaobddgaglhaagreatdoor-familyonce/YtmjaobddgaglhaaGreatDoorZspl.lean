import Derived.Test.YtmjaobddgaglhaaGreatDoorZdsa
import Derived.Test.YtmjaobddgaglhaaGreatDoorSix
import Derived.Lib.Bytealg
import Derived.Deep.RegionLaw
namespace Go.Proofs.YtmjaobddgaglhaaGreatDoor
open Go.RowKit Go.Lib
/-- Values as signs. -/
def sgn (A : List UInt8) (v : List Nat) : List UInt8 := v.map fun i => A.getD i 0
theorem sgn_app (A : List UInt8) (v : List Nat) (i : Nat) : sgn A (v ++ [i]) = sgn A v ++ [A.getD i 0] := by simp [sgn]
theorem sgn_len (A : List UInt8) (v : List Nat) : (sgn A v).length = v.length := by simp [sgn]
theorem tell_len (l : List UInt8) : ∀ T : Six.St, (l.foldl Six.tell T).out.length ≤ T.out.length + 2 * l.length := by
  induction l with
  | nil => intro T; simp
  | cons b l ih =>
    intro T
    have h1 := ih (Six.tell T b)
    have h2 : (Six.tell T b).out.length ≤ T.out.length + 2 := by
      unfold Six.tell
      simp only
      split <;> simp
    simp only [List.foldl_cons, List.length_cons]
    omega
theorem told_out (s : List UInt8) : (Six.told s).out.length ≤ 2 * s.length := by
  have := tell_len s ⟨[], 0, 0⟩
  simpa [Six.told] using this
theorem or8 (n : Nat) (c : UInt8) (h : n < 35184372088832) : bits .or .i64 ((n : Int) * 256) (c.toNat : Int) = ((n * 256 + c.toNat : Nat) : Int) := by
  have hc := c.toNat_lt
  exact or_add 8 n c.toNat (by omega) (by omega)
theorem idx_eq (A : List UInt8) (i : Nat) (h : i < (ByteArray.mk A.toArray).size) : (((ByteArray.mk A.toArray)[i]'h).toNat : Int) = ((A.getD i 0).toNat : Int) := by
  have hl : i < A.length := by simpa [ByteArray.size] using h
  have e : (ByteArray.mk A.toArray)[i]'h = A[i] := rfl
  rw [e]
  simp [hl]
theorem and3 (n : Nat) (h : n < 9223372036854775808) : bits .and .i64 (n : Int) 3 = ((n % 4 : Nat) : Int) := and_mod 2 n (by omega) h
theorem and15 (n : Nat) (h : n < 9223372036854775808) : bits .and .i64 (n : Int) 15 = ((n % 16 : Nat) : Int) := and_mod 4 n (by omega) h
theorem and63 (n : Nat) (h : n < 9223372036854775808) : bits .and .i64 (n : Int) 63 = ((n % 64 : Nat) : Int) := and_mod 6 n (by omega) h
theorem and0 (n : Nat) (h : n < 9223372036854775808) : bits .and .i64 (n : Int) 0 = 0 := by
  have := and_mod 0 n (by omega) h
  simpa [Nat.mod_one] using this
set_option maxHeartbeats 2000000 in
theorem spell6_any (s A : List UInt8) (w : World) (hs : s.length ≤ 17592186044416) (hA : A.length = 64) :
    Calls Tryz.prog 129 #[.string ⟨s.toArray⟩, .string ⟨A.toArray⟩, .int .i64 6] w fun e w' => e = .returned (.string ⟨(sgn A (Six.sig s)).toArray⟩) ∧ Below w.heap.size w w' := by
  go_enter Tryz.func129, Tryz.ntmps129
  go_wp2_with (refine makeBuf rfl (.const (.int .i64 0)) (.tmp 18) rfl _ ((8 * s.length + 5) / 6) (by rfl) (by rfl) (by omega) (by omega) ?_; intro w1 v1 hb1)
  go_loopw [7, 8, 9, 22] (fun v b h i wr => ∃ k : Nat, k ≤ s.length ∧ i = .int .i64 k ∧ b = .int .i64 (Six.told (s.take k)).bits ∧ h = .int .i64 (Six.told (s.take k)).have_ ∧ Own w.heap.size v (sgn A (Six.told (s.take k)).out) w wr) (fun _ _ _ i _ => s.length - (intOf i).toNat)
  case atStart => exact ⟨0, by omega, rfl, rfl, rfl, hb1⟩
  case round =>
    clear hb1
    obtain ⟨k, hk, rfl, rfl, rfl, hb⟩ := hrel
    have hfit := Six.fit_told (s.take k)
    by_cases hlt : k < s.length
    · have hnx := hide (show Six.told (s.take (k + 1)) = Six.tell (Six.told (s.take k)) s[k] by rw [take_snoc s k hlt, Six.told_snoc])
      have hol := told_out (s.take k)
      have hol2 : (Six.told (s.take k)).out.length ≤ 2 * s.length := by simp at hol; omega
      clear hol
      generalize Six.told (s.take k) = T at *
      obtain ⟨O, n, hv⟩ := T
      simp only at hb hol2
      have HB := hide hb
      have HF := hide hfit
      have hn : n < 16 := by rcases hfit with ⟨h1, h2⟩ | ⟨h1, h2⟩ | ⟨h1, h2⟩ <;> simp only at h1 h2 <;> omega
      have hv4 : hv ≤ 4 := by rcases hfit with ⟨h1, h2⟩ | ⟨h1, h2⟩ | ⟨h1, h2⟩ <;> simp only at h1 h2 <;> omega
      clear hb hfit
      go_wp2
      have hsz : k < (ByteArray.mk s.toArray).size := by simpa [ByteArray.size] using hlt
      have hC0 : (ByteArray.mk s.toArray)[k]'hsz = s[k] := rfl
      generalize hC : (ByteArray.mk s.toArray)[k]'hsz = C at *
      have HC := hide hC0
      clear hC0 hC
      have hcl := C.toNat_lt
      rw [wrap_c, or8 n C (by omega)]
      obtain ⟨M, hM⟩ : ∃ M, n * 256 + C.toNat = M := ⟨_, rfl⟩
      rw [hM]
      have HM := hide hM
      rcases unhide HF with ⟨h1, h2⟩ | ⟨h1, h2⟩ | ⟨h1, h2⟩
      · simp only at h1 h2
        subst h1
        have hM1 : M < 256 := by omega
        have HT : Hid (Six.told (s.take (k + 1)) = ⟨O ++ [M / 4], M % 4, 2⟩) := hide (by rw [unhide hnx, ← unhide HC]; simp only [Six.tell]; rw [unhide HM])
        clear HF h2 hM hn hv4
        refine wp_loop_rounds 2 ?_
        rw [rounds_succ]
        go_wp2_with (at_builtin; refine push rfl (.tmp 40) (.tmp 46) rfl w.heap.size _ (sgn A O) (by rfl) w _ _ (A.getD (M / 4) 0) (idx_eq A (M / 4) _) (unhide HB) (by rfl) (by rw [sgn_len]; omega) ?_; intro v2 w2 hb2)
        rw [and3 M (by omega)]
        rw [rounds_succ]
        go_wp2
        go_roundw
        case rel => exact ⟨k + 1, by omega, by go_num, by rw [unhide HT], by rw [unhide HT]; rfl, by rw [unhide HT]; simp only; rw [sgn_app]; exact hb2⟩
        case measure => simp [intOf]; omega
      · simp only at h1 h2
        subst h1
        have hM1 : M < 1024 := by omega
        have HT : Hid (Six.told (s.take (k + 1)) = ⟨O ++ [M / 16], M % 16, 4⟩) := hide (by rw [unhide hnx, ← unhide HC]; simp only [Six.tell]; rw [unhide HM])
        clear HF h2 hM hn hv4
        refine wp_loop_rounds 2 ?_
        rw [rounds_succ]
        go_wp2_with (at_builtin; refine push rfl (.tmp 40) (.tmp 46) rfl w.heap.size _ (sgn A O) (by rfl) w _ _ (A.getD (M / 16) 0) (idx_eq A (M / 16) _) (unhide HB) (by rfl) (by rw [sgn_len]; omega) ?_; intro v2 w2 hb2)
        rw [and15 M (by omega)]
        rw [rounds_succ]
        go_wp2
        go_roundw
        case rel => exact ⟨k + 1, by omega, by go_num, by rw [unhide HT], by rw [unhide HT]; rfl, by rw [unhide HT]; simp only; rw [sgn_app]; exact hb2⟩
        case measure => simp [intOf]; omega
      · simp only at h1 h2
        subst h1
        have hM1 : M < 4096 := by omega
        have HT : Hid (Six.told (s.take (k + 1)) = ⟨O ++ [M / 64, M % 64], 0, 0⟩) := hide (by rw [unhide hnx, ← unhide HC]; simp only [Six.tell]; rw [unhide HM])
        clear HF h2 hM hn hv4
        refine wp_loop_rounds 3 ?_
        rw [rounds_succ]
        go_wp2_with (at_builtin; refine push rfl (.tmp 40) (.tmp 46) rfl w.heap.size _ (sgn A O) (by rfl) w _ _ (A.getD (M / 64) 0) (idx_eq A (M / 64) _) (unhide HB) (by rfl) (by rw [sgn_len]; omega) ?_; intro v2 w2 hb2)
        rw [and63 M (by omega)]
        obtain ⟨M2, hM2⟩ : ∃ M2, M % 64 = M2 := ⟨_, rfl⟩
        rw [hM2]
        have HM2 := hide hM2
        have hM2l : M2 < 64 := by omega
        have HB2 := hide hb2
        clear hM2 hb2
        rw [rounds_succ]
        go_wp2_with (at_builtin; refine push rfl (.tmp 40) (.tmp 46) rfl w.heap.size _ (sgn A O ++ [A.getD (M / 64) 0]) (by rfl) w _ _ (A.getD (M2) 0) (idx_eq A (M2) _) (unhide HB2) (by rfl) (by rw [List.length_append, sgn_len, List.length_singleton]; omega) ?_; intro v3 w3 hb3)
        rw [and0 M2 (by omega)]
        rw [rounds_succ]
        go_wp2
        go_roundw
        case rel => exact ⟨k + 1, by omega, by go_num, by rw [unhide HT]; rfl, by rw [unhide HT]; rfl, by rw [unhide HT]; simp only; rw [show O ++ [M / 64, M % 64] = (O ++ [M / 64]) ++ [M % 64] by simp, sgn_app, sgn_app, unhide HM2]; exact hb3⟩
        case measure => simp [intOf]; omega
    · have hkl : k = s.length := by omega
      have hlast := hide (show Six.lastOf (Six.told (s.take k)) = Six.sig s by rw [List.take_of_length_le (by omega), Six.told_last])
      have hol := told_out (s.take k)
      have hol2 : (Six.told (s.take k)).out.length ≤ 2 * s.length := by simp at hol; omega
      clear hol
      have hd : decide (k < s.length) = false := by simp; omega
      generalize Six.told (s.take k) = T at *
      obtain ⟨O, n, hv⟩ := T
      simp only at hb hol2
      have HB := hide hb
      have HK := hide hkl
      clear hb hkl
      rcases hfit with ⟨h1, h2⟩ | ⟨h1, h2⟩ | ⟨h1, h2⟩
      · simp only at h1 h2
        subst h1
        have HL : Hid (Six.sig s = O) := hide (by rw [← unhide hlast]; simp [Six.lastOf])
        clear hlast
        have HX := hide (unhide HB).text
        go_wp2_with (refine wpList_conv rfl 101 9 (.tmp 66) rfl _ _ (by rfl) (unhide HX) ?_)
        go_ret
        exact ⟨ret_str (by rw [unhide HL]), (unhide HB).2.1⟩
      · simp only at h1 h2
        subst h1
        have HL : Hid (Six.sig s = O ++ [n * 16]) := hide (by rw [← unhide hlast]; simp [Six.lastOf])
        clear hlast
        go_wp2_with (first | (at_builtin; refine push rfl (.tmp 56) (.tmp 64) rfl w.heap.size _ (sgn A O) (by rfl) w _ _ (A.getD (n * 16) 0) (idx_eq A (n * 16) _) (unhide HB) (by rfl) (by rw [sgn_len]; omega) ?_; intro v2 w2 hb2; have HX := hide hb2.text) | refine wpList_conv rfl 101 9 (.tmp 66) rfl _ _ (by rfl) (unhide HX) ?_)
        go_ret
        exact ⟨ret_str (by rw [unhide HL, sgn_app]; simp), hb2.2.1⟩
      · simp only at h1 h2
        subst h1
        have HL : Hid (Six.sig s = O ++ [n * 4]) := hide (by rw [← unhide hlast]; simp [Six.lastOf])
        clear hlast
        go_wp2_with (first | (at_builtin; refine push rfl (.tmp 56) (.tmp 64) rfl w.heap.size _ (sgn A O) (by rfl) w _ _ (A.getD (n * 4) 0) (idx_eq A (n * 4) _) (unhide HB) (by rfl) (by rw [sgn_len]; omega) ?_; intro v2 w2 hb2; have HX := hide hb2.text) | refine wpList_conv rfl 101 9 (.tmp 66) rfl _ _ (by rfl) (unhide HX) ?_)
        go_ret
        exact ⟨ret_str (by rw [unhide HL, sgn_app]; simp), hb2.2.1⟩
end Go.Proofs.YtmjaobddgaglhaaGreatDoor
namespace Go.Proofs.YtmjaobddgaglhaaGreatDoor
open Go.RowKit Go.Lib
def pad (n : Nat) : List UInt8 := List.replicate ((3 - n % 3) % 3) 61
def enc (A : List UInt8) (fill : Bool) (s : List UInt8) : List UInt8 := sgn A (Six.sig s) ++ if fill then pad s.length else []
end Go.Proofs.YtmjaobddgaglhaaGreatDoor
namespace Go.Proofs.YtmjaobddgaglhaaGreatDoor
open Go.RowKit Go.Lib
abbrev names : List UInt8 := [65, 66, 67, 68, 69, 70, 71, 72, 73, 74, 75, 76, 77, 78, 79, 80, 81, 82, 83, 84, 85, 86, 87, 88, 89, 90, 97, 98, 99, 100, 101, 102, 103, 104, 105, 106, 107, 108, 109, 110, 111, 112, 113, 114, 115, 116, 117, 118, 119, 120, 121, 122, 48, 49, 50, 51, 52, 53, 54, 55, 56, 57, 45, 95]
theorem enc_false (A m : List UInt8) : enc A false m = sgn A (Six.sig m) := by simp [enc]
end Go.Proofs.YtmjaobddgaglhaaGreatDoor
