import Derived.Test.YtdncebdlhoogcaaByts
namespace Go.Proofs.Ytdncebdlhoogcaa
open Go.RowKit
open Sha
set_option maxHeartbeats 1000000 in
theorem pick_any (c n : Int) (w : World) (c0 : -9223372036854775808 ≤ c) (c1 : c ≤ 9223372036854775807) (n0 : 1 ≤ n) (n1 : n ≤ 9223372036854775807) :
    Calls Try.prog 26 #[.int .i64 c, .int .i64 n] w fun e w' => ∃ m : Nat, (m : Int) < n ∧ e = .returned (.int .i64 m) ∧ w' = w := by
  by_cases hc : c < 0
  · have hr : 0 ≤ (-(c + 1)) % n := Int.emod_nonneg _ (by omega)
    have hl : (-(c + 1)) % n < n := Int.emod_lt_of_pos _ (by omega)
    obtain ⟨m, hm⟩ := Int.eq_ofNat_of_zero_le hr
    have HM := hide hm
    rw [hm] at hl
    clear hr hm
    go_enter Try.func26, Try.ntmps26
    go_wp2
    go_ret
    refine ⟨m, hl, ?_, rfl⟩
    exact ret_int (by rw [← Int.neg_tmod, Int.tmod_eq_emod_of_nonneg (by omega)]; exact unhide HM)
  · have hr : 0 ≤ c % n := Int.emod_nonneg _ (by omega)
    have hl : c % n < n := Int.emod_lt_of_pos _ (by omega)
    obtain ⟨m, hm⟩ := Int.eq_ofNat_of_zero_le hr
    have HM := hide hm
    rw [hm] at hl
    clear hr hm
    go_enter Try.func26, Try.ntmps26
    go_wp2
    go_ret
    refine ⟨m, hl, ?_, rfl⟩
    exact ret_int (unhide HM)
theorem owns_row {w : World} {base g n : Nat} {e : TypeId} {xs : List Value} (h : w.ownsRow base e 1 (.slice (some ⟨g, 0, none⟩) n n) n xs) : Row w g xs.toArray e := by
  obtain ⟨h1, h2⟩ := h
  rcases h2 with ⟨q, _⟩ | ⟨g', cap, cur, e1, _, e3, _, _, e5, e6⟩
  · simp at q
  · simp only [Value.slice.injEq, Option.some.injEq, Addr.mk.injEq, and_true, true_and] at e1
    obtain ⟨rfl, rfl⟩ := e1
    have : cur.toList = xs := by rw [← e6, List.take_of_length_le (by simp [e5])]
    rw [← this]
    exact e3
theorem arr_copy (z l : List UInt8) : (((z.map B).toArray).toList.take 0 ++ l.map B ++ ((z.map B).toArray).toList.drop (0 + (l.map B).length)).toArray = cB (spl z 0 l) := by
  simp [cB, spl, List.map_drop]
set_option maxHeartbeats 1000000 in
theorem filled_any (key : List UInt8) (mask : UInt8) (x : Int) (hx : x = (mask.toNat : Int)) (w : World) (hk : key.length ≤ 64) :
    Calls Try.prog 32 #[.string ⟨key.toArray⟩, .int .u8 x] w fun e w' => e = .returned (.string ⟨(msk key mask).toArray⟩) ∧ Below w.heap.size w w' := by
  subst hx
  obtain ⟨i0, hi, hz0, hz1, hz2⟩ := info_parts info5
  go_enter Try.func32, Try.ntmps32
  go_wp2_with (first
    | (refine wpList_make_full _ rfl (.const (.int .i64 64)) (.const (.int .i64 64)) 33 rfl w.heap.size 5 i0 (.int .u8 0) 1 Try.underlying33 hi hz0 hz1 .i64 .i64 64 64 64 (by rfl) (by rfl) rfl rfl (by rw [hz2]; omega) (by unfold maxLen; omega) (Nat.le_refl _) ?_; intro w1 hown hgrow; rw [made_zero] at hown; have hrow0 := owns_row hown; have hbe0 : Below w.heap.size w w1 := (Below.refl _ _).grown hgrow (Nat.le_refl _) (fun k e => by cases e); have HR0 := hide hrow0; clear hown hgrow hrow0)
    | (refine wpList_copy_str rfl (.tmp 8) (.tmp 9) rfl w.heap.size 0 64 64 key (by rfl) (by rfl) _ 5 (unhide HR0) (by simp [nbk]; omega) _ (arr_copy _ _) ?_; intro w2 hr2 ho2))
  have hb1 : Below w.heap.size w w2 := ho2.below hbe0 (Nat.le_refl _) hbe0.size
  have hr0 : Row w2 w.heap.size (cB (mskk key mask 0)) 5 := by rw [mskk_zero key mask hk]; exact hr2
  have HR := hide hr0
  clear hr2 ho2 hr0 hbe0 HR0
  go_loopw [6] (fun i wr => ∃ k : Nat, k ≤ 64 ∧ i = .int .i64 k ∧ Row wr w.heap.size (cB (mskk key mask k)) 5 ∧ Below w.heap.size w wr) (fun i _ => 64 - (intOf i).toNat)
  case atStart => exact ⟨0, by omega, rfl, unhide HR, hb1⟩
  case round =>
    clear HR hb1
    obtain ⟨k, hk64, rfl, hrow, hbe⟩ := hrel
    by_cases hlt : k < 64
    · have c0 : wr.cell? ⟨w.heap.size, k, none⟩ = some (.int .u8 ((key.getD k 0).toNat : Int)) := by
        rw [hrow.cell, cB_get _ _ (by rw [mskk_len]; exact hlt), mskk_at _ _ _ hlt]
      have z0 : wr.frozen? ⟨w.heap.size, k, none⟩ = false := hrow.frozen k
      generalize hx : key.getD k 0 = x at c0
      have HX := hide hx
      have HRow := hide hrow
      clear hx hrow
      go_wp2
      go_roundw
      case rel =>
        refine ⟨k + 1, by omega, by go_num, ?_, hbe.setCell (Nat.le_refl _) _⟩
        rw [u8_xor_B, mskk_next _ _ _ hlt, unhide HX]
        have := (unhide HRow).set k (.int .u8 ((x ^^^ mask).toNat : Int))
        rwa [cB_set] at this
      case measure => simp [intOf]; omega
    · have hk6 : k = 64 := by omega
      have hd : decide ((k : Int) < 64) = false := by simp; omega
      have hc : (convert 33 9 (.slice (some ⟨w.heap.size, 0, none⟩) 64 64)).run Try.prog wr = .ok (.string ⟨(msk key mask).toArray⟩) wr := by
        refine run_text wr w.heap.size 0 64 64 (msk key mask) (by simp [msk]) ?_
        intro j hj
        rw [Nat.zero_add, hrow.cell, hk6, mskk_all]
        exact cB_get _ _ (by simpa [msk] using hj)
      have HC := hide hc
      clear hc hrow hk6 hlt
      go_wp2_with (refine wpList_conv rfl 33 9 (.tmp 24) rfl _ _ (by rfl) (unhide HC) ?_)
      go_ret
      exact ⟨rfl, hbe⟩
theorem mac_short (K t : List UInt8) (h : K.length ≤ 64) : mac K t = sum (msk K 92 ++ sum (msk K 54 ++ t)) := by
  simp only [mac, if_neg (show ¬ 64 < K.length by omega)]
theorem msk_zeros (K : List UInt8) (p : Nat) (m : UInt8) : msk (K ++ List.replicate p 0) m = msk K m := by
  unfold msk
  apply List.map_congr_left
  intro i _
  congr 1
  by_cases h : i < K.length
  · simp [List.getElem?_append_left h]
  · simp only [List.getD_eq_getElem?_getD, List.getElem?_append_right (by omega : K.length ≤ i)]
    rw [List.getElem?_eq_none (by omega : K.length ≤ i)]
    by_cases q : i - K.length < p
    · simp [q]
    · simp [q]
theorem mac_zeros (K t : List UInt8) (p : Nat) (h : K.length + p ≤ 64) : mac (K ++ List.replicate p 0) t = mac K t := by
  rw [mac_short _ _ (by simp; omega), mac_short _ _ (by omega), msk_zeros, msk_zeros]
end Go.Proofs.Ytdncebdlhoogcaa
