import Derived.Test.YtdncebdlhoogcaaKeysA
namespace Go.Proofs.Ytdncebdlhoogcaa
open Go.RowKit
open Sha
theorem zeros_text {w : World} {base g p : Nat} (h : w.ownsRow base 5 1 (.slice (some ⟨g, 0, none⟩) p p) p (madeCells (Value.int .u8 0).cells (p * 1)).toList) :
    (convert 33 9 (.slice (some ⟨g, 0, none⟩) p p)).run Try.prog w = .ok (.string ⟨(List.replicate p (0 : UInt8)).toArray⟩) w := by
  rw [made_zero] at h
  refine run_text w g 0 p p _ (by simp) ?_
  intro j hj
  rw [Nat.zero_add, h.cellAt j (by omega)]
  simp [nbk, B, hj]
theorem app_zeros (K : List UInt8) (p : Nat) : (ByteArray.mk K.toArray) ++ (ByteArray.mk (Array.replicate p 0)) = ⟨(K ++ List.replicate p 0).toArray⟩ := by
  rw [← List.toArray_replicate, bytes_append]
set_option maxHeartbeats 2000000 in
theorem keys_walk (key t : List UInt8) (noughts : Int) (w : World) (hk : key.length ≤ 140737488351232) (ht : t.length ≤ 140737488351232) (n0 : -9223372036854775808 ≤ noughts) (n1 : noughts ≤ 9223372036854775807) :
    Calls Try.prog 8 #[.string ⟨key.toArray⟩, .int .i64 noughts, .string ⟨t.toArray⟩] w fun e w' => e = .returned (.bool true) ∧ Below w.heap.size w w' := by
  obtain ⟨i0, hi, hz0, hz1, hz2⟩ := info_parts info5
  by_cases hk64 : 64 < key.length
  · have hd : decide ((64 : Int) < (key.length : Int)) = true := by simp; omega
    have HM : Hid (mac key t = sum (msk (sum key) 92 ++ sum (msk (sum key) 54 ++ t))) := hide (by simp only [mac, if_pos hk64])
    have hK : (sum key).length ≤ 64 := by rw [sum_len]; omega
    go_enter Try.func8, Try.ntmps8
    go_wp2_with fail
    refine (known_any w).mono ?_
    rintro e w1 ⟨rfl, hb1⟩
    go_wp2_with fail
    refine (mac_any key (some ⟨w1.heap.size, 0, none⟩) 1 1 [t] _ (Parts.new w1 [t]) (by omega) (by simp; omega) (by omega)).mono ?_
    rintro e w2 ⟨rfl, hb2⟩
    rw [show [t].flatten = t from by simp]
    have hbe2 := hb1.trans (((alloc_below w1 _).trans (hb2.mono (by simp))).mono hb1.size)
    clear hb1 hb2
    go_wp2_with fail
    refine (sum_any (some ⟨w2.heap.size, 0, none⟩) 1 1 [key] _ (Parts.new w2 [key]) (by omega) (by simp; omega)).mono ?_
    rintro e w3 ⟨rfl, hb3⟩
    rw [show [key].flatten = key from by simp]
    have hbe3 := hbe2.trans (((alloc_below w2 _).trans (hb3.mono (by simp))).mono hbe2.size)
    clear hb3 hbe2
    generalize sum key = K at *
    have l54 : (msk K 54).length = 64 := by simp [msk]
    have l92 : (msk K 92).length = 64 := by simp [msk]
    go_wp2_with fail
    refine (filled_any K 54 54 (by decide) w3 hK).mono ?_
    rintro e w4 ⟨rfl, hb4⟩
    have hbe4 := hbe3.trans (hb4.mono hbe3.size)
    clear hb4 hbe3
    go_wp2_with fail
    refine (sum_any (some ⟨w4.heap.size, 0, none⟩) 2 2 [msk K 54, t] _ (Parts.new w4 [msk K 54, t]) (by omega) (by simp [l54]; omega)).mono ?_
    rintro e w5 ⟨rfl, hb5⟩
    rw [show [msk K 54, t].flatten = msk K 54 ++ t from by simp]
    have hbe5 := hbe4.trans (((alloc_below w4 _).trans (hb5.mono (by simp))).mono hbe4.size)
    have lI : (sum (msk K 54 ++ t)).length = 32 := sum_len _
    clear hb5 hbe4
    go_wp2_with fail
    refine (filled_any K 92 92 (by decide) w5 hK).mono ?_
    rintro e w6 ⟨rfl, hb6⟩
    have hbe6 := hbe5.trans (hb6.mono hbe5.size)
    clear hb6 hbe5
    go_wp2_with fail
    refine (sum_any (some ⟨w6.heap.size, 0, none⟩) 2 2 [msk K 92, sum (msk K 54 ++ t)] _ (Parts.new w6 [msk K 92, sum (msk K 54 ++ t)]) (by omega) (by simp [l92, lI])).mono ?_
    rintro e w7 ⟨rfl, hb7⟩
    rw [show [msk K 92, sum (msk K 54 ++ t)].flatten = msk K 92 ++ sum (msk K 54 ++ t) from by simp, ← unhide HM]
    have hbe7 := hbe6.trans (((alloc_below w6 _).trans (hb7.mono (by simp))).mono hbe6.size)
    clear hb7 hbe6
    go_wp2_with fail
    refine (mac_any K (some ⟨w7.heap.size, 0, none⟩) 1 1 [t] _ (Parts.new w7 [t]) (by omega) (by simp; omega) (by omega)).mono ?_
    rintro e w8 ⟨rfl, hb8⟩
    rw [show [t].flatten = t from by simp, mac_short K t hK, ← unhide HM]
    have hbe8 := hbe7.trans (((alloc_below w7 _).trans (hb8.mono (by simp))).mono hbe7.size)
    clear hb8 hbe7
    go_wp2_with fail
    refine (pick_any noughts _ w8 n0 n1 (by omega) (by omega)).mono ?_
    rintro e w9 ⟨p, hp, rfl, rfl⟩
    have hkp : K.length + p ≤ 64 := by omega
    go_wp2_with (first
      | (refine wpList_make_full _ rfl (.tmp 56) (.tmp 56) 33 rfl w9.heap.size 5 i0 (.int .u8 0) 1 Try.underlying33 hi hz0 hz1 .i64 .i64 p p p (by rfl) (by rfl) rfl rfl (by rw [hz2]; omega) (by unfold maxLen; omega) (Nat.le_refl _) ?_; intro w10 hown hgrow; have hbe10 : Below w.heap.size w w10 := hbe8.grown hgrow hbe8.size (fun k e => by cases e); have HC := hide (zeros_text hown); clear hown hgrow hbe8)
      | (refine wpList_conv rfl 33 9 (.tmp 57) rfl _ _ (by rfl) (unhide HC) ?_; clear HC))
    rw [app_zeros]
    refine (mac_any (K ++ List.replicate p 0) (some ⟨w10.heap.size, 0, none⟩) 1 1 [t] _ (Parts.new w10 [t]) (by omega) (by simp; omega) (by simp; omega)).mono ?_
    rintro e w11 ⟨rfl, hb11⟩
    rw [show [t].flatten = t from by simp, mac_zeros K t p hkp, mac_short K t hK, ← unhide HM]
    have hbe11 := hbe10.trans (((alloc_below w10 _).trans (hb11.mono (by simp))).mono hbe10.size)
    go_wp2
    go_ret
    exact ⟨rfl, hbe11⟩
  · have hd : decide ((64 : Int) < (key.length : Int)) = false := by simp; omega
    have hK : key.length ≤ 64 := by omega
    have HM : Hid (mac key t = sum (msk key 92 ++ sum (msk key 54 ++ t))) := hide (mac_short key t hK)
    have l54 : (msk key 54).length = 64 := by simp [msk]
    have l92 : (msk key 92).length = 64 := by simp [msk]
    go_enter Try.func8, Try.ntmps8
    go_wp2_with fail
    refine (known_any w).mono ?_
    rintro e w1 ⟨rfl, hb1⟩
    go_wp2_with fail
    refine (mac_any key (some ⟨w1.heap.size, 0, none⟩) 1 1 [t] _ (Parts.new w1 [t]) (by omega) (by simp; omega) (by omega)).mono ?_
    rintro e w3 ⟨rfl, hb3⟩
    rw [show [t].flatten = t from by simp]
    have hbe3 := hb1.trans (((alloc_below w1 _).trans (hb3.mono (by simp))).mono hb1.size)
    clear hb1 hb3
    go_wp2_with fail
    refine (filled_any key 54 54 (by decide) w3 hK).mono ?_
    rintro e w4 ⟨rfl, hb4⟩
    have hbe4 := hbe3.trans (hb4.mono hbe3.size)
    clear hb4 hbe3
    go_wp2_with fail
    refine (sum_any (some ⟨w4.heap.size, 0, none⟩) 2 2 [msk key 54, t] _ (Parts.new w4 [msk key 54, t]) (by omega) (by simp [l54]; omega)).mono ?_
    rintro e w5 ⟨rfl, hb5⟩
    rw [show [msk key 54, t].flatten = msk key 54 ++ t from by simp]
    have hbe5 := hbe4.trans (((alloc_below w4 _).trans (hb5.mono (by simp))).mono hbe4.size)
    have lI : (sum (msk key 54 ++ t)).length = 32 := sum_len _
    clear hb5 hbe4
    go_wp2_with fail
    refine (filled_any key 92 92 (by decide) w5 hK).mono ?_
    rintro e w6 ⟨rfl, hb6⟩
    have hbe6 := hbe5.trans (hb6.mono hbe5.size)
    clear hb6 hbe5
    go_wp2_with fail
    refine (sum_any (some ⟨w6.heap.size, 0, none⟩) 2 2 [msk key 92, sum (msk key 54 ++ t)] _ (Parts.new w6 [msk key 92, sum (msk key 54 ++ t)]) (by omega) (by simp [l92, lI])).mono ?_
    rintro e w7 ⟨rfl, hb7⟩
    rw [show [msk key 92, sum (msk key 54 ++ t)].flatten = msk key 92 ++ sum (msk key 54 ++ t) from by simp, ← unhide HM]
    have hbe7 := hbe6.trans (((alloc_below w6 _).trans (hb7.mono (by simp))).mono hbe6.size)
    clear hb7 hbe6
    go_wp2_with fail
    refine (mac_any key (some ⟨w7.heap.size, 0, none⟩) 1 1 [t] _ (Parts.new w7 [t]) (by omega) (by simp; omega) (by omega)).mono ?_
    rintro e w8 ⟨rfl, hb8⟩
    rw [show [t].flatten = t from by simp, mac_short key t hK, ← unhide HM]
    have hbe8 := hbe7.trans (((alloc_below w7 _).trans (hb8.mono (by simp))).mono hbe7.size)
    clear hb8 hbe7
    go_wp2_with fail
    refine (pick_any noughts _ w8 n0 n1 (by omega) (by omega)).mono ?_
    rintro e w9 ⟨p, hp, rfl, rfl⟩
    have hkp : key.length + p ≤ 64 := by omega
    go_wp2_with (first
      | (refine wpList_make_full _ rfl (.tmp 56) (.tmp 56) 33 rfl w9.heap.size 5 i0 (.int .u8 0) 1 Try.underlying33 hi hz0 hz1 .i64 .i64 p p p (by rfl) (by rfl) rfl rfl (by rw [hz2]; omega) (by unfold maxLen; omega) (Nat.le_refl _) ?_; intro w10 hown hgrow; have hbe10 : Below w.heap.size w w10 := hbe8.grown hgrow hbe8.size (fun k e => by cases e); have HC := hide (zeros_text hown); clear hown hgrow hbe8)
      | (refine wpList_conv rfl 33 9 (.tmp 57) rfl _ _ (by rfl) (unhide HC) ?_; clear HC))
    rw [app_zeros]
    refine (mac_any (key ++ List.replicate p 0) (some ⟨w10.heap.size, 0, none⟩) 1 1 [t] _ (Parts.new w10 [t]) (by omega) (by simp; omega) (by simp; omega)).mono ?_
    rintro e w11 ⟨rfl, hb11⟩
    rw [show [t].flatten = t from by simp, mac_zeros key t p hkp, mac_short key t hK, ← unhide HM]
    have hbe11 := hbe10.trans (((alloc_below w10 _).trans (hb11.mono (by simp))).mono hbe10.size)
    go_wp2
    go_ret
    exact ⟨rfl, hbe11⟩
end Go.Proofs.Ytdncebdlhoogcaa
