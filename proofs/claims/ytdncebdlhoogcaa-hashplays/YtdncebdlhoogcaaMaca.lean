import Derived.Test.YtdncebdlhoogcaaSuma
import Derived.Test.YtdncebdlhoogcaaMask
namespace Go.Proofs.Ytdncebdlhoogcaa
open Go.RowKit
open Sha
theorem sum_len (l : List UInt8) : (sum l).length = 32 := by
  simp [sum, sumH, dig, St.l, nb]
theorem Parts.new (w : World) (ps : List (List UInt8)) : Parts (w.alloc (.cells (ps.map fun l => Value.string ⟨l.toArray⟩).toArray 9)) (some ⟨w.heap.size, 0, none⟩) ps.length ps := by
  refine ⟨rfl, fun _ => ⟨w.heap.size, 0, rfl, fun j hj => ?_⟩⟩
  rw [Nat.zero_add, (Row.new w _ 9).cell]
  simp [hj]
set_option maxHeartbeats 2000000 in
theorem mac_any (key : List UInt8) (a : Option Addr) (n cap : Nat) (ps : List (List UInt8)) (w : World) (hp : Parts w a n ps) (hm : n ≤ 9223372036854775807) (hl : ps.flatten.length < 288230376151711744) (hkl : key.length < 576460752303423488) :
    Calls Try.prog 20 #[.string ⟨key.toArray⟩, .slice a n cap] w fun e w' => e = .returned (.string ⟨(mac key ps.flatten).toArray⟩) ∧ Below w.heap.size w w' := by
  have HP := hide hp
  clear hp
  by_cases hk : 64 < key.length
  · have hd : decide ((64 : Int) < (key.length : Int)) = true := by simp; omega
    have HE : Hid (mac key ps.flatten = sum (msk (sum key) 92 ++ sum (msk (sum key) 54 ++ ps.flatten))) := hide (by simp only [mac, if_pos hk])
    go_enter Try.func20, Try.ntmps20
    go_wp2_with fail
    refine (sum_any (some ⟨w.heap.size, 0, none⟩) 1 1 [key] _ (Parts.new w [key]) (by omega) (by simpa using hkl)).mono ?_
    rintro e w0 ⟨rfl, hbk⟩
    have hb0 : Below w.heap.size w w0 := (alloc_below w _).trans (hbk.mono (by simp))
    have hK : (sum key).length ≤ 64 := by rw [sum_len]; omega
    rw [show [key].flatten = key from by simp]
    clear hbk
    generalize sum key = K at *
    go_wp2_with fail
    refine (new_any w0).mono ?_
    rintro e w1 ⟨b, rfl, hbb0, hr1, hb1⟩
    have hbb : w.heap.size ≤ b := Nat.le_trans hb0.size hbb0
    have hbe1 := hb0.trans (hb1.mono hb0.size)
    have HR1 := hide hr1
    clear hr1 hbb0 hb1 hb0
    go_wp2_with fail
    refine (masked_any K 54 54 (by decide) w1 hK).mono ?_
    rintro e w2 ⟨rfl, hb2⟩
    have hr2 := (unhide HR1).below hb2 (unhide HR1).lt
    have hbe2 := hbe1.trans (hb2.mono hbe1.size)
    have hl54 : (msk K 54).length = 64 := by simp [msk]
    have HR2 := hide hr2
    clear HR1 hr2 hb2 hbe1
    go_wp2_with fail
    refine (write_any h0 b (msk K 54) w2 (unhide HR2) h0_len (by rw [hl54, h0_n]; omega)).mono ?_
    rintro e w3 ⟨rfl, hr3, ho3⟩
    have hbe3 := ho3.below hbe2 hbb hbe2.size
    have HR3 := hide hr3
    clear HR2 hr3 ho3 hbe2
    go_wp2
    go_loopw [21] (fun i wr => ∃ k : Nat, k ≤ n ∧ i = .int .i64 k ∧ Row wr b (hc (took h0 (msk K 54 ++ (ps.take k).flatten))) 70 ∧ Below w.heap.size w wr) (fun i _ => n - (intOf i).toNat)
    case atStart => exact ⟨0, by omega, rfl, by simpa using unhide HR3, hbe3⟩
    case round =>
      clear HR3 hbe3
      obtain ⟨k, hkn, rfl, hrow, hbe⟩ := hrel
      by_cases hlt : k < n
      · obtain ⟨e1, e2⟩ := unhide HP
        obtain ⟨p, o, rfl, hcell⟩ := e2 (by omega)
        have hck := hcell k hlt
        have hplt : p < w.heap.size := block_lt_of_cell hck
        have c0 : wr.cell? ⟨p, o + k, none⟩ = some (.string ⟨(ps.getD k []).toArray⟩) := (hbe.cell (by exact hplt)).trans hck
        have hfl := flat_le ps k (by omega)
        have hfn := hide (flat_next ps k (by omega))
        generalize hX : ps.getD k [] = X at *
        have ht : (took h0 (msk K 54 ++ (ps.take k).flatten)).t.length = 64 := by rw [took_t]; rfl
        have hnn : (took h0 (msk K 54 ++ (ps.take k).flatten)).n = 64 + (ps.take k).flatten.length := by rw [took_n, h0_n, List.length_append, hl54]; omega
        have HT := hide ht
        have HN := hide hnn
        have HRow := hide hrow
        have HX := hide hX
        clear ht hnn hrow hcell hck e1 e2 hX
        go_wp2_with fail
        refine (write_any _ b X wr (unhide HRow) (unhide HT) (by rw [unhide HN]; omega)).mono ?_
        rintro e w4 ⟨rfl, hr4, ho4⟩
        have hbe4 := ho4.below hbe hbb hbe.size
        have HR4 := hide hr4
        clear hr4 ho4 c0
        go_wp2
        go_roundw
        case rel =>
          refine ⟨k + 1, by omega, by go_num, ?_, hbe4⟩
          rw [unhide hfn, ← List.append_assoc, took_append]
          exact unhide HR4
        case measure => simp [intOf]; omega
      · have hkk : k = n := by omega
        have hd2 : decide (k < n) = false := by simp; omega
        have hps : ps.take k = ps := List.take_of_length_le (by rw [hkk]; exact Nat.le_of_eq (unhide HP).1.symm)
        rw [hps] at hrow
        have ht : (took h0 (msk K 54 ++ ps.flatten)).t.length = 64 := by rw [took_t]; rfl
        have hnn : (took h0 (msk K 54 ++ ps.flatten)).n = 64 + ps.flatten.length := by rw [took_n, h0_n, List.length_append, hl54]; omega
        have HRow := hide hrow
        have HT := hide ht
        have HN := hide hnn
        clear hrow hps hkk hlt ht hnn
        go_wp2_with fail
        refine (masked_any K 92 92 (by decide) wr hK).mono ?_
        rintro e w5 ⟨rfl, hb5⟩
        have hr5 := (unhide HRow).below hb5 (unhide HRow).lt
        have hbe5 := hbe.trans (hb5.mono hbe.size)
        have HR5 := hide hr5
        clear HRow hr5 hb5 hbe
        go_wp2_with fail
        refine (hsum_any _ b w5 (unhide HR5) (unhide HT) (by rw [unhide HN]; omega)).mono ?_
        rintro e w6 ⟨rfl, hb6⟩
        have hbe6 := hbe5.trans (hb6.mono hbe5.size)
        have hl92 : (msk K 92).length = 64 := by simp [msk]
        have hls : (sumH (took h0 (msk K 54 ++ ps.flatten))).length = 32 := sum_len _
        clear HR5 hb6 hbe5
        go_wp2_with fail
        refine (sum_any (some ⟨w6.heap.size, 0, none⟩) 2 2 [msk K 92, sumH (took h0 (msk K 54 ++ ps.flatten))] _ (Parts.new w6 [msk K 92, sumH (took h0 (msk K 54 ++ ps.flatten))]) (by omega) (by simp [hl92, hls])).mono ?_
        rintro e w7 ⟨rfl, hb7⟩
        have hbe7 := (hbe6.alloc hbe6.size _).trans (hb7.mono (by simp; have := hbe6.size; omega))
        go_wp2
        go_ret
        refine ⟨?_, hbe7⟩
        rw [unhide HE]
        simp [sum]
  · have hd : decide ((64 : Int) < (key.length : Int)) = false := by simp; omega
    have HE : Hid (mac key ps.flatten = sum (msk key 92 ++ sum (msk key 54 ++ ps.flatten))) := hide (by simp only [mac, if_neg hk])
    have hK : key.length ≤ 64 := by omega
    have hb0 : Below w.heap.size w w := Below.refl _ _
    go_enter Try.func20, Try.ntmps20
    go_wp2_with fail
    refine (new_any w).mono ?_
    rintro e w1 ⟨b, rfl, hbb0, hr1, hb1⟩
    have hbb : w.heap.size ≤ b := Nat.le_trans hb0.size hbb0
    have hbe1 := hb0.trans (hb1.mono hb0.size)
    have HR1 := hide hr1
    clear hr1 hbb0 hb1 hb0
    go_wp2_with fail
    refine (masked_any key 54 54 (by decide) w1 hK).mono ?_
    rintro e w2 ⟨rfl, hb2⟩
    have hr2 := (unhide HR1).below hb2 (unhide HR1).lt
    have hbe2 := hbe1.trans (hb2.mono hbe1.size)
    have hl54 : (msk key 54).length = 64 := by simp [msk]
    have HR2 := hide hr2
    clear HR1 hr2 hb2 hbe1
    go_wp2_with fail
    refine (write_any h0 b (msk key 54) w2 (unhide HR2) h0_len (by rw [hl54, h0_n]; omega)).mono ?_
    rintro e w3 ⟨rfl, hr3, ho3⟩
    have hbe3 := ho3.below hbe2 hbb hbe2.size
    have HR3 := hide hr3
    clear HR2 hr3 ho3 hbe2
    go_wp2
    go_loopw [21] (fun i wr => ∃ k : Nat, k ≤ n ∧ i = .int .i64 k ∧ Row wr b (hc (took h0 (msk key 54 ++ (ps.take k).flatten))) 70 ∧ Below w.heap.size w wr) (fun i _ => n - (intOf i).toNat)
    case atStart => exact ⟨0, by omega, rfl, by simpa using unhide HR3, hbe3⟩
    case round =>
      clear HR3 hbe3
      obtain ⟨k, hkn, rfl, hrow, hbe⟩ := hrel
      by_cases hlt : k < n
      · obtain ⟨e1, e2⟩ := unhide HP
        obtain ⟨p, o, rfl, hcell⟩ := e2 (by omega)
        have hck := hcell k hlt
        have hplt : p < w.heap.size := block_lt_of_cell hck
        have c0 : wr.cell? ⟨p, o + k, none⟩ = some (.string ⟨(ps.getD k []).toArray⟩) := (hbe.cell (by exact hplt)).trans hck
        have hfl := flat_le ps k (by omega)
        have hfn := hide (flat_next ps k (by omega))
        generalize hX : ps.getD k [] = X at *
        have ht : (took h0 (msk key 54 ++ (ps.take k).flatten)).t.length = 64 := by rw [took_t]; rfl
        have hnn : (took h0 (msk key 54 ++ (ps.take k).flatten)).n = 64 + (ps.take k).flatten.length := by rw [took_n, h0_n, List.length_append, hl54]; omega
        have HT := hide ht
        have HN := hide hnn
        have HRow := hide hrow
        have HX := hide hX
        clear ht hnn hrow hcell hck e1 e2 hX
        go_wp2_with fail
        refine (write_any _ b X wr (unhide HRow) (unhide HT) (by rw [unhide HN]; omega)).mono ?_
        rintro e w4 ⟨rfl, hr4, ho4⟩
        have hbe4 := ho4.below hbe hbb hbe.size
        have HR4 := hide hr4
        clear hr4 ho4 c0
        go_wp2
        go_roundw
        case rel =>
          refine ⟨k + 1, by omega, by go_num, ?_, hbe4⟩
          rw [unhide hfn, ← List.append_assoc, took_append]
          exact unhide HR4
        case measure => simp [intOf]; omega
      · have hkk : k = n := by omega
        have hd2 : decide (k < n) = false := by simp; omega
        have hps : ps.take k = ps := List.take_of_length_le (by rw [hkk]; exact Nat.le_of_eq (unhide HP).1.symm)
        rw [hps] at hrow
        have ht : (took h0 (msk key 54 ++ ps.flatten)).t.length = 64 := by rw [took_t]; rfl
        have hnn : (took h0 (msk key 54 ++ ps.flatten)).n = 64 + ps.flatten.length := by rw [took_n, h0_n, List.length_append, hl54]; omega
        have HRow := hide hrow
        have HT := hide ht
        have HN := hide hnn
        clear hrow hps hkk hlt ht hnn
        go_wp2_with fail
        refine (masked_any key 92 92 (by decide) wr hK).mono ?_
        rintro e w5 ⟨rfl, hb5⟩
        have hr5 := (unhide HRow).below hb5 (unhide HRow).lt
        have hbe5 := hbe.trans (hb5.mono hbe.size)
        have HR5 := hide hr5
        clear HRow hr5 hb5 hbe
        go_wp2_with fail
        refine (hsum_any _ b w5 (unhide HR5) (unhide HT) (by rw [unhide HN]; omega)).mono ?_
        rintro e w6 ⟨rfl, hb6⟩
        have hbe6 := hbe5.trans (hb6.mono hbe5.size)
        have hl92 : (msk key 92).length = 64 := by simp [msk]
        have hls : (sumH (took h0 (msk key 54 ++ ps.flatten))).length = 32 := sum_len _
        clear HR5 hb6 hbe5
        go_wp2_with fail
        refine (sum_any (some ⟨w6.heap.size, 0, none⟩) 2 2 [msk key 92, sumH (took h0 (msk key 54 ++ ps.flatten))] _ (Parts.new w6 [msk key 92, sumH (took h0 (msk key 54 ++ ps.flatten))]) (by omega) (by simp [hl92, hls])).mono ?_
        rintro e w7 ⟨rfl, hb7⟩
        have hbe7 := (hbe6.alloc hbe6.size _).trans (hb7.mono (by simp; have := hbe6.size; omega))
        go_wp2
        go_ret
        refine ⟨?_, hbe7⟩
        rw [unhide HE]
        simp [sum]
end Go.Proofs.Ytdncebdlhoogcaa
