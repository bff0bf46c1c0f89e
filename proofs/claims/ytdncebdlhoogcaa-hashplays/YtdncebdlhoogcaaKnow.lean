import Derived.Test.YtdncebdlhoogcaaMaca
import Derived.Test.YtdncebdlhoogcaaCrca
namespace Go.Proofs.Ytdncebdlhoogcaa
open Go.RowKit
open Sha
def d0 : List UInt8 := [0xba,0x78,0x16,0xbf,0x8f,0x01,0xcf,0xea,0x41,0x41,0x40,0xde,0x5d,0xae,0x22,0x23,0xb0,0x03,0x61,0xa3,0x96,0x17,0x7a,0x9c,0xb4,0x10,0xff,0x61,0xf2,0x00,0x15,0xad]
def m0 : List UInt8 := [0x15,0x5c,0xbe,0x0e,0xa5,0x6e,0xa4,0xc6,0xa6,0x7c,0x44,0x35,0x3f,0x65,0x1f,0x7d,0x13,0xb5,0x8a,0xda,0x59,0xc5,0xdc,0x04,0x1e,0x73,0x39,0x19,0x5f,0x86,0x5b,0x16]
set_option maxRecDepth 100000 in
theorem kn_sum : sum ([[97], [], [98, 99]] : List (List UInt8)).flatten = d0 := by decide +kernel
set_option maxRecDepth 100000 in
theorem kn_sumH : sumH (took (took h0 [97]) [98, 99]) = d0 := by decide +kernel
set_option maxRecDepth 100000 in
theorem kn_mac : mac [107, 101, 121] ([[108, 97, 116], [99, 104]] : List (List UInt8)).flatten = m0 := by decide +kernel
theorem kn_crc : u (crc [49, 50, 51, 52, 53, 54, 55, 56, 57]) = 3421780262 := by decide +kernel
theorem d0_lit : (⟨d0.toArray⟩ : ByteArray) = ⟨#[0xba,0x78,0x16,0xbf,0x8f,0x01,0xcf,0xea,0x41,0x41,0x40,0xde,0x5d,0xae,0x22,0x23,0xb0,0x03,0x61,0xa3,0x96,0x17,0x7a,0x9c,0xb4,0x10,0xff,0x61,0xf2,0x00,0x15,0xad]⟩ := rfl
theorem m0_lit : (⟨m0.toArray⟩ : ByteArray) = ⟨#[0x15,0x5c,0xbe,0x0e,0xa5,0x6e,0xa4,0xc6,0xa6,0x7c,0x44,0x35,0x3f,0x65,0x1f,0x7d,0x13,0xb5,0x8a,0xda,0x59,0xc5,0xdc,0x04,0x1e,0x73,0x39,0x19,0x5f,0x86,0x5b,0x16]⟩ := rfl
set_option maxHeartbeats 2000000 in
set_option maxRecDepth 100000 in
theorem known_any (w : World) :
    Calls Try.prog 12 #[] w fun e w' => e = .returned (.bool true) ∧ Below w.heap.size w w' := by
  go_enter Try.func12, Try.ntmps12
  go_wp2_with fail
  refine (new_any w).mono ?_
  rintro e w1 ⟨b, rfl, hbb, hr1, hb1⟩
  have HR1 := hide hr1
  clear hr1
  go_wp2_with fail
  refine (sum_any (some ⟨w1.heap.size, 0, none⟩) 3 3 [[97], [], [98, 99]] _ (Parts.new w1 [[97], [], [98, 99]]) (by omega) (by decide)).mono ?_
  rintro e w2 ⟨rfl, hb2⟩
  rw [kn_sum, d0_lit]
  have hbb2 : Below w1.heap.size w1 w2 := (alloc_below w1 _).trans (hb2.mono (by simp))
  have hr2 := (unhide HR1).below hbb2 (unhide HR1).lt
  have hbe2 := hb1.trans (hbb2.mono hb1.size)
  have HR2 := hide hr2
  clear HR1 hr2 hb2 hbb2 hb1
  go_wp2_with fail
  refine (write_any h0 b [97] w2 (unhide HR2) h0_len (by decide)).mono ?_
  rintro e w3 ⟨rfl, hr3, ho3⟩
  have hbe3 := ho3.below hbe2 hbb hbe2.size
  have HR3 := hide hr3
  clear HR2 hr3 ho3 hbe2
  go_wp2_with fail
  refine (copy_any (took h0 [97]) b w3 (unhide HR3) (by rw [took_t]; rfl)).mono ?_
  rintro e w4 ⟨c, rfl, hcb, hc4, hb4⟩
  have hr4 := (unhide HR3).below hb4 (unhide HR3).lt
  have hbe4 := hbe3.trans (hb4.mono hbe3.size)
  have hcw : w.heap.size ≤ c := Nat.le_trans hbe3.size hcb
  have hne : b ≠ c := Nat.ne_of_lt (Nat.lt_of_lt_of_le (unhide HR3).lt hcb)
  have HR4 := hide hr4
  have HC4 := hide hc4
  have HNE := hide hne
  clear HR3 hr4 hc4 hb4 hbe3 hcb hne
  go_wp2_with fail
  refine (write_any (took h0 [97]) c [98, 99] w4 (unhide HC4) (by rw [took_t]; rfl) (by rw [took_n]; decide)).mono ?_
  rintro e w5 ⟨rfl, hc5, ho5⟩
  have hr5 := ho5.row (unhide HR4) (unhide HNE)
  have hbe5 := ho5.below hbe4 hcw hbe4.size
  have HR5 := hide hr5
  have HC5 := hide hc5
  clear HR4 HC4 hr5 hc5 ho5 hbe4
  go_wp2_with fail
  refine (mac_any [107, 101, 121] (some ⟨w5.heap.size, 0, none⟩) 2 2 [[108, 97, 116], [99, 104]] _ (Parts.new w5 [[108, 97, 116], [99, 104]]) (by omega) (by decide) (by decide)).mono ?_
  rintro e w6 ⟨rfl, hb6⟩
  rw [kn_mac, m0_lit]
  have hbb6 : Below w5.heap.size w5 w6 := (alloc_below w5 _).trans (hb6.mono (by simp))
  have hr6 := (unhide HR5).below hbb6 (unhide HR5).lt
  have hc6 := (unhide HC5).below hbb6 (unhide HC5).lt
  have hbe6 := hbe5.trans (hbb6.mono hbe5.size)
  have HR6 := hide hr6
  have HC6 := hide hc6
  clear HR5 HC5 hr6 hc6 hb6 hbb6 hbe5
  go_wp2_with fail
  refine (hsum_any (took (took h0 [97]) [98, 99]) c w6 (unhide HC6) (by rw [took_t, took_t]; rfl) (by rw [took_n, took_n]; decide)).mono ?_
  rintro e w7 ⟨rfl, hb7⟩
  rw [kn_sumH, d0_lit]
  have hr7 := (unhide HR6).below hb7 (unhide HR6).lt
  have hbe7 := hbe6.trans (hb7.mono hbe6.size)
  have HR7 := hide hr7
  clear HR6 HC6 hr7 hb7 hbe6
  go_wp2_with fail
  refine (len_any (took h0 [97]) b w7 (unhide HR7) (by rw [took_t]; rfl)).mono ?_
  rintro e w8 ⟨rfl, rfl⟩
  rw [show ((took h0 [97]).n : Int) = 1 from by rw [took_n]; rfl]
  clear HR7
  go_wp2_with fail
  refine (crc_any [49, 50, 51, 52, 53, 54, 55, 56, 57] _ (by decide)).mono ?_
  rintro e w9 ⟨rfl, rfl⟩
  rw [kn_crc]
  go_wp2_with fail
  refine (same_any [97] [97] _ (by decide)).mono ?_
  rintro e w10 ⟨rfl, n1, rfl⟩
  rw [show decide (([97] : List UInt8) = [97]) = true from by decide]
  go_wp2_with fail
  refine (same_any [97] [98] _ (by decide)).mono ?_
  rintro e w11 ⟨rfl, n2, rfl⟩
  rw [show decide (([97] : List UInt8) = [98]) = false from by decide]
  go_wp2
  go_ret
  exact ⟨rfl, ⟨hbe7.os, hbe7.tape, hbe7.output, hbe7.size, hbe7.block⟩⟩
end Go.Proofs.Ytdncebdlhoogcaa
