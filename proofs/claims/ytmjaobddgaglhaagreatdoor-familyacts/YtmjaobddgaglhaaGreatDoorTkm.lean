import Derived.Test.YtmjaobddgaglhaaGreatDoorTki
import Derived.Test.YtmjaobddgaglhaaGreatDoorTkh
import Derived.Test.YtmjaobddgaglhaaGreatDoorHsmr
namespace Go.Proofs.YtmjaobddgaglhaaGreatDoor
open Go.RowKit Go.Lib Sha
set_option maxHeartbeats 4000000
set_option maxRecDepth 8000
theorem rcheck_any (s : Bs) (w : World) (hs : s.length ≤ 1000000) : Calls Tryz.prog 85 #[S s] w fun e w' => e = .returned (S (be 4 (crc s).toNat)) ∧ Below w.heap.size w w' := by
  have hu0 := u_lo (crc s)
  have hu1 := u_hi (crc s)
  have HC := hide (refcrc_any s w (by omega))
  have HB := hide (big4_any (crc s).toNat w (crc s).toNat_lt)
  have HU : u (crc s) = ((crc s).toNat : Int) := rfl
  rw [HU] at HC hu0 hu1
  generalize (crc s).toNat = n at *
  clear HU
  go_enter Tryz.func85, Tryz.ntmps85
  go_wp2_with fail
  refine (unhide HC).mono ?_
  rintro e w1 ⟨rfl, rfl⟩
  go_wp2_with fail
  refine (unhide HB).mono ?_
  rintro e w2 ⟨rfl, hb⟩
  have HB2 := hide hb
  clear hb
  go_wp2
  go_ret
  exact ⟨rfl, unhide HB2⟩
theorem big8_any (n : Nat) (w : World) (hn : n ≤ 4611686018427387904) :
    Calls Tryz.prog 83 #[I n, I 8] w fun e w' => e = .returned (S (be 8 n)) ∧ Below w.heap.size w w' := by
  go_enter Tryz.func83, Tryz.ntmps83
  go_wp2_with (refine make1 inf5 Tryz.underlying101 rfl (.tmp 7) (.tmp 7) rfl _ _ 8 (by rfl) (by rfl) rfl rfl (by omega) ?_; intro w1 hb1 k1)
  rw [← bws_zero 8 n] at hb1
  have HB := hide hb1
  have HK := hide k1
  clear hb1 k1
  go_loopw [6] (fun i wr => ∃ k : Nat, k ≤ 8 ∧ i = .int .i64 (k : Int) ∧ Rw 5 w.heap.size (bws 8 n k) wr ∧ Below w.heap.size w wr) (fun i _ => 8 - (Go.RowKit.intOf i).toNat)
  case atStart => exact ⟨0, by omega, by simp, unhide HB, unhide HK⟩
  case round =>
    obtain ⟨k, hk, rfl, hrw, hbr⟩ := hrel
    by_cases hlt : k < 8
    · have hst := hrw.set (8 - 1 - k) (.int .u8 ((UInt8.ofNat (n / 256 ^ k)).toNat : Int))
      rw [bws_step 8 n k hlt] at hst
      have hb : ((UInt8.ofNat (n / 256 ^ k)).toNat : Int) = ((n / 256 ^ k : Nat) : Int) % 256 := by
        rw [UInt8.toNat_ofNat']
        omega
      rw [hb] at hst
      have hcell := hrw.cell (8 - 1 - k)
      rw [List.getElem?_eq_getElem (show 8 - 1 - k < (bws 8 n k).length by unfold bws; simp; omega)] at hcell
      have hfz := hrw.fz (8 - 1 - k)
      obtain ⟨v0, hv0⟩ : ∃ v0, (bws 8 n k)[8 - 1 - k]'(by unfold bws; simp; omega) = v0 := ⟨_, rfl⟩
      rw [hv0] at hcell
      have HST := hide hst
      have HBR := hide (hbr.setCell (p := ⟨w.heap.size, 8 - 1 - k, none⟩) (Nat.le_refl _) (.int .u8 (((n / 256 ^ k : Nat) : Int) % 256)))
      clear hst hb hrw hbr hv0
      rcases (by omega : k = 0 ∨ k = 1 ∨ k = 2 ∨ k = 3 ∨ k = 4 ∨ k = 5 ∨ k = 6 ∨ k = 7) with rfl | rfl | rfl | rfl | rfl | rfl | rfl | rfl
      · go_wp2
        refine ⟨⟨1, by omega, rfl, ?_, ?_⟩, by simp [Go.RowKit.intOf]⟩
        · first | exact unhide HST | (simpa using unhide HST)
        · first | exact unhide HBR | (simpa using unhide HBR)
      · go_wp2
        refine ⟨⟨2, by omega, rfl, ?_, ?_⟩, by simp [Go.RowKit.intOf]⟩
        · first | exact unhide HST | (simpa using unhide HST)
        · first | exact unhide HBR | (simpa using unhide HBR)
      · go_wp2
        refine ⟨⟨3, by omega, rfl, ?_, ?_⟩, by simp [Go.RowKit.intOf]⟩
        · first | exact unhide HST | (simpa using unhide HST)
        · first | exact unhide HBR | (simpa using unhide HBR)
      · go_wp2
        refine ⟨⟨4, by omega, rfl, ?_, ?_⟩, by simp [Go.RowKit.intOf]⟩
        · first | exact unhide HST | (simpa using unhide HST)
        · first | exact unhide HBR | (simpa using unhide HBR)
      · go_wp2
        refine ⟨⟨5, by omega, rfl, ?_, ?_⟩, by simp [Go.RowKit.intOf]⟩
        · first | exact unhide HST | (simpa using unhide HST)
        · first | exact unhide HBR | (simpa using unhide HBR)
      · go_wp2
        refine ⟨⟨6, by omega, rfl, ?_, ?_⟩, by simp [Go.RowKit.intOf]⟩
        · first | exact unhide HST | (simpa using unhide HST)
        · first | exact unhide HBR | (simpa using unhide HBR)
      · go_wp2
        refine ⟨⟨7, by omega, rfl, ?_, ?_⟩, by simp [Go.RowKit.intOf]⟩
        · first | exact unhide HST | (simpa using unhide HST)
        · first | exact unhide HBR | (simpa using unhide HBR)
      · go_wp2
        have e3 : (((n / 256 ^ 7 : Nat) : Int) % 256) = (n : Int) / 72057594037927936 := by
          rw [show (256 : Nat) ^ 7 = 72057594037927936 by decide]
          omega
        have g1 := unhide HST
        have g2 := unhide HBR
        rw [e3] at g1 g2
        exact ⟨⟨8, by omega, rfl, g1, g2⟩, by simp [Go.RowKit.intOf]⟩
    · have hks : k = 8 := by omega
      subst hks
      have hcells : ∀ j, j < 8 → wr.cell? ⟨w.heap.size, 0 + j, none⟩ = some (.int .u8 (((be 8 n).getD j 0).toNat : Int)) := fun j hj => by
        rw [Nat.zero_add, hrw.cell, bws_at 8 n j hj]
      have HX := hide (run_text wr w.heap.size 0 8 8 (be 8 n) (be_len 8 n) hcells)
      have HBR := hide hbr
      clear hcells hrw hbr
      go_wp2_with (refine wpList_conv rfl 101 9 (.tmp 25) rfl _ _ (by rfl) (unhide HX) ?_)
      go_ret
      exact ⟨rfl, unhide HBR⟩
theorem rhash_any (s : Bs) (w : World) (hs : s.length ≤ 140737488351232) :
    Calls Tryz.prog 68 #[S s] w fun e w' => e = .returned (S (Sha.sum s)) ∧ Below w.heap.size w w' := by
  have HS := hide (refsum_any s w hs)
  generalize Sha.sum s = x at *
  go_enter Tryz.func68, Tryz.ntmps68
  go_wp2_with (first | (go_at_call 86; refine (unhide HS).mono ?_; rintro e w1 ⟨rfl, hb⟩))
  go_ret
  exact ⟨rfl, hb⟩
/-- The document's Mint of what may be. -/
theorem rmint_yes (k : Int) (hk : isK k) (id : Nat) (s : Bs) (w : World) (h1 : 1 ≤ id) (h2 : id ≤ 4611686018427387904) (hs : s.length = 24) :
    Calls Tryz.prog 67 #[I k, I id, S s] w fun e w' => e = .returned (.tuple #[S (tkn k id s), I 0]) ∧ Below w.heap.size w w' := by
  have hn := nmd_len id s hs
  have hp := pre_len k
  have HK := hide (rprefix_yes k hk)
  have hpe : (pre k == []) = false := by rcases hk with rfl | rfl <;> rfl
  have HD : Hid (tkn k id s = pre k ++ enc names false (nmd id s ++ be 4 (crc (pre k ++ nmd id s)).toNat)) := hide rfl
  have HN : Hid (nmd id s = be 8 id ++ s) := hide rfl
  have hel : (enc names false (nmd id s ++ be 4 (crc (pre k ++ nmd id s)).toNat)).length = 48 := by rw [enc6_len, List.length_append, hn, be_len]
  have hbl : (nmd id s ++ be 4 (crc (pre k ++ nmd id s)).toNat).length = 36 := by rw [List.length_append, hn, be_len]
  have HCK := hide (rcheck_any (pre k ++ nmd id s) · (by rw [List.length_append]; omega))
  have HB8 := hide (big8_any id w h2)
  have hb8 := be_len 8 id
  have hsi : (s.length : Int) = 24 := by omega
  have h1i : (1 : Int) ≤ (id : Int) := by omega
  have h2i : (id : Int) ≤ 4611686018427387904 := by omega
  clear hk
  generalize tkn k id s = T at *
  generalize pre k = p at *
  go_enter Tryz.func67, Tryz.ntmps67
  go_wp2_with fail
  refine (unhide HK _).mono ?_
  rintro e w0 ⟨rfl, rfl⟩
  go_wp2_with fail
  refine (unhide HB8).mono ?_
  rintro e w1 ⟨rfl, hb1⟩
  have HB1 := hide hb1
  have hcat1 : (be 8 id).length + s.length ≤ 9223372036854775807 := by omega
  have hcat2 : p.length + (be 8 id ++ s).length ≤ 9223372036854775807 := by rw [List.length_append]; omega
  clear hb1
  go_wp2_with fail
  rw [ba_app (be 8 id) s, ← unhide HN, ba_app p (nmd id s)]
  refine (unhide HCK _).mono ?_
  rintro e w2 ⟨rfl, hb2⟩
  have HB2 := hide ((unhide HB1).trans (hb2.mono (unhide HB1).size))
  have hcl := be_len 4 (crc (p ++ nmd id s)).toNat
  clear hb2 HB1 HCK HN hcat1 hcat2
  generalize be 8 id = b8 at *
  generalize nmd id s = n at *
  generalize p ++ n = pn at *
  generalize be 4 (crc pn).toNat = ck at *
  have hcat3 : n.length + ck.length ≤ 9223372036854775807 := by omega
  go_wp2_with fail
  rw [ba_app n ck]
  refine (refbase64_any (n ++ ck) _ (by omega)).mono ?_
  rintro e w3 ⟨rfl, hb3⟩
  have HB3 := hide ((unhide HB2).trans (hb3.mono (unhide HB2).size))
  clear hb3 HB2 hcat3
  generalize enc names false (n ++ ck) = E at *
  have hcat4 : p.length + E.length ≤ 9223372036854775807 := by omega
  go_wp2
  go_ret2
  refine ⟨?_, unhide HB3⟩
  rw [unhide HD]
  show Ending.returned (.tuple #[.string ((⟨p.toArray⟩ : ByteArray) ++ ⟨E.toArray⟩), I 0]) = _
  rw [ba_app]
theorem rmint_no (k id : Int) (s : Bs) (w : World) (h : mnt k id s = ([], 1)) (hno : ¬ (isK k ∧ (1 ≤ id ∧ id ≤ 4611686018427387904) ∧ s.length = 24)) :
    Calls Tryz.prog 67 #[I k, I id, S s] w fun e w' => e = .returned (.tuple #[S [], I 1]) ∧ w' = w := by
  by_cases hk : isK k
  · have HK := hide (rprefix_yes k hk)
    have hpe : (pre k == []) = false := by rcases hk with rfl | rfl <;> rfl
    by_cases h1 : 1 ≤ id
    · by_cases h2 : id ≤ 4611686018427387904
      · have h3 : ¬ (s.length : Int) = 24 := fun q => hno ⟨hk, ⟨h1, h2⟩, by omega⟩
        have h3b : ((s.length : Int) != 24) = true := by simp; omega
        clear hk hno h
        generalize pre k = p at *
        go_enter Tryz.func67, Tryz.ntmps67
        go_wp2_with fail
        refine (unhide HK _).mono ?_
        rintro e w0 ⟨rfl, rfl⟩
        go_wp2
        go_ret2
        exact ⟨rfl, rfl⟩
      · clear hk hno h
        generalize pre k = p at *
        go_enter Tryz.func67, Tryz.ntmps67
        go_wp2_with fail
        refine (unhide HK _).mono ?_
        rintro e w0 ⟨rfl, rfl⟩
        go_wp2
        go_ret2
        exact ⟨rfl, rfl⟩
    · clear hk hno h
      generalize pre k = p at *
      go_enter Tryz.func67, Tryz.ntmps67
      go_wp2_with fail
      refine (unhide HK _).mono ?_
      rintro e w0 ⟨rfl, rfl⟩
      go_wp2
      go_ret2
      exact ⟨rfl, rfl⟩
  · have HK := hide (rprefix_no k hk)
    clear hk hno h
    go_enter Tryz.func67, Tryz.ntmps67
    go_wp2_with fail
    refine (unhide HK _).mono ?_
    rintro e w0 ⟨rfl, rfl⟩
    go_wp2
    go_ret2
    exact ⟨rfl, rfl⟩
theorem rmint_any (k id : Int) (s : Bs) (w : World) :
    Calls Tryz.prog 67 #[I k, I id, S s] w fun e w' => e = .returned (.tuple #[S (mnt k id s).1, I (mnt k id s).2]) ∧ Below w.heap.size w w' := by
  by_cases h : isK k ∧ (1 ≤ id ∧ id ≤ 4611686018427387904) ∧ s.length = 24
  · obtain ⟨n, rfl⟩ : ∃ n : Nat, id = n := ⟨id.toNat, by omega⟩
    have e : mnt k (n : Int) s = (tkn k n s, 0) := by unfold mnt; rw [if_pos (show (k = 1 ∨ k = 2) ∧ _ from h), Int.toNat_natCast]
    rw [e]
    exact rmint_yes k h.1 n s w (by omega) (by omega) h.2.2
  · have e : mnt k id s = ([], 1) := by unfold mnt; rw [if_neg (show ¬ ((k = 1 ∨ k = 2) ∧ _) from h)]
    rw [e]
    refine (rmint_no k id s w e h).mono ?_
    rintro e' w' ⟨rfl, rfl⟩
    exact ⟨rfl, Below.refl _ _⟩
theorem mnt_len (k id : Int) (s : Bs) : (mnt k id s).1.length ≤ 52 := by
  unfold mnt
  split
  · rename_i q
    rw [tkn_len k id.toNat s q.2.2]
    exact Nat.le_refl _
  · simp
end Go.Proofs.YtmjaobddgaglhaaGreatDoor
