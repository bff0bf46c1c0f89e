import Derived.Test.YtjopnhhdemfniaaGreatDoorZpgf
import Derived.Test.YtjopnhhdemfniaaGreatDoorZdsi
import Derived.BigRegion
import Derived.RegionTactic
import Derived.Test.YtjopnhhdemfniaaGreatDoorZhnu
namespace Go.Proofs.YtjopnhhdemfniaaGreatDoor
open Go.RowKit
set_option maxHeartbeats 8000000
set_option maxRecDepth 8000
def noHd : Hd := ⟨0, 0, 0, []⟩
def phr (s : Bs) : Hd × Int := match phd s with
  | some h => (h, 0)
  | none => (noHd, 90)
theorem slice64 (x : Bs) (hx : x.length = 512) (w : World) : (Instr.slice 9 (S x) none (some (.int .i64 64)) none).run Tryz.prog w = .ok (S (x.take 64)) w := by
  rw [run_slice_string_to_if (P := Tryz.prog) (w := w) 9 ⟨x.toArray⟩ .i64 64 Tryz.underlying9, if_pos (by simp [ByteArray.size, hx])]
  rw [show (64 : Int).toNat = 64 from rfl, extract_eq]
  simp
theorem parseHead_any (s : Bs) (w : World) : Calls Tryz.prog 25 #[S s] w fun e w' => e = .returned (.tuple #[I (phr s).1.gen, I (phr s).1.root, I (phr s).1.blocks, S (phr s).1.note, I (phr s).2]) ∧ Below w.heap.size w w' := by
  by_cases hs : s.length = 512
  · have hsi : ((s.length : Nat) : Int) = 512 := by omega
    have H0 := hide (guessHead_any s w hs)
    have HP := hide (phd_gH s hs)
    have hb := gH_note s
    have S1 := fun W => slice64 s hs W
    by_cases hm : (gH s).may = true
    · have hbl := Hd.blk_len (Hd.may_note hm)
      have htk := Hd.blk_take (Hd.may_note hm)
      have S2 := fun W => slice64 (gH s).blk hbl W
      rw [htk] at S2
      have HPR := hide (show prh (gH s) = ((gH s).blk, 0) by unfold prh; rw [if_pos hm])
      by_cases hk : (gH s).sec = s.take 64
      · have HPP := hide (show phr s = (gH s, 0) by unfold phr; rw [unhide HP, if_pos ⟨hm, hk⟩])
        rw [hk] at S2
        generalize (gH s).blk = KB at *
        generalize s.take 64 = S64 at *
        clear hm hk htk hbl
        go_enter Tryz.func25, Tryz.ntmps25
        go_wp2_with fail
        refine (unhide H0).mono ?_
        rintro e w1 ⟨rfl, b1⟩
        have bA := (Below.refl w1.heap.size w1).alloc (Nat.le_refl _) (.cells (hdc (gH s)) 123)
        have hg := heap_alloc_new w1 (.cells (hdc (gH s)) 123)
        have H1 := hide (printHead_any (gH s) (w1.alloc (.cells (hdc (gH s)) 123)) (by omega))
        rw [unhide HPR] at H1
        have B2 := hide (b1.trans (bA.mono b1.size))
        have HG := hide hg
        clear b1 bA hg
        unfold hda hdc at *
        go_wp2_with fail
        refine (unhide H1).mono ?_
        rintro e w2 ⟨rfl, b2⟩
        obtain ⟨d0, d1, d2, d3⟩ := box4 (unhide HG) b2 (lt_of_row (unhide HG))
        have B3 := hide ((unhide B2).trans (b2.mono (unhide B2).size))
        clear b2 H0 H1
        go_wp2
        go_region
        go_wp2
        go_quiet (fail)
        go_wp2
        refine bodyPost_ret (v := .tuple #[I (gH s).gen, I (gH s).root, I (gH s).blocks, S (gH s).note, I 0]) (by simp [results, Tryz.results25, go_sem]) rfl ?_
        refine ⟨?_, ?_⟩
        · rw [unhide HPP]
        · first | exact (unhide B3).drew | exact (unhide B3).drew.drewN _ | exact (unhide B3).trans ⟨rfl, rfl, rfl, Nat.le_refl _, fun _ _ => rfl⟩
      · have HPP := hide (show phr s = (noHd, 90) by unfold phr; rw [unhide HP, if_neg (fun q => hk q.2)])
        have hk2 : ((gH s).sec == s.take 64) = false := by rw [beq_eq_false_iff_ne]; exact hk
        generalize (gH s).blk = KB at *
        generalize s.take 64 = S64 at *
        generalize (gH s).sec = KS at *
        clear hm hk htk hbl
        go_enter Tryz.func25, Tryz.ntmps25
        go_wp2_with fail
        refine (unhide H0).mono ?_
        rintro e w1 ⟨rfl, b1⟩
        have bA := (Below.refl w1.heap.size w1).alloc (Nat.le_refl _) (.cells (hdc (gH s)) 123)
        have hg := heap_alloc_new w1 (.cells (hdc (gH s)) 123)
        have H1 := hide (printHead_any (gH s) (w1.alloc (.cells (hdc (gH s)) 123)) (by omega))
        rw [unhide HPR] at H1
        have B2 := hide (b1.trans (bA.mono b1.size))
        have HG := hide hg
        clear b1 bA hg
        unfold hda hdc at *
        go_wp2_with fail
        refine (unhide H1).mono ?_
        rintro e w2 ⟨rfl, b2⟩
        obtain ⟨d0, d1, d2, d3⟩ := box4 (unhide HG) b2 (lt_of_row (unhide HG))
        have B3 := hide ((unhide B2).trans (b2.mono (unhide B2).size))
        clear b2 H0 H1
        go_wp2
        go_region
        go_wp2
        refine bodyPost_ret (v := .tuple #[I 0, I 0, I 0, S [], I 90]) (by simp [results, Tryz.results25, go_sem]) rfl ?_
        refine ⟨?_, ?_⟩
        · rw [unhide HPP]; rfl
        · first | exact (unhide B3).drew | exact (unhide B3).drew.drewN _ | exact (unhide B3).trans ⟨rfl, rfl, rfl, Nat.le_refl _, fun _ _ => rfl⟩
    · have HPR := hide (show prh (gH s) = ([], 1) by unfold prh; rw [if_neg hm])
      have HPP := hide (show phr s = (noHd, 90) by unfold phr; rw [unhide HP, if_neg (fun q => hm q.1)])
      clear hm
      go_enter Tryz.func25, Tryz.ntmps25
      go_wp2_with fail
      refine (unhide H0).mono ?_
      rintro e w1 ⟨rfl, b1⟩
      have bA := (Below.refl w1.heap.size w1).alloc (Nat.le_refl _) (.cells (hdc (gH s)) 123)
      have hg := heap_alloc_new w1 (.cells (hdc (gH s)) 123)
      have H1 := hide (printHead_any (gH s) (w1.alloc (.cells (hdc (gH s)) 123)) (by omega))
      rw [unhide HPR] at H1
      have B2 := hide (b1.trans (bA.mono b1.size))
      have HG := hide hg
      clear b1 bA hg
      unfold hda hdc at *
      go_wp2_with fail
      refine (unhide H1).mono ?_
      rintro e w2 ⟨rfl, b2⟩
      obtain ⟨d0, d1, d2, d3⟩ := box4 (unhide HG) b2 (lt_of_row (unhide HG))
      have B3 := hide ((unhide B2).trans (b2.mono (unhide B2).size))
      clear b2 H0 H1
      go_wp2
      go_region
      go_wp2
      refine bodyPost_ret (v := .tuple #[I 0, I 0, I 0, S [], I 90]) (by simp [results, Tryz.results25, go_sem]) rfl ?_
      refine ⟨?_, ?_⟩
      · rw [unhide HPP]; rfl
      · first | exact (unhide B3).drew | exact (unhide B3).drew.drewN _ | exact (unhide B3).trans ⟨rfl, rfl, rfl, Nat.le_refl _, fun _ _ => rfl⟩
  · have hsi : ¬ ((s.length : Nat) : Int) = 512 := by omega
    have hp : phd s = none := by
      cases q : phd s with
      | none => rfl
      | some p => exact absurd (phd_some q).1 hs
    have HPP := hide (show phr s = (noHd, 90) by unfold phr; rw [hp])
    go_enter Tryz.func25, Tryz.ntmps25
    go_wp2
    refine bodyPost_ret (v := .tuple #[I 0, I 0, I 0, S [], I 90]) (by simp [results, Tryz.results25, go_sem]) rfl ?_
    refine ⟨?_, ?_⟩
    · rw [unhide HPP]; rfl
    · exact Below.refl _ _
end Go.Proofs.YtjopnhhdemfniaaGreatDoor
namespace Go.Proofs.YtjopnhhdemfniaaGreatDoor
open Go.RowKit
def addv (n m : Int) : Int := if 2147483647 - n < m then 2147483648 else n + m
def pkv (c : Int) (n : Nat) : Nat := ((if c < 0 then -(c + 1) else c) % n).toNat
theorem pkv_lt (c : Int) (n : Nat) (h : 0 < n) : pkv c n < n := by
  unfold pkv
  have h1 := Int.emod_lt_of_pos (if c < 0 then -(c + 1) else c) (show (0 : Int) < n by omega)
  have h2 := Int.emod_nonneg (if c < 0 then -(c + 1) else c) (show (n : Int) ≠ 0 by omega)
  omega
set_option maxHeartbeats 2000000 in
theorem pick_any (c : Int) (n : Nat) (w : World) (hn : 0 < n) (hn2 : n ≤ 9000000000000000000) (h1 : -9223372036854775808 ≤ c) (h2 : c ≤ 9223372036854775807) : Calls Tryz.prog 18 #[.int .i64 c, .int .i64 (n : Int)] w fun e w' => e = .returned (.int .i64 (pkv c n : Nat)) ∧ w' = w := by
  have hni : ¬ (n : Int) = 0 := by omega
  by_cases h : c < 0
  · have e : ((pkv c n : Nat) : Int) = Int.tmod (-(c + 1)) n := by
      unfold pkv
      rw [if_pos h, Int.tmod_eq_emod_of_nonneg (by omega)]
      have := Int.emod_nonneg (-(c + 1)) (show (n : Int) ≠ 0 by omega)
      omega
    have HE := hide e
    clear e
    go_enter Tryz.func18, Tryz.ntmps18
    go_wp2
    go_ret
    exact ⟨ret_int (by rw [unhide HE, Int.neg_tmod]), rfl⟩
  · have e : ((pkv c n : Nat) : Int) = c % n := by
      unfold pkv
      rw [if_neg h]
      have := Int.emod_nonneg c (show (n : Int) ≠ 0 by omega)
      omega
    have HE := hide e
    clear e
    go_enter Tryz.func18, Tryz.ntmps18
    go_wp2
    go_ret
    exact ⟨ret_int (unhide HE).symm, rfl⟩
/-- A note of a raw number. -/
def nte (c : Int) : Bs := UInt8.ofNat (c % 256).toNat :: (List.replicate 14 0 ++ [UInt8.ofNat (c / 256 % 256).toNat])
theorem nte_len (c : Int) : (nte c).length = 16 := by simp [nte]
set_option maxHeartbeats 4000000 in
set_option maxRecDepth 8000 in
theorem note9_any (c : Int) (w : World) : Calls Tryz.prog 22 #[I c] w fun e w' => e = .returned (S (nte c)) ∧ Below w.heap.size w w' := by
  have hw1 : IntKind.u8.wrap c = c % 256 := IntKind.wrap_u8 c
  have hw2 : IntKind.u8.wrap (c / 256) = c / 256 % 256 := IntKind.wrap_u8 _
  go_enter Tryz.func22, Tryz.ntmps22
  have hl : ((List.replicate 16 (Value.int .u8 0)).set 0 (.int .u8 (c % 256))).set 15 (.int .u8 (c / 256 % 256)) = (nte c).map fun x => Value.int .u8 (x.toNat : Int) := by
    have e1 : ((UInt8.ofNat (c % 256).toNat).toNat : Int) = c % 256 := by rw [UInt8.toNat_ofNat']; omega
    have e2 : ((UInt8.ofNat (c / 256 % 256).toNat).toNat : Int) = c / 256 % 256 := by rw [UInt8.toNat_ofNat']; omega
    unfold nte
    rw [List.map_cons, List.map_append, List.map_cons, e1, e2]
    rfl
  go_wp2_with (first
    | (refine make1 inf5 Tryz.underlying117 rfl (.const (.int .i64 16)) (.const (.int .i64 16)) rfl _ _ 16 (by rfl) (by rfl) rfl rfl (by omega) ?_; intro w1 hb1 k1; have q0 := hb1.cell 0; have q15 := hb1.cell 15; have z0 := hb1.fz 0; have z15 := hb1.fz 15
       have hs := (hb1.set 0 (.int .u8 (c % 256))).set 15 (.int .u8 (c / 256 % 256))
       rw [hl] at hs
       have HX := hide (run_text _ w.heap.size 0 16 16 (nte c) (nte_len c) (fun j hj => by rw [Nat.zero_add, hs.cell]; simp [nte_len, hj]))
       have HK := hide ((k1.setCell (p := ⟨w.heap.size, 0, none⟩) (Nat.le_refl _) (.int .u8 (c % 256))).setCell (p := ⟨w.heap.size, 15, none⟩) (Nat.le_refl _) (.int .u8 (c / 256 % 256)))
       clear hb1 k1 hs)
    | (refine wpList_conv rfl 117 9 (.tmp 14) rfl _ _ (by rfl) (unhide HX) ?_))
  go_ret
  exact ⟨rfl, unhide HK⟩
end Go.Proofs.YtjopnhhdemfniaaGreatDoor
