import Derived.Test.YtjopnhhdemfniaaGreatDoorZpgf
import Derived.Test.YtjopnhhdemfniaaGreatDoorZdsi
import Derived.BigRegion
import Derived.RegionTactic
namespace Go.Proofs.YtjopnhhdemfniaaGreatDoor
open Go.RowKit
set_option maxHeartbeats 8000000
set_option maxRecDepth 8000
def noHd : Hd := ⟨0, 0, 0, []⟩
def phr (s : Bs) : Hd × Int := match phd s with
  | some h => (h, 0)
  | none => (noHd, 90)
theorem slice64 (x : Bs) (hx : x.length = 512) (w : World) : (Instr.slice 9 (S x) none (some (.int .i64 64)) none).run Tryz.prog w = .ok (S (x.take 64)) w := by
  rw [run_slice_string_to_if (P := Tryz.prog) (w := w) 9 ⟨x.toArray⟩ .i64 64 Tryz.underlying9, if_pos (by simp [ByteArray.size, hx])]
  rw [show (64 : Int).toNat = 64 from rfl, extract_eq]
  simp
theorem parseHead_any (s : Bs) (w : World) : Calls Tryz.prog 25 #[S s] w fun e w' => e = .returned (.tuple #[I (phr s).1.gen, I (phr s).1.root, I (phr s).1.blocks, S (phr s).1.note, I (phr s).2]) ∧ Below w.heap.size w w' := by
  by_cases hs : s.length = 512
  · have hsi : ((s.length : Nat) : Int) = 512 := by omega
    have H0 := hide (guessHead_any s w hs)
    have HP := hide (phd_gH s hs)
    have hb := gH_note s
    have S1 := fun W => slice64 s hs W
    by_cases hm : (gH s).may = true
    · have hbl := Hd.blk_len (Hd.may_note hm)
      have htk := Hd.blk_take (Hd.may_note hm)
      have S2 := fun W => slice64 (gH s).blk hbl W
      rw [htk] at S2
      have HPR := hide (show prh (gH s) = ((gH s).blk, 0) by unfold prh; rw [if_pos hm])
      by_cases hk : (gH s).sec = s.take 64
      · have HPP := hide (show phr s = (gH s, 0) by unfold phr; rw [unhide HP, if_pos ⟨hm, hk⟩])
        rw [hk] at S2
        generalize (gH s).blk = KB at *
        generalize s.take 64 = S64 at *
        clear hm hk htk hbl
        go_enter Tryz.func25, Tryz.ntmps25
        go_wp2_with fail
        refine (unhide H0).mono ?_
        rintro e w1 ⟨rfl, b1⟩
        have bA := (Below.refl w1.heap.size w1).alloc (Nat.le_refl _) (.cells (hdc (gH s)) 123)
        have hg := heap_alloc_new w1 (.cells (hdc (gH s)) 123)
        have H1 := hide (printHead_any (gH s) (w1.alloc (.cells (hdc (gH s)) 123)) (by omega))
        rw [unhide HPR] at H1
        have B2 := hide (b1.trans (bA.mono b1.size))
        have HG := hide hg
        clear b1 bA hg
        unfold hda hdc at *
        go_wp2_with fail
        refine (unhide H1).mono ?_
        rintro e w2 ⟨rfl, b2⟩
        obtain ⟨d0, d1, d2, d3⟩ := box4 (unhide HG) b2 (lt_of_row (unhide HG))
        have B3 := hide ((unhide B2).trans (b2.mono (unhide B2).size))
        clear b2 H0 H1
        go_wp2
        go_region
        go_wp2
        go_quiet (fail)
        go_wp2
        refine bodyPost_ret (v := .tuple #[I (gH s).gen, I (gH s).root, I (gH s).blocks, S (gH s).note, I 0]) (by simp [results, Tryz.results25, go_sem]) rfl ?_
        refine ⟨?_, ?_⟩
        · rw [unhide HPP]
        · first | exact (unhide B3).drew | exact (unhide B3).drew.drewN _ | exact (unhide B3).trans ⟨rfl, rfl, rfl, Nat.le_refl _, fun _ _ => rfl⟩
      · have HPP := hide (show phr s = (noHd, 90) by unfold phr; rw [unhide HP, if_neg (fun q => hk q.2)])
        have hk2 : ((gH s).sec == s.take 64) = false := by rw [beq_eq_false_iff_ne]; exact hk
        generalize (gH s).blk = KB at *
        generalize s.take 64 = S64 at *
        generalize (gH s).sec = KS at *
        clear hm hk htk hbl
        go_enter Tryz.func25, Tryz.ntmps25
        go_wp2_with fail
        refine (unhide H0).mono ?_
        rintro e w1 ⟨rfl, b1⟩
        have bA := (Below.refl w1.heap.size w1).alloc (Nat.le_refl _) (.cells (hdc (gH s)) 123)
        have hg := heap_alloc_new w1 (.cells (hdc (gH s)) 123)
        have H1 := hide (printHead_any (gH s) (w1.alloc (.cells (hdc (gH s)) 123)) (by omega))
        rw [unhide HPR] at H1
        have B2 := hide (b1.trans (bA.mono b1.size))
        have HG := hide hg
        clear b1 bA hg
        unfold hda hdc at *
        go_wp2_with fail
        refine (unhide H1).mono ?_
        rintro e w2 ⟨rfl, b2⟩
        obtain ⟨d0, d1, d2, d3⟩ := box4 (unhide HG) b2 (lt_of_row (unhide HG))
        have B3 := hide ((unhide B2).trans (b2.mono (unhide B2).size))
        clear b2 H0 H1
        go_wp2
        go_region
        go_wp2
        refine bodyPost_ret (v := .tuple #[I 0, I 0, I 0, S [], I 90]) (by simp [results, Tryz.results25, go_sem]) rfl ?_
        refine ⟨?_, ?_⟩
        · rw [unhide HPP]; rfl
        · first | exact (unhide B3).drew | exact (unhide B3).drew.drewN _ | exact (unhide B3).trans ⟨rfl, rfl, rfl, Nat.le_refl _, fun _ _ => rfl⟩
    · have HPR := hide (show prh (gH s) = ([], 1) by unfold prh; rw [if_neg hm])
      have HPP := hide (show phr s = (noHd, 90) by unfold phr; rw [unhide HP, if_neg (fun q => hm q.1)])
      clear hm
      go_enter Tryz.func25, Tryz.ntmps25
      go_wp2_with fail
      refine (unhide H0).mono ?_
      rintro e w1 ⟨rfl, b1⟩
      have bA := (Below.refl w1.heap.size w1).alloc (Nat.le_refl _) (.cells (hdc (gH s)) 123)
      have hg := heap_alloc_new w1 (.cells (hdc (gH s)) 123)
      have H1 := hide (printHead_any (gH s) (w1.alloc (.cells (hdc (gH s)) 123)) (by omega))
      rw [unhide HPR] at H1
      have B2 := hide (b1.trans (bA.mono b1.size))
      have HG := hide hg
      clear b1 bA hg
      unfold hda hdc at *
      go_wp2_with fail
      refine (unhide H1).mono ?_
      rintro e w2 ⟨rfl, b2⟩
      obtain ⟨d0, d1, d2, d3⟩ := box4 (unhide HG) b2 (lt_of_row (unhide HG))
      have B3 := hide ((unhide B2).trans (b2.mono (unhide B2).size))
      clear b2 H0 H1
      go_wp2
      go_region
      go_wp2
      refine bodyPost_ret (v := .tuple #[I 0, I 0, I 0, S [], I 90]) (by simp [results, Tryz.results25, go_sem]) rfl ?_
      refine ⟨?_, ?_⟩
      · rw [unhide HPP]; rfl
      · first | exact (unhide B3).drew | exact (unhide B3).drew.drewN _ | exact (unhide B3).trans ⟨rfl, rfl, rfl, Nat.le_refl _, fun _ _ => rfl⟩
  · have hsi : ¬ ((s.length : Nat) : Int) = 512 := by omega
    have hp : phd s = none := by
      cases q : phd s with
      | none => rfl
      | some p => exact absurd (phd_some q).1 hs
    have HPP := hide (show phr s = (noHd, 90) by unfold phr; rw [hp])
    go_enter Tryz.func25, Tryz.ntmps25
    go_wp2
    refine bodyPost_ret (v := .tuple #[I 0, I 0, I 0, S [], I 90]) (by simp [results, Tryz.results25, go_sem]) rfl ?_
    refine ⟨?_, ?_⟩
    · rw [unhide HPP]; rfl
    · exact Below.refl _ _
end Go.Proofs.YtjopnhhdemfniaaGreatDoor
