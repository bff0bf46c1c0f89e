import Derived.Test.YtmjaobddgaglhaaGreatDoorTkc
import Derived.OwnWalk
import Derived.Test.YtmjaobddgaglhaaGreatDoorZkwrtd
import Derived.Test.YtmjaobddgaglhaaGreatDoorZhcrc
namespace Go.Proofs.YtmjaobddgaglhaaGreatDoor
open Go.RowKit Go.Lib Sha
set_option maxHeartbeats 4000000
set_option maxRecDepth 8000
/- The document's own answer. -/
theorem rprefix_yes (k : Int) (hk : isK k) (w : World) : Calls Tryz.prog 82 #[I k] w fun e w' => e = .returned (S (pre k)) ∧ w' = w := by
  rcases hk with rfl | rfl
  · go_enter Tryz.func82, Tryz.ntmps82
    go_wp2
    go_ret
    exact ⟨rfl, rfl⟩
  · go_enter Tryz.func82, Tryz.ntmps82
    go_wp2
    go_ret
    exact ⟨rfl, rfl⟩
theorem rprefix_no (k : Int) (hk : ¬ isK k) (w : World) : Calls Tryz.prog 82 #[I k] w fun e w' => e = .returned (S []) ∧ w' = w := by
  have hk1 : ¬ k = 1 := fun q => hk (.inl q)
  have hk2 : ¬ k = 2 := fun q => hk (.inr q)
  clear hk
  go_enter Tryz.func82, Tryz.ntmps82
  go_wp2
  go_ret
  exact ⟨rfl, rfl⟩
theorem big4_any (n : Nat) (w : World) (hn : n < 4294967296) :
    Calls Tryz.prog 83 #[I n, I 4] w fun e w' => e = .returned (S (be 4 n)) ∧ Below w.heap.size w w' := by
  go_enter Tryz.func83, Tryz.ntmps83
  go_wp2_with (refine make1 inf5 Tryz.underlying101 rfl (.tmp 7) (.tmp 7) rfl _ _ 4 (by rfl) (by rfl) rfl rfl (by omega) ?_; intro w1 hb1 k1)
  rw [← bws_zero 4 n] at hb1
  have HB := hide hb1
  have HK := hide k1
  clear hb1 k1
  go_loopw [6] (fun i wr => ∃ k : Nat, k ≤ 4 ∧ i = .int .i64 (k : Int) ∧ Rw 5 w.heap.size (bws 4 n k) wr ∧ Below w.heap.size w wr) (fun i _ => 4 - (Go.RowKit.intOf i).toNat)
  case atStart => exact ⟨0, by omega, by simp, unhide HB, unhide HK⟩
  case round =>
    obtain ⟨k, hk, rfl, hrw, hbr⟩ := hrel
    by_cases hlt : k < 4
    · have hst := hrw.set (4 - 1 - k) (.int .u8 ((UInt8.ofNat (n / 256 ^ k)).toNat : Int))
      rw [bws_step 4 n k hlt] at hst
      have hb : ((UInt8.ofNat (n / 256 ^ k)).toNat : Int) = ((n / 256 ^ k : Nat) : Int) % 256 := by
        rw [UInt8.toNat_ofNat']
        omega
      rw [hb] at hst
      have hcell := hrw.cell (4 - 1 - k)
      rw [List.getElem?_eq_getElem (show 4 - 1 - k < (bws 4 n k).length by unfold bws; simp; omega)] at hcell
      have hfz := hrw.fz (4 - 1 - k)
      obtain ⟨v0, hv0⟩ : ∃ v0, (bws 4 n k)[4 - 1 - k]'(by unfold bws; simp; omega) = v0 := ⟨_, rfl⟩
      rw [hv0] at hcell
      have HST := hide hst
      have HBR := hide (hbr.setCell (p := ⟨w.heap.size, 4 - 1 - k, none⟩) (Nat.le_refl _) (.int .u8 (((n / 256 ^ k : Nat) : Int) % 256)))
      clear hst hb hrw hbr hv0
      rcases (by omega : k = 0 ∨ k = 1 ∨ k = 2 ∨ k = 3) with rfl | rfl | rfl | rfl
      · go_wp2
        refine ⟨⟨1, by omega, rfl, ?_, ?_⟩, by simp [Go.RowKit.intOf]⟩
        · first | exact unhide HST | (simpa using unhide HST)
        · first | exact unhide HBR | (simpa using unhide HBR)
      · go_wp2
        refine ⟨⟨2, by omega, rfl, ?_, ?_⟩, by simp [Go.RowKit.intOf]⟩
        · first | exact unhide HST | (simpa using unhide HST)
        · first | exact unhide HBR | (simpa using unhide HBR)
      · go_wp2
        refine ⟨⟨3, by omega, rfl, ?_, ?_⟩, by simp [Go.RowKit.intOf]⟩
        · first | exact unhide HST | (simpa using unhide HST)
        · first | exact unhide HBR | (simpa using unhide HBR)
      · go_wp2
        have e3 : (((n / 256 ^ 3 : Nat) : Int) % 256) = (n : Int) / 16777216 := by
          rw [show (256 : Nat) ^ 3 = 16777216 by decide]
          omega
        have g1 := unhide HST
        have g2 := unhide HBR
        rw [e3] at g1 g2
        exact ⟨⟨4, by omega, rfl, g1, g2⟩, by simp [Go.RowKit.intOf]⟩
    · have hks : k = 4 := by omega
      subst hks
      have hcells : ∀ j, j < 4 → wr.cell? ⟨w.heap.size, 0 + j, none⟩ = some (.int .u8 (((be 4 n).getD j 0).toNat : Int)) := fun j hj => by
        rw [Nat.zero_add, hrw.cell, bws_at 4 n j hj]
      have HX := hide (run_text wr w.heap.size 0 4 4 (be 4 n) (be_len 4 n) hcells)
      have HBR := hide hbr
      clear hcells hrw hbr
      go_wp2_with (refine wpList_conv rfl 101 9 (.tmp 25) rfl _ _ (by rfl) (unhide HX) ?_)
      go_ret
      exact ⟨rfl, unhide HBR⟩
end Go.Proofs.YtmjaobddgaglhaaGreatDoor
