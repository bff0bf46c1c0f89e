import Derived.Test.YtjopnhhdemfniaaGreatDoorPmk
import Derived.Test.YtjopnhhdemfniaaGreatDoorRgpw
import Derived.Test.YtjopnhhdemfniaaGreatDoorPjm
namespace Go.Proofs.YtjopnhhdemfniaaGreatDoor
open Go.RowKit
set_option maxHeartbeats 8000000
set_option maxRecDepth 8000
theorem summed_any (s : Bs) (w : World) : Calls Tryz.prog 17 #[S s] w fun e w' => ∃ Y : Bs, e = .returned (S Y) ∧ Below w.heap.size w w' := by
  by_cases h5 : s.length = 512
  · have hsi : ((s.length : Nat) : Int) = 512 := by omega
    have hl := h5
    have H0 := hide (fun W => refcrc_any (s.take 508) W (by simp; omega))
    have H1 := hide (fun W => by_any 4 (crc (s.take 508)).toNat W (by omega) (by omega) (by have := (crc (s.take 508)).toNat_lt; omega))
    have hu : u (crc (s.take 508)) = ((crc (s.take 508)).toNat : Int) := rfl
    rw [hu] at H0
    have HL := hide (And.intro (be_len 4 (crc (s.take 508)).toNat) h5)
    have hlt : (crc (s.take 508)).toNat < 4294967296 := (crc (s.take 508)).toNat_lt
    have HLT := hide hlt
    clear hu hlt h5 hl
    generalize hb : be 4 (crc (s.take 508)).toNat = BC at *
    clear hb
    generalize (crc (s.take 508)).toNat = c at *
    go_enter Tryz.func17, Tryz.ntmps17
    go_upto_region 3 with fail
    refine rsm3 s BC c (by kernel_rfl) (by kernel_rfl) (by kernel_rfl) _ _ (by show 15 ≤ Array.size _; simp) rfl (fun _ _ W => Below w.heap.size w W) ⟨(), (Below.refl _ _).drew⟩ (fun _ _ _ _ _ q => q) ?_ ?_ ?_ ?_ ?_ ?_ ?_
    · exact fun W => s_to s 508 (by have := unhide HL; omega)
    · exact fun W => s_to s 508 (by have := unhide HL; omega)
    · intro _ L W q _ _
      refine (unhide H0 W).mono ?_
      rintro e w' ⟨rfl, hw⟩
      rw [hw]
      exact ⟨(), fun _ _ => rfl, rfl, q⟩
    · exact fun W => s_u32 c (unhide HLT) W
    · intro _ L W q _ _
      refine (unhide H1 W).mono ?_
      rintro e w' ⟨rfl, q1⟩
      exact ⟨(), fun _ _ => rfl, rfl, q.trans (q1.mono q.size)⟩
    · exact fun W => s_cat _ _ _ BC (by have := unhide HL; simp; omega)
    intro _ L W _ hW
    have HW := hide hW
    clear hW
    simp only [Act.put, List.setIfInBounds_toArray, List.set_cons_succ, List.set_cons_zero]
    go_wp2
    go_ret
    exact ⟨_, rfl, unhide HW⟩
  · have hsi : ¬ ((s.length : Nat) : Int) = 512 := by omega
    have hsn : ((s.length : Int) != 512) = true := by simpa using hsi
    clear h5 hsi
    go_enter Tryz.func17, Tryz.ntmps17
    go_wp2
    go_ret
    exact ⟨s, rfl, Below.refl _ _⟩
end Go.Proofs.YtjopnhhdemfniaaGreatDoor
