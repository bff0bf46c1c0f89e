import Derived.Test.YtjopnhhdemfniaaGreatDoorPja
import Derived.Test.YtjopnhhdemfniaaGreatDoorZdetl
namespace Go.Proofs.YtjopnhhdemfniaaGreatDoor
open Go.RowKit
set_option maxHeartbeats 4000000
set_option maxRecDepth 8000
/-- A head with its sum set right. -/
def crw (s : Bs) : Bs := s.take 36 ++ be 4 (crc (s.take 36)).toNat ++ s.drop 40
theorem s_u32 (n : Nat) (hn : n < 4294967296) (W : World) : (convert 118 3 (.int .u32 (n : Int))).run Tryz.prog W = .ok (I (n : Int)) W := by
  have q : IntKind.i64.wrap (n : Int) = (n : Int) := by rw [IntKind.wrap_i64]; omega
  simp [go_sem, q, Tryz.underlying118, Tryz.underlying3]
theorem crowned_any (s : Bs) (w : World) (hs : s.length ≤ 100000000000) (h40 : 40 ≤ s.length) : Calls Tryz.prog 24 #[S s] w fun e w' => e = .returned (S (crw s)) ∧ Below w.heap.size w w' := by
  have H0 := hide (fun W => refcrc_any (s.take 36) W (by simp; omega))
  have H1 := hide (fun W => by_any 4 (crc (s.take 36)).toNat W (by omega) (by omega) (by have := (crc (s.take 36)).toNat_lt; omega))
  have hu : u (crc (s.take 36)) = ((crc (s.take 36)).toNat : Int) := rfl
  rw [hu] at H0
  have HC := hide (show crw s = s.take 36 ++ be 4 (crc (s.take 36)).toNat ++ s.drop 40 from rfl)
  have HL := hide (And.intro (be_len 4 (crc (s.take 36)).toNat) (And.intro hs h40))
  have hlt : (crc (s.take 36)).toNat < 4294967296 := (crc (s.take 36)).toNat_lt
  have HLT := hide hlt
  clear hu hlt hs h40
  generalize crw s = R at *
  generalize hb : be 4 (crc (s.take 36)).toNat = BC at *
  clear hb
  generalize (crc (s.take 36)).toNat = c at *
  go_enter Tryz.func24, Tryz.ntmps24
  go_wp2
  go_upto_region 1 with fail
  refine rcwn s BC c (by kernel_rfl) (by kernel_rfl) (by kernel_rfl) _ _ (by show 14 ≤ Array.size _; simp) rfl (fun _ _ W => Below w.heap.size w W) ⟨(), (Below.refl _ _).drew⟩ (fun _ _ _ _ _ q => q) ?_ ?_ ?_ ?_ ?_ ?_ ?_ ?_ ?_
  · exact fun W => s_to s 36 (by have := unhide HL; omega)
  · exact fun W => s_to s 36 (by have := unhide HL; omega)
  · intro _ L W q _ _
    refine (unhide H0 W).mono ?_
    rintro e w' ⟨rfl, hw⟩
    rw [hw]
    exact ⟨(), fun _ _ => rfl, rfl, q⟩
  · exact fun W => s_u32 c (unhide HLT) W
  · intro _ L W q _ _
    refine (unhide H1 W).mono ?_
    rintro e w' ⟨rfl, q1⟩
    exact ⟨(), fun _ _ => rfl, rfl, q.trans (q1.mono q.size)⟩
  · exact fun W => s_cat _ _ _ BC (by have := unhide HL; simp; omega)
  · exact fun W => s_from s 40 (by have := unhide HL; omega)
  · exact fun W => s_cat _ _ _ _ (by have := unhide HL; simp; omega)
  intro _ L W _ hW
  have HW := hide hW
  clear hW
  simp only [Act.put, List.setIfInBounds_toArray, List.set_cons_succ, List.set_cons_zero]
  go_wp2
  go_ret
  exact ⟨by rw [unhide HC]; rfl, unhide HW⟩
end Go.Proofs.YtjopnhhdemfniaaGreatDoor
