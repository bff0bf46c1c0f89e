import Derived.Test.YtbeionikiiccpaaDoorHwor
namespace Go.Proofs.YtbeionikiiccpaaDoor
open Go.RowKit
open Sha
set_option maxRecDepth 8000
theorem ks_len : ks.length = 64 := by rfl
set_option maxHeartbeats 1000000 in
set_option maxRecDepth 100000 in
theorem rounds_any (w : World) :
    Calls Tryd.prog 61 #[] w fun e w' => e = .returned (.agg (cU ks)) ∧ Below w.heap.size w w' := by
  have hr := Row.new w (cU z64) 105
  rw [z64_lit] at hr
  go_enter Tryd.func61, Tryd.ntmps61
  go_wp2_with (first | (refine wpList_build rfl 105 _ rfl (by kernel_rfl) ?_) | (refine wpList_store_row rfl 105 (.tmp 0) (.tmp 1) rfl w.heap.size (cU ks) rfl (by kernel_rfl) 105 _ hr (sz74 ks_len) (by rw [cU_size, ks_len]; rfl) (cU_one _) ?_))
  have hs := hr.setRow (cU ks)
  exact bodyPost_ret (v := .agg (cU ks)) (results_cell_row Tryd.results61 _ _ w.heap.size 105 (cU ks) (0, 0) _ rfl hs Tryd.underlying105 rfl (sz74 ks_len)) rfl ⟨rfl, below_row ((Below.refl _ _).alloc (Nat.le_refl _) _) (Nat.le_refl _) _⟩
theorem s0_lit : cU s0.l = #[.int .u32 1779033703, .int .u32 3144134277, .int .u32 1013904242, .int .u32 2773480762, .int .u32 1359893119, .int .u32 2600822924, .int .u32 528734635, .int .u32 1541459225] := by rfl
set_option maxHeartbeats 1000000 in
theorem start_any (w : World) :
    Calls Tryd.prog 43 #[] w fun e w' => e = .returned (.agg (cU s0.l)) ∧ Below w.heap.size w w' := by
  rw [s0_lit]
  go_enter Tryd.func43, Tryd.ntmps43
  go_wp2
  exact bodyPost_ret (v := .agg #[.int .u32 1779033703, .int .u32 3144134277, .int .u32 1013904242, .int .u32 2773480762, .int .u32 1359893119, .int .u32 2600822924, .int .u32 528734635, .int .u32 1541459225]) (by simp [results, Tryd.results43, go_sem]) rfl ⟨rfl, (Below.refl _ _).alloc (Nat.le_refl _) _⟩
end Go.Proofs.YtbeionikiiccpaaDoor
