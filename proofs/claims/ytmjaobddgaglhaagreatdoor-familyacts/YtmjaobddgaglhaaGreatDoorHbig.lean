import Derived.Test.YtmjaobddgaglhaaGreatDoorZhbka
import Derived.Test.YtmjaobddgaglhaaGreatDoorHstr
import Derived.Test.YtmjaobddgaglhaaGreatDoorZhwor
namespace Go.Proofs.YtmjaobddgaglhaaGreatDoor
open Go.RowKit
open Sha
set_option maxRecDepth 8000
set_option maxHeartbeats 1000000 in
set_option maxRecDepth 100000 in
theorem table_any (w : World) :
    Calls Tryz.prog 119 #[] w fun e w' => e = .returned (.agg (cI ks)) ∧ Below w.heap.size w w' := by
  have hr := RowK.new w (cI z64) 150
  rw [zi64] at hr
  go_enter Tryz.func119, Tryz.ntmps119
  go_wp2_with (first | (refine wpList_build rfl 150 _ rfl (by kernel_rfl) ?_) | (refine wpList_store_row rfl 150 (.tmp 0) (.tmp 1) rfl w.heap.size (cI ks) rfl (by kernel_rfl) 150 _ hr (sz58 ks_len) (by rw [cI_size, ks_len]; rfl) (cI_one _) ?_))
  have hs := hr.setRow (cI ks)
  exact bodyPost_ret (v := .agg (cI ks)) (results_cell_row Tryz.results119 _ _ w.heap.size 150 (cI ks) (0, 0) _ rfl hs Tryz.underlying150 rfl (sz58 ks_len)) rfl ⟨rfl, below_row ((Below.refl _ _).alloc (Nat.le_refl _) _) (Nat.le_refl _) _⟩
set_option maxHeartbeats 1000000 in
theorem first_anyK (w : World) :
    Calls Tryz.prog 118 #[] w fun e w' => e = .returned (.agg (cI s0.l)) ∧ Below w.heap.size w w' := by
  have hr := RowK.new w (cI z8) 148
  rw [zi8] at hr
  go_enter Tryz.func118, Tryz.ntmps118
  go_wp2_with (first | (refine wpList_build rfl 148 _ rfl (by kernel_rfl) ?_) | (refine wpList_store_row rfl 148 (.tmp 0) (.tmp 1) rfl w.heap.size (cI s0.l) rfl (by kernel_rfl) 148 _ hr (sz56 rfl) (by rw [cI_size]; rfl) (cI_one _) ?_))
  have hs := hr.setRow (cI s0.l)
  exact bodyPost_ret (v := .agg (cI s0.l)) (results_cell_row Tryz.results118 _ _ w.heap.size 148 (cI s0.l) (0, 0) _ rfl hs Tryz.underlying148 rfl (sz56 rfl)) rfl ⟨rfl, below_row ((Below.refl _ _).alloc (Nat.le_refl _) _) (Nat.le_refl _) _⟩
/-- The bytes of a number that are laid down last. -/
def nbb (n size k : Nat) : List UInt8 := (List.range size).map fun i => if size ≤ i + k then UInt8.ofNat (n / 2 ^ (8 * (size - 1 - i))) else 0
theorem nbb_len (n size k : Nat) : (nbb n size k).length = size := by simp [nbb]
theorem nbb_all (n size : Nat) : nbb n size size = nb n size := by
  unfold nbb nb
  apply List.map_congr_left
  intro i hi
  rw [if_pos (by omega)]
theorem nbb_zero (n size : Nat) : nbb n size 0 = nbk 0 size 0 := by
  unfold nbb nbk
  apply List.map_congr_left
  intro i hi
  have : i < size := by simpa using hi
  rw [if_neg (by omega), if_neg (by omega)]
theorem nbb_next (n size k : Nat) (h : k < size) : nbb n size (k + 1) = (nbb n size k).set (size - 1 - k) (UInt8.ofNat (n / 2 ^ (8 * k))) := by
  apply List.ext_getElem?
  intro i
  rw [List.getElem?_set]
  by_cases hi : i < size
  · by_cases e : size - 1 - k = i
    · subst e
      have e1 : size ≤ size - 1 - k + (k + 1) := by omega
      have e2 : size - 1 - (size - 1 - k) = k := by omega
      simp [nbb, hi, e1, e2]
    · have : (size ≤ i + (k + 1)) = (size ≤ i + k) := by simp; omega
      simp [nbb, hi, e, this]
  · simp [nbb, hi]; omega
set_option maxHeartbeats 1000000 in
theorem big_any (n size : Nat) (w : World) (_hn : n < 9223372036854775808) (h1 : 1 ≤ size) (h8 : size ≤ 8) :
    Calls Tryz.prog 121 #[.int .i64 n, .int .i64 size] w fun e w' => e = .returned (.string ⟨(nb n size).toArray⟩) ∧ Below w.heap.size w w' := by
  obtain ⟨i0, hi, hz0, hz1, hz2⟩ := info_parts info5H
  go_enter Tryz.func121, Tryz.ntmps121
  go_wp2_with (refine wpList_make_full _ rfl (.tmp 7) (.tmp 7) 101 rfl w.heap.size 5 i0 (.int .u8 0) 1 Tryz.underlying101 hi hz0 hz1 .i64 .i64 size size size (by rfl) (by rfl) rfl rfl (by rw [hz2]; omega) (by unfold maxLen; omega) (Nat.le_refl _) ?_; intro w1 hown hgrow)
  rw [made_zero, ← nbb_zero n] at hown
  have hbe : Below w.heap.size w w1 := (Below.refl _ _).grown hgrow (Nat.le_refl _) (fun k e => by cases e)
  have HO := hide hown
  clear hown hgrow
  go_loopw [6] (fun i wr => ∃ k : Nat, k ≤ size ∧ i = .int .i64 k ∧ wr.ownsRow w.heap.size 5 1 (.slice (some ⟨w.heap.size, 0, none⟩) size size) size ((nbb n size k).map B) ∧ Below w.heap.size w wr) (fun i _ => size - (intOf i).toNat)
  case atStart => exact ⟨0, by omega, rfl, unhide HO, hbe⟩
  case round =>
    clear HO hbe
    obtain ⟨k, hk, rfl, hown, hbe⟩ := hrel
    by_cases hlt : k < size
    · have c0 : wr.cell? ⟨w.heap.size, size - 1 - k, none⟩ = some (.int .u8 (((nbb n size k).getD (size - 1 - k) 0).toNat : Int)) := by
        rw [hown.cellAt _ (by omega)]
        simp [B, nbb_len, show size - 1 - k < size by omega]
      have z0 : wr.frozen? ⟨w.heap.size, size - 1 - k, none⟩ = false := hown.frozenAt _
      have HO := hide hown
      clear hown
      go_wp2
      go_roundw
      case rel =>
        rw [byte_ofH]
        have hs := (unhide HO).stored (size - 1 - k) (B (UInt8.ofNat (n / 2 ^ (8 * k))))
        refine ⟨k + 1, by omega, by go_num, ?_, hbe.setCell (Nat.le_refl _) _⟩
        rw [nbb_next n size k hlt, List.map_set]
        exact hs.1
      case measure => simp [intOf]; omega
    · have hkk : k = size := by omega
      have hc : (convert 101 9 (.slice (some ⟨w.heap.size, 0, none⟩) size size)).run Tryz.prog wr = .ok (.string ⟨(nb n size).toArray⟩) wr := by
        refine run_textH wr w.heap.size 0 size size (nb n size) (by simp [nb]) ?_
        intro j hj
        rw [Nat.zero_add, hown.cellAt j (by omega), hkk, nbb_all]
        simp [nb, B, hj]
      have HC := hide hc
      clear hc hown hkk
      go_wp2_with (refine wpList_convH rfl 101 9 (.tmp 25) rfl _ _ (by rfl) (unhide HC) ?_)
      go_ret
      exact ⟨rfl, hbe⟩
theorem big_int (x k : Int) (n size : Nat) (hx : x = n) (hk : k = size) (w : World) (hn : n < 9223372036854775808) (h1 : 1 ≤ size) (h8 : size ≤ 8) :
    Calls Tryz.prog 121 #[.int .i64 x, .int .i64 k] w fun e w' => e = .returned (.string ⟨(nb n size).toArray⟩) ∧ Below w.heap.size w w' := by
  subst hx hk
  exact big_any n size w hn h1 h8
end Go.Proofs.YtmjaobddgaglhaaGreatDoor
