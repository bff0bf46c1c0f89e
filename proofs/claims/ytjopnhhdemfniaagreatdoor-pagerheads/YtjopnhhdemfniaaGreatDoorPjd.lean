import Derived.Test.YtjopnhhdemfniaaGreatDoorPja
namespace Go.Proofs.YtjopnhhdemfniaaGreatDoor
open Go.RowKit
def addv (n m : Int) : Int := if 2147483647 - n < m then 2147483648 else n + m
theorem addv_bd {n m : Int} (h0 : 0 ≤ n) (h1 : 0 ≤ m) (h2 : n ≤ 2147483648) : 0 ≤ addv n m ∧ addv n m ≤ 2147483648 := by
  unfold addv
  split <;> omega
theorem addv_le {n m : Int} (h : addv n m ≤ 2147483647) : n + m ≤ 2147483647 := by
  unfold addv at h
  split at h <;> omega
def pkv (c : Int) (n : Nat) : Nat := ((if c < 0 then -(c + 1) else c) % n).toNat
theorem pkv_lt (c : Int) (n : Nat) (h : 0 < n) : pkv c n < n := by
  unfold pkv
  have h1 := Int.emod_lt_of_pos (if c < 0 then -(c + 1) else c) (show (0 : Int) < n by omega)
  have h2 := Int.emod_nonneg (if c < 0 then -(c + 1) else c) (show (n : Int) ≠ 0 by omega)
  omega
set_option maxHeartbeats 2000000 in
theorem pick_any (c : Int) (n : Nat) (w : World) (hn : 0 < n) (hn2 : n ≤ 9000000000000000000) (h1 : -9223372036854775808 ≤ c) (h2 : c ≤ 9223372036854775807) : Calls Tryz.prog 18 #[.int .i64 c, .int .i64 (n : Int)] w fun e w' => e = .returned (.int .i64 (pkv c n : Nat)) ∧ w' = w := by
  have hni : ¬ (n : Int) = 0 := by omega
  by_cases h : c < 0
  · have e : ((pkv c n : Nat) : Int) = Int.tmod (-(c + 1)) n := by
      unfold pkv
      rw [if_pos h, Int.tmod_eq_emod_of_nonneg (by omega)]
      have := Int.emod_nonneg (-(c + 1)) (show (n : Int) ≠ 0 by omega)
      omega
    have HE := hide e
    clear e
    go_enter Tryz.func18, Tryz.ntmps18
    go_wp2
    go_ret
    exact ⟨ret_int (by rw [unhide HE, Int.neg_tmod]), rfl⟩
  · have e : ((pkv c n : Nat) : Int) = c % n := by
      unfold pkv
      rw [if_neg h]
      have := Int.emod_nonneg c (show (n : Int) ≠ 0 by omega)
      omega
    have HE := hide e
    clear e
    go_enter Tryz.func18, Tryz.ntmps18
    go_wp2
    go_ret
    exact ⟨ret_int (unhide HE).symm, rfl⟩
/-- A note of a raw number. -/
def nte (c : Int) : Bs := UInt8.ofNat (c % 256).toNat :: (List.replicate 14 0 ++ [UInt8.ofNat (c / 256 % 256).toNat])
theorem nte_len (c : Int) : (nte c).length = 16 := by simp [nte]
set_option maxHeartbeats 4000000 in
set_option maxRecDepth 8000 in
theorem note9_any (c : Int) (w : World) : Calls Tryz.prog 22 #[I c] w fun e w' => e = .returned (S (nte c)) ∧ Below w.heap.size w w' := by
  have hw1 : IntKind.u8.wrap c = c % 256 := IntKind.wrap_u8 c
  have hw2 : IntKind.u8.wrap (c / 256) = c / 256 % 256 := IntKind.wrap_u8 _
  go_enter Tryz.func22, Tryz.ntmps22
  have hl : ((List.replicate 16 (Value.int .u8 0)).set 0 (.int .u8 (c % 256))).set 15 (.int .u8 (c / 256 % 256)) = (nte c).map fun x => Value.int .u8 (x.toNat : Int) := by
    have e1 : ((UInt8.ofNat (c % 256).toNat).toNat : Int) = c % 256 := by rw [UInt8.toNat_ofNat']; omega
    have e2 : ((UInt8.ofNat (c / 256 % 256).toNat).toNat : Int) = c / 256 % 256 := by rw [UInt8.toNat_ofNat']; omega
    unfold nte
    rw [List.map_cons, List.map_append, List.map_cons, e1, e2]
    rfl
  go_wp2_with (first
    | (refine make1 inf5 Tryz.underlying117 rfl (.const (.int .i64 16)) (.const (.int .i64 16)) rfl _ _ 16 (by rfl) (by rfl) rfl rfl (by omega) ?_; intro w1 hb1 k1; have q0 := hb1.cell 0; have q15 := hb1.cell 15; have z0 := hb1.fz 0; have z15 := hb1.fz 15
       have hs := (hb1.set 0 (.int .u8 (c % 256))).set 15 (.int .u8 (c / 256 % 256))
       rw [hl] at hs
       have HX := hide (run_text _ w.heap.size 0 16 16 (nte c) (nte_len c) (fun j hj => by rw [Nat.zero_add, hs.cell]; simp [nte_len, hj]))
       have HK := hide ((k1.setCell (p := ⟨w.heap.size, 0, none⟩) (Nat.le_refl _) (.int .u8 (c % 256))).setCell (p := ⟨w.heap.size, 15, none⟩) (Nat.le_refl _) (.int .u8 (c / 256 % 256)))
       clear hb1 k1 hs)
    | (refine wpList_conv rfl 117 9 (.tmp 14) rfl _ _ (by rfl) (unhide HX) ?_))
  go_ret
  exact ⟨rfl, unhide HK⟩
end Go.Proofs.YtjopnhhdemfniaaGreatDoor
