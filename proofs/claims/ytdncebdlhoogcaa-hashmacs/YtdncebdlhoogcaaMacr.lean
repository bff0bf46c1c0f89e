import Derived.Test.YtdncebdlhoogcaaSumr
namespace Go.Proofs.Ytdncebdlhoogcaa
open Go.RowKit
open Sha
/-- A key's bytes with a mask, so far. -/
def mko (K : List UInt8) (m : UInt8) (k : Nat) : List UInt8 := (List.range 64).map fun i => if i < k then (K.getD i 0) ^^^ m else 0
theorem mko_len (K : List UInt8) (m : UInt8) (k : Nat) : (mko K m k).length = 64 := by simp [mko]
theorem mko_zero (K : List UInt8) (m : UInt8) : mko K m 0 = nbk 0 64 0 := by simp [mko, nbk]
theorem mko_all (K : List UInt8) (m : UInt8) : mko K m 64 = msk K m := by
  unfold mko msk
  apply List.map_congr_left
  intro i hi
  rw [if_pos (by simpa using hi)]
theorem mko_next (K : List UInt8) (m : UInt8) (k : Nat) (h : k < 64) : mko K m (k + 1) = (mko K m k).set k ((K.getD k 0) ^^^ m) := by
  apply List.ext_getElem?
  intro i
  rw [List.getElem?_set]
  by_cases hi : i < 64
  · by_cases e : k = i
    · subst e; simp [mko, h]
    · have : (i < k + 1) = (i < k) := by simp; omega
      simp [mko, hi, e, this]
  · simp [mko, hi]; omega
structure RM (w wr : World) (g6 g7 : Nat) (K : List UInt8) (k : Nat) : Prop where
  r6 : Row wr g6 (cB (mko K 92 k)) 5
  r7 : Row wr g7 (cB (mko K 54 k)) 5
  be : Below w.heap.size w wr
  i6 : w.heap.size ≤ g6
  i7 : w.heap.size ≤ g7
  n : g6 ≠ g7
theorem RM.below {w wr w' : World} {g6 g7 : Nat} {K : List UInt8} {k : Nat} (h : RM w wr g6 g7 K k) (hb : Below wr.heap.size wr w') : RM w w' g6 g7 K k :=
  ⟨h.r6.below hb h.r6.lt, h.r7.below hb h.r7.lt, h.be.trans (hb.mono h.be.size), h.i6, h.i7, h.n⟩
theorem RM.c6 {w wr : World} {g6 g7 : Nat} {K : List UInt8} {k : Nat} (h : RM w wr g6 g7 K k) (hk : k < 64) : wr.cell? ⟨g6, k, none⟩ = some (.int .u8 (((mko K 92 k).getD k 0).toNat : Int)) := by
  rw [h.r6.cell, cB_get _ _ (by rw [mko_len]; exact hk)]
theorem RM.c7 {w wr : World} {g6 g7 : Nat} {K : List UInt8} {k : Nat} (h : RM w wr g6 g7 K k) (hk : k < 64) : wr.cell? ⟨g7, k, none⟩ = some (.int .u8 (((mko K 54 k).getD k 0).toNat : Int)) := by
  rw [h.r7.cell, cB_get _ _ (by rw [mko_len]; exact hk)]
theorem RM.put {w wr : World} {g6 g7 : Nat} {K : List UInt8} {k : Nat} (h : RM w wr g6 g7 K k) (hk : k < 64) :
    RM w ((wr.setCell ⟨g6, k, none⟩ (.int .u8 (((K.getD k 0) ^^^ 92).toNat : Int))).setCell ⟨g7, k, none⟩ (.int .u8 (((K.getD k 0) ^^^ 54).toNat : Int))) g6 g7 K (k + 1) := by
  refine ⟨?_, ?_, (h.be.setCell h.i6 _).setCell h.i7 _, h.i6, h.i7, h.n⟩
  · rw [mko_next _ _ _ hk, ← cB_set]
    exact (h.r6.set k _).set_other _ _ h.n
  · rw [mko_next _ _ _ hk, ← cB_set]
    exact (h.r7.set_other _ _ (Ne.symm h.n)).set k _
theorem RM.t6 {w wr : World} {g6 g7 : Nat} {K : List UInt8} (h : RM w wr g6 g7 K 64) : (convert 33 9 (.slice (some ⟨g6, 0, none⟩) 64 64)).run Try.prog wr = .ok (.string ⟨(msk K 92).toArray⟩) wr := by
  refine run_text wr g6 0 64 64 (msk K 92) (by simp [msk]) (fun j hj => ?_)
  rw [Nat.zero_add, h.r6.cell, mko_all, cB_get _ _ (by simp [msk]; exact hj)]
theorem RM.t7 {w wr : World} {g6 g7 : Nat} {K : List UInt8} (h : RM w wr g6 g7 K 64) : (convert 33 9 (.slice (some ⟨g7, 0, none⟩) 64 64)).run Try.prog wr = .ok (.string ⟨(msk K 54).toArray⟩) wr := by
  refine run_text wr g7 0 64 64 (msk K 54) (by simp [msk]) (fun j hj => ?_)
  rw [Nat.zero_add, h.r7.cell, mko_all, cB_get _ _ (by simp [msk]; exact hj)]
theorem refsum_ba (X : ByteArray) (w : World) (h : X.data.toList.length ≤ 140737488351232) : Calls Try.prog 14 #[.string X] w fun e w' => e = .returned (.string ⟨(sum X.data.toList).toArray⟩) ∧ Below w.heap.size w w' :=
  refsum_any X.data.toList w h
theorem ba_app (a b : List UInt8) : (ByteArray.mk a.toArray ++ ByteArray.mk b.toArray).data.toList = a ++ b := by rw [bytes_append]
theorem ba_len (a b : List UInt8) : (ByteArray.mk a.toArray ++ ByteArray.mk b.toArray).data.toList.length = a.length + b.length := by rw [ba_app, List.length_append]
set_option maxHeartbeats 2000000 in
set_option maxRecDepth 8000 in
theorem refmac_any (key s : List UInt8) (w : World) (hkey : key.length ≤ 140737488351232) (hs : s.length ≤ 140737488000000) :
    Calls Try.prog 19 #[.string ⟨key.toArray⟩, .string ⟨s.toArray⟩] w fun e w' => e = .returned (.string ⟨(mac key s).toArray⟩) ∧ Below w.heap.size w w' := by
  obtain ⟨i0, hi, hz0, hz1, hz2⟩ := info_parts info5
  by_cases h64 : 64 < key.length
  · have hM0 : mac key s = sum (msk (sum key) 92 ++ sum (msk (sum key) 54 ++ s)) := by simp only [mac, if_pos h64]
    have hM := hide hM0
    clear hM0
    go_enter Try.func19, Try.ntmps19
    go_wp2_with fail
    refine (refsum_any key w hkey).mono ?_
    rintro e w1 ⟨rfl, hb1⟩
    generalize sum key = K at *
    clear h64

    go_wp2_with (first
      | (refine wpList_make_full _ rfl (.const (.int .i64 64)) (.const (.int .i64 64)) 33 rfl w1.heap.size 5 i0 (.int .u8 0) 1 Try.underlying33 hi hz0 hz1 .i64 .i64 64 64 64 (by rfl) (by rfl) rfl rfl (by rw [hz2]; omega) (by unfold maxLen; omega) (Nat.le_refl _) ?_; intro w2 hown hgrow; rw [made_zero] at hown; have hrow2 := owns_row hown; have hbe2 : Below w1.heap.size w1 w2 := (Below.refl _ _).grown hgrow (Nat.le_refl _) (fun k e => by cases e); have HR2 := hide hrow2; have hlt2 := hrow2.lt; clear hown hgrow hrow2)
      | (refine wpList_make_full _ rfl (.const (.int .i64 64)) (.const (.int .i64 64)) 33 rfl w2.heap.size 5 i0 (.int .u8 0) 1 Try.underlying33 hi hz0 hz1 .i64 .i64 64 64 64 (by rfl) (by rfl) rfl rfl (by rw [hz2]; omega) (by unfold maxLen; omega) (Nat.le_refl _) ?_; intro w3 hown hgrow; rw [made_zero] at hown; have hrow3 := owns_row hown; have hbe3 : Below w2.heap.size w2 w3 := (Below.refl _ _).grown hgrow (Nat.le_refl _) (fun k e => by cases e); have HR3 := hide hrow3; clear hown hgrow hrow3))
    have hI0 : RM w w3 w1.heap.size w2.heap.size K 0 := ⟨by rw [mko_zero]; exact (unhide HR2).below hbe3 (unhide HR2).lt, by rw [mko_zero]; exact unhide HR3, (hb1.trans (hbe2.mono hb1.size)).trans (hbe3.mono (Nat.le_trans hb1.size hbe2.size)), hb1.size, Nat.le_trans hb1.size hbe2.size, by omega⟩
    have HI0 := hide hI0
    clear HR2 HR3 hbe2 hbe3 hI0 hb1
    generalize w1.heap.size = g6 at *
    generalize w2.heap.size = g7 at *
    go_loopw [8] (fun i wr => ∃ k : Nat, k ≤ 64 ∧ i = .int .i64 k ∧ RM w wr g6 g7 K k) (fun i _ => 64 - (intOf i).toNat)
    case atStart => exact ⟨0, by omega, rfl, unhide HI0⟩
    case round =>
      clear HI0
      obtain ⟨k, hk64, rfl, hI⟩ := hrel
      by_cases hlt : k < 64
      · have c6 := hI.c6 hlt
        have c7 := hI.c7 hlt
        have z6 := hI.r6.frozen k
        have z7 := hI.r7.frozen k
        have n67 : g6 ≠ g7 := hI.n
        have HI := hide hI
        clear hI
        by_cases hkK : k < K.length
        · have sK : k < (ByteArray.mk K.toArray).size := by simpa [ByteArray.size] using hkK
          have hget : (ByteArray.mk K.toArray)[k]'sK = K.getD k 0 := by simp [hkK]; rfl
          have HG := hide hget
          clear hget
          go_wp2
          rw [unhide HG]
          go_roundw
          case rel =>
            refine ⟨k + 1, by omega, by go_num, ?_⟩
            rw [show (92 : Int) = ((92 : UInt8).toNat : Int) from rfl, show (54 : Int) = ((54 : UInt8).toNat : Int) from rfl, u8_xor_B, u8_xor_B]
            exact (unhide HI).put hlt
          case measure => simp [intOf]; omega
        · have hd : decide (k < K.length) = false := by simp; omega
          have hget : K.getD k 0 = 0 := by simp [hkK]
          have HG := hide hget
          clear hget hkK
          go_wp2
          go_roundw
          case rel =>
            refine ⟨k + 1, by omega, by go_num, ?_⟩
            have := (unhide HI).put hlt
            rw [unhide HG] at this
            exact this
          case measure => simp [intOf]; omega
      · have hk : k = 64 := by omega
        have hd : decide (k < 64) = false := by simp; omega
        have hd' : decide ((k : Int) < 64) = false := by simp; omega
        rw [hk] at hI
        have hT6 : ∀ w', Below wr.heap.size wr w' → (convert 33 9 (.slice (some ⟨g6, 0, none⟩) 64 64)).run Try.prog w' = .ok (.string ⟨(msk K 92).toArray⟩) w' := fun w' hb => (hI.below hb).t6
        have hT7 : ∀ w', Below wr.heap.size wr w' → (convert 33 9 (.slice (some ⟨g7, 0, none⟩) 64 64)).run Try.prog w' = .ok (.string ⟨(msk K 54).toArray⟩) w' := fun w' hb => (hI.below hb).t7
        have hbe := hI.be
        have a6 := hT6 wr.drew ((Below.refl _ _).drew)
        have a7 := hT7 wr.drew ((Below.refl _ _).drew)
        have l6 : (msk K 92).length = 64 := by simp [msk]
        have l7 : (msk K 54).length = 64 := by simp [msk]
        have bnd1 : (msk K 54).length + s.length ≤ 140737488351232 := by rw [l7]; omega
        have bnd2 : ∀ l : List UInt8, (msk K 92).length + (sum l).length ≤ 140737488351232 := fun l => by rw [l6, sum_len]; omega
        have lS : ∀ l : List UInt8, (sum l).length = 32 := sum_len
        clear hI hk hlt
        generalize msk K 92 = M6 at *
        generalize msk K 54 = M7 at *
        go_wp2_with fail
        go_region_with (go_at_call 14; refine (refsum_ba _ _ (by rw [ba_len]; first | exact bnd1 | exact bnd2 _)).mono ?_; rintro e wb ⟨rfl, hbb⟩; first | have hbz : Below wr.heap.size wr wb := ((Below.refl wr.heap.size wr).drew).trans hbb | have hbz : Below wr.heap.size wr wb := Below.trans hbz (hbb.mono hbz.size); have b6 := hT6 wb hbz)
        all_goals (go_wp2; go_ret)
        all_goals (refine ⟨?_, hbe.trans (hbz.mono hbe.size)⟩)
        all_goals (rw [unhide hM]; rfl)
  · have hM0 : mac key s = sum (msk key 92 ++ sum (msk key 54 ++ s)) := by simp only [mac, if_neg h64]
    have hM := hide hM0
    have hd0 : decide (64 < key.length) = false := by simp; omega
    have hd1 : decide ((64 : Int) < (key.length : Int)) = false := by simp; omega
    have hb1 : Below w.heap.size w w := Below.refl _ _
    clear hM0
    go_enter Try.func19, Try.ntmps19
    generalize hKK : key = K at *
    clear hKK

    go_wp2_with (first
      | (refine wpList_make_full _ rfl (.const (.int .i64 64)) (.const (.int .i64 64)) 33 rfl w.heap.size 5 i0 (.int .u8 0) 1 Try.underlying33 hi hz0 hz1 .i64 .i64 64 64 64 (by rfl) (by rfl) rfl rfl (by rw [hz2]; omega) (by unfold maxLen; omega) (Nat.le_refl _) ?_; intro w2 hown hgrow; rw [made_zero] at hown; have hrow2 := owns_row hown; have hbe2 : Below w.heap.size w w2 := (Below.refl _ _).grown hgrow (Nat.le_refl _) (fun k e => by cases e); have HR2 := hide hrow2; have hlt2 := hrow2.lt; clear hown hgrow hrow2)
      | (refine wpList_make_full _ rfl (.const (.int .i64 64)) (.const (.int .i64 64)) 33 rfl w2.heap.size 5 i0 (.int .u8 0) 1 Try.underlying33 hi hz0 hz1 .i64 .i64 64 64 64 (by rfl) (by rfl) rfl rfl (by rw [hz2]; omega) (by unfold maxLen; omega) (Nat.le_refl _) ?_; intro w3 hown hgrow; rw [made_zero] at hown; have hrow3 := owns_row hown; have hbe3 : Below w2.heap.size w2 w3 := (Below.refl _ _).grown hgrow (Nat.le_refl _) (fun k e => by cases e); have HR3 := hide hrow3; clear hown hgrow hrow3))
    have hI0 : RM w w3 w.heap.size w2.heap.size K 0 := ⟨by rw [mko_zero]; exact (unhide HR2).below hbe3 (unhide HR2).lt, by rw [mko_zero]; exact unhide HR3, (hb1.trans (hbe2.mono hb1.size)).trans (hbe3.mono (Nat.le_trans hb1.size hbe2.size)), hb1.size, Nat.le_trans hb1.size hbe2.size, by omega⟩
    have HI0 := hide hI0
    clear HR2 HR3 hbe2 hbe3 hI0 hb1
    generalize hg6 : w.heap.size = g6
    rw [hg6] at HI0
    generalize w2.heap.size = g7 at *
    go_loopw [8] (fun i wr => ∃ k : Nat, k ≤ 64 ∧ i = .int .i64 k ∧ RM w wr g6 g7 K k) (fun i _ => 64 - (intOf i).toNat)
    case atStart => exact ⟨0, by omega, rfl, unhide HI0⟩
    case round =>
      clear HI0
      obtain ⟨k, hk64, rfl, hI⟩ := hrel
      by_cases hlt : k < 64
      · have c6 := hI.c6 hlt
        have c7 := hI.c7 hlt
        have z6 := hI.r6.frozen k
        have z7 := hI.r7.frozen k
        have n67 : g6 ≠ g7 := hI.n
        have HI := hide hI
        clear hI
        by_cases hkK : k < K.length
        · have sK : k < (ByteArray.mk K.toArray).size := by simpa [ByteArray.size] using hkK
          have hget : (ByteArray.mk K.toArray)[k]'sK = K.getD k 0 := by simp [hkK]; rfl
          have HG := hide hget
          clear hget
          go_wp2
          rw [unhide HG]
          go_roundw
          case rel =>
            refine ⟨k + 1, by omega, by go_num, ?_⟩
            rw [show (92 : Int) = ((92 : UInt8).toNat : Int) from rfl, show (54 : Int) = ((54 : UInt8).toNat : Int) from rfl, u8_xor_B, u8_xor_B]
            exact (unhide HI).put hlt
          case measure => simp [intOf]; omega
        · have hd : decide (k < K.length) = false := by simp; omega
          have hget : K.getD k 0 = 0 := by simp [hkK]
          have HG := hide hget
          clear hget hkK
          go_wp2
          go_roundw
          case rel =>
            refine ⟨k + 1, by omega, by go_num, ?_⟩
            have := (unhide HI).put hlt
            rw [unhide HG] at this
            exact this
          case measure => simp [intOf]; omega
      · have hk : k = 64 := by omega
        have hd : decide (k < 64) = false := by simp; omega
        have hd' : decide ((k : Int) < 64) = false := by simp; omega
        rw [hk] at hI
        have hT6 : ∀ w', Below wr.heap.size wr w' → (convert 33 9 (.slice (some ⟨g6, 0, none⟩) 64 64)).run Try.prog w' = .ok (.string ⟨(msk K 92).toArray⟩) w' := fun w' hb => (hI.below hb).t6
        have hT7 : ∀ w', Below wr.heap.size wr w' → (convert 33 9 (.slice (some ⟨g7, 0, none⟩) 64 64)).run Try.prog w' = .ok (.string ⟨(msk K 54).toArray⟩) w' := fun w' hb => (hI.below hb).t7
        have hbe := hI.be
        have a6 := hT6 wr.drew ((Below.refl _ _).drew)
        have a7 := hT7 wr.drew ((Below.refl _ _).drew)
        have l6 : (msk K 92).length = 64 := by simp [msk]
        have l7 : (msk K 54).length = 64 := by simp [msk]
        have bnd1 : (msk K 54).length + s.length ≤ 140737488351232 := by rw [l7]; omega
        have bnd2 : ∀ l : List UInt8, (msk K 92).length + (sum l).length ≤ 140737488351232 := fun l => by rw [l6, sum_len]; omega
        have lS : ∀ l : List UInt8, (sum l).length = 32 := sum_len
        clear hI hk hlt
        generalize msk K 92 = M6 at *
        generalize msk K 54 = M7 at *
        go_wp2_with fail
        go_region_with (go_at_call 14; refine (refsum_ba _ _ (by rw [ba_len]; first | exact bnd1 | exact bnd2 _)).mono ?_; rintro e wb ⟨rfl, hbb⟩; first | have hbz : Below wr.heap.size wr wb := ((Below.refl wr.heap.size wr).drew).trans hbb | have hbz : Below wr.heap.size wr wb := Below.trans hbz (hbb.mono hbz.size); have b6 := hT6 wb hbz)
        all_goals (go_wp2; go_ret)
        all_goals (refine ⟨?_, hbe.trans (hbz.mono hbe.size)⟩)
        all_goals (rw [unhide hM]; rfl)
end Go.Proofs.Ytdncebdlhoogcaa
