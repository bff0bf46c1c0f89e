import Derived.Test.YtbmcaejbfjpmiaaDoorPra
namespace Go.Proofs.YtbmcaejbfjpmiaaDoor
open Go.RowKit Go.Lib
/-- Where the first c stands, from a place on. -/
theorem hd_step (c : UInt8) (l : List UInt8) (fr k : Nat) (hk : k < (l.drop fr).length) (h : ∀ j, j < k → (l.drop fr)[j]? ≠ some c) (hc : (l.drop fr)[k]? = some c) : (hd c (l.drop fr)).length = k := hd_len c _ k (by omega) h (.inr hc)
set_option maxHeartbeats 4000000 in
set_option maxRecDepth 8000 in
theorem end_any (l : List UInt8) (fr : Nat) (w : World) (hl : l.length ≤ 1099511627776) (hf : fr ≤ l.length) :
    Calls Tryd.prog 32 #[S l, .int .i64 (fr : Int)] w fun e w' => e = .returned (.int .i64 ((fr + (hd 38 (l.drop fr)).length : Nat) : Int)) ∧ w' = w := by
  obtain ⟨R, hR⟩ : ∃ R, R = fr + (hd 38 (l.drop fr)).length := ⟨_, rfl⟩
  rw [← hR]
  have HR := hide hR
  clear hR
  go_enter Tryd.func32, Tryd.ntmps32
  go_wp2
  go_loop [1] (fun i => ∃ k : Nat, fr + k ≤ l.length ∧ i = .int .i64 ((fr + k : Nat) : Int) ∧ ∀ j, j < k → (l.drop fr)[j]? ≠ some 38) (fun i => l.length - (Go.RowKit.intOf i).toNat)
  case atStart => exact ⟨0, by omega, rfl, fun j hj => by omega⟩
  case round =>
    obtain ⟨k, hk, rfl, hno⟩ := hrel
    obtain ⟨q, hq⟩ : ∃ q, q = fr + k := ⟨_, rfl⟩
    rw [← hq]
    by_cases hlt : q < l.length
    · have hsz : q < (ByteArray.mk l.toArray).size := by simpa [ByteArray.size] using hlt
      have hC0 : (ByteArray.mk l.toArray)[q]'hsz = l[q] := rfl
      have hat : (l.drop fr)[k]? = some l[q] := by
        rw [List.getElem?_drop, ← hq, List.getElem?_eq_getElem hlt]
      by_cases e : l[q] = 38
      · have HE := hide (show q = R by rw [unhide HR, hq, hd_step 38 l fr k (by simp; omega) hno (by rw [hat, e])])
        have e2 : (((ByteArray.mk l.toArray)[q]'hsz).toNat : Int) = 38 := by rw [hC0, e]; rfl
        have e3 : ((((ByteArray.mk l.toArray)[q]'hsz).toNat : Int) == 38) = true := by rw [e2]; rfl
        have e4 : (((((ByteArray.mk l.toArray)[q]'hsz).toNat : Int)) != 38) = false := by rw [e2]; rfl
        have i1 : (q : Int) < (l.length : Int) := by omega
        clear hC0 e hno hat hq
        go_wp2
        go_ret
        exact ⟨ret_int (by rw [unhide HE]), rfl⟩
      · have e2 : ((((ByteArray.mk l.toArray)[q]'hsz).toNat : Int) == 38) = false := by
          rw [hC0]
          simp only [beq_eq_false_iff_ne, ne_eq]
          intro h
          exact e (UInt8.toNat_inj.1 (by show l[q].toNat = 38; omega))
        have e4 : (((((ByteArray.mk l.toArray)[q]'hsz).toNat : Int)) != 38) = true := by simp only [bne, e2]; rfl
        have e5 : ¬ (((ByteArray.mk l.toArray)[q]'hsz).toNat : Int) = 38 := by simpa using e2
        have i1 : (q : Int) < (l.length : Int) := by omega
        have HNO : Hid (∀ j, j < k + 1 → (l.drop fr)[j]? ≠ some 38) := hide (fun j hj => by
          rcases Nat.lt_or_ge j k with h | h
          · exact hno j h
          · obtain rfl : j = k := by omega
            rw [hat]
            exact fun h => e (Option.some.inj h))
        have HQq := hide hq
        clear hC0 e hno hat hq
        go_wp2
        go_round
        case rel => exact ⟨k + 1, by have := unhide HQq; omega, by have := unhide HQq; congr 1; omega, unhide HNO⟩
        case measure => simp [Go.RowKit.intOf]; omega
    · have hd1 : decide (q < l.length) = false := by simp; omega
      have HE := hide (show q = R by rw [unhide HR, hq, hd_len 38 (l.drop fr) k (by simp; omega) hno (.inl (by simp; omega))])
      clear hno hq
      go_wp2
      go_ret
      exact ⟨ret_int (by rw [unhide HE]), rfl⟩
end Go.Proofs.YtbmcaejbfjpmiaaDoor
