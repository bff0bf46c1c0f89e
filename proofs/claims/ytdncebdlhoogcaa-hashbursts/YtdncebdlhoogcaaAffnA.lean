import Derived.Test.YtdncebdlhoogcaaByts
import Derived.Test.YtdncebdlhoogcaaLine
namespace Go.Proofs.Ytdncebdlhoogcaa
open Go.RowKit
open Sha
def xk (a b c : List UInt8) (n k : Nat) : List UInt8 := (List.range n).map fun i => if i < k then (a.getD i 0) ^^^ (b.getD i 0) ^^^ (c.getD i 0) else 0
theorem xk_len (a b c : List UInt8) (n k : Nat) : (xk a b c n k).length = n := by simp [xk]
theorem xk_zero (a b c : List UInt8) (n : Nat) : xk a b c n 0 = nbk 0 n 0 := by simp [xk, nbk]
theorem xk_next (a b c : List UInt8) (n k : Nat) (h : k < n) : xk a b c n (k + 1) = (xk a b c n k).set k ((a.getD k 0) ^^^ (b.getD k 0) ^^^ (c.getD k 0)) := by
  apply List.ext_getElem?
  intro i
  rw [List.getElem?_set]
  by_cases hi : i < n
  · by_cases e : k = i
    · subst e; simp [xk, h]
    · have : (i < k + 1) = (i < k) := by simp; omega
      simp [xk, hi, e, this]
  · simp [xk, hi]; omega
theorem xk_all (a b c : List UInt8) (n : Nat) (h1 : n ≤ a.length) (h2 : n ≤ b.length) (h3 : n ≤ c.length) : xk a b c n n = xz (a.take n) (b.take n) (c.take n) := by
  apply List.ext_getElem
  · simp [xk, xz]; omega
  · intro i q1 q2
    have hi : i < n := by simpa [xk] using q1
    simp [xk, xz, hi, show i < a.length by omega, show i < b.length by omega, show i < c.length by omega]
theorem mapB_get (X : List UInt8) (j : Nat) (h : j < X.length) : (X.map B)[j]? = some (.int .u8 ((X.getD j 0).toNat : Int)) := by
  simp [B, h]
theorem crc_ba (s : ByteArray) (w : World) (hl : s.size ≤ 9223372036854775807) :
    Calls Try.prog 21 #[.string s] w fun e w' => e = .returned (.int .u32 (u (crc s.data.toList))) ∧ w' = w := by
  have e : s.data.toList.length = s.size := by rw [Array.length_toList]; rfl
  exact crc_any s.data.toList w (by rw [e]; exact hl)
theorem below_dn {B : Nat} {a w : World} (h : Below B a w) (n : Nat) : Below B a (w.drewN n) := ⟨h.os, h.tape, h.output, h.size, h.block⟩
theorem ext0 (l : List UInt8) (n : Nat) : ((ByteArray.mk l.toArray).extract 0 n).data.toList = l.take n := by
  rw [ByteArray.data_extract]
  simp
theorem ext0_size (l : List UInt8) (n : Nat) : ((ByteArray.mk l.toArray).extract 0 n).size ≤ l.length := by
  rw [show ((ByteArray.mk l.toArray).extract 0 n).size = ((ByteArray.mk l.toArray).extract 0 n).data.toList.length from by simp [ByteArray.size], ext0]
  exact List.length_take_le' _ _
theorem run_min3 (x y z n : Nat) (hn : n = min x (min y z)) (w : World) : (Builtin.min_ #[3, 3, 3] 3 #[.int .i64 (x : Int), .int .i64 (y : Int), .int .i64 (z : Int)]).run Try.prog w = .ok (.int .i64 (n : Int)) w := by
  have e : (if (z : Int) < (if (y : Int) < x then (y : Int) else x) then (z : Int) else (if (y : Int) < x then (y : Int) else x)) = (n : Int) := by
    split <;> split <;> omega
  have h : (Builtin.min_ #[3, 3, 3] 3 #[.int .i64 (x : Int), .int .i64 (y : Int), .int .i64 (z : Int)]).run Try.prog w = .ok (.int .i64 (if (z : Int) < (if (y : Int) < x then (y : Int) else x) then (z : Int) else (if (y : Int) < x then (y : Int) else x))) w := by
    simp only [Builtin.min_, Builtin.min2, List.foldlM, Sem.run_bind, Sem.run_pure, Result.andThen_ok]
  rw [h, e]
set_option maxHeartbeats 1000000 in
theorem affine_walk (a b c : List UInt8) (w : World) (ha : a.length ≤ 140737488351232) (hb : b.length ≤ 140737488351232) (hc : c.length ≤ 140737488351232) :
    Calls Try.prog 10 #[.string ⟨a.toArray⟩, .string ⟨b.toArray⟩, .string ⟨c.toArray⟩] w fun e w' => e = .returned (.bool true) ∧ Below w.heap.size w w' := by
  obtain ⟨i0, hi, hz0, hz1, hz2⟩ := info_parts info5
  obtain ⟨n, hn⟩ : ∃ n, n = min a.length (min b.length c.length) := ⟨_, rfl⟩
  have hmin := run_min3 a.length b.length c.length n hn
  have na : n ≤ a.length := by omega
  have nb' : n ≤ b.length := by omega
  have nc : n ≤ c.length := by omega
  clear hn
  go_enter Try.func10, Try.ntmps10
  go_wp2_with fail
  refine (known_any w).mono ?_
  rintro e w1 ⟨rfl, hb1⟩
  go_wp2_with (refine wpList_make_full _ rfl (.tmp 19) (.tmp 19) 33 rfl w1.heap.size 5 i0 (.int .u8 0) 1 Try.underlying33 hi hz0 hz1 .i64 .i64 n n n (by rfl) (by rfl) rfl rfl (by rw [hz2]; omega) (by unfold maxLen; omega) (Nat.le_refl _) ?_; intro w2 hown hgrow)
  rw [made_zero, ← xk_zero a b c] at hown
  have hbe : Below w.heap.size w w2 := hb1.grown hgrow hb1.size (fun k e => by cases e)
  have hw1 : w.heap.size ≤ w1.heap.size := hb1.size
  have HO := hide hown
  clear hown hgrow hb1 hmin
  go_loopw [10] (fun i wr => ∃ k : Nat, k ≤ n ∧ i = .int .i64 k ∧ wr.ownsRow w1.heap.size 5 1 (.slice (some ⟨w1.heap.size, 0, none⟩) n n) n ((xk a b c n k).map B) ∧ Below w.heap.size w wr) (fun i _ => n - (intOf i).toNat)
  case atStart => exact ⟨0, by omega, rfl, unhide HO, hbe⟩
  case round =>
    clear HO hbe
    obtain ⟨k, hk, rfl, hown, hbe⟩ := hrel
    by_cases hlt : k < n
    · have c0 : wr.cell? ⟨w1.heap.size, k, none⟩ = some (.int .u8 (((xk a b c n k).getD k 0).toNat : Int)) := by
        rw [hown.cellAt k (by omega)]
        simp [B, xk_len, hlt]
      have z0 : wr.frozen? ⟨w1.heap.size, k, none⟩ = false := hown.frozenAt k
      have ka : k < a.length := by omega
      have kb : k < b.length := by omega
      have kc : k < c.length := by omega
      have sa : k < (ByteArray.mk a.toArray).size := by simpa [ByteArray.size] using ka
      have sb : k < (ByteArray.mk b.toArray).size := by simpa [ByteArray.size] using kb
      have sc : k < (ByteArray.mk c.toArray).size := by simpa [ByteArray.size] using kc
      have HO := hide hown
      clear hown
      go_wp2
      go_region
      all_goals (go_wp2; go_roundw)
      case rel =>
        refine ⟨k + 1, by omega, by go_num, ?_⟩
        rw [u8_xor_C, u8_xor_C]
        have hs := (unhide HO).stored k (B ((a.getD k 0) ^^^ (b.getD k 0) ^^^ (c.getD k 0)))
        have ev : (Value.int .u8 (((ByteArray.mk a.toArray)[k] ^^^ (ByteArray.mk b.toArray)[k] ^^^ (ByteArray.mk c.toArray)[k]).toNat : Int)) = B ((a.getD k 0) ^^^ (b.getD k 0) ^^^ (c.getD k 0)) := by
          simp [B, ka, kb, kc]
          rfl
        rw [ev]
        refine ⟨?_, (hbe.setCell hw1 _).drew⟩
        rw [xk_next a b c n k hlt, List.map_set]
        exact hs.1
      case measure => simp [intOf]; omega
    · have hkn : k = n := by omega
      have hd : decide (k < n) = false := by simp; omega
      have hcv : ∀ q, (convert 33 9 (.slice (some ⟨w1.heap.size, 0, none⟩) n n)).run Try.prog (wr.drewN q) = .ok (.string ⟨(xz (a.take n) (b.take n) (c.take n)).toArray⟩) (wr.drewN q) := by
        intro q
        refine run_text (wr.drewN q) w1.heap.size 0 n n (xz (a.take n) (b.take n) (c.take n)) (by simp [xz]; omega) ?_
        intro j hj
        rw [Nat.zero_add, World.cell?_drewN, hown.cellAt j (by omega), hkn, xk_all a b c n na nb' nc]
        exact mapB_get _ j (by simp [xz]; omega)
      have hX := hide (crc_x3 (a.take n) (b.take n) (c.take n) (by simp; omega) (by simp; omega))
      have lx : (xz (a.take n) (b.take n) (c.take n)).length ≤ n := by simp [xz]; omega
      generalize xz (a.take n) (b.take n) (c.take n) = X at *
      clear hown hkn hlt
      go_wp2_with fail
      have e1 := ext0_size a n
      have e2 := ext0_size b n
      have e3 := ext0_size c n
      have eX : (ByteArray.mk X.toArray).size ≤ n := by simpa [ByteArray.size] using lx
      go_quiet ((go_at_call 21; exact Calls.quiet_of_same (crc_ba _ _ (by omega))))
      go_wp2
      go_ret
      refine ⟨?_, below_dn hbe nq⟩
      show Ending.returned (.bool (u (crc X) == bits BinOp.xor IntKind.u32 (bits BinOp.xor IntKind.u32 (u (crc (List.take n a))) (u (crc (List.take n b)))) (u (crc (List.take n c))))) = _
      rw [u_xor, u_xor, unhide hX]
      simp
end Go.Proofs.Ytdncebdlhoogcaa
