import Derived.Test.YtjopnhhdemfniaaGreatDoorPhd
import Derived.Test.YtjopnhhdemfniaaGreatDoorZhnu
namespace Go.Proofs.YtjopnhhdemfniaaGreatDoor
open Go.RowKit
set_option maxHeartbeats 8000000
set_option maxRecDepth 8000
theorem rsum_any (s : Bs) (w : World) (hs : s.length ≤ 1000000000000) : Calls Tryz.prog 61 #[S s] w fun e w' => e = .returned (S (be 4 (crc s).toNat)) ∧ Below w.heap.size w w' := by
  have H0 := hide (refcrc_any s w (by omega))
  have h0 := u_lo (crc s)
  have h1 := u_hi (crc s)
  have hu : u (crc s) = ((crc s).toNat : Int) := rfl
  have H1 := hide (fun W => by_any 4 (crc s).toNat W (by omega) (by omega) (by have := (crc s).toNat_lt; omega))
  rw [hu] at H0 h0 h1
  clear hu
  generalize (crc s).toNat = c at *
  go_enter Tryz.func61, Tryz.ntmps61
  go_wp2_with fail
  refine (unhide H0).mono ?_
  rintro e w1 ⟨rfl, hw⟩
  rw [hw]
  clear hw w1
  go_wp2_with fail
  refine (unhide H1 _).mono ?_
  rintro e w1 ⟨rfl, b1⟩
  have HB := hide b1
  clear b1
  go_wp2
  go_ret
  exact ⟨rfl, unhide HB⟩
theorem noughts_any (n : Nat) (w : World) (hn : n ≤ 1000000) : Calls Tryz.prog 60 #[I n] w fun e w' => e = .returned (S (List.replicate n 0)) ∧ Below w.heap.size w w' := by
  go_enter Tryz.func60, Tryz.ntmps60
  go_wp2_with (first
    | (refine make1 inf5 Tryz.underlying117 rfl (.tmp 3) (.tmp 3) rfl _ _ n (by rfl) (by rfl) rfl rfl (by omega) ?_; intro w1 hb1 k1
       have HX := hide (run_text w1 w.heap.size 0 n n (List.replicate n 0) (by simp) (fun j hj => by rw [Nat.zero_add, hb1.cell]; simp [hj]))
       have HK := hide k1
       clear hb1 k1)
    | (refine wpList_conv rfl 117 9 (.tmp 4) rfl _ _ (by rfl) (unhide HX) ?_))
  go_ret
  exact ⟨rfl, unhide HK⟩
/-- What number makes of bytes. -/
def num9 (s : Bs) (k : Nat) : Option Nat := (s.take k).foldl (fun a c => a.bind fun n => if 18014398509481984 < n then none else some (256 * n + c.toNat)) (some 0)
theorem num9_next (s : Bs) (k : Nat) (hk : k < s.length) : num9 s (k + 1) = (num9 s k).bind fun n => if 18014398509481984 < n then none else some (256 * n + (s.getD k 0).toNat) := by
  unfold num9
  rw [List.take_succ_eq_append_getElem hk, List.foldl_append]
  simp [hk]
theorem num9_bad (s : Bs) (k m : Nat) (hk : num9 s k = none) (h : k ≤ m) (hm : m ≤ s.length) : num9 s m = none := by
  induction m with
  | zero => rw [show k = 0 by omega] at hk; exact hk
  | succ m ih =>
    by_cases q : k ≤ m
    · rw [num9_next s m (by omega), ih q (by omega)]; rfl
    · rw [show m + 1 = k by omega]; exact hk
def nmb (s : Bs) : Int := match num9 s s.length with
  | some n => n
  | none => -1
theorem num9_small (s : Bs) (k n : Nat) (hk : k ≤ s.length) (h : num9 s k = some n) : n ≤ 4611686018427388159 := by
  cases k with
  | zero => simp [num9] at h; omega
  | succ k =>
    rw [num9_next s k (by omega)] at h
    cases q : num9 s k with
    | none => rw [q] at h; cases h
    | some a =>
      rw [q] at h
      simp only [Option.bind_some] at h
      split at h
      · cases h
      · cases h
        have := (s.getD k 0).toNat_lt
        omega
theorem number9_any (s : Bs) (w : World) (hs : s.length ≤ 1000000) : Calls Tryz.prog 137 #[S s] w fun e w' => e = .returned (I (nmb s)) ∧ w' = w := by
  have HE := hide (show nmb s = match num9 s s.length with | some n => (n : Int) | none => -1 from rfl)
  generalize nmb s = R at *
  go_enter Tryz.func137, Tryz.ntmps137
  go_wp2
  go_loopw [3, 4] (fun a i wr => ∃ k n : Nat, k ≤ s.length ∧ i = .int .i64 k ∧ a = .int .i64 n ∧ num9 s k = some n ∧ wr = w) (fun _ i _ => s.length - (Go.RowKit.intOf i).toNat)
  case atStart => exact ⟨0, 0, by omega, rfl, rfl, rfl, rfl⟩
  case round =>
    obtain ⟨k, n, hk, rfl, rfl, hn, rfl⟩ := hrel
    have hnb := num9_small s k n hk hn
    by_cases hlt : k < s.length
    · have hlt' : (k : Int) < (s.length : Int) := by omega
      have hnx := num9_next s k hlt
      rw [hn] at hnx
      simp only [Option.bind_some] at hnx
      by_cases hb : 18014398509481984 < n
      · rw [if_pos hb] at hnx
        have HR := hide (show R = -1 by rw [unhide HE, num9_bad s (k + 1) s.length hnx (by omega) (Nat.le_refl _)])
        have hb' : (18014398509481984 : Int) < (n : Int) := by omega
        clear hnx hn
        go_wp2
        go_ret
        exact ⟨ret_int (by rw [unhide HR]), rfl⟩
      · rw [if_neg hb] at hnx
        have HN := hide hnx
        have hb' : ¬ (18014398509481984 : Int) < (n : Int) := by omega
        have hc := (s.getD k 0).toNat_lt
        clear hnx hn
        go_wp2
        have hsz : k < (ByteArray.mk s.toArray).size := by simpa [ByteArray.size] using hlt
        have hg : (ByteArray.mk s.toArray)[k]'hsz = s.getD k 0 := by
          have : s.getD k 0 = s[k] := by simp [hlt]
          rw [this]
          rfl
        rw [hg]
        generalize s.getD k 0 = c at *
        refine ⟨⟨k + 1, 256 * n + c.toNat, by omega, by go_num, ?_, unhide HN, trivial⟩, by simp [Go.RowKit.intOf]; omega⟩
        rw [IntWalk.wrap64_in (c.toNat : Int) (by omega), IntWalk.wrap64_in _ (by omega)]
        simp
    · have hlt' : ¬ (k : Int) < (s.length : Int) := by omega
      obtain rfl : k = s.length := by omega
      have HR := hide (show R = (n : Int) by rw [unhide HE, hn])
      clear hn
      go_wp2
      go_ret
      exact ⟨ret_int (by rw [unhide HR]), rfl⟩
end Go.Proofs.YtjopnhhdemfniaaGreatDoor
