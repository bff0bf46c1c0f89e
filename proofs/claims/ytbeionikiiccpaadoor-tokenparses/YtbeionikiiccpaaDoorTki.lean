import Derived.Test.YtbeionikiiccpaaDoorTkf
import Derived.Test.YtbeionikiiccpaaDoorHref
namespace Go.Proofs.YtbeionikiiccpaaDoor
open Go.RowKit Go.Lib Sha
set_option maxHeartbeats 4000000
set_option maxRecDepth 8000
/- The document's own answer. -/
theorem rprefix_yes (k : Int) (hk : isK k) (w : World) : Calls Tryd.prog 18 #[I k] w fun e w' => e = .returned (S (pre k)) ∧ w' = w := by
  rcases hk with rfl | rfl
  · go_enter Tryd.func18, Tryd.ntmps18
    go_wp2
    go_ret
    exact ⟨rfl, rfl⟩
  · go_enter Tryd.func18, Tryd.ntmps18
    go_wp2
    go_ret
    exact ⟨rfl, rfl⟩
theorem rprefix_no (k : Int) (hk : ¬ isK k) (w : World) : Calls Tryd.prog 18 #[I k] w fun e w' => e = .returned (S []) ∧ w' = w := by
  have hk1 : ¬ k = 1 := fun q => hk (.inl q)
  have hk2 : ¬ k = 2 := fun q => hk (.inr q)
  clear hk
  go_enter Tryd.func18, Tryd.ntmps18
  go_wp2
  go_ret
  exact ⟨rfl, rfl⟩
theorem begins_any (s p : Bs) (w : World) :
    Calls Tryd.prog 19 #[S s, S p] w fun e w' => e = .returned (.bool (p.isPrefixOf s)) ∧ w' = w := by
  by_cases h : p.length ≤ s.length
  · have hI : ((p.length : Int) ≤ (s.length : Int)) := by omega
    have HP := hide (ba_pre s p h)
    go_enter Tryd.func19, Tryd.ntmps19
    go_wp2
    go_ret
    exact ⟨by rw [← unhide HP]; rfl, rfl⟩
  · have hI : ¬ ((p.length : Int) ≤ (s.length : Int)) := by omega
    have HP : Hid (p.isPrefixOf s = false) := hide (by
      cases q : p.isPrefixOf s with
      | false => rfl
      | true => exact absurd (List.IsPrefix.length_le (List.isPrefixOf_iff_prefix.1 q)) h)
    go_enter Tryd.func19, Tryd.ntmps19
    go_wp2
    go_ret
    exact ⟨by rw [unhide HP]; rfl, rfl⟩
/-- What id makes of bytes. -/
def num9 (s : Bs) (k : Nat) : Option Nat := (s.take k).foldl (fun a c => a.bind fun n => if 18014398509481984 < n then none else some (256 * n + c.toNat)) (some 0)
theorem num9_next (s : Bs) (k : Nat) (hk : k < s.length) : num9 s (k + 1) = (num9 s k).bind fun n => if 18014398509481984 < n then none else some (256 * n + (s.getD k 0).toNat) := by
  unfold num9
  rw [List.take_succ_eq_append_getElem hk, List.foldl_append]
  simp [hk]
theorem num9_bad (s : Bs) (k m : Nat) (hk : num9 s k = none) (h : k ≤ m) (hm : m ≤ s.length) : num9 s m = none := by
  induction m with
  | zero => rw [show k = 0 by omega] at hk; exact hk
  | succ m ih =>
    by_cases q : k ≤ m
    · rw [num9_next s m (by omega), ih q (by omega)]; rfl
    · rw [show m + 1 = k by omega]; exact hk
theorem num9_small (s : Bs) (k n : Nat) (hk : k ≤ s.length) (h : num9 s k = some n) : n ≤ 4611686018427388159 := by
  cases k with
  | zero => simp [num9] at h; omega
  | succ k =>
    rw [num9_next s k (by omega)] at h
    cases q : num9 s k with
    | none => rw [q] at h; cases h
    | some a =>
      rw [q] at h
      simp only [Option.bind_some] at h
      split at h
      · cases h
      · cases h
        have := (s.getD k 0).toNat_lt
        omega
theorem nat_take9 (s : Bs) (k : Nat) (hk : k < s.length) : nat (s.take (k + 1)) = 256 * nat (s.take k) + (s.getD k 0).toNat := by
  rw [List.take_succ_eq_append_getElem hk, nat_snoc]
  simp [hk]
  omega
theorem num9_nat (s : Bs) : ∀ k, k ≤ s.length → (num9 s k = some (nat (s.take k)) ∨ (num9 s k = none ∧ 4611686018427387904 < nat (s.take k)))
  | 0, _ => .inl rfl
  | k + 1, hk => by
    rcases num9_nat s k (by omega) with q | ⟨q1, q2⟩
    · rw [num9_next s k (by omega), q, nat_take9 s k (by omega)]
      simp only [Option.bind_some]
      split
      · exact .inr ⟨rfl, by omega⟩
      · exact .inl rfl
    · rw [num9_next s k (by omega), q1, nat_take9 s k (by omega)]
      exact .inr ⟨rfl, by omega⟩
/-- An ID of bytes; 0: it is none. -/
def idv (s : Bs) : Nat := if nat s ≤ 4611686018427387904 then nat s else 0
theorem id_any (s : Bs) (w : World) (hs : s.length ≤ 1000000) : Calls Tryd.prog 21 #[S s] w fun e w' => e = .returned (I (idv s : Int)) ∧ w' = w := by
  have HE : Hid (∀ n, num9 s s.length = some n → idv s = if n ≤ 4611686018427387904 then n else 0) := hide (fun n q => by
    rcases num9_nat s s.length (Nat.le_refl _) with r | ⟨r, _⟩
    · rw [q] at r
      cases r
      rw [List.take_length]
      rfl
    · rw [q] at r; cases r)
  have HE2 : Hid (num9 s s.length = none → idv s = 0) := hide (fun q => by
    rcases num9_nat s s.length (Nat.le_refl _) with r | ⟨_, r⟩
    · rw [q] at r; cases r
    · rw [List.take_length] at r
      unfold idv
      rw [if_neg (by omega)])
  generalize idv s = R at *
  go_enter Tryd.func21, Tryd.ntmps21
  go_wp2
  go_loopw [3, 4] (fun a i wr => ∃ k n : Nat, k ≤ s.length ∧ i = .int .i64 k ∧ a = .int .i64 n ∧ num9 s k = some n ∧ wr = w) (fun _ i _ => s.length - (Go.RowKit.intOf i).toNat)
  case atStart => exact ⟨0, 0, by omega, rfl, rfl, rfl, rfl⟩
  case round =>
    obtain ⟨k, n, hk, rfl, rfl, hn, rfl⟩ := hrel
    have hnb := num9_small s k n hk hn
    by_cases hlt : k < s.length
    · have hlt' : (k : Int) < (s.length : Int) := by omega
      have hnx := num9_next s k hlt
      rw [hn] at hnx
      simp only [Option.bind_some] at hnx
      by_cases hb : 18014398509481984 < n
      · rw [if_pos hb] at hnx
        have HR := hide (unhide HE2 (num9_bad s (k + 1) s.length hnx (by omega) (Nat.le_refl _)))
        have hb' : (18014398509481984 : Int) < (n : Int) := by omega
        clear hnx hn
        go_wp2
        go_ret
        exact ⟨ret_int (by rw [unhide HR]; rfl), rfl⟩
      · rw [if_neg hb] at hnx
        have HN := hide hnx
        have hb' : ¬ (18014398509481984 : Int) < (n : Int) := by omega
        have hc := (s.getD k 0).toNat_lt
        clear hnx hn
        go_wp2
        have hsz : k < (ByteArray.mk s.toArray).size := by simpa [ByteArray.size] using hlt
        have hg : (ByteArray.mk s.toArray)[k]'hsz = s.getD k 0 := by
          have : s.getD k 0 = s[k] := by simp [hlt]
          rw [this]
          rfl
        rw [hg]
        generalize s.getD k 0 = c at *
        refine ⟨⟨k + 1, 256 * n + c.toNat, by omega, by go_num, ?_, unhide HN, trivial⟩, by simp [Go.RowKit.intOf]; omega⟩
        rw [IntWalk.wrap64_in (c.toNat : Int) (by omega), IntWalk.wrap64_in _ (by omega)]
        simp
    · have hlt' : ¬ (k : Int) < (s.length : Int) := by omega
      obtain rfl : k = s.length := by omega
      have HR := hide (unhide HE n hn)
      clear hn
      by_cases hb : n ≤ 4611686018427387904
      · have hb' : (n : Int) ≤ 4611686018427387904 := by omega
        go_wp2
        go_ret
        exact ⟨ret_int (by rw [unhide HR, if_pos hb]), rfl⟩
      · have hb' : ¬ (n : Int) ≤ 4611686018427387904 := by omega
        go_wp2
        go_ret
        exact ⟨ret_int (by rw [unhide HR, if_neg hb]; rfl), rfl⟩
theorem big4_any (n : Nat) (w : World) (hn : n < 4294967296) :
    Calls Tryd.prog 34 #[I n, I 4] w fun e w' => e = .returned (S (be 4 n)) ∧ Below w.heap.size w w' := by
  go_enter Tryd.func34, Tryd.ntmps34
  go_wp2_with (refine make1 inf5 Tryd.underlying33 rfl (.tmp 7) (.tmp 7) rfl _ _ 4 (by rfl) (by rfl) rfl rfl (by omega) ?_; intro w1 hb1 k1)
  rw [← bws_zero 4 n] at hb1
  have HB := hide hb1
  have HK := hide k1
  clear hb1 k1
  go_loopw [6] (fun i wr => ∃ k : Nat, k ≤ 4 ∧ i = .int .i64 (k : Int) ∧ Rw 5 w.heap.size (bws 4 n k) wr ∧ Below w.heap.size w wr) (fun i _ => 4 - (Go.RowKit.intOf i).toNat)
  case atStart => exact ⟨0, by omega, by simp, unhide HB, unhide HK⟩
  case round =>
    obtain ⟨k, hk, rfl, hrw, hbr⟩ := hrel
    by_cases hlt : k < 4
    · have hst := hrw.set (4 - 1 - k) (.int .u8 ((UInt8.ofNat (n / 256 ^ k)).toNat : Int))
      rw [bws_step 4 n k hlt] at hst
      have hb : ((UInt8.ofNat (n / 256 ^ k)).toNat : Int) = ((n / 256 ^ k : Nat) : Int) % 256 := by
        rw [UInt8.toNat_ofNat']
        omega
      rw [hb] at hst
      have hcell := hrw.cell (4 - 1 - k)
      rw [List.getElem?_eq_getElem (show 4 - 1 - k < (bws 4 n k).length by unfold bws; simp; omega)] at hcell
      have hfz := hrw.fz (4 - 1 - k)
      obtain ⟨v0, hv0⟩ : ∃ v0, (bws 4 n k)[4 - 1 - k]'(by unfold bws; simp; omega) = v0 := ⟨_, rfl⟩
      rw [hv0] at hcell
      have HST := hide hst
      have HBR := hide (hbr.setCell (p := ⟨w.heap.size, 4 - 1 - k, none⟩) (Nat.le_refl _) (.int .u8 (((n / 256 ^ k : Nat) : Int) % 256)))
      clear hst hb hrw hbr hv0
      rcases (by omega : k = 0 ∨ k = 1 ∨ k = 2 ∨ k = 3) with rfl | rfl | rfl | rfl
      · go_wp2
        refine ⟨⟨1, by omega, rfl, ?_, ?_⟩, by simp [Go.RowKit.intOf]⟩
        · first | exact unhide HST | (simpa using unhide HST)
        · first | exact unhide HBR | (simpa using unhide HBR)
      · go_wp2
        refine ⟨⟨2, by omega, rfl, ?_, ?_⟩, by simp [Go.RowKit.intOf]⟩
        · first | exact unhide HST | (simpa using unhide HST)
        · first | exact unhide HBR | (simpa using unhide HBR)
      · go_wp2
        refine ⟨⟨3, by omega, rfl, ?_, ?_⟩, by simp [Go.RowKit.intOf]⟩
        · first | exact unhide HST | (simpa using unhide HST)
        · first | exact unhide HBR | (simpa using unhide HBR)
      · go_wp2
        have e3 : (((n / 256 ^ 3 : Nat) : Int) % 256) = (n : Int) / 16777216 := by
          rw [show (256 : Nat) ^ 3 = 16777216 by decide]
          omega
        have g1 := unhide HST
        have g2 := unhide HBR
        rw [e3] at g1 g2
        exact ⟨⟨4, by omega, rfl, g1, g2⟩, by simp [Go.RowKit.intOf]⟩
    · have hks : k = 4 := by omega
      subst hks
      have hcells : ∀ j, j < 4 → wr.cell? ⟨w.heap.size, 0 + j, none⟩ = some (.int .u8 (((be 4 n).getD j 0).toNat : Int)) := fun j hj => by
        rw [Nat.zero_add, hrw.cell, bws_at 4 n j hj]
      have HX := hide (run_text wr w.heap.size 0 4 4 (be 4 n) (be_len 4 n) hcells)
      have HBR := hide hbr
      clear hcells hrw hbr
      go_wp2_with (refine wpList_conv rfl 33 9 (.tmp 25) rfl _ _ (by rfl) (unhide HX) ?_)
      go_ret
      exact ⟨rfl, unhide HBR⟩
end Go.Proofs.YtbeionikiiccpaaDoor
