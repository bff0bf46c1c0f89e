import Derived.Test.YthlacailhfhjnaaGreatDoorWfc
namespace Go.Proofs.YthlacailhfhjnaaGreatDoor
open Go.RowKit Go.Lib
set_option maxHeartbeats 8000000 in
set_option maxRecDepth 8000 in
theorem rBodied_any (a : Option Addr) (n cap : Nat) (fs : List Fl) (b : Bs) (w : World) (hp : Fls w a n fs) (hL : Lens fs) (hn : n ≤ 140737488351232) (hb : b.length ≤ 9223372036854775807) :
    Calls Tryz.prog 57 #[.slice a n cap, S b] w fun e w' => e = .returned (.bool (flw fs b)) ∧ Below w.heap.size w w' := by
  have HP := hide hp
  have HN := hide hp.1
  clear hp
  go_enter Tryz.func57, Tryz.ntmps57
  go_wp2
  go_loopw [5] (fun i wr => ∃ k : Nat, k ≤ n ∧ i = .int .i64 k ∧ (∀ j, j < k → hdr (fs.getD j fl0) = true) ∧ Below w.heap.size w wr) (fun i _ => n - (Go.RowKit.intOf i).toNat)
  case atStart => exact ⟨0, by omega, rfl, fun j h => absurd h (Nat.not_lt_zero j), Below.refl _ _⟩
  case round =>
    obtain ⟨k, hk, rfl, hq, hbr⟩ := hrel
    have HQ := hide hq
    clear hq
    by_cases hlt : k < n
    · obtain ⟨p, o, rfl, hpl, hc0, hc1⟩ := ((unhide HP).below hbr).at hlt
      have hlt' : (k : Int) < (n : Int) := by omega
      have HF := hide (fun h => flw_no (hs := fs) (b := b) k (by have := unhide HN; omega) h)
      have HS := hide (fun (h : hdr (fs.getD k fl0) = true) (j : Nat) (h3 : j < k + 1) => (show hdr (fs.getD j fl0) = true by
        by_cases e : j = k
        · subst e; exact h
        · exact unhide HQ j (by omega)))
      have hl := hL k
      have HH := hide (rHeader_any (fs.getD k fl0) wr hl.1 hl.2)
      have HB := hide hbr
      clear HQ hl hbr
      generalize fs.getD k fl0 = F at *
      obtain ⟨fn, fv⟩ := F
      simp only at hc0 hc1
      generalize hdr (fn, fv) = H at *
      go_wp2_with fail
      refine (unhide HH).mono ?_
      rintro e w1 ⟨rfl, b1⟩
      have HB2 := hide ((unhide HB).trans (b1.mono (unhide HB).size))
      clear b1 HH HB hc0 hc1
      cases H
      · have HR := hide (unhide HF rfl)
        clear HF HS
        go_wp2
        go_ret
        exact ⟨ret_bool (unhide HR).symm, unhide HB2⟩
      · have HR := hide (unhide HS rfl)
        clear HF HS
        go_wp2
        go_roundw
        case rel => exact ⟨k + 1, by omega, by go_num, unhide HR, unhide HB2⟩
        case measure => simp [Go.RowKit.intOf]; omega
    · have hd : decide ((k : Int) < (n : Int)) = false := by simp; omega
      have HB := hide hbr
      clear hbr
      by_cases h1 : n ≤ 32
      · have i1 : (n : Int) ≤ 32 := by omega
        by_cases h2 : b.length ≤ 4000
        · have i2 : (b.length : Int) ≤ 4000 := by omega
          have HR := hide (flw_yes (hs := fs) (b := b) (by have := unhide HN; omega) h2 (fun j hj => unhide HQ j (by have := unhide HN; omega)))
          go_wp2
          go_ret
          exact ⟨ret_bool (unhide HR).symm, unhide HB⟩
        · have i2 : decide ((b.length : Int) ≤ 4000) = false := by simp; omega
          have HR := hide (flw_long (hs := fs) (b := b) (by omega))
          go_wp2
          go_ret
          exact ⟨ret_bool (unhide HR).symm, unhide HB⟩
      · have i1 : decide ((n : Int) ≤ 32) = false := by simp; omega
        have HR := hide (flw_many (hs := fs) (b := b) (by have := unhide HN; omega))
        go_wp2
        go_ret
        exact ⟨ret_bool (unhide HR).symm, unhide HB⟩
/-- Digits that are still to come. -/
def dgs (m : Nat) : Bs := if m = 0 then [] else decDigits m
theorem dec_dgs (m : Nat) : decDigits m = dgs (m / 10) ++ [UInt8.ofNat (48 + m % 10)] := by
  unfold dgs
  by_cases h : m < 10
  · rw [if_pos (by omega), decDigits, dif_pos h, Nat.mod_eq_of_lt h]; rfl
  · rw [if_neg (by omega)]
    conv => lhs; rw [decDigits, dif_neg h]
theorem dec_le (n : Nat) : (decDigits n).length ≤ n + 1 := by
  induction n using Nat.strongRecOn with
  | _ n ih =>
    by_cases h : n < 10
    · rw [decDigits, dif_pos h]; simp
    · rw [decDigits, dif_neg h]
      have := ih (n / 10) (by omega)
      simp
      omega
theorem dig_at : ∀ k, k < 10 → (ByteArray.mk #[48, 49, 50, 51, 52, 53, 54, 55, 56, 57]).extract k (k + 1) = ⟨#[UInt8.ofNat (48 + k)]⟩ := by
  intro k hk
  match k, hk with
  | 0, _ => rfl
  | 1, _ => rfl
  | 2, _ => rfl
  | 3, _ => rfl
  | 4, _ => rfl
  | 5, _ => rfl
  | 6, _ => rfl
  | 7, _ => rfl
  | 8, _ => rfl
  | 9, _ => rfl
  | k + 10, h => omega
set_option maxHeartbeats 8000000 in
set_option maxRecDepth 8000 in
theorem digits_any (N : Nat) (w : World) (hN : N ≤ 1000000000000) : Calls Tryz.prog 58 #[.int .i64 (N : Int)] w fun e w' => e = .returned (S (decDigits N)) ∧ w' = w := by
  have HD0 := hide (dec_dgs N)
  have hm : (N : Int) % 10 = ((N % 10 : Nat) : Int) := by omega
  have hq : (N : Int) / 10 = ((N / 10 : Nat) : Int) := by omega
  have hlt : N % 10 < 10 := Nat.mod_lt _ (by decide)
  have hqN : N / 10 ≤ N := Nat.div_le_self _ _
  generalize N % 10 = r at *
  generalize N / 10 = q at *
  have HD := dig_at r hlt
  generalize UInt8.ofNat (48 + r) = dr at *
  have h1 : (r : Int) ≤ (r : Int) + 1 := by omega
  have h2 : (r : Int) + 1 ≤ 10 := by omega
  generalize hDN : decDigits N = DN at *
  go_enter Tryz.func58, Tryz.ntmps58
  go_wp2_with fail
  go_loop [0, 3] (fun n s => ∃ (m : Nat) (l : Bs), m ≤ N ∧ n = .int .i64 m ∧ s = S l ∧ DN = dgs m ++ l) (fun n _ => (Go.RowKit.intOf n).toNat)
  case atStart => exact ⟨q, _, hqN, rfl, rfl, unhide HD0⟩
  case round =>
    obtain ⟨m, l, hmN, rfl, rfl, hl⟩ := hrel
    have hll : l.length ≤ 1000000000001 := by
      have h1 := congrArg List.length hl
      rw [List.length_append, ← hDN] at h1
      have h2 := dec_le N
      omega
    have HL := hide hl
    clear HD0 hm hq hlt hqN HD h1 h2 hl
    by_cases h0 : m = 0
    · subst h0
      go_wp2
      go_ret
      exact ⟨by rw [unhide HL]; rfl, rfl⟩
    · have h0' : (0 : Int) < (m : Int) := by omega
      have HE := hide (show DN = dgs (m / 10) ++ (UInt8.ofNat (48 + m % 10) :: l) by
        rw [unhide HL]
        conv => lhs; rw [show dgs m = decDigits m from if_neg h0, dec_dgs m]
        simp)
      have hm : (m : Int) % 10 = ((m % 10 : Nat) : Int) := by omega
      have hq : (m : Int) / 10 = ((m / 10 : Nat) : Int) := by omega
      have hlt : m % 10 < 10 := Nat.mod_lt _ (by decide)
      have hqm : m / 10 < m := by omega
      generalize m % 10 = r2 at *
      generalize m / 10 = q2 at *
      have HD := dig_at r2 hlt
      generalize UInt8.ofNat (48 + r2) = dr2 at *
      have h1 : (r2 : Int) ≤ (r2 : Int) + 1 := by omega
      have h2 : (r2 : Int) + 1 ≤ 10 := by omega
      clear HL
      go_wp2
      refine ⟨⟨q2, dr2 :: l, by omega, by first | rfl | go_num, ?_, unhide HE⟩, ?_⟩
      · first | rfl | simp [ba_append] | (rw [show (⟨#[dr2]⟩ : ByteArray) = ⟨[dr2].toArray⟩ from rfl, ba_append]; rfl)
      · simp [Go.RowKit.intOf]; omega
end Go.Proofs.YthlacailhfhjnaaGreatDoor
