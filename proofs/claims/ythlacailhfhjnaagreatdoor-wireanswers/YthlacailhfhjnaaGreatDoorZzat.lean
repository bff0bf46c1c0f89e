import Derived.Test.YthlacailhfhjnaaGreatDoorZzaq
import Derived.Test.YthlacailhfhjnaaGreatDoorWdi
import Derived.Test.YthlacailhfhjnaaGreatDoorZzao
namespace Go.Proofs.YthlacailhfhjnaaGreatDoor
open Go.RowKit Go.Lib
set_option maxHeartbeats 8000000 in
set_option maxRecDepth 8000 in
theorem small_wide (s : Bs) (w : World) (hs : s.length ≤ 140737488351232) : Calls Tryz.prog 45 #[S s] w fun e w' => e = .returned (S (s.map low)) ∧ Below w.heap.size w w' := by
  go_enter Tryz.func45, Tryz.ntmps45
  go_wp2_with (refine wpList_bytesF rfl (.tmp 5) rfl s (by rfl) ?_; intro w1 cap1 hb1 hf1 hbe1)
  have H0 := hide (show Smb w.heap.size s 0 w w1 from ⟨fun j hj => by rw [sml_at s 0 j hj, if_neg (by omega)]; have := hb1.cell j hj; rwa [Nat.zero_add] at this, hf1, hb1.lt, hbe1⟩)
  have hcap := hb1.cap
  clear hb1 hf1 hbe1
  go_loopw [4] (fun i wr => ∃ k : Nat, k ≤ s.length ∧ i = .int .i64 k ∧ Smb w.heap.size s k w wr) (fun i _ => s.length - (Go.RowKit.intOf i).toNat)
  case atStart => exact ⟨0, by omega, rfl, unhide H0⟩
  case round =>
    obtain ⟨k, hk, rfl, hi⟩ := hrel
    clear H0
    by_cases hlt : k < s.length
    · have hc := hi.cell k hlt
      rw [sml_at s k k hlt, if_neg (by omega)] at hc
      have hf := hi.fz k hlt
      have hl := hi.lt
      have hki : (k : Int) < (s.length : Int) := by omega
      by_cases hu : up (s.getD k 0) = true
      · have hu2 : 65 ≤ (s.getD k 0).toNat ∧ (s.getD k 0).toNat ≤ 90 := by unfold up at hu; simpa using hu
        have hlow : (low (s.getD k 0)).toNat = (s.getD k 0).toNat + 32 := by
          unfold low
          rw [if_pos hu, UInt8.toNat_add]
          show ((s.getD k 0).toNat + 32) % 256 = _
          omega
        have HS := hide (hi.set hlt (Nat.le_refl _))
        rw [hlow] at HS
        generalize (s.getD k 0).toNat = n at *
        have i1 : (65 : Int) ≤ (n : Int) := by omega
        have i2 : (n : Int) ≤ 90 := by omega
        have i3 : (n : Int) + 32 ≤ 255 := by omega
        clear hi hu hlow
        go_wp2
        refine ⟨⟨k + 1, by omega, by go_num, ?_⟩, ?_⟩
        · have := unhide HS
          simpa using this
        · simp [Go.RowKit.intOf]; omega
      · have hu' : up (s.getD k 0) = false := by simpa using hu
        have HS := hide (hi.same hlt hu')
        have hu2 : ¬ (65 ≤ (s.getD k 0).toNat ∧ (s.getD k 0).toNat ≤ 90) := by unfold up at hu'; simpa using hu'
        generalize (s.getD k 0).toNat = n at *
        clear hi hu hu'
        by_cases h1 : 65 ≤ n
        · have i1 : (65 : Int) ≤ (n : Int) := by omega
          have i2 : ¬ (n : Int) ≤ 90 := by omega
          have i3 : decide ((n : Int) ≤ 90) = false := by simpa using i2
          go_wp2
          refine ⟨⟨k + 1, by omega, by go_num, unhide HS⟩, ?_⟩
          simp [Go.RowKit.intOf]; omega
        · have i1 : ¬ (65 : Int) ≤ (n : Int) := by omega
          have i3 : decide ((65 : Int) ≤ (n : Int)) = false := by simpa using i1
          go_wp2
          refine ⟨⟨k + 1, by omega, by go_num, unhide HS⟩, ?_⟩
          simp [Go.RowKit.intOf]; omega
    · have hd : decide (k < s.length) = false := by simp; omega
      have hke : k = s.length := by omega
      have HT : Hid ((convert 102 9 (.slice (some ⟨w.heap.size, 0, none⟩) s.length cap1)).run Tryz.prog wr = .ok (S (s.map low)) wr) := hide (by
        refine run_text wr w.heap.size 0 s.length cap1 (s.map low) (by simp) ?_
        intro j hj
        rw [Nat.zero_add, hi.cell j hj, sml_at s k j hj, if_pos (by omega)]
        simp [hj])
      have HB := hide hi.bel
      clear hi hke
      go_wp2_with (first | (refine wpList_conv rfl 102 9 (.tmp 33) rfl _ _ (by rfl) (unhide HT) ?_))
      go_ret
      exact ⟨rfl, unhide HB⟩
set_option maxHeartbeats 8000000 in
set_option maxRecDepth 8000 in
theorem rValue_any (s : Bs) (w : World) (hs : s.length ≤ 9223372036854775806) : Calls Tryz.prog 102 #[S s] w fun e w' => e = .returned (.bool (hvl s)) ∧ w' = w := by
  have HW := hide (within_any s 32 126 w hs)
  rw [wth_shn] at HW
  have HM : Hid (hvl s = (s.all shn && !(s.head? == some 32) && !(s.getLast? == some 32))) := hide rfl
  generalize s.all shn = A at *
  generalize hvl s = M at *
  go_enter Tryz.func102, Tryz.ntmps102
  go_wp2_with fail
  refine (unhide HW).mono ?_
  rintro e w1 ⟨rfl, hw⟩
  rw [hw]
  clear hw HW w1
  cases A
  · go_wp2
    go_ret
    exact ⟨ret_bool (by rw [unhide HM]; simp), rfl⟩
  · by_cases h1 : s = []
    · subst h1
      go_wp2
      go_ret
      exact ⟨ret_bool (by rw [unhide HM]; rfl), rfl⟩
    · have hl : 0 < s.length := List.length_pos_iff.2 h1
      have hl' : (0 : Int) < (s.length : Int) := by omega
      have hl2 : (1 : Int) ≤ (s.length : Int) := by omega
      have hsz : 0 < (ByteArray.mk s.toArray).size := by simp [ByteArray.size]; omega
      have hC : (ByteArray.mk s.toArray)[0]'hsz = s[0] := rfl
      have hsz2 : s.length - 1 < (ByteArray.mk s.toArray).size := by simp [ByteArray.size]; omega
      have hC2 : (ByteArray.mk s.toArray)[s.length - 1]'hsz2 = s[s.length - 1] := rfl
      rw [head_at s hl, last_at s hl] at HM
      have hne : (s == []) = false := by simpa using h1
      generalize s[0] = c at *
      generalize s[s.length - 1]'(by omega) = d at *
      have q : ∀ c : UInt8, ((c.toNat : Int) == 32) = (some c == some 32) := all_u8 (by decide +kernel)
      have q1 := q c
      have q2 := q d
      clear q
      generalize (some c == some 32) = P1 at *
      generalize (some d == some 32) = P2 at *
      by_cases p1 : (c.toNat : Int) = 32
      · have e1 : P1 = true := by rw [← q1]; simpa using p1
        subst e1
        clear q1 q2
        go_wp2
        go_ret
        exact ⟨ret_bool (by rw [unhide HM]; rfl), rfl⟩
      · have e1 : P1 = false := by rw [← q1]; simpa using p1
        subst e1
        have HQ := hide q2
        clear q1 q2
        have hll : (s.length : Int) - 1 < (s.length : Int) := by omega
        go_wp2
        go_ret
        exact ⟨ret_bool (by rw [unhide HM, ← unhide HQ]; simp [bne, p1]), rfl⟩
theorem hdr_eq (n v : Bs) : hdr (n, v) = (hnm n && hvl v && decide (n.length + 2 + v.length ≤ 1000) && !(n.map low == [99, 111, 110, 116, 101, 110, 116, 45, 108, 101, 110, 103, 116, 104]) && !(n.map low == [116, 114, 97, 110, 115, 102, 101, 114, 45, 101, 110, 99, 111, 100, 105, 110, 103])) := by
  unfold hdr
  rw [alk_cl, alk_te]
  generalize (n.map low == [99, 111, 110, 116, 101, 110, 116, 45, 108, 101, 110, 103, 116, 104]) = A
  generalize (n.map low == [116, 114, 97, 110, 115, 102, 101, 114, 45, 101, 110, 99, 111, 100, 105, 110, 103]) = B
  generalize hnm n = C
  generalize hvl v = D
  show (decide (n.length + 2 + v.length ≤ 1000) && C && D && !A && !B) = _
  generalize decide (n.length + 2 + v.length ≤ 1000) = E
  cases A <;> cases B <;> cases C <;> cases D <;> cases E <;> rfl
set_option maxHeartbeats 8000000 in
set_option maxRecDepth 8000 in
theorem rHeader_any (f : Fl) (w : World) (h1 : f.1.length ≤ 140737488351232) (h2 : f.2.length ≤ 140737488351232) : Calls Tryz.prog 85 #[.agg #[S f.1, S f.2]] w fun e w' => e = .returned (.bool (hdr f)) ∧ Below w.heap.size w w' := by
  obtain ⟨n, v⟩ := f
  simp only at h1 h2 ⊢
  have b0 := (Below.refl w.heap.size w).alloc (Nat.le_refl _) (.cells #[S n, S v] 35)
  have x0 := heap_alloc_new w (.cells #[S n, S v] 35)
  have H1 := hide (rName_any n (w.alloc (.cells #[S n, S v] 35)) (by omega))
  have H2 := hide (rValue_any v (w.alloc (.cells #[S n, S v] 35)) (by omega))
  have H3 := hide (small_wide n (w.alloc (.cells #[S n, S v] 35)) (by omega))
  have HX := hide (hdr_eq n v)
  generalize hdr (n, v) = X at *
  generalize hnm n = A at *
  generalize hvl v = B1 at *
  generalize n.map low = L at *
  have X0 := hide (And.intro b0 x0)
  clear b0 x0
  go_enter Tryz.func85, Tryz.ntmps85
  go_wp2_with fail
  refine (unhide H1).mono ?_
  rintro e w1 ⟨rfl, hw⟩
  rw [hw]
  clear hw w1 H1
  go_wp2_with fail
  refine (unhide H2).mono ?_
  rintro e w1 ⟨rfl, hw⟩
  rw [hw]
  clear hw w1 H2
  go_wp2_with fail
  refine (unhide H3).mono ?_
  rintro e w1 ⟨rfl, b1⟩
  have x1 := (b1.block _ (lt_of_row (unhide X0).2)).trans (unhide X0).2
  have HB := hide ((unhide X0).1.trans (b1.mono (unhide X0).1.size))
  have d0 : w1.cell? ⟨w.heap.size, 0, none⟩ = some (S n) := cell_of_row w1 _ 0 _ 35 (0, 0) x1
  have d1 : w1.cell? ⟨w.heap.size, 1, none⟩ = some (S v) := cell_of_row w1 _ 1 _ 35 (0, 0) x1
  clear b1 x1 X0 H3
  cases A
  · go_wp2
    go_ret
    exact ⟨ret_bool (by rw [unhide HX]; rfl), unhide HB⟩
  cases B1
  · go_wp2
    go_ret
    exact ⟨ret_bool (by rw [unhide HX]; rfl), unhide HB⟩
  by_cases hl : n.length + 2 + v.length ≤ 1000
  · have il : (n.length : Int) + 2 + (v.length : Int) ≤ 1000 := by omega
    rw [decide_eq_true hl] at HX
    by_cases hA : (L == [99, 111, 110, 116, 101, 110, 116, 45, 108, 101, 110, 103, 116, 104]) = true
    · rw [hA] at HX
      go_wp2
      go_ret
      exact ⟨ret_bool (by rw [unhide HX]; rfl), unhide HB⟩
    · have hA' : (L == [99, 111, 110, 116, 101, 110, 116, 45, 108, 101, 110, 103, 116, 104]) = false := by simpa using hA
      rw [hA'] at HX
      by_cases hC : (L == [116, 114, 97, 110, 115, 102, 101, 114, 45, 101, 110, 99, 111, 100, 105, 110, 103]) = true
      · rw [hC] at HX
        go_wp2
        go_ret
        exact ⟨ret_bool (by rw [unhide HX]; rfl), unhide HB⟩
      · have hC' : (L == [116, 114, 97, 110, 115, 102, 101, 114, 45, 101, 110, 99, 111, 100, 105, 110, 103]) = false := by simpa using hC
        rw [hC'] at HX
        go_wp2
        go_ret
        exact ⟨ret_bool (by rw [unhide HX]; rfl), unhide HB⟩
  · have il : ¬ (n.length : Int) + 2 + (v.length : Int) ≤ 1000 := by omega
    rw [decide_eq_false hl] at HX
    go_wp2
    go_ret
    exact ⟨ret_bool (by rw [unhide HX]; rfl), unhide HB⟩
end Go.Proofs.YthlacailhfhjnaaGreatDoor
namespace Go.Proofs.YthlacailhfhjnaaGreatDoor
open Go.RowKit Go.Lib
set_option maxHeartbeats 8000000 in
set_option maxRecDepth 8000 in
theorem rBodied_any (a : Option Addr) (n cap : Nat) (fs : List Fl) (b : Bs) (w : World) (hp : Fls w a n fs) (hL : Lens fs) (hn : n ≤ 140737488351232) (hb : b.length ≤ 9223372036854775807) :
    Calls Tryz.prog 57 #[.slice a n cap, S b] w fun e w' => e = .returned (.bool (flw fs b)) ∧ Below w.heap.size w w' := by
  have HP := hide hp
  have HN := hide hp.1
  clear hp
  go_enter Tryz.func57, Tryz.ntmps57
  go_wp2
  go_loopw [5] (fun i wr => ∃ k : Nat, k ≤ n ∧ i = .int .i64 k ∧ (∀ j, j < k → hdr (fs.getD j fl0) = true) ∧ Below w.heap.size w wr) (fun i _ => n - (Go.RowKit.intOf i).toNat)
  case atStart => exact ⟨0, by omega, rfl, fun j h => absurd h (Nat.not_lt_zero j), Below.refl _ _⟩
  case round =>
    obtain ⟨k, hk, rfl, hq, hbr⟩ := hrel
    have HQ := hide hq
    clear hq
    by_cases hlt : k < n
    · obtain ⟨p, o, rfl, hpl, hc0, hc1⟩ := ((unhide HP).below hbr).at hlt
      have hlt' : (k : Int) < (n : Int) := by omega
      have HF := hide (fun h => flw_no (hs := fs) (b := b) k (by have := unhide HN; omega) h)
      have HS := hide (fun (h : hdr (fs.getD k fl0) = true) (j : Nat) (h3 : j < k + 1) => (show hdr (fs.getD j fl0) = true by
        by_cases e : j = k
        · subst e; exact h
        · exact unhide HQ j (by omega)))
      have hl := hL k
      have HH := hide (rHeader_any (fs.getD k fl0) wr hl.1 hl.2)
      have HB := hide hbr
      clear HQ hl hbr
      generalize fs.getD k fl0 = F at *
      obtain ⟨fn, fv⟩ := F
      simp only at hc0 hc1
      generalize hdr (fn, fv) = H at *
      go_wp2_with fail
      refine (unhide HH).mono ?_
      rintro e w1 ⟨rfl, b1⟩
      have HB2 := hide ((unhide HB).trans (b1.mono (unhide HB).size))
      clear b1 HH HB hc0 hc1
      cases H
      · have HR := hide (unhide HF rfl)
        clear HF HS
        go_wp2
        go_ret
        exact ⟨ret_bool (unhide HR).symm, unhide HB2⟩
      · have HR := hide (unhide HS rfl)
        clear HF HS
        go_wp2
        go_roundw
        case rel => exact ⟨k + 1, by omega, by go_num, unhide HR, unhide HB2⟩
        case measure => simp [Go.RowKit.intOf]; omega
    · have hd : decide ((k : Int) < (n : Int)) = false := by simp; omega
      have HB := hide hbr
      clear hbr
      by_cases h1 : n ≤ 32
      · have i1 : (n : Int) ≤ 32 := by omega
        by_cases h2 : b.length ≤ 4000
        · have i2 : (b.length : Int) ≤ 4000 := by omega
          have HR := hide (flw_yes (hs := fs) (b := b) (by have := unhide HN; omega) h2 (fun j hj => unhide HQ j (by have := unhide HN; omega)))
          go_wp2
          go_ret
          exact ⟨ret_bool (unhide HR).symm, unhide HB⟩
        · have i2 : decide ((b.length : Int) ≤ 4000) = false := by simp; omega
          have HR := hide (flw_long (hs := fs) (b := b) (by omega))
          go_wp2
          go_ret
          exact ⟨ret_bool (unhide HR).symm, unhide HB⟩
      · have i1 : decide ((n : Int) ≤ 32) = false := by simp; omega
        have HR := hide (flw_many (hs := fs) (b := b) (by have := unhide HN; omega))
        go_wp2
        go_ret
        exact ⟨ret_bool (unhide HR).symm, unhide HB⟩
/-- Digits that are still to come. -/
def dgs (m : Nat) : Bs := if m = 0 then [] else decDigits m
theorem dec_dgs (m : Nat) : decDigits m = dgs (m / 10) ++ [UInt8.ofNat (48 + m % 10)] := by
  unfold dgs
  by_cases h : m < 10
  · rw [if_pos (by omega), decDigits, dif_pos h, Nat.mod_eq_of_lt h]; rfl
  · rw [if_neg (by omega)]
    conv => lhs; rw [decDigits, dif_neg h]
theorem dec_le (n : Nat) : (decDigits n).length ≤ n + 1 := by
  induction n using Nat.strongRecOn with
  | _ n ih =>
    by_cases h : n < 10
    · rw [decDigits, dif_pos h]; simp
    · rw [decDigits, dif_neg h]
      have := ih (n / 10) (by omega)
      simp
      omega
theorem dig_at : ∀ k, k < 10 → (ByteArray.mk #[48, 49, 50, 51, 52, 53, 54, 55, 56, 57]).extract k (k + 1) = ⟨#[UInt8.ofNat (48 + k)]⟩ := by
  intro k hk
  match k, hk with
  | 0, _ => rfl
  | 1, _ => rfl
  | 2, _ => rfl
  | 3, _ => rfl
  | 4, _ => rfl
  | 5, _ => rfl
  | 6, _ => rfl
  | 7, _ => rfl
  | 8, _ => rfl
  | 9, _ => rfl
  | k + 10, h => omega
set_option maxHeartbeats 8000000 in
set_option maxRecDepth 8000 in
theorem digits_any (N : Nat) (w : World) (hN : N ≤ 1000000000000) : Calls Tryz.prog 58 #[.int .i64 (N : Int)] w fun e w' => e = .returned (S (decDigits N)) ∧ w' = w := by
  have HD0 := hide (dec_dgs N)
  have hm : (N : Int) % 10 = ((N % 10 : Nat) : Int) := by omega
  have hq : (N : Int) / 10 = ((N / 10 : Nat) : Int) := by omega
  have hlt : N % 10 < 10 := Nat.mod_lt _ (by decide)
  have hqN : N / 10 ≤ N := Nat.div_le_self _ _
  generalize N % 10 = r at *
  generalize N / 10 = q at *
  have HD := dig_at r hlt
  generalize UInt8.ofNat (48 + r) = dr at *
  have h1 : (r : Int) ≤ (r : Int) + 1 := by omega
  have h2 : (r : Int) + 1 ≤ 10 := by omega
  generalize hDN : decDigits N = DN at *
  go_enter Tryz.func58, Tryz.ntmps58
  go_wp2_with fail
  go_loop [0, 3] (fun n s => ∃ (m : Nat) (l : Bs), m ≤ N ∧ n = .int .i64 m ∧ s = S l ∧ DN = dgs m ++ l) (fun n _ => (Go.RowKit.intOf n).toNat)
  case atStart => exact ⟨q, _, hqN, rfl, rfl, unhide HD0⟩
  case round =>
    obtain ⟨m, l, hmN, rfl, rfl, hl⟩ := hrel
    have hll : l.length ≤ 1000000000001 := by
      have h1 := congrArg List.length hl
      rw [List.length_append, ← hDN] at h1
      have h2 := dec_le N
      omega
    have HL := hide hl
    clear HD0 hm hq hlt hqN HD h1 h2 hl
    by_cases h0 : m = 0
    · subst h0
      go_wp2
      go_ret
      exact ⟨by rw [unhide HL]; rfl, rfl⟩
    · have h0' : (0 : Int) < (m : Int) := by omega
      have HE := hide (show DN = dgs (m / 10) ++ (UInt8.ofNat (48 + m % 10) :: l) by
        rw [unhide HL]
        conv => lhs; rw [show dgs m = decDigits m from if_neg h0, dec_dgs m]
        simp)
      have hm : (m : Int) % 10 = ((m % 10 : Nat) : Int) := by omega
      have hq : (m : Int) / 10 = ((m / 10 : Nat) : Int) := by omega
      have hlt : m % 10 < 10 := Nat.mod_lt _ (by decide)
      have hqm : m / 10 < m := by omega
      generalize m % 10 = r2 at *
      generalize m / 10 = q2 at *
      have HD := dig_at r2 hlt
      generalize UInt8.ofNat (48 + r2) = dr2 at *
      have h1 : (r2 : Int) ≤ (r2 : Int) + 1 := by omega
      have h2 : (r2 : Int) + 1 ≤ 10 := by omega
      clear HL
      go_wp2
      refine ⟨⟨q2, dr2 :: l, by omega, by first | rfl | go_num, ?_, unhide HE⟩, ?_⟩
      · first | rfl | simp [ba_append] | (rw [show (⟨#[dr2]⟩ : ByteArray) = ⟨[dr2].toArray⟩ from rfl, ba_append]; rfl)
      · simp [Go.RowKit.intOf]; omega
end Go.Proofs.YthlacailhfhjnaaGreatDoor
namespace Go.Proofs.YthlacailhfhjnaaGreatDoor
open Go.RowKit Go.Lib
theorem up_ne32 {c : UInt8} (h : up c = true) : c ≠ 32 ∧ c ≠ 10 := by
  have q : ∀ c : UInt8, up c = true → c ≠ 32 ∧ c ≠ 10 := all_u8 (by decide +kernel)
  exact q c h
theorem pby_ne32 {c : UInt8} (h : pby c = true) : c ≠ 32 ∧ c ≠ 10 := by
  have q : ∀ c : UInt8, pby c = true → c ≠ 32 ∧ c ≠ 10 := all_u8 (by decide +kernel)
  exact q c h
theorem meth_all {s : Bs} (h : meth s = true) : ∀ c ∈ s, up c = true := by
  unfold meth at h; simp only [Bool.and_eq_true] at h; exact List.all_eq_true.1 h.2
theorem pth_all {s : Bs} (h : pth s = true) : ∀ c ∈ s, pby c = true := by
  unfold pth at h; simp only [Bool.and_eq_true] at h; exact List.all_eq_true.1 h.2
/-- The first line that is printed of a message is read as it was. -/
theorem mline_op {m p : Bs} (hm : meth m = true) (hp : pth p = true) : opM (mline m p) = some ⟨m, p, 0⟩ ∧ (∀ c ∈ mline m p, c ≠ 10) ∧ (mline m p).length ≤ 1000 := by
  have e1 : mline m p = m ++ 32 :: (p ++ 32 :: vers) := by simp [mline]
  have a1 := hd_app 32 m (p ++ 32 :: vers) (fun x hx => (up_ne32 (meth_all hm x hx)).1)
  have a2 := hd_app 32 p vers (fun x hx => (pby_ne32 (pth_all hp x hx)).1)
  refine ⟨?_, ?_, ?_⟩
  · unfold opM
    rw [e1, a1.1, a1.2, a2.1, a2.2, hm, hp]
    simp
  · intro c hc
    rw [e1] at hc
    simp only [List.mem_append, List.mem_cons] at hc
    rcases hc with hc | rfl | hc | rfl | hc
    · exact (up_ne32 (meth_all hm c hc)).2
    · decide
    · exact (pby_ne32 (pth_all hp c hc)).2
    · decide
    · revert c hc; decide
  · have := meth_len hm
    have := pth_len hp
    rw [e1]
    simp [vers]
    omega
theorem aline_op {n : Nat} (h : 100 ≤ n ∧ n ≤ 599) (hd9 : (decDigits n).length ≤ 100) : opA (aline n) = some ⟨[], [], n⟩ ∧ (∀ c ∈ aline n, c ≠ 10) ∧ (aline n).length ≤ 1000 := by
  have e1 : aline n = (vers ++ [32]) ++ (decDigits n ++ 32 :: rsn n) := by simp [aline, vers]
  have hds : ∀ c ∈ decDigits n, shn c = true ∧ c ≠ 32 := fun c hc => dgt_shn (dec_dgt n c hc)
  have a1 := hd_app 32 (decDigits n) (rsn n) (fun x hx => (hds x hx).2)
  have e2 : (aline n).drop 9 = decDigits n ++ 32 :: rsn n := by rw [e1]; rfl
  have e3 : (vers ++ [32]).isPrefixOf (aline n) = true := by
    rw [e1]
    simp [List.isPrefixOf_iff_prefix]
  have hr := rsn_shn n
  refine ⟨?_, ?_, ?_⟩
  · unfold opA
    rw [e3, e2, a1.1, a1.2, dec_num, dec_vl, hr.1]
    have : (decDigits n).length < (decDigits n ++ 32 :: rsn n).length := by simp
    rw [if_pos (by simp [h])]
  · intro c hc
    rw [e1] at hc
    simp only [List.mem_append, List.mem_cons] at hc
    rcases hc with (hc | hc) | hc | rfl | hc
    · revert c hc; decide
    · simp at hc; subst hc; decide
    · exact shn_ne10 (hds c hc).1
    · decide
    · exact shn_ne10 (List.all_eq_true.1 hr.1 c hc)
  · rw [e1]
    simp [vers]
    omega
/-- A message that was printed: its bytes but the last end nothing, the last one ends it. -/
theorem msg_back {m : Ms} (h : may m = true) (hd9 : (decDigits m.b.length).length ≤ 100) : ∃ (i : Bs) (c : UInt8) (q : Ps), lay (mline m.m m.p) m.hs m.b = i ++ [c] ∧ run opM p0 i = some q ∧ (step opM q c).2 = 0 ∧ (step opM q c).1.st = 3 ∧ (step opM q c).1.ms = m := by
  unfold may at h
  simp only [Bool.and_eq_true] at h
  obtain ⟨o1, o2, o3⟩ := mline_op h.1.1 h.1.2
  obtain ⟨i, c, q, e, hr, hs⟩ := lay_reads o1 o2 o3 m.hs m.b h.2 hd9
  refine ⟨i, c, q, e, hr, ?_⟩
  rw [hs]
  exact ⟨rfl, rfl, rfl⟩
theorem ans_back {n : Nat} {hs : List Fl} {b : Bs} (hn : 100 ≤ n ∧ n ≤ 599) (h : flw hs b = true) (hd8 : (decDigits n).length ≤ 100) (hd9 : (decDigits b.length).length ≤ 100) : ∃ (i : Bs) (c : UInt8) (q : Ps), lay (aline n) hs b = i ++ [c] ∧ run opA p0 i = some q ∧ (step opA q c).2 = 0 ∧ (step opA q c).1.st = 3 ∧ (step opA q c).1.fs.s = n ∧ (step opA q c).1.hs = hs ∧ (step opA q c).1.bd = b := by
  obtain ⟨o1, o2, o3⟩ := aline_op hn hd8
  obtain ⟨i, c, q, e, hr, hst⟩ := lay_reads o1 o2 o3 hs b h hd9
  refine ⟨i, c, q, e, hr, ?_⟩
  rw [hst]
  exact ⟨rfl, rfl, rfl, rfl, rfl⟩
theorem dec_len (n : Nat) (h : n < 10000) : (decDigits n).length ≤ 4 := by
  by_cases h1 : n < 10
  · rw [decDigits, dif_pos h1]; simp
  by_cases h2 : n < 100
  · rw [decDigits, dif_neg h1, decDigits, dif_pos (by omega)]; simp
  by_cases h3 : n < 1000
  · rw [decDigits, dif_neg h1, decDigits, dif_neg (by omega), decDigits, dif_pos (by omega)]; simp
  · rw [decDigits, dif_neg h1, decDigits, dif_neg (by omega), decDigits, dif_neg (by omega), decDigits, dif_pos (by omega)]; simp
/-- A beginning of a message, then the rest. -/
theorem feed_begin {m : Ms} (h : may m = true) (k : Nat) (hk : k < (lay (mline m.m m.p) m.hs m.b).length) :
    ∃ r, feed p0 ((lay (mline m.m m.p) m.hs m.b).take k) = (r, [], 0) ∧ r.rd = k ∧ r.st < 3 ∧ feed r ((lay (mline m.m m.p) m.hs m.b).drop k) = (p0, [m], 0) := by
  have hb : m.b.length ≤ 4000 := by
    unfold may at h
    simp only [Bool.and_eq_true] at h
    exact (flw_len h.2).2.2
  obtain ⟨i, c, q, e, hr, s1, s2, s3⟩ := msg_back h (by have := dec_len m.b.length (by omega); omega)
  rw [e] at hk ⊢
  have hk2 : k ≤ i.length := by simp at hk; omega
  obtain ⟨r, r1, r2⟩ := run_take hr k
  have t1 : (i ++ [c]).take k = i.take k := by rw [List.take_append_of_le_length hk2]
  have t2 : (i ++ [c]).drop k = i.drop k ++ [c] := by rw [List.drop_append_of_le_length hk2]
  have hrd := run_rd r1 (by decide)
  refine ⟨r, ?_, ?_, hrd.2, ?_⟩
  · unfold feed
    rw [if_neg (by decide), t1]
    have := fd_run r1 [] []
    rw [List.append_nil] at this
    rw [this]; rfl
  · rw [hrd.1]
    simp [p0]
    omega
  · unfold feed
    rw [if_neg (by have := hrd.2; omega), t2, fd_run r2]
    simp only [fd]
    rw [if_neg (by simp [s1]), if_pos s2, s3]
    rfl
theorem pa_back {n : Nat} {hs : List Fl} {b : Bs} (hn : 100 ≤ n ∧ n ≤ 599) (h : flw hs b = true) (t : Bs) : pa p0 (lay (aline n) hs b ++ t) = .ok (⟨n, hs, b⟩, t) := by
  have hb := (flw_len h).2.2
  obtain ⟨i, c, q, e, hr, s1, s2, s3, s4, s5⟩ := ans_back hn h (by have := dec_len n (by omega); omega) (by have := dec_len b.length (by omega); omega)
  rw [e, List.append_assoc, pa_run hr]
  simp only [List.cons_append, List.nil_append, pa]
  rw [if_neg (by simp [s1]), if_pos s2, s3, s4, s5]
theorem pa_begin {n : Nat} {hs : List Fl} {b : Bs} (hn : 100 ≤ n ∧ n ≤ 599) (h : flw hs b = true) (k : Nat) (hk : k < (lay (aline n) hs b).length) : pa p0 ((lay (aline n) hs b).take k) = .error 56 := by
  have hb := (flw_len h).2.2
  obtain ⟨i, c, q, e, hr, s1, s2, s3, s4, s5⟩ := ans_back hn h (by have := dec_len n (by omega); omega) (by have := dec_len b.length (by omega); omega)
  rw [e] at hk ⊢
  have hk2 : k ≤ i.length := by simp at hk; omega
  obtain ⟨r, r1, r2⟩ := run_take hr k
  rw [List.take_append_of_le_length hk2]
  have := pa_run r1 []
  rw [List.append_nil] at this
  rw [this]; rfl
end Go.Proofs.YthlacailhfhjnaaGreatDoor
