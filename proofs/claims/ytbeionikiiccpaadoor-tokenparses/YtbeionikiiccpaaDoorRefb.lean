import Derived.Test.YtbeionikiiccpaaDoorSpl
namespace Go.Proofs.YtbeionikiiccpaaDoor
open Go.RowKit Go.Lib
def pad (n : Nat) : List UInt8 := List.replicate ((3 - n % 3) % 3) 61
def enc (A : List UInt8) (fill : Bool) (s : List UInt8) : List UInt8 := sgn A (Six.sig s) ++ if fill then pad s.length else []
theorem sig_app (x y : List UInt8) (h : x.length % 3 = 0) : Six.sig (x ++ y) = Six.sig x ++ Six.sig y := by
  induction x using Six.sig.induct with
  | case1 a b c r ih => simp only [List.cons_append, Six.sig]; rw [ih (by simp only [List.length_cons] at h; omega)]; simp
  | case2 a b => simp at h
  | case3 a => simp at h
  | case4 => rfl
theorem pad_0 {n : Nat} (h : n % 3 = 0) : pad n = [] := by simp [pad, h]
theorem enc_full (A : List UInt8) (fill : Bool) (x : List UInt8) (h : x.length % 3 = 0) : enc A fill x = sgn A (Six.sig x) := by
  unfold enc
  rw [pad_0 h]
  simp
theorem sgn_app2 (A : List UInt8) (x y : List Nat) : sgn A (x ++ y) = sgn A x ++ sgn A y := by simp [sgn]
theorem enc_app (A : List UInt8) (fill : Bool) (x y : List UInt8) (h : x.length % 3 = 0) : enc A fill (x ++ y) = enc A fill x ++ enc A fill y := by
  rw [enc_full A fill x h]
  unfold enc
  rw [sig_app x y h, sgn_app2, List.length_append, List.append_assoc]
  congr 3
  unfold pad
  congr 2
  omega
theorem enc_len (A : List UInt8) (fill : Bool) (s : List UInt8) : (enc A fill s).length ≤ 4 * s.length + 4 := by
  unfold enc
  rw [List.length_append, sgn_len, Six.sig_len]
  split
  · simp [pad]; omega
  · simp; omega
theorem grp3 (s : List UInt8) (i : Nat) (h : i + 2 < s.length) : s.take (i + 3) = s.take i ++ [s[i], s[i + 1], s[i + 2]] := by
  have h1 := take_snoc s i (by omega)
  have h2 : s.take (i + 2) = s.take (i + 1) ++ [s[i + 1]] := take_snoc s (i + 1) (by omega)
  have h3 : s.take (i + 3) = s.take (i + 2) ++ [s[i + 2]] := take_snoc s (i + 2) (by omega)
  rw [h3, h2, h1, List.append_assoc, List.append_assoc]; rfl
theorem grp2 (s : List UInt8) (i : Nat) (h : i + 2 = s.length) : s.take (i + 3) = s.take i ++ [s[i], s[i + 1]] := by
  have h1 := take_snoc s i (by omega)
  have h2 : s.take (i + 2) = s.take (i + 1) ++ [s[i + 1]] := take_snoc s (i + 1) (by omega)
  have h3 : s.take (i + 3) = s.take (i + 2) := by rw [List.take_of_length_le (by omega), List.take_of_length_le (by omega)]
  rw [h3, h2, h1, List.append_assoc]; rfl
theorem grp1 (s : List UInt8) (i : Nat) (h : i + 1 = s.length) : s.take (i + 3) = s.take i ++ [s[i]] := by
  have h1 := take_snoc s i (by omega)
  have h3 : s.take (i + 3) = s.take (i + 1) := by rw [List.take_of_length_le (by omega), List.take_of_length_le (by omega)]
  rw [h3, h1]
theorem enc3 (A : List UInt8) (fill : Bool) (x y z : UInt8) : enc A fill [x, y, z] = [A.getD (x.toNat / 4) 0, A.getD (x.toNat % 4 * 16 + y.toNat / 16) 0, A.getD (y.toNat % 16 * 4 + z.toNat / 64) 0, A.getD (z.toNat % 64) 0] := by
  cases fill <;> simp [enc, sgn, Six.sig, pad]
theorem enc2 (A : List UInt8) (fill : Bool) (x y : UInt8) : enc A fill [x, y] = [A.getD (x.toNat / 4) 0, A.getD (x.toNat % 4 * 16 + y.toNat / 16) 0, A.getD (y.toNat % 16 * 4) 0] ++ if fill then [61] else [] := by
  cases fill <;> simp [enc, sgn, Six.sig, pad]
theorem enc1 (A : List UInt8) (fill : Bool) (x : UInt8) : enc A fill [x] = [A.getD (x.toNat / 4) 0, A.getD (x.toNat % 4 * 16) 0] ++ if fill then [61, 61] else [] := by
  cases fill <;> simp [enc, sgn, Six.sig, pad]
theorem byteAt (s : List UInt8) (k : Nat) (h : k < s.length) : ∃ a : Nat, a < 256 ∧ s[k].toNat = a ∧ ∃ h' : k < (ByteArray.mk s.toArray).size, ((ByteArray.mk s.toArray)[k]'h').toNat = a :=
  ⟨s[k].toNat, s[k].toNat_lt, rfl, by simpa [ByteArray.size] using h, rfl⟩
set_option maxHeartbeats 4000000 in
set_option maxRecDepth 8000 in
theorem refsigns_any (s A : List UInt8) (fill : Bool) (w : World) (hs : s.length ≤ 17592186044416) (hA : A.length = 64) :
    Calls Tryd.prog 32 #[.string ⟨s.toArray⟩, .string ⟨A.toArray⟩, .bool fill] w fun e w' => e = .returned (.string ⟨(enc A fill s).toArray⟩) ∧ Below w.heap.size w w' := by
  go_enter Tryd.func32, Tryd.ntmps32
  go_wp2
  go_loopw [7, 8] (fun v i wr => ∃ k : Nat, k ≤ s.length + 2 ∧ k % 3 = 0 ∧ i = .int .i64 k ∧ Own w.heap.size v (enc A fill (s.take k)) w wr) (fun _ i _ => s.length - (intOf i).toNat)
  case atStart => exact ⟨0, by omega, rfl, rfl, by simpa [enc, sgn, Six.sig, pad] using Own.nil w⟩
  case round =>
    obtain ⟨k, hk, hk3, rfl, hb⟩ := hrel
    by_cases hlt : k < s.length
    · have hol := enc_len A fill (s.take k)
      have hol2 : (enc A fill (s.take k)).length ≤ 4 * s.length + 4 := by rw [List.length_take] at hol; omega
      clear hol
      have hxl : (s.take k).length % 3 = 0 := by rw [List.length_take]; omega
      by_cases h3 : k + 2 < s.length
      · have HT := hide (show enc A fill (s.take (k + 3)) = enc A fill (s.take k) ++ enc A fill [s[k], s[k + 1], s[k + 2]] by rw [grp3 s k h3, enc_app A fill _ _ hxl])
        obtain ⟨a, ha, ha1, ha2, ha3⟩ := byteAt s k hlt
        have HA1 := hide ha1
        obtain ⟨b, hb', hb1, hb2, hb3⟩ := byteAt s (k + 1) (by omega)
        have HB1 := hide hb1
        obtain ⟨c, hc, hc1, hc2, hc3⟩ := byteAt s (k + 2) h3
        have HC1 := hide hc1
        generalize enc A fill (s.take k) = O at *
        have HB := hide hb
        clear hb hxl ha1 hb1 hc1
        go_wp2
        refine wp_loop_rounds 4 ?_
        rw [rounds_succ]
        go_wp2
        rw [rounds_succ]
        go_wp2
        rw [rounds_succ]
        go_wp2
        rw [rounds_succ]
        go_wp2
        obtain ⟨N, hN⟩ : ∃ N : Nat, 256 * (256 * a + b) + c = N := ⟨_, rfl⟩
        have hNi : 256 * (256 * (a : Int) + (b : Int)) + (c : Int) = (N : Int) := by omega
        have hN1 : N < 16777216 := by omega
        have HN := hide hN
        have HNI := hide hNi
        clear hN hNi
        rw [unhide HNI]
        refine wp_loop_rounds 5 ?_
        rw [rounds_succ]
        go_wp2_with (at_builtin; refine push rfl (.tmp 55) (.tmp 57) rfl w.heap.size _ _ (by rfl) w _ _ _ (idx_eq A _ _) (unhide HB) (by rfl) (by first | omega | (simp only [List.length_append, List.length_singleton]; omega)) ?_; intro v5 w5 hb5)
        have HO0 := hide hb5
        clear hb5
        rw [rounds_succ]
        go_wp2_with (at_builtin; refine push rfl (.tmp 55) (.tmp 57) rfl w.heap.size _ _ (by rfl) w _ _ _ (idx_eq A _ _) (unhide HO0) (by rfl) (by first | omega | (simp only [List.length_append, List.length_singleton]; omega)) ?_; intro v6 w6 hb6)
        have HO1 := hide hb6
        clear hb6
        rw [rounds_succ]
        go_wp2_with (at_builtin; refine push rfl (.tmp 55) (.tmp 57) rfl w.heap.size _ _ (by rfl) w _ _ _ (idx_eq A _ _) (unhide HO1) (by rfl) (by first | omega | (simp only [List.length_append, List.length_singleton]; omega)) ?_; intro v7 w7 hb7)
        have HO2 := hide hb7
        clear hb7
        rw [rounds_succ]
        go_wp2_with (at_builtin; refine push rfl (.tmp 55) (.tmp 57) rfl w.heap.size _ _ (by rfl) w _ _ _ (idx_eq A _ _) (unhide HO2) (by rfl) (by first | omega | (simp only [List.length_append, List.length_singleton]; omega)) ?_; intro v8 w8 hb8)
        have HO3 := hide hb8
        clear hb8
        rw [rounds_succ]
        go_wp2
        go_roundw
        case rel =>
          refine ⟨k + 3, by omega, by omega, by go_num, ?_⟩
          rw [unhide HT, enc3, unhide HA1, unhide HB1, unhide HC1]
          have hN := unhide HN
          rw [show a / 4 = N / 262144 % 64 by omega]
          rw [show a % 4 * 16 + b / 16 = 64 * N / 262144 % 64 by omega]
          rw [show b % 16 * 4 + c / 64 = 64 * (64 * N) / 262144 % 64 by omega]
          rw [show c % 64 = 64 * (64 * (64 * N)) / 262144 % 64 by omega]
          simpa using unhide HO3
        case measure => simp [intOf]; omega
      · by_cases h2 : k + 2 = s.length
        · cases fill
          · have HT := hide (show enc A false (s.take (k + 3)) = enc A false (s.take k) ++ enc A false [s[k], s[k + 1]] by rw [grp2 s k h2, enc_app A false _ _ hxl])
            obtain ⟨a, ha, ha1, ha2, ha3⟩ := byteAt s k hlt
            have HA1 := hide ha1
            obtain ⟨b, hb', hb1, hb2, hb3⟩ := byteAt s (k + 1) (by omega)
            have HB1 := hide hb1
            generalize enc A false (s.take k) = O at *
            have HB := hide hb
            clear hb hxl ha1 hb1
            have hdd : decide ((k : Int) + 1 + 1 < (s.length : Int)) = false := by simp; omega
            go_wp2
            refine wp_loop_rounds 4 ?_
            rw [rounds_succ]
            go_wp2
            rw [rounds_succ]
            go_wp2
            rw [rounds_succ]
            go_wp2
            rw [rounds_succ]
            go_wp2
            obtain ⟨N, hN⟩ : ∃ N : Nat, 256 * (256 * a + b) = N := ⟨_, rfl⟩
            have hNi : 256 * (256 * (a : Int) + (b : Int)) = (N : Int) := by omega
            have hN1 : N < 16777216 := by omega
            have HN := hide hN
            have HNI := hide hNi
            clear hN hNi
            rw [unhide HNI]
            refine wp_loop_rounds 5 ?_
            rw [rounds_succ]
            go_wp2_with (at_builtin; refine push rfl (.tmp 55) (.tmp 57) rfl w.heap.size _ _ (by rfl) w _ _ _ (idx_eq A _ _) (unhide HB) (by rfl) (by first | omega | (simp only [List.length_append, List.length_singleton]; omega)) ?_; intro v5 w5 hb5)
            have HO0 := hide hb5
            clear hb5
            rw [rounds_succ]
            go_wp2_with (at_builtin; refine push rfl (.tmp 55) (.tmp 57) rfl w.heap.size _ _ (by rfl) w _ _ _ (idx_eq A _ _) (unhide HO0) (by rfl) (by first | omega | (simp only [List.length_append, List.length_singleton]; omega)) ?_; intro v6 w6 hb6)
            have HO1 := hide hb6
            clear hb6
            rw [rounds_succ]
            go_wp2_with (at_builtin; refine push rfl (.tmp 55) (.tmp 57) rfl w.heap.size _ _ (by rfl) w _ _ _ (idx_eq A _ _) (unhide HO1) (by rfl) (by first | omega | (simp only [List.length_append, List.length_singleton]; omega)) ?_; intro v7 w7 hb7)
            have HO2 := hide hb7
            clear hb7
            rw [rounds_succ]
            go_wp2
            rw [rounds_succ]
            go_wp2
            go_roundw
            case rel =>
              refine ⟨k + 3, by omega, by omega, by go_num, ?_⟩
              rw [unhide HT, enc2, unhide HA1, unhide HB1]
              have hN := unhide HN
              rw [show a / 4 = N / 262144 % 64 by omega]
              rw [show a % 4 * 16 + b / 16 = 64 * N / 262144 % 64 by omega]
              rw [show b % 16 * 4 = 64 * (64 * N) / 262144 % 64 by omega]
              simpa using unhide HO2
            case measure => simp [intOf]; omega
          · have HT := hide (show enc A true (s.take (k + 3)) = enc A true (s.take k) ++ enc A true [s[k], s[k + 1]] by rw [grp2 s k h2, enc_app A true _ _ hxl])
            obtain ⟨a, ha, ha1, ha2, ha3⟩ := byteAt s k hlt
            have HA1 := hide ha1
            obtain ⟨b, hb', hb1, hb2, hb3⟩ := byteAt s (k + 1) (by omega)
            have HB1 := hide hb1
            generalize enc A true (s.take k) = O at *
            have HB := hide hb
            clear hb hxl ha1 hb1
            have hdd : decide ((k : Int) + 1 + 1 < (s.length : Int)) = false := by simp; omega
            go_wp2
            refine wp_loop_rounds 4 ?_
            rw [rounds_succ]
            go_wp2
            rw [rounds_succ]
            go_wp2
            rw [rounds_succ]
            go_wp2
            rw [rounds_succ]
            go_wp2
            obtain ⟨N, hN⟩ : ∃ N : Nat, 256 * (256 * a + b) = N := ⟨_, rfl⟩
            have hNi : 256 * (256 * (a : Int) + (b : Int)) = (N : Int) := by omega
            have hN1 : N < 16777216 := by omega
            have HN := hide hN
            have HNI := hide hNi
            clear hN hNi
            rw [unhide HNI]
            refine wp_loop_rounds 5 ?_
            rw [rounds_succ]
            go_wp2_with (at_builtin; refine push rfl (.tmp 55) (.tmp 57) rfl w.heap.size _ _ (by rfl) w _ _ _ (idx_eq A _ _) (unhide HB) (by rfl) (by first | omega | (simp only [List.length_append, List.length_singleton]; omega)) ?_; intro v5 w5 hb5)
            have HO0 := hide hb5
            clear hb5
            rw [rounds_succ]
            go_wp2_with (at_builtin; refine push rfl (.tmp 55) (.tmp 57) rfl w.heap.size _ _ (by rfl) w _ _ _ (idx_eq A _ _) (unhide HO0) (by rfl) (by first | omega | (simp only [List.length_append, List.length_singleton]; omega)) ?_; intro v6 w6 hb6)
            have HO1 := hide hb6
            clear hb6
            rw [rounds_succ]
            go_wp2_with (at_builtin; refine push rfl (.tmp 55) (.tmp 57) rfl w.heap.size _ _ (by rfl) w _ _ _ (idx_eq A _ _) (unhide HO1) (by rfl) (by first | omega | (simp only [List.length_append, List.length_singleton]; omega)) ?_; intro v7 w7 hb7)
            have HO2 := hide hb7
            clear hb7
            rw [rounds_succ]
            go_wp2_with (at_builtin; refine push rfl (.tmp 60) (.tmp 61) rfl w.heap.size _ _ (by rfl) w _ _ 61 rfl (unhide HO2) (by rfl) (by first | omega | (simp only [List.length_append, List.length_singleton]; omega)) ?_; intro v8 w8 hb8)
            have HO3 := hide hb8
            clear hb8
            rw [rounds_succ]
            go_wp2
            go_roundw
            case rel =>
              refine ⟨k + 3, by omega, by omega, by go_num, ?_⟩
              rw [unhide HT, enc2, unhide HA1, unhide HB1]
              have hN := unhide HN
              rw [show a / 4 = N / 262144 % 64 by omega]
              rw [show a % 4 * 16 + b / 16 = 64 * N / 262144 % 64 by omega]
              rw [show b % 16 * 4 = 64 * (64 * N) / 262144 % 64 by omega]
              simpa using unhide HO3
            case measure => simp [intOf]; omega
        · have h1 : k + 1 = s.length := by omega
          cases fill
          · have HT := hide (show enc A false (s.take (k + 3)) = enc A false (s.take k) ++ enc A false [s[k]] by rw [grp1 s k h1, enc_app A false _ _ hxl])
            obtain ⟨a, ha, ha1, ha2, ha3⟩ := byteAt s k hlt
            have HA1 := hide ha1
            generalize enc A false (s.take k) = O at *
            have HB := hide hb
            clear hb hxl ha1
            have hdd : decide ((k : Int) + 1 < (s.length : Int)) = false := by simp; omega
            have hdd2 : decide ((k : Int) + 1 + 1 < (s.length : Int)) = false := by simp; omega
            go_wp2
            refine wp_loop_rounds 4 ?_
            rw [rounds_succ]
            go_wp2
            rw [rounds_succ]
            go_wp2
            rw [rounds_succ]
            go_wp2
            rw [rounds_succ]
            go_wp2
            obtain ⟨N, hN⟩ : ∃ N : Nat, 256 * (256 * a) = N := ⟨_, rfl⟩
            have hNi : 256 * (256 * (a : Int)) = (N : Int) := by omega
            have hN1 : N < 16777216 := by omega
            have HN := hide hN
            have HNI := hide hNi
            clear hN hNi
            rw [unhide HNI]
            refine wp_loop_rounds 5 ?_
            rw [rounds_succ]
            go_wp2_with (at_builtin; refine push rfl (.tmp 55) (.tmp 57) rfl w.heap.size _ _ (by rfl) w _ _ _ (idx_eq A _ _) (unhide HB) (by rfl) (by first | omega | (simp only [List.length_append, List.length_singleton]; omega)) ?_; intro v5 w5 hb5)
            have HO0 := hide hb5
            clear hb5
            rw [rounds_succ]
            go_wp2_with (at_builtin; refine push rfl (.tmp 55) (.tmp 57) rfl w.heap.size _ _ (by rfl) w _ _ _ (idx_eq A _ _) (unhide HO0) (by rfl) (by first | omega | (simp only [List.length_append, List.length_singleton]; omega)) ?_; intro v6 w6 hb6)
            have HO1 := hide hb6
            clear hb6
            rw [rounds_succ]
            go_wp2
            rw [rounds_succ]
            go_wp2
            rw [rounds_succ]
            go_wp2
            go_roundw
            case rel =>
              refine ⟨k + 3, by omega, by omega, by go_num, ?_⟩
              rw [unhide HT, enc1, unhide HA1]
              have hN := unhide HN
              rw [show a / 4 = N / 262144 % 64 by omega]
              rw [show a % 4 * 16 = 64 * N / 262144 % 64 by omega]
              simpa using unhide HO1
            case measure => simp [intOf]; omega
          · have HT := hide (show enc A true (s.take (k + 3)) = enc A true (s.take k) ++ enc A true [s[k]] by rw [grp1 s k h1, enc_app A true _ _ hxl])
            obtain ⟨a, ha, ha1, ha2, ha3⟩ := byteAt s k hlt
            have HA1 := hide ha1
            generalize enc A true (s.take k) = O at *
            have HB := hide hb
            clear hb hxl ha1
            have hdd : decide ((k : Int) + 1 < (s.length : Int)) = false := by simp; omega
            have hdd2 : decide ((k : Int) + 1 + 1 < (s.length : Int)) = false := by simp; omega
            go_wp2
            refine wp_loop_rounds 4 ?_
            rw [rounds_succ]
            go_wp2
            rw [rounds_succ]
            go_wp2
            rw [rounds_succ]
            go_wp2
            rw [rounds_succ]
            go_wp2
            obtain ⟨N, hN⟩ : ∃ N : Nat, 256 * (256 * a) = N := ⟨_, rfl⟩
            have hNi : 256 * (256 * (a : Int)) = (N : Int) := by omega
            have hN1 : N < 16777216 := by omega
            have HN := hide hN
            have HNI := hide hNi
            clear hN hNi
            rw [unhide HNI]
            refine wp_loop_rounds 5 ?_
            rw [rounds_succ]
            go_wp2_with (at_builtin; refine push rfl (.tmp 55) (.tmp 57) rfl w.heap.size _ _ (by rfl) w _ _ _ (idx_eq A _ _) (unhide HB) (by rfl) (by first | omega | (simp only [List.length_append, List.length_singleton]; omega)) ?_; intro v5 w5 hb5)
            have HO0 := hide hb5
            clear hb5
            rw [rounds_succ]
            go_wp2_with (at_builtin; refine push rfl (.tmp 55) (.tmp 57) rfl w.heap.size _ _ (by rfl) w _ _ _ (idx_eq A _ _) (unhide HO0) (by rfl) (by first | omega | (simp only [List.length_append, List.length_singleton]; omega)) ?_; intro v6 w6 hb6)
            have HO1 := hide hb6
            clear hb6
            rw [rounds_succ]
            go_wp2_with (at_builtin; refine push rfl (.tmp 60) (.tmp 61) rfl w.heap.size _ _ (by rfl) w _ _ 61 rfl (unhide HO1) (by rfl) (by first | omega | (simp only [List.length_append, List.length_singleton]; omega)) ?_; intro v7 w7 hb7)
            have HO2 := hide hb7
            clear hb7
            rw [rounds_succ]
            go_wp2_with (at_builtin; refine push rfl (.tmp 60) (.tmp 61) rfl w.heap.size _ _ (by rfl) w _ _ 61 rfl (unhide HO2) (by rfl) (by first | omega | (simp only [List.length_append, List.length_singleton]; omega)) ?_; intro v8 w8 hb8)
            have HO3 := hide hb8
            clear hb8
            rw [rounds_succ]
            go_wp2
            go_roundw
            case rel =>
              refine ⟨k + 3, by omega, by omega, by go_num, ?_⟩
              rw [unhide HT, enc1, unhide HA1]
              have hN := unhide HN
              rw [show a / 4 = N / 262144 % 64 by omega]
              rw [show a % 4 * 16 = 64 * N / 262144 % 64 by omega]
              simpa using unhide HO3
            case measure => simp [intOf]; omega
    · have HE := hide (show enc A fill s = enc A fill (s.take k) by rw [List.take_of_length_le (by omega)])
      generalize enc A fill (s.take k) = O at *
      have hd : decide (k < s.length) = false := by simp; omega
      have HB := hide hb
      have HX := hide hb.text
      clear hb
      go_wp2_with (refine wpList_conv rfl 33 9 (.tmp 63) rfl _ _ (by rfl) (unhide HX) ?_)
      go_ret
      exact ⟨ret_str (unhide HE).symm, (unhide HB).2.1⟩
end Go.Proofs.YtbeionikiiccpaaDoor
