import Derived.Test.YtbmcaejbfjpmiaaDoorEsd
namespace Go.Proofs.YtbmcaejbfjpmiaaDoor
open Go.RowKit Go.Lib
theorem esc1_32 : esc1 32 = [43] := by decide +kernel
theorem esc1_plain {c : UInt8} (h : plain c = true) : esc1 c = [c] := by unfold esc1; rw [if_pos h]
theorem esc1_else {c : UInt8} (h : plain c = false) (h2 : c ≠ 32) : esc1 c = [37, hexd (c.toNat / 16), hexd (c.toNat % 16)] := by unfold esc1; rw [if_neg (by simp [h]), if_neg h2]
theorem decodeGo_at (X : ByteArray) (pos : Nat) (h : pos < X.size) : decodeGo (X.extract pos X.size) = Utf8.decode X pos := by
  unfold decodeGo
  rw [if_neg (by simp [ByteArray.size_extract]; omega), tail_decode]
  rfl
set_option maxHeartbeats 4000000 in
set_option maxRecDepth 8000 in
theorem escape_any (B b : Nat) (acc l : List UInt8) (w : World) (hE : Env B w) (h : Bd B b acc w) (hb : b < w.heap.size) (hl : acc.length + 3 * l.length ≤ 140737488355000) :
    Calls Tryd.prog 27 #[.pointer (some ⟨b, 0, none⟩), .string ⟨l.toArray⟩] w fun e w' => e = .returned (.tuple #[]) ∧ Bd B b (acc ++ esc l) w' ∧ Below B w w' ∧ OthersKept 5 (some b) w w' := by
  have hB := hE.2.1
  obtain ⟨X, hX⟩ : ∃ X : ByteArray, X = ⟨l.toArray⟩ := ⟨_, rfl⟩
  have hsz : X.size = l.length := by rw [hX]; simp [ByteArray.size]
  have hat : ∀ (k : Nat) (hk : k < X.size) (hk' : k < l.length), X[k]'hk = l[k] := by subst hX; intro k hk hk'; rfl
  have HG := hide (Going.start (l := l) h hB)
  have HE := hide hE
  clear hE h
  rw [← hX] at HG ⊢
  have HX := hide hX
  clear hX
  go_enter Tryd.func27, Tryd.ntmps27
  go_wp2
  go_loopw [] (fun wr => ∃ pos : Nat, pos ≤ l.length ∧ Going B b acc l w pos pos wr) (fun wr => l.length - wr.iterPos w.heap.size)
  case atStart => exact ⟨0, by omega, unhide HG⟩
  case round =>
    obtain ⟨pos, hps, hg⟩ := hrel
    clear HG
    have hit := hg.2.1
    rw [← unhide HX] at hit
    have hmu : wr.iterPos w.heap.size = pos := by simp [World.iterPos, hit]
    have hle := esc_take_le l pos hps
    by_cases hp : pos < X.size
    · have hp' : pos < l.length := by omega
      by_cases ha : (X[pos]'hp).toNat < 128
      · have hnx : ∀ ty, (Instr.next (.pointer (some ⟨w.heap.size, 0, none⟩)) true ty).run Tryd.prog wr = _ := fun ty => run_next_ascii_at wr w.heap.size X pos ty hit hp ha
        have hg1 := hg.iter hB (pos + 1)
        rw [← unhide HX] at hg1
        have hes := esc_snoc l pos hp'
        rw [hat pos hp hp'] at hnx ha
        generalize wr.iterAt w.heap.size X (pos + 1) = W1 at *
        have hs1 := hg1.size
        have HG1 := hide hg1
        have HES := hide hes
        generalize l[pos] = c at *
        clear hg hg1 hes
        by_cases h32 : c = 32
        · subst h32
          have i32 : (((32 : UInt8).toNat : Nat) : Int) = 32 := rfl
          go_wp2_with (go_at_call 34; refine (Tryd.Builder_WriteByte_k B b _ 43 W1 (unhide HG1).1 (by rw [byteCells_length, List.length_append]; omega) (by omega)).mono ?_)
          rintro e W2 ⟨rfl, h2, k2, o2⟩
          have hg2 := (unhide HG1).put hb (pos + 1) (by rw [unhide HES, esc1_32, ← List.append_assoc]; unfold Bd; rw [byteCells_append]; exact .inr h2) k2 o2
          clear h2 k2 o2
          go_wp2
          go_roundw
          case rel => exact ⟨pos + 1, by omega, hg2⟩
          case measure =>
            have : W2.iterPos w.heap.size = pos + 1 := by simp [World.iterPos, hg2.2.1]
            rw [hmu, this]
            omega
        · have i32 : ¬ ((c.toNat : Nat) : Int) = 32 := fun q => h32 (UInt8.toNat_inj.1 (by show c.toNat = 32; omega))
          have HQ := hide (qplain_any c W1)
          by_cases hpl : plain c = true
          · rw [hpl] at HQ
            have hes1 := hide (esc1_plain hpl)
            clear hpl h32
            go_wp2_with (go_at_call 40; refine (unhide HQ).mono ?_; rintro e w' ⟨rfl, rfl⟩)
            go_wp2_with (go_at_call 34; refine (Tryd.Builder_WriteByte_k B b _ (c.toNat : Int) w' (unhide HG1).1 (by rw [byteCells_length, List.length_append]; omega) (by omega)).mono ?_)
            rintro e W2 ⟨rfl, h2, k2, o2⟩
            have hg2 := (unhide HG1).put hb (pos + 1) (by rw [unhide HES, unhide hes1, ← List.append_assoc]; unfold Bd; rw [byteCells_append]; exact .inr h2) k2 o2
            clear h2 k2 o2
            go_wp2
            go_roundw
            case rel => exact ⟨pos + 1, by omega, hg2⟩
            case measure =>
              have : W2.iterPos w.heap.size = pos + 1 := by simp [World.iterPos, hg2.2.1]
              rw [hmu, this]
              omega
          · have hpl' : plain c = false := by simpa using hpl
            rw [hpl'] at HQ
            have hes1 := hide (esc1_else hpl' h32)
            clear hpl h32 hpl'
            go_wp2_with (go_at_call 40; refine (unhide HQ).mono ?_; rintro e w' ⟨rfl, rfl⟩)
            go_wp2_with (go_at_call 39; refine (escapeByte_any B b _ c w' (unhide HG1).1 (by rw [List.length_append]; omega) (by omega)).mono ?_)
            rintro e W2 ⟨rfl, h2, k2, o2⟩
            have hg2 := (unhide HG1).put hb (pos + 1) (by rw [unhide HES, unhide hes1, ← List.append_assoc]; exact h2) k2 o2
            clear h2 k2 o2
            go_wp2
            go_roundw
            case rel => exact ⟨pos + 1, by omega, hg2⟩
            case measure =>
              have : W2.iterPos w.heap.size = pos + 1 := by simp [World.iterPos, hg2.2.1]
              rw [hmu, this]
              omega
      · have ha' : 128 ≤ (X[pos]'hp).toNat := by omega
        have hnx : ∀ ty, (Instr.next (.pointer (some ⟨w.heap.size, 0, none⟩)) true ty).run Tryd.prog wr = _ := fun ty => run_next_any_at wr w.heap.size X pos ty hit hp
        obtain ⟨r1, r2, r3, r4⟩ := rune_bytes X pos hp ha'
        have hr := (decode_high X pos hp ha').1
        have hr2 := decode_le X pos
        have hdg := decodeGo_at X pos hp
        have hg1 := hg.iter hB (pos + (Utf8.decode X pos).2)
        rw [← unhide HX] at hg1
        have HD := fun W (hT : Utf8Tabs 0 1 W) => Tryd.utf8_DecodeRuneInString (X.extract pos X.size) W hT
        rw [hdg, hsz] at HD
        have hj : Hid (∀ j, j < (Utf8.decode X pos).2 → 128 ≤ (l.getD (pos + j) 0).toNat) := hide (by
          intro j hj
          have := r4 j hj
          have e : X.get! (pos + j) = l.getD (pos + j) 0 := by
            have h5 : pos + j < X.size := by omega
            have h6 : pos + j < l.length := by omega
            have h7 := get_at X (pos + j) h5
            rw [Nat.add_zero] at h7
            rw [h7, hat _ h5 h6, List.getD_eq_getElem?_getD, List.getElem?_eq_getElem h6]
            rfl
          rw [e] at this
          exact this)
        generalize (Utf8.decode X pos).2 = K at *
        generalize (Utf8.decode X pos).1 = R at *
        have hT1 := ((unhide HE).below hg1.2.2.1).2.2.2
        have HD1 := hide (HD (wr.iterAt w.heap.size X (pos + K)) hT1)
        generalize wr.iterAt w.heap.size X (pos + K) = W1 at *
        have hs1 := hg1.size
        have HG1 := hide hg1
        clear hg hg1 HD hdg hT1 r4 ha ha'
        have iR : (128 : Int) ≤ (R : Int) := by omega
        go_wp2_with (go_at_call 38; refine (unhide HD1).mono ?_)
        rintro e W2 ⟨rfl, k2⟩
        have HG2 := hide ((unhide HG1).keep hB k2)
        clear HD1 HG1 k2
        go_wp2
        go_loopw [30] (fun n wj => ∃ j : Nat, j ≤ K ∧ n = .int .i64 j ∧ Going B b acc l w (pos + j) (pos + K) wj) (fun n _ => K - (Go.RowKit.intOf n).toNat)
        case atStart => exact ⟨0, by omega, rfl, unhide HG2⟩
        case round =>
          obtain ⟨j, hjK, rfl, hgj⟩ := hrel
          clear HG2
          by_cases hlt : j < K
          · have h5 : pos + j < X.size := by omega
            have h6 : pos + j < l.length := by omega
            have hle2 := esc_take_le l (pos + j) (by omega)
            have hc128 := unhide hj j hlt
            rw [List.getD_eq_getElem?_getD, List.getElem?_eq_getElem h6] at hc128
            have hes := esc_snoc l (pos + j) h6
            rw [esc1_high l[pos + j] hc128, ← hat _ h5 h6] at hes
            have HES := hide hes
            have HGJ := hide hgj
            have hsj := hgj.size
            have i1 : (pos : Int) + (j : Int) < (l.length : Int) := by omega
            clear hes hc128 hgj hnx hit hat
            go_wp2_with (go_at_call 39; refine (escapeByte_any B b _ (X[pos + j]'h5) wr (unhide HGJ).1 (by rw [List.length_append]; omega) (by omega)).mono ?_)
            rintro e W3 ⟨rfl, h3, k3, o3⟩
            have hg3 := (unhide HGJ).put hb (pos + (j + 1)) (by rw [← Nat.add_assoc, unhide HES, ← List.append_assoc]; exact h3) k3 o3
            clear h3 k3 o3 HES HGJ
            go_wp2
            go_roundw
            case rel => exact ⟨j + 1, by omega, by go_num, hg3⟩
            case measure => simp [Go.RowKit.intOf]; omega
          · obtain rfl : j = K := by omega
            have HGJ := hide hgj
            clear hgj hnx hit
            go_wp2
            go_roundw
            case rel => exact ⟨pos + j, by omega, unhide HGJ⟩
            case measure =>
              have : wr.iterPos w.heap.size = pos + j := by simp [World.iterPos, (unhide HGJ).2.1]
              rw [hmu, this]
              omega
    · have hnx : ∀ ty, (Instr.next (.pointer (some ⟨w.heap.size, 0, none⟩)) true ty).run Tryd.prog wr = _ := fun ty => run_next_end_at wr w.heap.size X pos ty hit hp
      have hg' := hide hg
      go_wp2
      go_end0
      have e : l.take pos = l := List.take_of_length_le (by omega)
      have := unhide hg'
      unfold Going at this
      rw [e] at this
      exact ⟨rfl, this.1, this.2.2⟩
end Go.Proofs.YtbmcaejbfjpmiaaDoor
