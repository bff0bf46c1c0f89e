import Derived.Test.YtbeionikiiccpaaDoorUns
namespace Go.Proofs.YtbeionikiiccpaaDoor
open Go.RowKit Go.Lib
def shift (k : Nat) (r : Int) : Int := if r = -1 then -1 else r + k
theorem ibyte_drop (A : List UInt8) (c : UInt8) (k : Nat) (h : k < A.length) : shift k (indexByte (A.drop k) c) = if A[k] = c then (k : Int) else shift (k + 1) (indexByte (A.drop (k + 1)) c) := by
  rw [List.drop_eq_getElem_cons h]
  by_cases e : A[k] = c
  · have e' : (A[k] == c) = true := by simpa using e
    rw [indexByte, e', if_pos e]
    simp [shift]
  · have e' : (A[k] == c) = false := by simpa using e
    rw [indexByte, e', if_neg e]
    have hge := indexByte_ge (A.drop (k + 1)) c
    unfold shift
    by_cases q : indexByte (A.drop (k + 1)) c = -1
    · simp [q]
    · have q' : (indexByte (A.drop (k + 1)) c == -1) = false := by simpa using q
      simp only [q', Bool.false_eq_true, if_false]
      rw [if_neg (by omega), if_neg q]
      omega
set_option maxHeartbeats 1000000 in
set_option maxRecDepth 8000 in
theorem place_any (A : List UInt8) (c : UInt8) (w : World) (hA : A.length ≤ 9223372036854775807) :
    Calls Tryd.prog 53 #[.string ⟨A.toArray⟩, .int .u8 (c.toNat : Int)] w fun e w' => e = .returned (.int .i64 (indexByte A c)) ∧ w' = w := by
  go_enter Tryd.func53, Tryd.ntmps53
  go_wp2
  go_loop [5] (fun i => ∃ k : Nat, k ≤ A.length ∧ i = .int .i64 k ∧ indexByte A c = shift k (indexByte (A.drop k) c)) (fun i => A.length - (intOf i).toNat)
  case atStart => exact ⟨0, by omega, rfl, by simp [shift]⟩
  case round =>
    obtain ⟨k, hk, rfl, hrel⟩ := hrel
    by_cases hlt : k < A.length
    · rw [ibyte_drop A c k hlt] at hrel
      have hsz : k < (ByteArray.mk A.toArray).size := by simpa [ByteArray.size] using hlt
      have hC0 : (ByteArray.mk A.toArray)[k]'hsz = A[k] := rfl
      by_cases e : A[k] = c
      · rw [if_pos e] at hrel
        have HR := hide hrel
        have e2 : (((ByteArray.mk A.toArray)[k]'hsz).toNat : Int) = (c.toNat : Int) := by rw [hC0, e]
        clear hrel hC0 e
        go_wp2
        go_ret
        exact ⟨ret_int (unhide HR).symm, rfl⟩
      · rw [if_neg e] at hrel
        have HR := hide hrel
        have e2 : ((((ByteArray.mk A.toArray)[k]'hsz).toNat : Int) == (c.toNat : Int)) = false := by
          rw [hC0]
          simp only [beq_eq_false_iff_ne, ne_eq]
          intro q
          exact e (UInt8.toNat_inj.1 (by omega))
        clear hrel hC0 e
        go_wp2
        go_round
        case rel => exact ⟨k + 1, by omega, by go_num, unhide HR⟩
        case measure => simp [intOf]; omega
    · have hd : decide (k < A.length) = false := by simp; omega
      have HR : Hid (indexByte A c = -1) := hide (by rw [hrel, List.drop_of_length_le (by omega)]; rfl)
      clear hrel
      go_wp2
      go_ret
      exact ⟨ret_int (unhide HR).symm, rfl⟩
def by6 (A t : List UInt8) : Option (List UInt8) := if allin A t then some (Six.readAll (t.map (pl A))).out else none
theorem by6_no {A t : List UInt8} (h : ¬ allin A t) : by6 A t = none := by unfold by6; rw [if_neg h]
theorem by6_yes {A t : List UInt8} (h : allin A t) : by6 A t = some (Six.readAll (t.map (pl A))).out := by unfold by6; rw [if_pos h]
def told3 (r : Option (List UInt8)) : Value := .tuple #[.string ⟨(r.getD []).toArray⟩, .bool r.isSome]
theorem ret3_no {r : Option (List UInt8)} (h : r = none) : Ending.returned (.tuple #[.string ⟨#[]⟩, .bool false]) = .returned (told3 r) := by rw [h]; rfl
theorem ret3_yes {r : Option (List UInt8)} {O : List UInt8} (h : r = some O) : Ending.returned (.tuple #[.string ⟨O.toArray⟩, .bool true]) = .returned (told3 r) := by rw [h]; rfl
set_option maxHeartbeats 4000000 in
set_option maxRecDepth 8000 in
theorem refbytes_any (t A : List UInt8) (w : World) (ht : t.length ≤ 17592186044416) (hA : A.length = 64) :
    Calls Tryd.prog 31 #[.string ⟨t.toArray⟩, .string ⟨A.toArray⟩] w fun e w' => e = .returned (told3 (by6 A t)) ∧ Below w.heap.size w w' := by
  go_enter Tryd.func31, Tryd.ntmps31
  go_wp2
  go_loopw [6, 7, 8, 9] (fun v b h i wr => ∃ k : Nat, k ≤ t.length ∧ i = .int .i64 k ∧ b = .int .i64 (Six.readAll ((t.take k).map (pl A))).bits ∧ h = .int .i64 (Six.readAll ((t.take k).map (pl A))).have_ ∧ allin A (t.take k) ∧ Own w.heap.size v (Six.readAll ((t.take k).map (pl A))).out w wr) (fun _ _ _ i _ => t.length - (intOf i).toNat)
  case atStart => exact ⟨0, by omega, rfl, rfl, rfl, (by intro c hc; simp at hc), Own.nil w⟩
  case round =>
    obtain ⟨k, hk, rfl, rfl, rfl, hall, hb⟩ := hrel
    have hfit := Six.fit_readAll ((t.take k).map (pl A)) (by rw [← hA]; exact allin_map hall)
    by_cases hlt : k < t.length
    · by_cases hin : 0 ≤ indexByte A t[k]
      · have hallk : allin A (t.take (k + 1)) := by
          rw [take_snoc t k hlt]
          intro c hc
          rcases List.mem_append.1 hc with hc | hc
          · exact hall c hc
          · simp at hc; rw [hc]; exact hin
        have HALL := hide hallk
        have hnx := hide (show Six.readAll ((t.take (k + 1)).map (pl A)) = Six.read (Six.readAll ((t.take k).map (pl A))) (pl A t[k]) by rw [take_snoc t k hlt, List.map_append, ← Six.readAll_snoc]; rfl)
        have hol := readAll_len ((t.take k).map (pl A))
        have hol2 : (Six.readAll ((t.take k).map (pl A))).out.length ≤ t.length := by rw [List.length_map, List.length_take] at hol; omega
        have hpl := pl_lt A t[k] hin
        rw [hA] at hpl
        have HPI := hide (pl_int hin)
        clear hol hall hallk hin
        generalize Six.readAll ((t.take k).map (pl A)) = T at *
        generalize pl A t[k] = P at *
        obtain ⟨O, n, hv⟩ := T
        simp only at hb hol2
        have HB := hide hb
        have HF := hide hfit
        have hn : n < 64 := by rcases hfit with ⟨h1, h2⟩ | ⟨h1, h2⟩ | ⟨h1, h2⟩ | ⟨h1, h2⟩ <;> simp only at h1 h2 <;> omega
        clear hb hfit
        obtain ⟨M, hM⟩ : ∃ M, n * 64 + P = M := ⟨_, rfl⟩
        have hor : 64 * (n : Int) + (P : Int) = (M : Int) := by omega
        have HM := hide hM
        rcases unhide HF with ⟨h1, h2⟩ | ⟨h1, h2⟩ | ⟨h1, h2⟩ | ⟨h1, h2⟩
        · simp only at h1 h2
          subst h1
          have hM1 : M < 64 := by omega
          have HT : Hid (Six.readAll ((t.take (k + 1)).map (pl A)) = ⟨O, M, 6⟩) := hide (by rw [unhide hnx]; simp only [Six.read]; rw [unhide HM])
          clear HF h2 hM
          go_wp2_with (go_at_call 53; refine (place_any A t[k] _ (by omega)).mono ?_; rintro e w' ⟨rfl, rfl⟩; rw [unhide HPI])
          go_roundw
          case rel => exact ⟨k + 1, by omega, by go_num, by rw [unhide HT], by rw [unhide HT]; rfl, unhide HALL, by rw [unhide HT]; exact unhide HB⟩
          case measure => simp [intOf]; omega
        · simp only at h1 h2
          subst h1
          have hM1 : M < 4096 := by omega
          have HT : Hid (Six.readAll ((t.take (k + 1)).map (pl A)) = ⟨O ++ [UInt8.ofNat (M / 16)], M % 16, 4⟩) := hide (by rw [unhide hnx]; simp only [Six.read]; rw [unhide HM])
          clear HF h2 hM
          go_wp2_with (first | (go_at_call 53; refine (place_any A t[k] _ (by omega)).mono ?_; rintro e w' ⟨rfl, rfl⟩; rw [unhide HPI]) | (at_builtin; refine push rfl (.tmp 34) (.tmp 39) rfl w.heap.size _ O (by rfl) w _ _ (UInt8.ofNat (M / 16)) (by have := Six.toNat_ofNat (M / 16) (by omega); omega) (unhide HB) (by rfl) (by omega) ?_; intro v2 w2 hb2))
          go_roundw
          case rel => exact ⟨k + 1, by omega, by go_num, by rw [and15 M (by omega), unhide HT], by rw [unhide HT]; rfl, unhide HALL, by rw [unhide HT]; exact hb2⟩
          case measure => simp [intOf]; omega
        · simp only at h1 h2
          subst h1
          have hM1 : M < 1024 := by omega
          have HT : Hid (Six.readAll ((t.take (k + 1)).map (pl A)) = ⟨O ++ [UInt8.ofNat (M / 4)], M % 4, 2⟩) := hide (by rw [unhide hnx]; simp only [Six.read]; rw [unhide HM])
          clear HF h2 hM
          go_wp2_with (first | (go_at_call 53; refine (place_any A t[k] _ (by omega)).mono ?_; rintro e w' ⟨rfl, rfl⟩; rw [unhide HPI]) | (at_builtin; refine push rfl (.tmp 34) (.tmp 39) rfl w.heap.size _ O (by rfl) w _ _ (UInt8.ofNat (M / 4)) (by have := Six.toNat_ofNat (M / 4) (by omega); omega) (unhide HB) (by rfl) (by omega) ?_; intro v2 w2 hb2))
          go_roundw
          case rel => exact ⟨k + 1, by omega, by go_num, by rw [and3 M (by omega), unhide HT], by rw [unhide HT]; rfl, unhide HALL, by rw [unhide HT]; exact hb2⟩
          case measure => simp [intOf]; omega
        · simp only at h1 h2
          subst h1
          have hM1 : M < 256 := by omega
          have HT : Hid (Six.readAll ((t.take (k + 1)).map (pl A)) = ⟨O ++ [UInt8.ofNat (M)], 0, 0⟩) := hide (by rw [unhide hnx]; simp only [Six.read]; rw [unhide HM])
          clear HF h2 hM
          go_wp2_with (first | (go_at_call 53; refine (place_any A t[k] _ (by omega)).mono ?_; rintro e w' ⟨rfl, rfl⟩; rw [unhide HPI]) | (at_builtin; refine push rfl (.tmp 34) (.tmp 39) rfl w.heap.size _ O (by rfl) w _ _ (UInt8.ofNat (M)) (by have := Six.toNat_ofNat (M) (by omega); omega) (unhide HB) (by rfl) (by omega) ?_; intro v2 w2 hb2))
          go_roundw
          case rel => exact ⟨k + 1, by omega, by go_num, by rw [and0 M (by omega), unhide HT]; rfl, by rw [unhide HT]; rfl, unhide HALL, by rw [unhide HT]; exact hb2⟩
          case measure => simp [intOf]; omega
      · have hno := hide (by6_no (A := A) (t := t) (fun h => hin (h t[k] (List.getElem_mem hlt))))
        have hb2 := hb.2.1
        have hneg : indexByte A t[k] < 0 := by omega
        clear hall hfit hin hb
        generalize Six.readAll ((t.take k).map (pl A)) = T at *
        go_wp2_with (go_at_call 53; refine (place_any A t[k] _ (by omega)).mono ?_; rintro e w' ⟨rfl, rfl⟩)
        go_ret2
        exact ⟨ret3_no (unhide hno), hb2⟩
    · have hkl : t.take k = t := List.take_of_length_le (by omega)
      have hd : decide (k < t.length) = false := by simp; omega
      rw [hkl] at hall hb hfit ⊢
      have HY := hide (by6_yes hall)
      clear hkl hall
      generalize Six.readAll (t.map (pl A)) = T at *
      obtain ⟨O, n, hv⟩ := T
      simp only at hb
      have HB := hide hb
      have HX := hide hb.text
      clear hb hfit
      go_wp2_with (refine wpList_conv rfl 33 9 (.tmp 46) rfl _ _ (by rfl) (unhide HX) ?_)
      go_ret2
      exact ⟨ret3_yes (unhide HY), (unhide HB).2.1⟩
end Go.Proofs.YtbeionikiiccpaaDoor
