import Derived.Test.YthddilflldkmfaaDoorRedc
namespace Go.Proofs.YthddilflldkmfaaDoor
open Go.RowKit Go.Lib
/-- A Reader of the document's answer: what is left, what was wrong. -/
def YAt (y : Nat) (R : List UInt8) (E : Nat) (w : World) : Prop := w.heap[y]? = some (.cells #[.string ⟨R.toArray⟩, .int .i64 (E : Int)] 97 (0, 0))
variable {y : Nat} {R R' : List UInt8} {E E' : Nat} {w w' : World}
theorem YAt.c0 (h : YAt y R E w) : w.cell? ⟨y, 0, none⟩ = some (.string ⟨R.toArray⟩) := by
  rw [cell_of_row w y 0 _ 97 (0, 0) h]; rfl
theorem YAt.c1 (h : YAt y R E w) : w.cell? ⟨y, 1, none⟩ = some (.int .i64 (E : Int)) := by
  rw [cell_of_row w y 1 _ 97 (0, 0) h]; rfl
theorem YAt.fz (h : YAt y R E w) (j : Nat) : w.frozen? ⟨y, j, none⟩ = false := frozen_of_row w y j _ 97 h
theorem YAt.keep {P : Nat → Prop} (h : YAt y R E w) (ho : Only P w w') (hb : ¬ P y) : YAt y R E w' := (ho.block y (lt_of_row h) hb).trans h
theorem YAt.set1 (h : YAt y R E w) : YAt y R E' (w.setCell ⟨y, 1, none⟩ (.int .i64 (E' : Int))) := by
  have hr := heap_setCell_same w y 1 _ 97 (.int .i64 (E' : Int)) h
  unfold YAt
  simpa using hr
theorem YAt.set0 (h : YAt y R E w) : YAt y R' E (w.setCell ⟨y, 0, none⟩ (.string ⟨R'.toArray⟩)) := by
  have hr := heap_setCell_same w y 0 _ 97 (.string ⟨R'.toArray⟩) h
  unfold YAt
  simpa using hr
/-- What it becomes. -/
def YTo (y : Nat) (R' : List UInt8) (E' : Nat) (w w' : World) : Prop := YAt y R' E' w' ∧ Only (fun k => k = y) w w'
theorem YTo.same (h : YAt y R E w) : YTo y R E w w := ⟨h, Only.refl _ _⟩
theorem YTo.err (h : YAt y R E w) : YTo y R E' w (w.setCell ⟨y, 1, none⟩ (.int .i64 (E' : Int))) := ⟨h.set1, Only.setCell w ⟨y, 1, none⟩ _⟩
theorem YTo.cut (h : YAt y R E w) : YTo y R' E w (w.setCell ⟨y, 0, none⟩ (.string ⟨R'.toArray⟩)) := ⟨h.set0, Only.setCell w ⟨y, 0, none⟩ _⟩
theorem ex_take (R : List UInt8) (k : Nat) : (ByteArray.mk R.toArray).extract 0 k = ⟨(R.take k).toArray⟩ := by
  apply ByteArray.ext
  apply Array.ext'
  simp [ByteArray.data_extract]
theorem ex_drop (R : List UInt8) (k : Nat) : (ByteArray.mk R.toArray).extract k R.length = ⟨(R.drop k).toArray⟩ := by
  apply ByteArray.ext
  apply Array.ext'
  simp [ByteArray.data_extract]
  exact List.take_of_length_le (by simp)
theorem yleft_any (y : Nat) (R : List UInt8) (E : Nat) (w : World) (h : YAt y R E w) :
    Calls Tryd.prog 34 #[.pointer (some ⟨y, 0, none⟩)] w fun e w' => e = .returned (.int .i64 R.length) ∧ w' = w := by
  have c0 := h.c0
  clear h
  go_enter Tryd.func34, Tryd.ntmps34
  go_wp2
  go_ret
  exact ⟨rfl, rfl⟩
theorem ydone_any (y : Nat) (R : List UInt8) (E : Nat) (w : World) (h : YAt y R E w) :
    Calls Tryd.prog 32 #[.pointer (some ⟨y, 0, none⟩)] w fun e w' => e = .returned (.int .i64 (rDone R E)) ∧ w' = w := by
  have c0 := h.c0
  have c1 := h.c1
  clear h
  by_cases hE : E = 0
  · subst hE
    cases R with
    | nil =>
      go_enter Tryd.func32, Tryd.ntmps32
      go_wp2
      go_ret
      exact ⟨rfl, rfl⟩
    | cons c R =>
      have HD : Hid (rDone (c :: R) 0 = 23) := hide (by simp [rDone])
      go_enter Tryd.func32, Tryd.ntmps32
      go_wp2
      go_ret
      exact ⟨by rw [unhide HD]; rfl, rfl⟩
  · have HD : Hid (rDone R E = E) := hide (by simp [rDone, hE])
    have hE' : ¬ (E : Int) = 0 := by omega
    go_enter Tryd.func32, Tryd.ntmps32
    go_wp2
    go_ret
    exact ⟨by rw [unhide HD]; rfl, rfl⟩
theorem ynew_any (s : List UInt8) (w : World) :
    Calls Tryd.prog 24 #[.string ⟨s.toArray⟩] w fun e w' => e = .returned (.pointer (some ⟨w.heap.size, 0, none⟩)) ∧ YAt w.heap.size s 0 w' ∧ Below w.heap.size w w' := by
  go_enter Tryd.func24, Tryd.ntmps24
  go_wp2
  go_ret
  refine ⟨rfl, ?_, (Below.refl _ _).alloc (Nat.le_refl _) _⟩
  show (w.heap.push _)[w.heap.size]? = _
  simp
theorem ahead_any (most : Int) (w : World) :
    Calls Tryd.prog 60 #[.int .i64 most] w fun e w' => e = .returned (.int .i64 (ahd most : Nat)) ∧ w' = w := by
  by_cases h : (255 : Int) < most
  · have e : ahd most = 2 := by unfold ahd; first | rw [if_pos (by omega)] | rw [if_neg (by omega)]
    rw [e]
    go_enter Tryd.func60, Tryd.ntmps60
    go_wp2
    go_ret
    exact ⟨rfl, rfl⟩
  · have e : ahd most = 1 := by unfold ahd; first | rw [if_neg (by omega)] | rw [if_pos (by omega)]
    rw [e]
    go_enter Tryd.func60, Tryd.ntmps60
    go_wp2
    go_ret
    exact ⟨rfl, rfl⟩
theorem wide_nat (l : List UInt8) (h : l.length ≤ 8) (hb : ¬ nat l < 9223372036854775808) : l.length = 8 ∧ 36028797018963968 ≤ nat (l.take 7) := by
  have h8 : l.length = 8 := by
    rcases Nat.lt_or_ge l.length 8 with q | q
    · exact absurd (nat_small l l.length (by omega) rfl) hb
    · omega
  refine ⟨h8, ?_⟩
  match l, h8 with
  | [a, b, c, d, e, f, g, i], _ =>
    have := i.toNat_lt
    simp [nat] at hb ⊢
    omega
set_option maxHeartbeats 1000000 in
set_option maxRecDepth 8000 in
theorem numr_ok (l : List UInt8) (w : World) (hl : l.length ≤ 8) (hb : nat l < 9223372036854775808) :
    Calls Tryd.prog 70 #[.string ⟨l.toArray⟩] w fun e w' => e = .returned (.tuple #[.int .i64 (nat l), .bool true]) ∧ w' = w := by
  go_enter Tryd.func70, Tryd.ntmps70
  go_wp2
  go_loop [4, 5] (fun r i => ∃ k : Nat, k ≤ l.length ∧ i = .int .i64 k ∧ r = .int .i64 (nat (l.take k))) (fun _ i => l.length - (intOf i).toNat)
  case atStart => exact ⟨0, by omega, rfl, rfl⟩
  case round =>
    obtain ⟨k, hk, rfl, rfl⟩ := hrel
    by_cases hlt : k < l.length
    · have hbd := nat_take l k (by omega) hb
      have hnx := hide (show nat (l.take (k + 1)) = nat (l.take k) * 256 + (l.getD k 0).toNat by
        rw [take_snoc l k (by omega), nat_snoc]
        simp [show k < l.length by omega])
      have hsz : k < (ByteArray.mk l.toArray).size := by simpa [ByteArray.size] using hlt
      have hC0 : (ByteArray.mk l.toArray)[k]'hsz = l.getD k 0 := by
        have : (ByteArray.mk l.toArray)[k]'hsz = l[k] := rfl
        rw [this]; simp [hlt]
      rw [unhide hnx] at hbd
      generalize nat (l.take k) = N at *
      generalize l.getD k 0 = c at *
      have hcl2 := c.toNat_lt
      have hN := hbd.1
      have hN2 := hbd.2
      have hN' : ¬ (36028797018963968 : Int) ≤ (N : Int) := by omega
      clear hbd
      go_wp2
      go_round
      case rel => exact ⟨k + 1, by omega, by go_num, congrArg (Value.int .i64) (by rw [unhide hnx]; omega)⟩
      case measure => simp [intOf]; omega
    · have hkl : l.take k = l := List.take_of_length_le (by omega)
      rw [hkl]
      have hd : decide (k < l.length) = false := by simp; omega
      go_wp2
      go_ret2
      exact ⟨rfl, rfl⟩
set_option maxHeartbeats 1000000 in
set_option maxRecDepth 8000 in
theorem numr_bad (l : List UInt8) (w : World) (hl : l.length ≤ 8) (hb : ¬ nat l < 9223372036854775808) :
    Calls Tryd.prog 70 #[.string ⟨l.toArray⟩] w fun e w' => e = .returned (.tuple #[.int .i64 0, .bool false]) ∧ w' = w := by
  obtain ⟨h8, h7⟩ := wide_nat l hl hb
  have hsm : ∀ k, k ≤ 6 → nat (l.take k) < 281474976710656 := by
    intro k hk
    have := nat_lt (l.take k)
    have h2 : 256 ^ (l.take k).length ≤ 256 ^ 6 := Nat.pow_le_pow_right (by omega) (by rw [List.length_take]; omega)
    have h3 : 256 ^ 6 = 281474976710656 := by decide
    omega
  go_enter Tryd.func70, Tryd.ntmps70
  go_wp2
  go_loop [4, 5] (fun r i => ∃ k : Nat, k ≤ 7 ∧ i = .int .i64 k ∧ r = .int .i64 (nat (l.take k))) (fun _ i => l.length - (intOf i).toNat)
  case atStart => exact ⟨0, by omega, rfl, rfl⟩
  case round =>
    obtain ⟨k, hk, rfl, rfl⟩ := hrel
    by_cases hlt : k < 7
    · have hbd := hsm k (by omega)
      have hnx := hide (show nat (l.take (k + 1)) = nat (l.take k) * 256 + (l.getD k 0).toNat by
        rw [take_snoc l k (by omega), nat_snoc]
        simp [show k < l.length by omega])
      have hsz : k < (ByteArray.mk l.toArray).size := by simp [ByteArray.size]; omega
      have hC0 : (ByteArray.mk l.toArray)[k]'hsz = l.getD k 0 := by
        have : (ByteArray.mk l.toArray)[k]'hsz = l[k] := rfl
        rw [this]; simp [show k < l.length by omega]
      have hlt' : (k : Int) < (l.length : Int) := by omega
      clear h7 hsm
      generalize nat (l.take k) = N at *
      generalize l.getD k 0 = c at *
      have hcl2 := c.toNat_lt
      have hN' : ¬ (36028797018963968 : Int) ≤ (N : Int) := by omega
      go_wp2
      go_round
      case rel => exact ⟨k + 1, by omega, by go_num, congrArg (Value.int .i64) (by rw [unhide hnx]; omega)⟩
      case measure => simp [intOf]; omega
    · have : k = 7 := by omega
      subst this
      have hlt' : (7 : Int) < (l.length : Int) := by omega
      have h7' : (36028797018963968 : Int) ≤ ((nat (l.take 7) : Nat) : Int) := by omega
      generalize nat (l.take 7) = N at *
      go_wp2
      go_ret2
      exact ⟨rfl, rfl⟩
set_option maxHeartbeats 1000000 in
set_option maxRecDepth 8000 in
theorem yraw_any (y : Nat) (R : List UInt8) (E : Nat) (n : Int) (w : World) (h : YAt y R E w) :
    Calls Tryd.prog 30 #[.pointer (some ⟨y, 0, none⟩), .int .i64 n] w fun e w' => e = .returned (.string ⟨(if fine E (rRawE n R) then R.take n.toNat else []).toArray⟩) ∧ YTo y (rGo R E (rRawE n R) n.toNat).1 (rGo R E (rRawE n R) n.toNat).2 w w' := by
  have c0 := h.c0
  have c1 := h.c1
  have f0 := h.fz 0
  have f1 := h.fz 1
  by_cases hE : E = 0
  · subst hE
    by_cases hn : n < 0
    · have he : rRawE n R = 1 := by simp [rRawE, hn]
      rw [he, rGo_bad (by decide), fine_bad (by decide)]
      have H := hide h
      clear h he
      go_enter Tryd.func30, Tryd.ntmps30
      go_wp2
      go_ret
      exact ⟨rfl, YTo.err (E' := 1) (unhide H)⟩
    · obtain ⟨k, hk⟩ : ∃ k : Nat, n = (k : Int) := ⟨n.toNat, by omega⟩
      subst hk
      by_cases hl : R.length < k
      · have he : rRawE k R = 22 := by unfold rRawE; rw [if_neg (by omega), if_pos (by omega)]
        rw [he, rGo_bad (by decide), fine_bad (by decide)]
        have H := hide h
        have hl' : (R.length : Int) < (k : Int) := by omega
        clear h he
        go_enter Tryd.func30, Tryd.ntmps30
        go_wp2
        go_ret
        exact ⟨rfl, YTo.err (E' := 22) (unhide H)⟩
      · have he : rRawE k R = 0 := by unfold rRawE; rw [if_neg (by omega), if_neg (by omega)]
        rw [he, rGo_ok, fine_ok]
        have H := hide h
        have hlk : k ≤ R.length := by omega
        have hlk' : (k : Int) ≤ (R.length : Int) := by omega
        have hx1 := ex_take R k
        have hx2 := ex_drop R k
        clear h he hl
        go_enter Tryd.func30, Tryd.ntmps30
        go_wp2
        go_ret
        exact ⟨rfl, YTo.cut (unhide H)⟩
  · rw [rGo_old hE, fine_old hE]
    have hE' : ¬ (E : Int) = 0 := by omega
    have H := hide h
    clear h
    go_enter Tryd.func30, Tryd.ntmps30
    go_wp2
    go_ret
    exact ⟨rfl, YTo.same (unhide H)⟩
end Go.Proofs.YthddilflldkmfaaDoor
namespace Go.Proofs.YthddilflldkmfaaDoor
open Go.RowKit Go.Lib
set_option maxHeartbeats 1000000 in
set_option maxRecDepth 8000 in
theorem ynum_any (y : Nat) (R : List UInt8) (E : Nat) (size : Int) (w : World) (h : YAt y R E w) :
    Calls Tryd.prog 26 #[.pointer (some ⟨y, 0, none⟩), .int .i64 size] w fun e w' => e = .returned (.int .i64 (if fine E (rNumE size R) then (nat (R.take size.toNat) : Int) else 0)) ∧ YTo y (rGo R E (rNumE size R) size.toNat).1 (rGo R E (rNumE size R) size.toNat).2 w w' := by
  have c0 := h.c0
  have c1 := h.c1
  have f0 := h.fz 0
  have f1 := h.fz 1
  by_cases hE : E = 0
  · subst hE
    by_cases hs : 1 ≤ size ∧ size ≤ 8
    · obtain ⟨k, hk⟩ : ∃ k : Nat, size = (k : Int) := ⟨size.toNat, by omega⟩
      subst hk
      obtain ⟨hs1, hs2⟩ := hs
      have d1 : decide ((k : Int) < 1) = false := by simp; omega
      have d2 : decide ((8 : Int) < (k : Int)) = false := by simp; omega
      by_cases hl : R.length < k
      · have he : rNumE k R = 22 := by unfold rNumE; rw [if_pos ⟨hs1, hs2⟩, if_pos (by omega)]
        rw [he, rGo_bad (by decide), fine_bad (by decide)]
        have H := hide h
        have hl' : (R.length : Int) < (k : Int) := by omega
        clear h he
        go_enter Tryd.func26, Tryd.ntmps26
        go_wp2
        go_ret
        exact ⟨rfl, YTo.err (E' := 22) (unhide H)⟩
      · have hlk : k ≤ R.length := by omega
        have hlk' : (k : Int) ≤ (R.length : Int) := by omega
        have hdl : decide ((R.length : Int) < (k : Int)) = false := by simp; omega
        have hx1 := ex_take R k
        have hx2 := ex_drop R k
        have hlt : (R.take k).length = k := by rw [List.length_take]; omega
        by_cases hw : nat (R.take k) < 9223372036854775808
        · have he : rNumE k R = 0 := by
            unfold rNumE
            rw [if_pos ⟨hs1, hs2⟩, if_neg (by omega), if_neg ?_]
            rintro ⟨q1, q2⟩
            have := (nat_first (R.take k) (by omega)).1 hw
            rw [getD_take R k (by omega)] at this
            omega
          rw [he, rGo_ok, fine_ok]
          have HN := hide (numr_ok (R.take k) w (by omega) hw)
          have H := hide h
          clear h he hl
          go_enter Tryd.func26, Tryd.ntmps26
          go_wp2_with fail
          refine (unhide HN).mono ?_
          rintro e w1 ⟨rfl, rfl⟩
          go_wp2
          go_ret
          exact ⟨rfl, YTo.cut (unhide H)⟩
        · have he : rNumE k R = 20 := by
            unfold rNumE
            obtain ⟨q8, _⟩ := wide_nat (R.take k) (by omega) hw
            have hq : 128 ≤ (R.getD 0 0).toNat := by
              rw [← getD_take R k (by omega)]
              exact Nat.le_of_not_lt (mt (nat_first (R.take k) q8).2 hw)
            rw [if_pos ⟨hs1, hs2⟩, if_neg (by omega), if_pos ⟨by omega, hq⟩]
          rw [he, rGo_bad (by decide), fine_bad (by decide)]
          have HN := hide (numr_bad (R.take k) w (by omega) hw)
          have H := hide h
          clear h he hl
          go_enter Tryd.func26, Tryd.ntmps26
          go_wp2_with fail
          refine (unhide HN).mono ?_
          rintro e w1 ⟨rfl, rfl⟩
          go_wp2
          go_ret
          exact ⟨rfl, YTo.err (E' := 20) (unhide H)⟩
    · have he : rNumE size R = 1 := by simp [rNumE, hs]
      rw [he, rGo_bad (by decide), fine_bad (by decide)]
      have H := hide h
      clear h he
      by_cases q : size < 1
      · go_enter Tryd.func26, Tryd.ntmps26
        go_wp2
        go_ret
        exact ⟨rfl, YTo.err (E' := 1) (unhide H)⟩
      · have q2 : (8 : Int) < size := by omega
        go_enter Tryd.func26, Tryd.ntmps26
        go_wp2
        go_ret
        exact ⟨rfl, YTo.err (E' := 1) (unhide H)⟩
  · rw [rGo_old hE, fine_old hE]
    have hE' : ¬ (E : Int) = 0 := by omega
    have H := hide h
    clear h
    go_enter Tryd.func26, Tryd.ntmps26
    go_wp2
    go_ret
    exact ⟨rfl, YTo.same (unhide H)⟩
set_option maxHeartbeats 2000000 in
set_option maxRecDepth 8000 in
theorem ytext_any (y : Nat) (R : List UInt8) (E : Nat) (most : Int) (w : World) (h : YAt y R E w) (hR : R.length ≤ 9223372036854775807) :
    Calls Tryd.prog 28 #[.pointer (some ⟨y, 0, none⟩), .int .i64 most] w fun e w' => e = .returned (.string ⟨(if fine E (rTextE most R) then rTextS most R else []).toArray⟩) ∧ YTo y (rGo R E (rTextE most R) (rTextK most R)).1 (rGo R E (rTextE most R) (rTextK most R)).2 w w' := by
  have c0 := h.c0
  have c1 := h.c1
  have f0 := h.fz 0
  have f1 := h.fz 1
  by_cases hE : E = 0
  · subst hE
    by_cases hs : 0 ≤ most ∧ most ≤ 65535
    · have hs1 := hs.1
      have hs2 := hs.2
      have d1 : decide (most < 0) = false := by simp; omega
      have d2 : decide (65535 < most) = false := by simp; omega
      have ha := ahd_le most
      have HA := hide (fun W => ahead_any most W)
      by_cases hl : R.length < ahd most
      · have he : rTextE most R = 22 := by unfold rTextE; rw [if_pos hs, if_pos hl]
        rw [he, rGo_bad (by decide), fine_bad (by decide)]
        have H := hide h
        generalize ahd most = k at *
        have hl' : (R.length : Int) < (k : Int) := by omega
        clear h he
        go_enter Tryd.func28, Tryd.ntmps28
        go_wp2_with fail
        refine (unhide HA _).mono ?_
        rintro e w1 ⟨rfl, rfl⟩
        go_wp2
        go_ret
        exact ⟨rfl, YTo.err (E' := 22) (unhide H)⟩
      · have hx1 := ex_take R (ahd most)
        have hna := nat_ahd R (ahd most) ha.2
        have HN := hide (numr_ok (R.take (ahd most)) w (by rw [List.length_take]; omega) (by omega))
        by_cases hm : most < (nat (R.take (ahd most)) : Int)
        · have he : rTextE most R = 21 := by unfold rTextE; rw [if_pos hs, if_neg hl, if_pos hm]
          rw [he, rGo_bad (by decide), fine_bad (by decide)]
          have H := hide h
          generalize ahd most = k at *
          generalize nat (R.take k) = n at *
          have hl' : ¬ (R.length : Int) < (k : Int) := by omega
          have hlk : (k : Int) ≤ (R.length : Int) := by omega
          clear h he
          go_enter Tryd.func28, Tryd.ntmps28
          go_wp2_with fail
          refine (unhide HA _).mono ?_
          rintro e w1 ⟨rfl, rfl⟩
          go_wp2_with fail
          refine (unhide HN).mono ?_
          rintro e w2 ⟨rfl, rfl⟩
          go_wp2
          go_ret
          exact ⟨rfl, YTo.err (E' := 21) (unhide H)⟩
        · by_cases hq : R.length - ahd most < nat (R.take (ahd most))
          · have he : rTextE most R = 22 := by unfold rTextE; rw [if_pos hs, if_neg hl, if_neg hm, if_pos hq]
            rw [he, rGo_bad (by decide), fine_bad (by decide)]
            have H := hide h
            generalize ahd most = k at *
            generalize nat (R.take k) = n at *
            have hl' : ¬ (R.length : Int) < (k : Int) := by omega
            have hlk : (k : Int) ≤ (R.length : Int) := by omega
            have hq' : (R.length : Int) - (k : Int) < (n : Int) := by omega
            clear h he
            go_enter Tryd.func28, Tryd.ntmps28
            go_wp2_with fail
            refine (unhide HA _).mono ?_
            rintro e w1 ⟨rfl, rfl⟩
            go_wp2_with fail
            refine (unhide HN).mono ?_
            rintro e w2 ⟨rfl, rfl⟩
            go_wp2
            go_ret
            exact ⟨rfl, YTo.err (E' := 22) (unhide H)⟩
          · have he : rTextE most R = 0 := by unfold rTextE; rw [if_pos hs, if_neg hl, if_neg hm, if_neg hq]
            rw [he, rGo_ok, fine_ok]
            have H := hide h
            have HS := hide (show rTextS most R = (R.drop (ahd most)).take (nat (R.take (ahd most))) from rfl)
            have HK := hide (show rTextK most R = ahd most + nat (R.take (ahd most)) from rfl)
            have hx2 := ex_drop R (ahd most + nat (R.take (ahd most)))
            have hx3 : (ByteArray.mk R.toArray).extract (ahd most) (ahd most + nat (R.take (ahd most))) = ⟨((R.drop (ahd most)).take (nat (R.take (ahd most)))).toArray⟩ := by
              apply ByteArray.ext
              apply Array.ext'
              simp [ByteArray.data_extract]
            generalize rTextS most R = S1 at *
            generalize rTextK most R = K1 at *
            rw [← unhide HS] at hx3
            rw [← unhide HK] at hx2
            have hx3' : (ByteArray.mk R.toArray).extract (ahd most) K1 = ⟨S1.toArray⟩ := by rw [unhide HK]; exact hx3
            clear hx3
            generalize ahd most = k at *
            generalize nat (R.take k) = n at *
            have hl' : ¬ (R.length : Int) < (k : Int) := by omega
            have hlk : (k : Int) ≤ (R.length : Int) := by omega
            have hq' : ¬ (R.length : Int) - (k : Int) < (n : Int) := by omega
            have hK := unhide HK
            have hkn : (k : Int) + (n : Int) = (K1 : Int) := by omega
            have hkn1 : (k : Int) ≤ (K1 : Int) := by omega
            have hkn2 : (K1 : Int) ≤ (R.length : Int) := by omega
            clear h he hK HK HS
            go_enter Tryd.func28, Tryd.ntmps28
            go_wp2_with fail
            refine (unhide HA _).mono ?_
            rintro e w1 ⟨rfl, rfl⟩
            go_wp2_with fail
            refine (unhide HN).mono ?_
            rintro e w2 ⟨rfl, rfl⟩
            go_wp2
            go_ret
            exact ⟨rfl, YTo.cut (unhide H)⟩
    · have he : rTextE most R = 1 := by simp [rTextE, hs]
      rw [he, rGo_bad (by decide), fine_bad (by decide)]
      have H := hide h
      clear h he
      by_cases q : most < 0
      · go_enter Tryd.func28, Tryd.ntmps28
        go_wp2
        go_ret
        exact ⟨rfl, YTo.err (E' := 1) (unhide H)⟩
      · have q2 : (65535 : Int) < most := by omega
        go_enter Tryd.func28, Tryd.ntmps28
        go_wp2
        go_ret
        exact ⟨rfl, YTo.err (E' := 1) (unhide H)⟩
  · rw [rGo_old hE, fine_old hE]
    have hE' : ¬ (E : Int) = 0 := by omega
    have H := hide h
    clear h
    go_enter Tryd.func28, Tryd.ntmps28
    go_wp2
    go_ret
    exact ⟨rfl, YTo.same (unhide H)⟩
end Go.Proofs.YthddilflldkmfaaDoor
