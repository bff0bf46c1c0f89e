import Derived.Test.YthddilflldkmfaaDoorYra
namespace Go.Proofs.YthddilflldkmfaaDoor
open Go.RowKit Go.Lib
set_option maxHeartbeats 1000000 in
set_option maxRecDepth 8000 in
theorem ynum_any (y : Nat) (R : List UInt8) (E : Nat) (size : Int) (w : World) (h : YAt y R E w) :
    Calls Tryd.prog 26 #[.pointer (some ⟨y, 0, none⟩), .int .i64 size] w fun e w' => e = .returned (.int .i64 (if fine E (rNumE size R) then (nat (R.take size.toNat) : Int) else 0)) ∧ YTo y (rGo R E (rNumE size R) size.toNat).1 (rGo R E (rNumE size R) size.toNat).2 w w' := by
  have c0 := h.c0
  have c1 := h.c1
  have f0 := h.fz 0
  have f1 := h.fz 1
  by_cases hE : E = 0
  · subst hE
    by_cases hs : 1 ≤ size ∧ size ≤ 8
    · obtain ⟨k, hk⟩ : ∃ k : Nat, size = (k : Int) := ⟨size.toNat, by omega⟩
      subst hk
      obtain ⟨hs1, hs2⟩ := hs
      have d1 : decide ((k : Int) < 1) = false := by simp; omega
      have d2 : decide ((8 : Int) < (k : Int)) = false := by simp; omega
      by_cases hl : R.length < k
      · have he : rNumE k R = 22 := by unfold rNumE; rw [if_pos ⟨hs1, hs2⟩, if_pos (by omega)]
        rw [he, rGo_bad (by decide), fine_bad (by decide)]
        have H := hide h
        have hl' : (R.length : Int) < (k : Int) := by omega
        clear h he
        go_enter Tryd.func26, Tryd.ntmps26
        go_wp2
        go_ret
        exact ⟨rfl, YTo.err (E' := 22) (unhide H)⟩
      · have hlk : k ≤ R.length := by omega
        have hlk' : (k : Int) ≤ (R.length : Int) := by omega
        have hdl : decide ((R.length : Int) < (k : Int)) = false := by simp; omega
        have hx1 := ex_take R k
        have hx2 := ex_drop R k
        have hlt : (R.take k).length = k := by rw [List.length_take]; omega
        by_cases hw : nat (R.take k) < 9223372036854775808
        · have he : rNumE k R = 0 := by
            unfold rNumE
            rw [if_pos ⟨hs1, hs2⟩, if_neg (by omega), if_neg ?_]
            rintro ⟨q1, q2⟩
            have := (nat_first (R.take k) (by omega)).1 hw
            rw [getD_take R k (by omega)] at this
            omega
          rw [he, rGo_ok, fine_ok]
          have HN := hide (numr_ok (R.take k) w (by omega) hw)
          have H := hide h
          clear h he hl
          go_enter Tryd.func26, Tryd.ntmps26
          go_wp2_with fail
          refine (unhide HN).mono ?_
          rintro e w1 ⟨rfl, rfl⟩
          go_wp2
          go_ret
          exact ⟨rfl, YTo.cut (unhide H)⟩
        · have he : rNumE k R = 20 := by
            unfold rNumE
            obtain ⟨q8, _⟩ := wide_nat (R.take k) (by omega) hw
            have hq : 128 ≤ (R.getD 0 0).toNat := by
              rw [← getD_take R k (by omega)]
              exact Nat.le_of_not_lt (mt (nat_first (R.take k) q8).2 hw)
            rw [if_pos ⟨hs1, hs2⟩, if_neg (by omega), if_pos ⟨by omega, hq⟩]
          rw [he, rGo_bad (by decide), fine_bad (by decide)]
          have HN := hide (numr_bad (R.take k) w (by omega) hw)
          have H := hide h
          clear h he hl
          go_enter Tryd.func26, Tryd.ntmps26
          go_wp2_with fail
          refine (unhide HN).mono ?_
          rintro e w1 ⟨rfl, rfl⟩
          go_wp2
          go_ret
          exact ⟨rfl, YTo.err (E' := 20) (unhide H)⟩
    · have he : rNumE size R = 1 := by simp [rNumE, hs]
      rw [he, rGo_bad (by decide), fine_bad (by decide)]
      have H := hide h
      clear h he
      by_cases q : size < 1
      · go_enter Tryd.func26, Tryd.ntmps26
        go_wp2
        go_ret
        exact ⟨rfl, YTo.err (E' := 1) (unhide H)⟩
      · have q2 : (8 : Int) < size := by omega
        go_enter Tryd.func26, Tryd.ntmps26
        go_wp2
        go_ret
        exact ⟨rfl, YTo.err (E' := 1) (unhide H)⟩
  · rw [rGo_old hE, fine_old hE]
    have hE' : ¬ (E : Int) = 0 := by omega
    have H := hide h
    clear h
    go_enter Tryd.func26, Tryd.ntmps26
    go_wp2
    go_ret
    exact ⟨rfl, YTo.same (unhide H)⟩
set_option maxHeartbeats 2000000 in
set_option maxRecDepth 8000 in
theorem ytext_any (y : Nat) (R : List UInt8) (E : Nat) (most : Int) (w : World) (h : YAt y R E w) (hR : R.length ≤ 9223372036854775807) :
    Calls Tryd.prog 28 #[.pointer (some ⟨y, 0, none⟩), .int .i64 most] w fun e w' => e = .returned (.string ⟨(if fine E (rTextE most R) then rTextS most R else []).toArray⟩) ∧ YTo y (rGo R E (rTextE most R) (rTextK most R)).1 (rGo R E (rTextE most R) (rTextK most R)).2 w w' := by
  have c0 := h.c0
  have c1 := h.c1
  have f0 := h.fz 0
  have f1 := h.fz 1
  by_cases hE : E = 0
  · subst hE
    by_cases hs : 0 ≤ most ∧ most ≤ 65535
    · have hs1 := hs.1
      have hs2 := hs.2
      have d1 : decide (most < 0) = false := by simp; omega
      have d2 : decide (65535 < most) = false := by simp; omega
      have ha := ahd_le most
      have HA := hide (fun W => ahead_any most W)
      by_cases hl : R.length < ahd most
      · have he : rTextE most R = 22 := by unfold rTextE; rw [if_pos hs, if_pos hl]
        rw [he, rGo_bad (by decide), fine_bad (by decide)]
        have H := hide h
        generalize ahd most = k at *
        have hl' : (R.length : Int) < (k : Int) := by omega
        clear h he
        go_enter Tryd.func28, Tryd.ntmps28
        go_wp2_with fail
        refine (unhide HA _).mono ?_
        rintro e w1 ⟨rfl, rfl⟩
        go_wp2
        go_ret
        exact ⟨rfl, YTo.err (E' := 22) (unhide H)⟩
      · have hx1 := ex_take R (ahd most)
        have hna := nat_ahd R (ahd most) ha.2
        have HN := hide (numr_ok (R.take (ahd most)) w (by rw [List.length_take]; omega) (by omega))
        by_cases hm : most < (nat (R.take (ahd most)) : Int)
        · have he : rTextE most R = 21 := by unfold rTextE; rw [if_pos hs, if_neg hl, if_pos hm]
          rw [he, rGo_bad (by decide), fine_bad (by decide)]
          have H := hide h
          generalize ahd most = k at *
          generalize nat (R.take k) = n at *
          have hl' : ¬ (R.length : Int) < (k : Int) := by omega
          have hlk : (k : Int) ≤ (R.length : Int) := by omega
          clear h he
          go_enter Tryd.func28, Tryd.ntmps28
          go_wp2_with fail
          refine (unhide HA _).mono ?_
          rintro e w1 ⟨rfl, rfl⟩
          go_wp2_with fail
          refine (unhide HN).mono ?_
          rintro e w2 ⟨rfl, rfl⟩
          go_wp2
          go_ret
          exact ⟨rfl, YTo.err (E' := 21) (unhide H)⟩
        · by_cases hq : R.length - ahd most < nat (R.take (ahd most))
          · have he : rTextE most R = 22 := by unfold rTextE; rw [if_pos hs, if_neg hl, if_neg hm, if_pos hq]
            rw [he, rGo_bad (by decide), fine_bad (by decide)]
            have H := hide h
            generalize ahd most = k at *
            generalize nat (R.take k) = n at *
            have hl' : ¬ (R.length : Int) < (k : Int) := by omega
            have hlk : (k : Int) ≤ (R.length : Int) := by omega
            have hq' : (R.length : Int) - (k : Int) < (n : Int) := by omega
            clear h he
            go_enter Tryd.func28, Tryd.ntmps28
            go_wp2_with fail
            refine (unhide HA _).mono ?_
            rintro e w1 ⟨rfl, rfl⟩
            go_wp2_with fail
            refine (unhide HN).mono ?_
            rintro e w2 ⟨rfl, rfl⟩
            go_wp2
            go_ret
            exact ⟨rfl, YTo.err (E' := 22) (unhide H)⟩
          · have he : rTextE most R = 0 := by unfold rTextE; rw [if_pos hs, if_neg hl, if_neg hm, if_neg hq]
            rw [he, rGo_ok, fine_ok]
            have H := hide h
            have HS := hide (show rTextS most R = (R.drop (ahd most)).take (nat (R.take (ahd most))) from rfl)
            have HK := hide (show rTextK most R = ahd most + nat (R.take (ahd most)) from rfl)
            have hx2 := ex_drop R (ahd most + nat (R.take (ahd most)))
            have hx3 : (ByteArray.mk R.toArray).extract (ahd most) (ahd most + nat (R.take (ahd most))) = ⟨((R.drop (ahd most)).take (nat (R.take (ahd most)))).toArray⟩ := by
              apply ByteArray.ext
              apply Array.ext'
              simp [ByteArray.data_extract]
            generalize rTextS most R = S1 at *
            generalize rTextK most R = K1 at *
            rw [← unhide HS] at hx3
            rw [← unhide HK] at hx2
            have hx3' : (ByteArray.mk R.toArray).extract (ahd most) K1 = ⟨S1.toArray⟩ := by rw [unhide HK]; exact hx3
            clear hx3
            generalize ahd most = k at *
            generalize nat (R.take k) = n at *
            have hl' : ¬ (R.length : Int) < (k : Int) := by omega
            have hlk : (k : Int) ≤ (R.length : Int) := by omega
            have hq' : ¬ (R.length : Int) - (k : Int) < (n : Int) := by omega
            have hK := unhide HK
            have hkn : (k : Int) + (n : Int) = (K1 : Int) := by omega
            have hkn1 : (k : Int) ≤ (K1 : Int) := by omega
            have hkn2 : (K1 : Int) ≤ (R.length : Int) := by omega
            clear h he hK HK HS
            go_enter Tryd.func28, Tryd.ntmps28
            go_wp2_with fail
            refine (unhide HA _).mono ?_
            rintro e w1 ⟨rfl, rfl⟩
            go_wp2_with fail
            refine (unhide HN).mono ?_
            rintro e w2 ⟨rfl, rfl⟩
            go_wp2
            go_ret
            exact ⟨rfl, YTo.cut (unhide H)⟩
    · have he : rTextE most R = 1 := by simp [rTextE, hs]
      rw [he, rGo_bad (by decide), fine_bad (by decide)]
      have H := hide h
      clear h he
      by_cases q : most < 0
      · go_enter Tryd.func28, Tryd.ntmps28
        go_wp2
        go_ret
        exact ⟨rfl, YTo.err (E' := 1) (unhide H)⟩
      · have q2 : (65535 : Int) < most := by omega
        go_enter Tryd.func28, Tryd.ntmps28
        go_wp2
        go_ret
        exact ⟨rfl, YTo.err (E' := 1) (unhide H)⟩
  · rw [rGo_old hE, fine_old hE]
    have hE' : ¬ (E : Int) = 0 := by omega
    have H := hide h
    clear h
    go_enter Tryd.func28, Tryd.ntmps28
    go_wp2
    go_ret
    exact ⟨rfl, YTo.same (unhide H)⟩
end Go.Proofs.YthddilflldkmfaaDoor
