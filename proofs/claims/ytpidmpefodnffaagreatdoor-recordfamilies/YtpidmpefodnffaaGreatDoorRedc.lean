import Derived.Test.YtpidmpefodnffaaGreatDoorZwrta
namespace Go.Proofs.YtpidmpefodnffaaGreatDoor
open Go.RowKit Go.Lib
/-- The text that stands there. -/
def rTextS (most : Int) (R : List UInt8) : List UInt8 := (R.drop (ahd most)).take (nat (R.take (ahd most)))
def rTextK (most : Int) (R : List UInt8) : Nat := ahd most + nat (R.take (ahd most))
theorem ahd_le (most : Int) : 1 ≤ ahd most ∧ ahd most ≤ 2 := by unfold ahd; split <;> omega
theorem nat_ahd (R : List UInt8) (k : Nat) (hk : k ≤ 2) : nat (R.take k) < 65536 := by
  have := nat_lt (R.take k)
  have h2 : 256 ^ (R.take k).length ≤ 256 ^ 2 := Nat.pow_le_pow_right (by omega) (by rw [List.length_take]; omega)
  have h3 : 256 ^ 2 = 65536 := by decide
  omega
set_option maxHeartbeats 2000000 in
set_option maxRecDepth 8000 in
theorem rtext_any (b g off cap : Nat) (R : List UInt8) (E : Nat) (most : Int) (w : World) (h : RAt b g off cap R E w) (hR : R.length ≤ 9223372036854775807) :
    Calls Tryz.prog 138 #[.pointer (some ⟨b, 0, none⟩), .int .i64 most] w fun e w' => e = .returned (.string ⟨(if fine E (rTextE most R) then rTextS most R else []).toArray⟩) ∧ RTo b g (rGo R E (rTextE most R) (rTextK most R)).1 (rGo R E (rTextE most R) (rTextK most R)).2 w w' := by
  have c0 := h.c0
  have c1 := h.c1
  have f1 := h.fz 1
  have ha := ahd_le most
  have hcap := h.bys.cap
  by_cases hE : E = 0
  · subst hE
    rw [errV_0] at c1
    by_cases hs : 0 ≤ most ∧ most ≤ 65535
    · have hsd : decide (0 ≤ most ∧ most ≤ 65535) = true := by simpa using hs
      have hs0 := hs.1
      have hs1 := hs.2
      by_cases hl : R.length < ahd most
      · have he : rTextE most R = 22 := by unfold rTextE; rw [if_pos hs, if_pos hl]
        rw [he, rGo_bad (by decide), fine_bad (by decide)]
        have HLS := hide (lengthSize_any most w)
        have H := hide h
        clear h he hs
        generalize hk : ahd most = k at *
        clear hk
        go_enter Tryz.func138, Tryz.ntmps138
        go_wp2_with fail
        refine (unhide HLS).mono ?_
        rintro e w' ⟨rfl, rfl⟩
        go_wp2_with fail
        refine (bounded_any most w').mono ?_
        rintro e w'' ⟨rfl, rfl⟩
        rw [hsd]
        go_wp2
        go_ret
        exact ⟨rfl, RTo.err (E' := 22) (unhide H)⟩
      · have hlk : ahd most ≤ R.length := by omega
        have hnl := nat_ahd R (ahd most) (by omega)
        by_cases h21 : most < (nat (R.take (ahd most)) : Int)
        · have he : rTextE most R = 21 := by unfold rTextE; rw [if_pos hs, if_neg hl, if_pos h21]
          rw [he, rGo_bad (by decide), fine_bad (by decide)]
          have hby := take_drop_bys h.bys (ahd most) hlk
          have hln : (R.take (ahd most)).length = ahd most := by rw [List.length_take]; omega
          have HLS := hide (lengthSize_any most w)
          have H := hide h
          have HBY := hide hby
          have HLN := hide hln
          have hq : ∀ W : World, Only (fun _ => False) w W → Calls Tryz.prog 162 #[.slice (some ⟨g, off, none⟩) (ahd most) cap] W fun e w' => e = .returned (.int .i64 (nat (R.take (ahd most)))) ∧ w' = W := fun W hW => number_any g off cap (ahd most) (R.take (ahd most)) W ((unhide HBY).keep hW (fun q => q)) (unhide HLN) (by omega) (by omega)
          have HQ := hide hq
          clear h he hs hby hln hq
          generalize hk : ahd most = k at *
          generalize hN : nat (R.take k) = N at *
          have HKK := hide hk
          have HNN := hide hN
          clear hk hN
          go_enter Tryz.func138, Tryz.ntmps138
          go_wp2_with fail
          refine (unhide HLS).mono ?_
          rintro e w' ⟨rfl, rfl⟩
          go_wp2_with fail
          refine (bounded_any most w').mono ?_
          rintro e w'' ⟨rfl, rfl⟩
          rw [hsd]
          go_wp2_with fail
          refine (unhide HQ _ (Only.refl _ _)).mono ?_
          rintro e w'' ⟨rfl, rfl⟩
          go_wp2
          go_ret
          exact ⟨rfl, RTo.err (E' := 21) (unhide H)⟩
        · by_cases h22 : R.length - ahd most < nat (R.take (ahd most))
          · have he : rTextE most R = 22 := by unfold rTextE; rw [if_pos hs, if_neg hl, if_neg h21, if_pos h22]
            rw [he, rGo_bad (by decide), fine_bad (by decide)]
            have hby := take_drop_bys h.bys (ahd most) hlk
            have hln : (R.take (ahd most)).length = ahd most := by rw [List.length_take]; omega
            have HLS := hide (lengthSize_any most w)
            have H := hide h
            have HBY := hide hby
            have HLN := hide hln
            have hq : ∀ W : World, Only (fun _ => False) w W → Calls Tryz.prog 162 #[.slice (some ⟨g, off, none⟩) (ahd most) cap] W fun e w' => e = .returned (.int .i64 (nat (R.take (ahd most)))) ∧ w' = W := fun W hW => number_any g off cap (ahd most) (R.take (ahd most)) W ((unhide HBY).keep hW (fun q => q)) (unhide HLN) (by omega) (by omega)
            have HQ := hide hq
            clear h he hs hby hln hq
            generalize hk : ahd most = k at *
            generalize hN : nat (R.take k) = N at *
            have HKK := hide hk
            have HNN := hide hN
            clear hk hN
            go_enter Tryz.func138, Tryz.ntmps138
            go_wp2_with fail
            refine (unhide HLS).mono ?_
            rintro e w' ⟨rfl, rfl⟩
            go_wp2_with fail
            refine (bounded_any most w').mono ?_
            rintro e w'' ⟨rfl, rfl⟩
            rw [hsd]
            go_wp2_with fail
            refine (unhide HQ _ (Only.refl _ _)).mono ?_
            rintro e w'' ⟨rfl, rfl⟩
            have hwr : IntKind.i64.wrap ((R.length : Int) - (k : Int)) = (R.length : Int) - (k : Int) := IntWalk.i64_in _ (by omega)
            have hd : decide ((R.length : Int) - (k : Int) < (N : Int)) = true := by simp; omega
            have hd1 : (R.length : Int) - (k : Int) < (N : Int) := by omega
            go_wp2_with fail
            go_quiet ((go_at_call 162; first | exact Calls.quiet_of_same (unhide HQ _ (Only.refl _ _)) | exact Calls.quiet_of_same (unhide HQ _ (Only.drewN _ _ _)) | exact Calls.quiet_of_same (unhide HQ _ (Only.drew _ _))))
            have c1q : (w''.drewN nq).cell? ⟨b, 1, none⟩ = some .nilIface := c1
            have f1q : (w''.drewN nq).frozen? ⟨b, 1, none⟩ = false := f1
            have HRq := hide ((unhide H).keep (Only.drewN (fun _ => False) w'' nq) (fun q => q) (fun q => q))
            have HOq := hide (Only.drewN (fun k => k = b) w'' nq)
            generalize w''.drewN nq = wq at *
            go_wp2
            go_ret
            exact ⟨rfl, RTo.step (unhide HOq) (RTo.err (E' := 22) (unhide HRq))⟩
          · have he : rTextE most R = 0 := by unfold rTextE; rw [if_pos hs, if_neg hl, if_neg h21, if_neg h22]
            have HS := hide (show rTextS most R = (R.drop (ahd most)).take (nat (R.take (ahd most))) from rfl)
            have HK := hide (show rTextK most R = ahd most + nat (R.take (ahd most)) from rfl)
            rw [he, rGo_ok, fine_ok]
            have hby := take_drop_bys h.bys (ahd most) hlk
            have hln : (R.take (ahd most)).length = ahd most := by rw [List.length_take]; omega
            have HLS := hide (lengthSize_any most w)
            have H := hide h
            have HBY := hide hby
            have HLN := hide hln
            have hq : ∀ W : World, Only (fun _ => False) w W → Calls Tryz.prog 162 #[.slice (some ⟨g, off, none⟩) (ahd most) cap] W fun e w' => e = .returned (.int .i64 (nat (R.take (ahd most)))) ∧ w' = W := fun W hW => number_any g off cap (ahd most) (R.take (ahd most)) W ((unhide HBY).keep hW (fun q => q)) (unhide HLN) (by omega) (by omega)
            have HQ := hide hq
            clear h he hs hby hln hq
            generalize hk : ahd most = k at *
            generalize hN : nat (R.take k) = N at *
            have HKK := hide hk
            have HNN := hide hN
            clear hk hN
            go_enter Tryz.func138, Tryz.ntmps138
            go_wp2_with fail
            refine (unhide HLS).mono ?_
            rintro e w' ⟨rfl, rfl⟩
            go_wp2_with fail
            refine (bounded_any most w').mono ?_
            rintro e w'' ⟨rfl, rfl⟩
            rw [hsd]
            go_wp2_with fail
            refine (unhide HQ _ (Only.refl _ _)).mono ?_
            rintro e w'' ⟨rfl, rfl⟩
            have hwr : IntKind.i64.wrap ((R.length : Int) - (k : Int)) = (R.length : Int) - (k : Int) := IntWalk.i64_in _ (by omega)
            have hd : decide ((R.length : Int) - (k : Int) < (N : Int)) = false := by simp; omega
            go_wp2_with fail
            go_quiet ((go_at_call 162; first | exact Calls.quiet_of_same (unhide HQ _ (Only.refl _ _)) | exact Calls.quiet_of_same (unhide HQ _ (Only.drewN _ _ _)) | exact Calls.quiet_of_same (unhide HQ _ (Only.drew _ _))))
            have HRq := hide ((unhide H).keep (Only.drewN (fun _ => False) w'' nq) (fun q => q) (fun q => q))
            have HOq := hide (Only.drewN (fun k => k = b) w'' nq)
            have HQq := hide (fun W (hW : Only (fun k => k = b) w'' W) => number_any g off cap k (R.take k) W ((unhide HBY).keep hW (unhide H).ne) (unhide HLN) (by omega) (by rw [unhide HNN]; omega))
            generalize w''.drewN nq = wq at *
            go_wp2_with fail
            refine (take_any b g off cap R 0 k wq (unhide HRq) hlk hR).mono ?_
            rintro e w1 ⟨rfl, hto1⟩
            have hO1 := (unhide HOq).trans hto1.2 (fun _ _ q => q)
            have hnum := unhide HQq w1 hO1
            rw [unhide HNN] at hnum
            have HNUM := hide hnum
            clear hnum
            go_wp2_with fail
            refine (unhide HNUM).mono ?_
            rintro e w2 ⟨rfl, rfl⟩
            obtain ⟨off1, cap1, hR1⟩ := hto1.1
            have hln1 : N ≤ (R.drop k).length := by rw [List.length_drop]; omega
            have HR1 := hide hR1
            clear hR1
            go_wp2_with fail
            refine (take_any b g off1 cap1 (R.drop k) 0 N w2 (unhide HR1) hln1 (by rw [List.length_drop]; omega)).mono ?_
            rintro e w3 ⟨rfl, hto2⟩
            have hx := ((unhide HR1).bys.keep hto2.2 (unhide HR1).ne).text N hln1 cap1
            have HX := hide hx
            have hO2 := hO1.trans hto2.2 (fun _ _ q => q)
            clear hx
            go_wp2_with (refine wpList_conv rfl 105 9 (.tmp 15) rfl _ _ (by rfl) (unhide HX) ?_)
            go_ret
            refine ⟨?_, ?_, hO2⟩
            · rw [unhide HS]; rfl
            · rw [unhide HK, ← List.drop_drop]; exact hto2.1
    · have he : rTextE most R = 1 := by simp [rTextE, hs]
      have hsd : decide (0 ≤ most ∧ most ≤ 65535) = false := by simpa using hs
      rw [he, rGo_bad (by decide), fine_bad (by decide)]
      have HLS := hide (lengthSize_any most w)
      have H := hide h
      clear hs he h
      go_enter Tryz.func138, Tryz.ntmps138
      go_wp2_with fail
      refine (unhide HLS).mono ?_
      rintro e w' ⟨rfl, rfl⟩
      go_wp2_with fail
      refine (bounded_any most w').mono ?_
      rintro e w'' ⟨rfl, rfl⟩
      rw [hsd]
      go_wp2
      go_ret
      exact ⟨rfl, RTo.err (E' := 1) (unhide H)⟩
  · rw [rGo_old hE, fine_old hE]
    rw [errV_ne hE] at c1
    have HLS := hide (lengthSize_any most w)
    have H := hide h
    clear h
    go_enter Tryz.func138, Tryz.ntmps138
    go_wp2_with fail
    refine (unhide HLS).mono ?_
    rintro e w' ⟨rfl, rfl⟩
    go_wp2
    go_ret
    exact ⟨rfl, RTo.same (unhide H)⟩
end Go.Proofs.YtpidmpefodnffaaGreatDoor
