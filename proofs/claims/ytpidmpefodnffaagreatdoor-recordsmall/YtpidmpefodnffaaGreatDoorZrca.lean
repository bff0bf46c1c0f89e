import Derived.Test.YtpidmpefodnffaaGreatDoorZrbd
import Derived.Test.YtpidmpefodnffaaGreatDoorZrbb
import Derived.Test.YtpidmpefodnffaaGreatDoorPra
import Derived.Test.YtpidmpefodnffaaGreatDoorPrb
namespace Go.Proofs.YtpidmpefodnffaaGreatDoor
open Go.RowKit Go.Lib
set_option maxHeartbeats 4000000
set_option maxRecDepth 8000
theorem short_any (s : Bs) (w : World) (hs : s.length ≤ 255) : Calls Tryz.prog 64 #[S s] w fun e w' => e = .returned (S (be 1 s.length ++ s)) ∧ Below w.heap.size w w' := by
  have H1 := hide (by_any 1 s.length w (by decide) (by decide) (by omega))
  have hbl := be_len 1 s.length
  generalize be 1 s.length = x at *
  go_enter Tryz.func64, Tryz.ntmps64
  go_wp2_with fail
  refine (unhide H1).mono ?_
  rintro e w1 ⟨rfl, b1⟩
  have HB := hide b1
  clear b1
  go_wp2
  go_ret
  exact ⟨congrArg (fun v => Ending.returned (Value.string v)) (by rw [ba_app]), unhide HB⟩
theorem keyN (nu : Int) (se : Bs) (fr un : Int) : (!keyOK nu se fr un) = (decide (nu < 1) || decide (1073741824 < nu) || ((se.length : Int) != 24) || !tim fr || !tim un || decide (un < fr)) := by
  rw [Bool.eq_iff_iff]
  simp only [keyOK, Bool.not_eq_true', Bool.and_eq_false_imp, Bool.or_eq_true, decide_eq_true_eq, bne_iff_ne, decide_eq_false_iff_not, beq_iff_eq]
  cases tim fr <;> cases tim un <;> simp <;> omega
theorem rPr39 (nu : Int) (se : Bs) (fr : Int) (un : Int) (w : World) : Calls Tryz.prog 39 #[.agg #[I nu, S se, I fr, I un]] w fun e w' => e = .returned (.tuple #[.agg #[S (keyP nu se fr un).1.1, S (keyP nu se fr un).1.2], I (keyP nu se fr un).2]) ∧ Below w.heap.size w w' := by
  have hb0 : Below w.heap.size w ((w.alloc (.cells #[I nu, S se, I fr, I un] 60)).alloc (.cells #[S [], S []] 30)) := ((Below.refl _ w).alloc (Nat.le_refl _) _).alloc (by simp) _
  have hT : ((w.alloc (.cells #[I nu, S se, I fr, I un] 60)).alloc (.cells #[S [], S []] 30)).heap[w.heap.size]? = some (.cells #[I nu, S se, I fr, I un] 60 (0, 0)) := by
    rw [heap_alloc_old _ _ (by simp)]; exact heap_alloc_new _ _
  have hR : ((w.alloc (.cells #[I nu, S se, I fr, I un] 60)).alloc (.cells #[S [], S []] 30)).heap[w.heap.size + 1]? = some (.cells #[S [], S []] 30 (0, 0)) := by
    have e := heap_alloc_new (w.alloc (.cells #[I nu, S se, I fr, I un] 60)) (.cells #[S [], S []] 30)
    simpa using e
  have c0 : ((w.alloc (.cells #[I nu, S se, I fr, I un] 60)).alloc (.cells #[S [], S []] 30)).cell? ⟨w.heap.size, 0, none⟩ = some (I nu) := cellr hT rfl
  have c1 : ((w.alloc (.cells #[I nu, S se, I fr, I un] 60)).alloc (.cells #[S [], S []] 30)).cell? ⟨w.heap.size, 1, none⟩ = some (S se) := cellr hT rfl
  have c2 : ((w.alloc (.cells #[I nu, S se, I fr, I un] 60)).alloc (.cells #[S [], S []] 30)).cell? ⟨w.heap.size, 2, none⟩ = some (I fr) := cellr hT rfl
  have c3 : ((w.alloc (.cells #[I nu, S se, I fr, I un] 60)).alloc (.cells #[S [], S []] 30)).cell? ⟨w.heap.size, 3, none⟩ = some (I un) := cellr hT rfl
  generalize hW1 : ((w.alloc (.cells #[I nu, S se, I fr, I un] 60)).alloc (.cells #[S [], S []] 30)) = W1 at *
  have HT := hide hT
  have HR := hide hR
  have HB := hide hb0
  clear hT hR hb0
  have HKE := hide (keyN nu se fr un)
  have XC0 := hide (fun W => rTime_any fr W)
  generalize tim fr = b0 at *
  have XC1 := hide (fun W => rTime_any un W)
  generalize tim un = b1 at *
  go_enter Tryz.func39, Tryz.ntmps39
  go_wp2_with fail
  refine (unhide XC0 W1).mono ?_
  rintro e w9 ⟨rfl, hw9⟩
  rw [hw9]
  clear hw9 w9 XC0
  go_wp2_with fail
  refine (unhide XC1 W1).mono ?_
  rintro e w9 ⟨rfl, hw9⟩
  rw [hw9]
  clear hw9 w9 XC1
  go_upto_region 3 with fail
  clear hW1
  go_cut [40] from 12 to 40 (fun v wc => v = .bool (!keyOK nu se fr un) ∧ wc = W1)
  case first =>
    by_cases h1 : nu < 1
    ·
      have HV := hide (show true = !keyOK nu se fr un by rw [unhide HKE]; simp [h1])
      clear HT HR HB HKE
      go_wp2
      go_meet
      exact ⟨congrArg Value.bool (unhide HV), rfl⟩
    by_cases h2 : 1073741824 < nu
    ·
      have HV := hide (show true = !keyOK nu se fr un by rw [unhide HKE]; simp [h1, h2])
      clear HT HR HB HKE
      go_wp2
      go_meet
      exact ⟨congrArg Value.bool (unhide HV), rfl⟩
    by_cases h3 : ¬ se.length = 24
    ·
      have gse : ((se.length : Int) != 24) = true := by rw [bne_iff_ne]; omega
      have HV := hide (show true = !keyOK nu se fr un by rw [unhide HKE]; simp [h1, h2, gse])
      clear HT HR HB HKE
      go_wp2
      go_meet
      exact ⟨congrArg Value.bool (unhide HV), rfl⟩
    have gse : ((se.length : Int) != 24) = false := by rw [bne_eq_false_iff_eq]; omega
    cases b0
    ·
      have HV := hide (show true = !keyOK nu se fr un by rw [unhide HKE]; simp [h1, h2, gse])
      clear HT HR HB HKE
      go_wp2
      go_meet
      exact ⟨congrArg Value.bool (unhide HV), rfl⟩
    ·
      cases b1
      ·
        have HV := hide (show true = !keyOK nu se fr un by rw [unhide HKE]; simp [h1, h2, gse])
        clear HT HR HB HKE
        go_wp2
        go_meet
        exact ⟨congrArg Value.bool (unhide HV), rfl⟩
      ·
        by_cases h6 : un < fr
        ·
          have HV := hide (show true = !keyOK nu se fr un by rw [unhide HKE]; simp [h1, h2, gse, h6])
          clear HT HR HB HKE
          go_wp2
          go_meet
          exact ⟨congrArg Value.bool (unhide HV), rfl⟩
        have HV := hide (show false = !keyOK nu se fr un by rw [unhide HKE]; simp [h1, h2, gse, h6])
        clear HT HR HB HKE
        go_wp2
        go_meet
        exact ⟨congrArg Value.bool (unhide HV), rfl⟩
  case rest =>
  obtain ⟨rfl, hwc⟩ := hcut
  rw [hwc]
  clear hwc HKE
  cases hok : keyOK nu se fr un
  · have HP : Hid (keyP nu se fr un = (([], []), 140)) := hide (by simp [keyP, hok])
    clear hok
    go_wp2_with (refine wp_st30 rfl (.tmp 2) (.tmp 41) rfl (w.heap.size + 1) (by rfl) [] [] (by rfl) #[S [], S []] rfl (unhide HR) ?_)
    refine out2c (T := 30) (n := 2) (p := 2) (q := 3) (cs := #[S [], S []]) (fun _ => by kernel_rfl) (fun _ => by kernel_rfl) (Z := w.heap.size + 1) (by rfl) (by rfl) (by rfl) (by rfl) (setRow_row (unhide HR)) (by rfl) ?_
    rw [unhide HP]
    exact ⟨rfl, (setRow_Only W1 (w.heap.size + 1) #[S [], S []]).below (unhide HB) (unhide HB).size (fun k e => by omega)⟩
  · have HP : Hid (keyP nu se fr un = ((([107] ++ (be 4 nu.toNat)), (((se ++ (be 6 fr.toNat))) ++ (be 6 un.toNat))), 0)) := hide (by unfold keyP; rw [if_pos hok]; simp [cat, lx, keyKl, keyVl])
    have hbb := keyB hok
    have hse : se.length = 24 := by simp only [keyOK, beq_iff_eq, Bool.and_eq_true] at hok; exact hok.2.2.1
    have Rk0 : Rk w w.heap.size #[I nu, S se, I fr, I un] 60 (w.heap.size + 1) 15 #[S (([107] ++ (be 4 nu.toNat))), S ((((se ++ (be 6 fr.toNat))) ++ (be 6 un.toNat)))] () (fun _ => false) W1.drew := ⟨(unhide HB).drew, (unhide HT), (unhide HR), Nat.le_succ _, by omega⟩
    clear hok
    go_wp2_with fail
    refine rrf39 w.heap.size (w.heap.size + 1) nu se fr un rfl (by rfl) (by rfl) _ W1 (by simp) rfl rfl (Rk w w.heap.size #[I nu, S se, I fr, I un] 60 (w.heap.size + 1) 15 #[S (([107] ++ (be 4 nu.toNat))), S ((((se ++ (be 6 fr.toNat))) ++ (be 6 un.toNat)))]) ⟨(), Rk0⟩ (fun i hi c L W hW => hW.pure i (fun e => hi (by simp [e])))
      (fun c L W hW _ _ => s_ld (T := 3) (fun _ => by kernel_rfl) (hW.cell rfl))
      (fun c L W hW _ _ => (byI nu 4 W (by decide) (by decide) (by omega) (by omega)).mono fun e w' q => ⟨(), fun _ _ => rfl, q.1, hW.call 2 (by decide) q.2⟩)
      (fun W => s_cat _ _ _ _ (by simp only [List.length_cons, List.length_nil, be_len]; omega))
      (fun c L W hW _ _ => s_ld (T := 9) (fun _ => by kernel_rfl) (hW.cell rfl))
      (fun c L W hW _ _ => s_ld (T := 3) (fun _ => by kernel_rfl) (hW.cell rfl))
      (fun c L W hW _ _ => (byI fr 6 W (by decide) (by decide) (by omega) (by omega)).mono fun e w' q => ⟨(), fun _ _ => rfl, q.1, hW.call 8 (by decide) q.2⟩)
      (fun W => s_cat _ _ _ _ (by simp only [be_len]; omega))
      (fun c L W hW _ _ => s_ld (T := 3) (fun _ => by kernel_rfl) (hW.cell rfl))
      (fun c L W hW _ _ => (byI un 6 W (by decide) (by decide) (by omega) (by omega)).mono fun e w' q => ⟨(), fun _ _ => rfl, q.1, hW.call 12 (by decide) q.2⟩)
      (fun W => s_cat _ _ _ _ (by simp only [List.length_append, be_len]; omega))
      (fun c L W hW hL _ => hW.store hL)
      ?_
    intro c L W hall hW
    have hr : W.heap[w.heap.size + 1]? = some (.cells #[S (([107] ++ (be 4 nu.toNat))), S ((((se ++ (be 6 fr.toNat))) ++ (be 6 un.toNat)))] 30 (0, 0)) := by
      have := hW.rr
      rw [hall 15 (by decide)] at this
      exact this
    have HB9 := hide hW.bel
    have HR9 := hide hr
    clear hall hW hr Rk0
    simp only [Act.put, List.setIfInBounds_toArray, List.set_cons_succ, List.set_cons_zero]
    go_wp2_with fail
    refine out2c (T := 30) (n := 2) (p := 2) (q := 3) (cs := #[S (([107] ++ (be 4 nu.toNat))), S ((((se ++ (be 6 fr.toNat))) ++ (be 6 un.toNat)))]) (fun _ => by kernel_rfl) (fun _ => by kernel_rfl) (Z := w.heap.size + 1) (by rfl) (by rfl) (by rfl) (by rfl) (unhide HR9) (by rfl) ?_
    rw [unhide HP]
    exact ⟨rfl, unhide HB9⟩
end Go.Proofs.YtpidmpefodnffaaGreatDoor
namespace Go.Proofs.YtpidmpefodnffaaGreatDoor
open Go.RowKit Go.Lib
set_option maxHeartbeats 4000000
set_option maxRecDepth 8000
theorem right_nm (s : Bs) : right [s] = nm s := by
  have e : tx [s] = s := by simp [tx, tl]
  unfold right wr many
  rw [e]
  cases h : nm s
  · simp [h, up]
  · have : s.length ≤ 16 := by simp [nm] at h; exact h.1.2
    simp [h, up]
    omega
theorem eveN (nu ti ki fa : Int) (wh : Bs) : (!eveOK nu ti ki fa wh) = (!idn nu || !tim ti || decide (ki < 1) || decide (9 < ki) || decide (fa < 0) || decide (4611686018427387904 < fa) || (!nm wh && !(wh == []))) := by
  have e : (fa == 0 || idn fa) = (decide (0 ≤ fa) && decide (fa ≤ 4611686018427387904)) := by
    rw [Bool.eq_iff_iff]
    simp only [idn, Bool.or_eq_true, beq_iff_eq, Bool.and_eq_true, decide_eq_true_eq]
    omega
  unfold eveOK
  rw [e, right_nm]
  cases idn nu <;> cases tim ti <;> cases nm wh <;> cases (wh == []) <;> (rw [Bool.eq_iff_iff]; simp <;> omega)
theorem rPr42 (nu : Int) (ti : Int) (ki : Int) (fa : Int) (wh : Bs) (w : World) (hwh : wh.length ≤ 9223372036854775807) : Calls Tryz.prog 42 #[.agg #[I nu, I ti, I ki, I fa, S wh]] w fun e w' => e = .returned (.tuple #[.agg #[S (eveP nu ti ki fa wh).1.1, S (eveP nu ti ki fa wh).1.2], I (eveP nu ti ki fa wh).2]) ∧ Below w.heap.size w w' := by
  have hb0 : Below w.heap.size w ((w.alloc (.cells #[I nu, I ti, I ki, I fa, S wh] 62)).alloc (.cells #[S [], S []] 30)) := ((Below.refl _ w).alloc (Nat.le_refl _) _).alloc (by simp) _
  have hT : ((w.alloc (.cells #[I nu, I ti, I ki, I fa, S wh] 62)).alloc (.cells #[S [], S []] 30)).heap[w.heap.size]? = some (.cells #[I nu, I ti, I ki, I fa, S wh] 62 (0, 0)) := by
    rw [heap_alloc_old _ _ (by simp)]; exact heap_alloc_new _ _
  have hR : ((w.alloc (.cells #[I nu, I ti, I ki, I fa, S wh] 62)).alloc (.cells #[S [], S []] 30)).heap[w.heap.size + 1]? = some (.cells #[S [], S []] 30 (0, 0)) := by
    have e := heap_alloc_new (w.alloc (.cells #[I nu, I ti, I ki, I fa, S wh] 62)) (.cells #[S [], S []] 30)
    simpa using e
  have c0 : ((w.alloc (.cells #[I nu, I ti, I ki, I fa, S wh] 62)).alloc (.cells #[S [], S []] 30)).cell? ⟨w.heap.size, 0, none⟩ = some (I nu) := cellr hT rfl
  have c1 : ((w.alloc (.cells #[I nu, I ti, I ki, I fa, S wh] 62)).alloc (.cells #[S [], S []] 30)).cell? ⟨w.heap.size, 1, none⟩ = some (I ti) := cellr hT rfl
  have c2 : ((w.alloc (.cells #[I nu, I ti, I ki, I fa, S wh] 62)).alloc (.cells #[S [], S []] 30)).cell? ⟨w.heap.size, 2, none⟩ = some (I ki) := cellr hT rfl
  have c3 : ((w.alloc (.cells #[I nu, I ti, I ki, I fa, S wh] 62)).alloc (.cells #[S [], S []] 30)).cell? ⟨w.heap.size, 3, none⟩ = some (I fa) := cellr hT rfl
  have c4 : ((w.alloc (.cells #[I nu, I ti, I ki, I fa, S wh] 62)).alloc (.cells #[S [], S []] 30)).cell? ⟨w.heap.size, 4, none⟩ = some (S wh) := cellr hT rfl
  generalize hW1 : ((w.alloc (.cells #[I nu, I ti, I ki, I fa, S wh] 62)).alloc (.cells #[S [], S []] 30)) = W1 at *
  have HT := hide hT
  have HR := hide hR
  have HB := hide hb0
  clear hT hR hb0
  have HKE := hide (eveN nu ti ki fa wh)
  have XC0 := hide (fun W => rId_any nu W)
  generalize idn nu = b0 at *
  have XC1 := hide (fun W => rTime_any ti W)
  generalize tim ti = b1 at *
  have XC2 := hide (fun W => refName_any wh W hwh)
  generalize nm wh = b2 at *
  go_enter Tryz.func42, Tryz.ntmps42
  go_wp2_with fail
  refine (unhide XC0 W1).mono ?_
  rintro e w9 ⟨rfl, hw9⟩
  rw [hw9]
  clear hw9 w9 XC0
  go_wp2_with fail
  refine (unhide XC1 W1).mono ?_
  rintro e w9 ⟨rfl, hw9⟩
  rw [hw9]
  clear hw9 w9 XC1
  go_wp2_with fail
  refine (unhide XC2 W1).mono ?_
  rintro e w9 ⟨rfl, hw9⟩
  rw [hw9]
  clear hw9 w9 XC2
  go_upto_region 4 with fail
  clear hW1
  go_cut [50] from 16 to 50 (fun v wc => v = .bool (!eveOK nu ti ki fa wh) ∧ wc = W1)
  case first =>
    cases b0
    ·
      have HV := hide (show true = !eveOK nu ti ki fa wh by rw [unhide HKE]; simp [])
      clear HT HR HB HKE
      go_wp2
      go_meet
      exact ⟨congrArg Value.bool (unhide HV), rfl⟩
    ·
      cases b1
      ·
        have HV := hide (show true = !eveOK nu ti ki fa wh by rw [unhide HKE]; simp [])
        clear HT HR HB HKE
        go_wp2
        go_meet
        exact ⟨congrArg Value.bool (unhide HV), rfl⟩
      ·
        by_cases h3 : ki < 1
        ·
          have HV := hide (show true = !eveOK nu ti ki fa wh by rw [unhide HKE]; simp [h3])
          clear HT HR HB HKE
          go_wp2
          go_meet
          exact ⟨congrArg Value.bool (unhide HV), rfl⟩
        by_cases h4 : 9 < ki
        ·
          have HV := hide (show true = !eveOK nu ti ki fa wh by rw [unhide HKE]; simp [h3, h4])
          clear HT HR HB HKE
          go_wp2
          go_meet
          exact ⟨congrArg Value.bool (unhide HV), rfl⟩
        by_cases h5 : fa < 0
        ·
          have HV := hide (show true = !eveOK nu ti ki fa wh by rw [unhide HKE]; simp [h3, h4, h5])
          clear HT HR HB HKE
          go_wp2
          go_meet
          exact ⟨congrArg Value.bool (unhide HV), rfl⟩
        by_cases h6 : 4611686018427387904 < fa
        ·
          have HV := hide (show true = !eveOK nu ti ki fa wh by rw [unhide HKE]; simp [h3, h4, h5, h6])
          clear HT HR HB HKE
          go_wp2
          go_meet
          exact ⟨congrArg Value.bool (unhide HV), rfl⟩
        cases b2
        ·
          by_cases h8 : wh = []
          · subst h8
            have HV := hide (show false = !eveOK nu ti ki fa [] by rw [unhide HKE]; simp [h3, h4, h5, h6])
            clear HT HR HB HKE
            go_wp2
            go_meet
            exact ⟨congrArg Value.bool (unhide HV), rfl⟩
          have gwh : (wh == []) = false := by simpa using h8
          have HV := hide (show true = !eveOK nu ti ki fa wh by rw [unhide HKE]; simp [h3, h4, h5, h6, gwh])
          clear HT HR HB HKE
          go_wp2
          go_meet
          exact ⟨congrArg Value.bool (unhide HV), rfl⟩
        ·
          have HV := hide (show false = !eveOK nu ti ki fa wh by rw [unhide HKE]; simp [h3, h4, h5, h6])
          clear HT HR HB HKE
          go_wp2
          go_meet
          exact ⟨congrArg Value.bool (unhide HV), rfl⟩
  case rest =>
  obtain ⟨rfl, hwc⟩ := hcut
  rw [hwc]
  clear hwc HKE
  cases hok : eveOK nu ti ki fa wh
  · have HP : Hid (eveP nu ti ki fa wh = (([], []), 140)) := hide (by simp [eveP, hok])
    clear hok
    go_wp2_with (refine wp_st30 rfl (.tmp 2) (.tmp 51) rfl (w.heap.size + 1) (by rfl) [] [] (by rfl) #[S [], S []] rfl (unhide HR) ?_)
    refine out2c (T := 30) (n := 2) (p := 2) (q := 3) (cs := #[S [], S []]) (fun _ => by kernel_rfl) (fun _ => by kernel_rfl) (Z := w.heap.size + 1) (by rfl) (by rfl) (by rfl) (by rfl) (setRow_row (unhide HR)) (by rfl) ?_
    rw [unhide HP]
    exact ⟨rfl, (setRow_Only W1 (w.heap.size + 1) #[S [], S []]).below (unhide HB) (unhide HB).size (fun k e => by omega)⟩
  · have HP : Hid (eveP nu ti ki fa wh = ((([101] ++ (be 8 nu.toNat)), ((((((be 6 ti.toNat) ++ (be 1 ki.toNat))) ++ (be 8 fa.toNat))) ++ (be 1 wh.length ++ wh))), 0)) := hide (by unfold eveP; rw [if_pos hok]; simp [cat, lx, eveKl, eveVl])
    have hbb := eveB hok
    skip
    have Rk0 : Rk w w.heap.size #[I nu, I ti, I ki, I fa, S wh] 62 (w.heap.size + 1) 20 #[S (([101] ++ (be 8 nu.toNat))), S (((((((be 6 ti.toNat) ++ (be 1 ki.toNat))) ++ (be 8 fa.toNat))) ++ (be 1 wh.length ++ wh)))] () (fun _ => false) W1.drew := ⟨(unhide HB).drew, (unhide HT), (unhide HR), Nat.le_succ _, by omega⟩
    clear hok
    go_wp2_with fail
    refine rrf42 w.heap.size (w.heap.size + 1) nu ti ki fa wh rfl (by rfl) (by rfl) _ W1 (by simp) rfl rfl (Rk w w.heap.size #[I nu, I ti, I ki, I fa, S wh] 62 (w.heap.size + 1) 20 #[S (([101] ++ (be 8 nu.toNat))), S (((((((be 6 ti.toNat) ++ (be 1 ki.toNat))) ++ (be 8 fa.toNat))) ++ (be 1 wh.length ++ wh)))]) ⟨(), Rk0⟩ (fun i hi c L W hW => hW.pure i (fun e => hi (by simp [e])))
      (fun c L W hW _ _ => s_ld (T := 3) (fun _ => by kernel_rfl) (hW.cell rfl))
      (fun c L W hW _ _ => (byI nu 8 W (by decide) (by decide) (by omega) (by omega)).mono fun e w' q => ⟨(), fun _ _ => rfl, q.1, hW.call 2 (by decide) q.2⟩)
      (fun W => s_cat _ _ _ _ (by simp only [List.length_cons, List.length_nil, be_len]; omega))
      (fun c L W hW _ _ => s_ld (T := 3) (fun _ => by kernel_rfl) (hW.cell rfl))
      (fun c L W hW _ _ => (byI ti 6 W (by decide) (by decide) (by omega) (by omega)).mono fun e w' q => ⟨(), fun _ _ => rfl, q.1, hW.call 6 (by decide) q.2⟩)
      (fun c L W hW _ _ => s_ld (T := 3) (fun _ => by kernel_rfl) (hW.cell rfl))
      (fun c L W hW _ _ => (byI ki 1 W (by decide) (by decide) (by omega) (by omega)).mono fun e w' q => ⟨(), fun _ _ => rfl, q.1, hW.call 9 (by decide) q.2⟩)
      (fun W => s_cat _ _ _ _ (by simp only [be_len]; omega))
      (fun c L W hW _ _ => s_ld (T := 3) (fun _ => by kernel_rfl) (hW.cell rfl))
      (fun c L W hW _ _ => (byI fa 8 W (by decide) (by decide) (by omega) (by omega)).mono fun e w' q => ⟨(), fun _ _ => rfl, q.1, hW.call 13 (by decide) q.2⟩)
      (fun W => s_cat _ _ _ _ (by simp only [List.length_append, be_len]; omega))
      (fun c L W hW _ _ => s_ld (T := 9) (fun _ => by kernel_rfl) (hW.cell rfl))
      (fun c L W hW _ _ => (short_any wh W (by omega)).mono fun e w' q => ⟨(), fun _ _ => rfl, q.1, hW.call 17 (by decide) q.2⟩)
      (fun W => s_cat _ _ _ _ (by simp only [List.length_append, be_len]; omega))
      (fun c L W hW hL _ => hW.store hL)
      ?_
    intro c L W hall hW
    have hr : W.heap[w.heap.size + 1]? = some (.cells #[S (([101] ++ (be 8 nu.toNat))), S (((((((be 6 ti.toNat) ++ (be 1 ki.toNat))) ++ (be 8 fa.toNat))) ++ (be 1 wh.length ++ wh)))] 30 (0, 0)) := by
      have := hW.rr
      rw [hall 20 (by decide)] at this
      exact this
    have HB9 := hide hW.bel
    have HR9 := hide hr
    clear hall hW hr Rk0
    simp only [Act.put, List.setIfInBounds_toArray, List.set_cons_succ, List.set_cons_zero]
    go_wp2_with fail
    refine out2c (T := 30) (n := 2) (p := 2) (q := 3) (cs := #[S (([101] ++ (be 8 nu.toNat))), S (((((((be 6 ti.toNat) ++ (be 1 ki.toNat))) ++ (be 8 fa.toNat))) ++ (be 1 wh.length ++ wh)))]) (fun _ => by kernel_rfl) (fun _ => by kernel_rfl) (Z := w.heap.size + 1) (by rfl) (by rfl) (by rfl) (by rfl) (unhide HR9) (by rfl) ?_
    rw [unhide HP]
    exact ⟨rfl, unhide HB9⟩
end Go.Proofs.YtpidmpefodnffaaGreatDoor
namespace Go.Proofs.YtpidmpefodnffaaGreatDoor
open Go.RowKit Go.Lib
set_option maxHeartbeats 4000000
set_option maxRecDepth 8000
theorem chaN (ba ne : Int) (bh nh : Bs) : (!chaOK ba ne bh nh) = (decide (ba < 0) || decide (4611686018427387904 < ba) || decide (ne ≤ ba) || decide (4611686018427387905 < ne) || decide (33 < ne - ba) || ((bh.length : Int) != 32) || ((nh.length : Int) != 32)) := by
  rw [Bool.eq_iff_iff]
  simp only [chaOK, Bool.not_eq_true', Bool.and_eq_false_imp, Bool.or_eq_true, decide_eq_true_eq, bne_iff_ne, beq_iff_eq]
  simp <;> omega
theorem rPr45 (ba : Int) (ne : Int) (bh : Bs) (nh : Bs) (w : World) : Calls Tryz.prog 45 #[.agg #[I ba, I ne, S bh, S nh]] w fun e w' => e = .returned (.tuple #[.agg #[S (chaP ba ne bh nh).1.1, S (chaP ba ne bh nh).1.2], I (chaP ba ne bh nh).2]) ∧ Below w.heap.size w w' := by
  have hb0 : Below w.heap.size w ((w.alloc (.cells #[I ba, I ne, S bh, S nh] 64)).alloc (.cells #[S [], S []] 30)) := ((Below.refl _ w).alloc (Nat.le_refl _) _).alloc (by simp) _
  have hT : ((w.alloc (.cells #[I ba, I ne, S bh, S nh] 64)).alloc (.cells #[S [], S []] 30)).heap[w.heap.size]? = some (.cells #[I ba, I ne, S bh, S nh] 64 (0, 0)) := by
    rw [heap_alloc_old _ _ (by simp)]; exact heap_alloc_new _ _
  have hR : ((w.alloc (.cells #[I ba, I ne, S bh, S nh] 64)).alloc (.cells #[S [], S []] 30)).heap[w.heap.size + 1]? = some (.cells #[S [], S []] 30 (0, 0)) := by
    have e := heap_alloc_new (w.alloc (.cells #[I ba, I ne, S bh, S nh] 64)) (.cells #[S [], S []] 30)
    simpa using e
  have c0 : ((w.alloc (.cells #[I ba, I ne, S bh, S nh] 64)).alloc (.cells #[S [], S []] 30)).cell? ⟨w.heap.size, 0, none⟩ = some (I ba) := cellr hT rfl
  have c1 : ((w.alloc (.cells #[I ba, I ne, S bh, S nh] 64)).alloc (.cells #[S [], S []] 30)).cell? ⟨w.heap.size, 1, none⟩ = some (I ne) := cellr hT rfl
  have c2 : ((w.alloc (.cells #[I ba, I ne, S bh, S nh] 64)).alloc (.cells #[S [], S []] 30)).cell? ⟨w.heap.size, 2, none⟩ = some (S bh) := cellr hT rfl
  have c3 : ((w.alloc (.cells #[I ba, I ne, S bh, S nh] 64)).alloc (.cells #[S [], S []] 30)).cell? ⟨w.heap.size, 3, none⟩ = some (S nh) := cellr hT rfl
  generalize hW1 : ((w.alloc (.cells #[I ba, I ne, S bh, S nh] 64)).alloc (.cells #[S [], S []] 30)) = W1 at *
  have HT := hide hT
  have HR := hide hR
  have HB := hide hb0
  clear hT hR hb0
  have HKE := hide (chaN ba ne bh nh)
  go_enter Tryz.func45, Tryz.ntmps45
  go_upto_region 1 with fail
  clear hW1
  go_cut [43] from 4 to 43 (fun v wc => v = .bool (!chaOK ba ne bh nh) ∧ wc = W1)
  case first =>
    by_cases h1 : ba < 0
    ·
      have HV := hide (show true = !chaOK ba ne bh nh by rw [unhide HKE]; simp [h1])
      clear HT HR HB HKE
      go_wp2
      go_meet
      exact ⟨congrArg Value.bool (unhide HV), rfl⟩
    by_cases h2 : 4611686018427387904 < ba
    ·
      have HV := hide (show true = !chaOK ba ne bh nh by rw [unhide HKE]; simp [h1, h2])
      clear HT HR HB HKE
      go_wp2
      go_meet
      exact ⟨congrArg Value.bool (unhide HV), rfl⟩
    by_cases h3 : ne ≤ ba
    ·
      have HV := hide (show true = !chaOK ba ne bh nh by rw [unhide HKE]; simp [h1, h2, h3])
      clear HT HR HB HKE
      go_wp2
      go_meet
      exact ⟨congrArg Value.bool (unhide HV), rfl⟩
    by_cases h4 : 4611686018427387905 < ne
    ·
      have HV := hide (show true = !chaOK ba ne bh nh by rw [unhide HKE]; simp [h1, h2, h3, h4])
      clear HT HR HB HKE
      go_wp2
      go_meet
      exact ⟨congrArg Value.bool (unhide HV), rfl⟩
    by_cases h5 : 33 < ne - ba
    ·
      have HV := hide (show true = !chaOK ba ne bh nh by rw [unhide HKE]; simp [h1, h2, h3, h4, h5])
      clear HT HR HB HKE
      go_wp2
      go_meet
      exact ⟨congrArg Value.bool (unhide HV), rfl⟩
    by_cases h6 : ¬ bh.length = 32
    ·
      have gbh : ((bh.length : Int) != 32) = true := by rw [bne_iff_ne]; omega
      have HV := hide (show true = !chaOK ba ne bh nh by rw [unhide HKE]; simp [h1, h2, h3, h4, h5, gbh])
      clear HT HR HB HKE
      go_wp2
      go_meet
      exact ⟨congrArg Value.bool (unhide HV), rfl⟩
    have gbh : ((bh.length : Int) != 32) = false := by rw [bne_eq_false_iff_eq]; omega
    by_cases h7 : ¬ nh.length = 32
    ·
      have gnh : ((nh.length : Int) != 32) = true := by rw [bne_iff_ne]; omega
      have HV := hide (show true = !chaOK ba ne bh nh by rw [unhide HKE]; simp [h1, h2, h3, h4, h5, gbh, gnh])
      clear HT HR HB HKE
      go_wp2
      go_meet
      exact ⟨congrArg Value.bool (unhide HV), rfl⟩
    have gnh : ((nh.length : Int) != 32) = false := by rw [bne_eq_false_iff_eq]; omega
    have HV := hide (show false = !chaOK ba ne bh nh by rw [unhide HKE]; simp [h1, h2, h3, h4, h5, gbh, gnh])
    clear HT HR HB HKE
    go_wp2
    go_meet
    exact ⟨congrArg Value.bool (unhide HV), rfl⟩
  case rest =>
  obtain ⟨rfl, hwc⟩ := hcut
  rw [hwc]
  clear hwc HKE
  cases hok : chaOK ba ne bh nh
  · have HP : Hid (chaP ba ne bh nh = (([], []), 140)) := hide (by simp [chaP, hok])
    clear hok
    go_wp2_with (refine wp_st30 rfl (.tmp 2) (.tmp 44) rfl (w.heap.size + 1) (by rfl) [] [] (by rfl) #[S [], S []] rfl (unhide HR) ?_)
    refine out2c (T := 30) (n := 2) (p := 2) (q := 3) (cs := #[S [], S []]) (fun _ => by kernel_rfl) (fun _ => by kernel_rfl) (Z := w.heap.size + 1) (by rfl) (by rfl) (by rfl) (by rfl) (setRow_row (unhide HR)) (by rfl) ?_
    rw [unhide HP]
    exact ⟨rfl, (setRow_Only W1 (w.heap.size + 1) #[S [], S []]).below (unhide HB) (unhide HB).size (fun k e => by omega)⟩
  · have HP : Hid (chaP ba ne bh nh = (([104], ((((((be 8 ba.toNat) ++ (be 8 ne.toNat))) ++ bh)) ++ nh)), 0)) := hide (by unfold chaP; rw [if_pos hok]; simp [cat, lx, chaKl, chaVl])
    have hbb := chaB hok
    have hse : bh.length = 32 ∧ nh.length = 32 := by simp only [chaOK, beq_iff_eq, Bool.and_eq_true] at hok; exact ⟨hok.2.2.2.2.2.1, hok.2.2.2.2.2.2⟩
    have Rk0 : Rk w w.heap.size #[I ba, I ne, S bh, S nh] 64 (w.heap.size + 1) 14 #[S ([104]), S (((((((be 8 ba.toNat) ++ (be 8 ne.toNat))) ++ bh)) ++ nh))] () (fun _ => false) W1.drew := ⟨(unhide HB).drew, (unhide HT), (unhide HR), Nat.le_succ _, by omega⟩
    clear hok
    go_wp2_with fail
    refine rrf45 w.heap.size (w.heap.size + 1) ba ne bh nh rfl (by rfl) (by rfl) _ W1 (by simp) rfl rfl (Rk w w.heap.size #[I ba, I ne, S bh, S nh] 64 (w.heap.size + 1) 14 #[S ([104]), S (((((((be 8 ba.toNat) ++ (be 8 ne.toNat))) ++ bh)) ++ nh))]) ⟨(), Rk0⟩ (fun i hi c L W hW => hW.pure i (fun e => hi (by simp [e])))
      (fun c L W hW _ _ => s_ld (T := 3) (fun _ => by kernel_rfl) (hW.cell rfl))
      (fun c L W hW _ _ => (byI ba 8 W (by decide) (by decide) (by omega) (by omega)).mono fun e w' q => ⟨(), fun _ _ => rfl, q.1, hW.call 2 (by decide) q.2⟩)
      (fun c L W hW _ _ => s_ld (T := 3) (fun _ => by kernel_rfl) (hW.cell rfl))
      (fun c L W hW _ _ => (byI ne 8 W (by decide) (by decide) (by omega) (by omega)).mono fun e w' q => ⟨(), fun _ _ => rfl, q.1, hW.call 5 (by decide) q.2⟩)
      (fun W => s_cat _ _ _ _ (by simp only [be_len]; omega))
      (fun c L W hW _ _ => s_ld (T := 9) (fun _ => by kernel_rfl) (hW.cell rfl))
      (fun W => s_cat _ _ _ _ (by simp only [List.length_append, be_len]; omega))
      (fun c L W hW _ _ => s_ld (T := 9) (fun _ => by kernel_rfl) (hW.cell rfl))
      (fun W => s_cat _ _ _ _ (by simp only [List.length_append, be_len]; omega))
      (fun c L W hW hL _ => hW.store hL)
      ?_
    intro c L W hall hW
    have hr : W.heap[w.heap.size + 1]? = some (.cells #[S ([104]), S (((((((be 8 ba.toNat) ++ (be 8 ne.toNat))) ++ bh)) ++ nh))] 30 (0, 0)) := by
      have := hW.rr
      rw [hall 14 (by decide)] at this
      exact this
    have HB9 := hide hW.bel
    have HR9 := hide hr
    clear hall hW hr Rk0
    simp only [Act.put, List.setIfInBounds_toArray, List.set_cons_succ, List.set_cons_zero]
    go_wp2_with fail
    refine out2c (T := 30) (n := 2) (p := 2) (q := 3) (cs := #[S ([104]), S (((((((be 8 ba.toNat) ++ (be 8 ne.toNat))) ++ bh)) ++ nh))]) (fun _ => by kernel_rfl) (fun _ => by kernel_rfl) (Z := w.heap.size + 1) (by rfl) (by rfl) (by rfl) (by rfl) (unhide HR9) (by rfl) ?_
    rw [unhide HP]
    exact ⟨rfl, unhide HB9⟩
end Go.Proofs.YtpidmpefodnffaaGreatDoor
