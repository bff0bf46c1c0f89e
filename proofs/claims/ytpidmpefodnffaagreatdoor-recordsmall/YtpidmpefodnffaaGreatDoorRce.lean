import Derived.Test.YtpidmpefodnffaaGreatDoorRcd
import Derived.Test.YtpidmpefodnffaaGreatDoorTra
namespace Go.Proofs.YtpidmpefodnffaaGreatDoor
open Go.RowKit Go.Lib
set_option maxHeartbeats 4000000
set_option maxRecDepth 8000
theorem rPr34 (id9 fa ge : Int) (ha : Bs) (mi : Int) (sp : Bool) (at9 ne : Int) (se : Bs) (w : World) : Calls Tryz.prog 34 #[.agg #[I id9, I fa, I ge, S ha, I mi, .bool sp, I at9, I ne, S se]] w fun e w' => e = .returned (.tuple #[.agg #[S (tokP id9 fa ge ha mi sp at9 ne se).1.1, S (tokP id9 fa ge ha mi sp at9 ne se).1.2], I (tokP id9 fa ge ha mi sp at9 ne se).2]) ∧ Below w.heap.size w w' := by
  have hb0 : Below w.heap.size w ((w.alloc (.cells #[I id9, I fa, I ge, S ha, I mi, .bool sp, I at9, I ne, S se] 58)).alloc (.cells #[S [], S []] 30)) := ((Below.refl _ w).alloc (Nat.le_refl _) _).alloc (by simp) _
  have hT : ((w.alloc (.cells #[I id9, I fa, I ge, S ha, I mi, .bool sp, I at9, I ne, S se] 58)).alloc (.cells #[S [], S []] 30)).heap[w.heap.size]? = some (.cells #[I id9, I fa, I ge, S ha, I mi, .bool sp, I at9, I ne, S se] 58 (0, 0)) := by
    rw [heap_alloc_old _ _ (by simp)]; exact heap_alloc_new _ _
  have hR : ((w.alloc (.cells #[I id9, I fa, I ge, S ha, I mi, .bool sp, I at9, I ne, S se] 58)).alloc (.cells #[S [], S []] 30)).heap[w.heap.size + 1]? = some (.cells #[S [], S []] 30 (0, 0)) := by
    have e := heap_alloc_new (w.alloc (.cells #[I id9, I fa, I ge, S ha, I mi, .bool sp, I at9, I ne, S se] 58)) (.cells #[S [], S []] 30)
    simpa using e
  have c0 : ((w.alloc (.cells #[I id9, I fa, I ge, S ha, I mi, .bool sp, I at9, I ne, S se] 58)).alloc (.cells #[S [], S []] 30)).cell? ⟨w.heap.size, 0, none⟩ = some (I id9) := cellr hT rfl
  have c1 : ((w.alloc (.cells #[I id9, I fa, I ge, S ha, I mi, .bool sp, I at9, I ne, S se] 58)).alloc (.cells #[S [], S []] 30)).cell? ⟨w.heap.size, 1, none⟩ = some (I fa) := cellr hT rfl
  have c2 : ((w.alloc (.cells #[I id9, I fa, I ge, S ha, I mi, .bool sp, I at9, I ne, S se] 58)).alloc (.cells #[S [], S []] 30)).cell? ⟨w.heap.size, 2, none⟩ = some (I ge) := cellr hT rfl
  have c3 : ((w.alloc (.cells #[I id9, I fa, I ge, S ha, I mi, .bool sp, I at9, I ne, S se] 58)).alloc (.cells #[S [], S []] 30)).cell? ⟨w.heap.size, 3, none⟩ = some (S ha) := cellr hT rfl
  have c4 : ((w.alloc (.cells #[I id9, I fa, I ge, S ha, I mi, .bool sp, I at9, I ne, S se] 58)).alloc (.cells #[S [], S []] 30)).cell? ⟨w.heap.size, 4, none⟩ = some (I mi) := cellr hT rfl
  have c5 : ((w.alloc (.cells #[I id9, I fa, I ge, S ha, I mi, .bool sp, I at9, I ne, S se] 58)).alloc (.cells #[S [], S []] 30)).cell? ⟨w.heap.size, 5, none⟩ = some (.bool sp) := cellr hT rfl
  have c6 : ((w.alloc (.cells #[I id9, I fa, I ge, S ha, I mi, .bool sp, I at9, I ne, S se] 58)).alloc (.cells #[S [], S []] 30)).cell? ⟨w.heap.size, 6, none⟩ = some (I at9) := cellr hT rfl
  have c7 : ((w.alloc (.cells #[I id9, I fa, I ge, S ha, I mi, .bool sp, I at9, I ne, S se] 58)).alloc (.cells #[S [], S []] 30)).cell? ⟨w.heap.size, 7, none⟩ = some (I ne) := cellr hT rfl
  have c8 : ((w.alloc (.cells #[I id9, I fa, I ge, S ha, I mi, .bool sp, I at9, I ne, S se] 58)).alloc (.cells #[S [], S []] 30)).cell? ⟨w.heap.size, 8, none⟩ = some (S se) := cellr hT rfl
  generalize hW1 : ((w.alloc (.cells #[I id9, I fa, I ge, S ha, I mi, .bool sp, I at9, I ne, S se] 58)).alloc (.cells #[S [], S []] 30)) = W1 at *
  have HT := hide hT
  have HR := hide hR
  have HB := hide hb0
  clear hT hR hb0
  have HM := hide (rMay97 id9 fa ge ha mi sp at9 ne se W1)
  go_enter Tryz.func34, Tryz.ntmps34
  go_wp2_with fail
  refine (unhide HM).mono ?_
  rintro e W2 ⟨rfl, hb⟩
  have HT2 := hide ((hb.block _ (lt_of_row (unhide HT))).trans (unhide HT))
  have HR2 := hide ((hb.block _ (lt_of_row (unhide HR))).trans (unhide HR))
  have HB2 := hide ((unhide HB).trans (hb.mono (unhide HB).size))
  clear HM hb HT HR HB hW1 c0 c1 c2 c3 c4 c5 c6 c7 c8
  cases hok : tokOK id9 fa ge ha mi sp at9 ne se
  · have HP : Hid (tokP id9 fa ge ha mi sp at9 ne se = (([], []), 140)) := hide (by simp [tokP, hok])
    clear hok
    go_wp2_with (refine wp_st30 rfl (.tmp 2) (.tmp 11) rfl (w.heap.size + 1) (by rfl) [] [] (by rfl) #[S [], S []] rfl (unhide HR2) ?_)
    refine out2c (T := 30) (n := 2) (p := 2) (q := 3) (cs := #[S [], S []]) (fun _ => by kernel_rfl) (fun _ => by kernel_rfl) (Z := w.heap.size + 1) (by rfl) (by rfl) (by rfl) (by rfl) (setRow_row (unhide HR2)) (by rfl) ?_
    rw [unhide HP]
    exact ⟨rfl, (setRow_Only W2 (w.heap.size + 1) #[S [], S []]).below (unhide HB2) (unhide HB2).size (fun k e => by omega)⟩
  · have hbb := tokB hok
    have hha : ha.length = 32 := by simp only [tokOK, beq_iff_eq, Bool.and_eq_true] at hok; exact hok.2.2.2.1
    have HP : Hid (tokP id9 fa ge ha mi sp at9 ne se = (([116] ++ be 8 id9.toNat, ((((((((((((((be 8 fa.toNat) ++ (be 4 ge.toNat))) ++ ha)) ++ (be 6 mi.toNat))) ++ (be 1 (bv [sp] : Int).toNat))) ++ (be 6 at9.toNat))) ++ (be 8 ne.toNat))) ++ (be 1 se.length ++ se))), 0)) := hide (by unfold tokP; rw [if_pos hok]; simp [cat, lx, tokKl, tokVl])
    have Rk0 : Rj w w.heap.size #[I id9, I fa, I ge, S ha, I mi, .bool sp, I at9, I ne, S se] 58 (w.heap.size + 1) #[S [], S []] 30 () (fun _ => false) W2.drew := ⟨(unhide HB2).drew, unhide HT2, unhide HR2⟩
    clear hok
    have c5 : W2.cell? ⟨w.heap.size, 5, none⟩ = some (.bool sp) := cellr (unhide HT2) rfl
    go_upto_if 13 with fail
    go_cut [5] from 13 to 13 (fun v wc => v = I (bv [sp] : Nat) ∧ wc = W2)
    case first =>
      clear HP HT2 HR2 HB2 Rk0 hbb hha
      cases sp
      · go_wp2
        go_meet
        exact ⟨rfl, rfl⟩
      · go_wp2
        go_meet
        exact ⟨rfl, rfl⟩
    case rest =>
    obtain ⟨rfl, hwc⟩ := hcut
    rw [hwc]
    clear hwc c5
    have hbv := bv_lt [sp] (by simp)
    generalize hn5 : ((bv [sp] : Nat) : Int) = n5 at *
    have h50 : 0 ≤ n5 ∧ n5 < 256 := by omega
    clear hbv hn5
    go_wp2_with fail
    refine rrf34 w.heap.size fa ge ha mi at9 ne se n5 rfl (by rfl) (by rfl) _ W2 (by simp) rfl rfl (Rj w w.heap.size #[I id9, I fa, I ge, S ha, I mi, .bool sp, I at9, I ne, S se] 58 (w.heap.size + 1) #[S [], S []] 30) ⟨(), Rk0⟩ (fun i _ c L W hW => hW.any _)
      (fun c L W hW _ _ => s_ld (T := 3) (fun _ => by kernel_rfl) (hW.cell rfl))
      (fun c L W hW _ _ => (byI fa 8 W (by decide) (by decide) (by omega) (by omega)).mono fun e w' q => ⟨(), fun _ _ => rfl, q.1, hW.call _ q.2⟩)
      (fun c L W hW _ _ => s_ld (T := 3) (fun _ => by kernel_rfl) (hW.cell rfl))
      (fun c L W hW _ _ => (byI ge 4 W (by decide) (by decide) (by omega) (by omega)).mono fun e w' q => ⟨(), fun _ _ => rfl, q.1, hW.call _ q.2⟩)
      (fun W => s_cat _ _ _ _ (by simp only [be_len]; omega))
      (fun c L W hW _ _ => s_ld (T := 9) (fun _ => by kernel_rfl) (hW.cell rfl))
      (fun W => s_cat _ _ _ _ (by simp only [List.length_append, be_len]; omega))
      (fun c L W hW _ _ => s_ld (T := 3) (fun _ => by kernel_rfl) (hW.cell rfl))
      (fun c L W hW _ _ => (byI mi 6 W (by decide) (by decide) (by omega) (by omega)).mono fun e w' q => ⟨(), fun _ _ => rfl, q.1, hW.call _ q.2⟩)
      (fun W => s_cat _ _ _ _ (by simp only [List.length_append, be_len]; omega))
      (fun c L W hW _ _ => (byI n5 1 W (by decide) (by decide) (by omega) (by omega)).mono fun e w' q => ⟨(), fun _ _ => rfl, q.1, hW.call _ q.2⟩)
      (fun W => s_cat _ _ _ _ (by simp only [List.length_append, be_len]; omega))
      (fun c L W hW _ _ => s_ld (T := 3) (fun _ => by kernel_rfl) (hW.cell rfl))
      (fun c L W hW _ _ => (byI at9 6 W (by decide) (by decide) (by omega) (by omega)).mono fun e w' q => ⟨(), fun _ _ => rfl, q.1, hW.call _ q.2⟩)
      (fun W => s_cat _ _ _ _ (by simp only [List.length_append, be_len]; omega))
      (fun c L W hW _ _ => s_ld (T := 3) (fun _ => by kernel_rfl) (hW.cell rfl))
      (fun c L W hW _ _ => (byI ne 8 W (by decide) (by decide) (by omega) (by omega)).mono fun e w' q => ⟨(), fun _ _ => rfl, q.1, hW.call _ q.2⟩)
      (fun W => s_cat _ _ _ _ (by simp only [List.length_append, be_len]; omega))
      (fun c L W hW _ _ => s_ld (T := 9) (fun _ => by kernel_rfl) (hW.cell rfl))
      (fun c L W hW _ _ => (short_any se W (by omega)).mono fun e w' q => ⟨(), fun _ _ => rfl, q.1, hW.call _ q.2⟩)
      (fun W => s_cat _ _ _ _ (by simp only [List.length_append, be_len]; omega))
      ?_
    intro c L W hall hW
    have HB9 := hide hW.bel
    have HT9 := hide hW.rx
    have HR9 := hide hW.rr
    have c0 : W.cell? ⟨w.heap.size, 0, none⟩ = some (I id9) := hW.cell rfl
    clear hall hW Rk0 HB2 HT2 HR2
    have XB := hide (byI id9 8 W (by decide) (by decide) (by omega) (by omega))
    simp only [crrf34, Act.put, List.setIfInBounds_toArray, List.set_cons_succ, List.set_cons_zero]
    generalize (((((((((((((((be 8 fa.toNat) ++ (be 4 ge.toNat))) ++ ha)) ++ (be 6 mi.toNat))) ++ (be 1 n5.toNat))) ++ (be 6 at9.toNat))) ++ (be 8 ne.toNat))) ++ (be 1 se.length ++ se))) = v9 at *
    clear hbb hha h50
    go_wp2_with fail
    refine (unhide XB).mono ?_
    rintro e W3 ⟨rfl, hb⟩
    have HB3 := hide ((unhide HB9).trans (hb.mono (unhide HB9).size))
    have HR3 := hide ((hb.block _ (lt_of_row (unhide HR9))).trans (unhide HR9))
    clear hb XB HB9 HT9 HR9 c0
    have hl8 := be_len 8 id9.toNat
    generalize be 8 id9.toNat = x9 at *
    go_wp2_with (refine wp_st30 rfl (.tmp 2) (.tmp 48) rfl (w.heap.size + 1) (by rfl) (116 :: x9) v9 (by rfl) #[S [], S []] rfl (unhide HR3) ?_)
    refine out2c (T := 30) (n := 2) (p := 2) (q := 3) (cs := #[S (116 :: x9), S v9]) (fun _ => by kernel_rfl) (fun _ => by kernel_rfl) (Z := w.heap.size + 1) (by rfl) (by rfl) (by rfl) (by rfl) (setRow_row (unhide HR3)) (by rfl) ?_
    rw [unhide HP]
    exact ⟨rfl, (setRow_Only W3 (w.heap.size + 1) #[S (116 :: x9), S v9]).below (unhide HB3) (unhide HB3).size (fun k e => by omega)⟩
end Go.Proofs.YtpidmpefodnffaaGreatDoor
