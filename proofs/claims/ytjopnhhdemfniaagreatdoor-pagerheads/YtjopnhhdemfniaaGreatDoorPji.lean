import Derived.Test.YtjopnhhdemfniaaGreatDoorPjh
import Derived.BigQuiet
namespace Go.Proofs.YtjopnhhdemfniaaGreatDoor
open Go.RowKit
set_option maxHeartbeats 8000000
set_option maxRecDepth 8000
theorem gR_len (s : Bs) : ((s.drop 4).take 8).length ≤ 1000 ∧ ((s.drop 12).take 4).length ≤ 1000 ∧ ((s.drop 16).take 4).length ≤ 1000 := by simp; omega
theorem s_eqS (x y : Operand) (a b : List UInt8) {w : World} : (do eqGuard .eql 9 x y (S a) (S b); binOp .eql 9 (S a) (S b) : Sem Value).run Tryz.prog w = .ok (.bool (decide (a = b))) w := by
  simp [eqGuard, go_sem]
  by_cases h : a = b
  · subst h; simp
  · simp [h]
theorem rparse_any (s : Bs) (w : World) : Calls Tryz.prog 145 #[S s] w fun e w' => e = .returned (.tuple #[hda (prr s).1, .bool (prr s).2]) ∧ Below w.heap.size w w' := by
  have hg := heap_alloc_new w (.cells #[I 0, I 0, I 0, .string ⟨#[]⟩] 131)
  have HG := hide hg
  have hBA := ((Below.refl w.heap.size w).alloc (Nat.le_refl _) (.cells #[I 0, I 0, I 0, .string ⟨#[]⟩] 131))
  have HBA := hide hBA
  have HSA := hide (show (w.alloc (.cells #[I 0, I 0, I 0, .string ⟨#[]⟩] 131)).heap.size = w.heap.size + 1 by simp)
  clear hg hBA
  by_cases hs : s.length = 512
  · have hsi : ((s.length : Nat) : Int) = 512 := by omega
    have HPR := hide (show prr s = if (gR s).may = true then (gR s, decide ((gR s).sec = s.take 64)) else (noHd, false) by unfold prr; rw [if_neg (by simpa using hs)])
    obtain ⟨k1, k2, k3⟩ := gR_len s
    have N1 := hide (fun W => number9_any ((s.drop 4).take 8) W (by omega))
    have N2 := hide (fun W => number9_any ((s.drop 12).take 4) W (by omega))
    have N3 := hide (fun W => number9_any ((s.drop 16).take 4) W (by omega))
    have HGR := hide (show gR s = ⟨nmb ((s.drop 4).take 8), nmb ((s.drop 12).take 4), nmb ((s.drop 16).take 4), (s.drop 20).take 16⟩ from rfl)
    generalize prr s = PR at *
    generalize nmb ((s.drop 4).take 8) = n1 at *
    generalize nmb ((s.drop 12).take 4) = n2 at *
    generalize nmb ((s.drop 16).take 4) = n3 at *
    clear k1 k2 k3
    have HS := hide hs
    clear hs
    rw [unhide HGR] at HPR
    have HM := hide (fun W => rmay_any ⟨n1, n2, n3, (s.drop 20).take 16⟩ W)
    unfold hda at HM ⊢
    simp only at HM
    go_enter Tryz.func145, Tryz.ntmps145
    go_wp2
    generalize hWA : w.alloc (.cells #[I 0, I 0, I 0, .string ⟨#[]⟩] 131) = WA at *
    clear hWA
    go_upto_region 3 with fail
    refine rps3 s n1 n2 n3 (by kernel_rfl) (by kernel_rfl) (by kernel_rfl) _ _ (by show 23 ≤ Array.size _; simp) rfl (Mk1 WA 131 12 13 #[I 0, I 0, I 0, .string ⟨#[]⟩] #[I n1, I n2, I n3, S ((s.drop 20).take 16)]) ⟨0, Mk1.start _ _ _ _ _ _ _⟩ ?_ ?_ ?_ ?_ ?_ ?_ ?_ ?_ ?_ ?_ ?_ ?_
    · intro i hi c L W hW
      simp only [List.mem_cons, List.not_mem_nil, or_false, not_or] at hi
      exact hW.pure hi.2.2.2.1 hi.2.2.2.2
    · exact fun W => s_mid s 4 12 (by omega) (by have := unhide HS; omega)
    · intro c L W hW _ _
      refine (unhide N1 W).mono ?_
      rintro e w' ⟨rfl, hw⟩
      rw [hw]
      exact ⟨c, fun _ _ => rfl, rfl, hW.pure (by decide) (by decide)⟩
    · exact fun W => s_mid s 12 16 (by omega) (by have := unhide HS; omega)
    · intro c L W hW _ _
      refine (unhide N2 W).mono ?_
      rintro e w' ⟨rfl, hw⟩
      rw [hw]
      exact ⟨c, fun _ _ => rfl, rfl, hW.pure (by decide) (by decide)⟩
    · exact fun W => s_mid s 16 20 (by omega) (by have := unhide HS; omega)
    · intro c L W hW _ _
      refine (unhide N3 W).mono ?_
      rintro e w' ⟨rfl, hw⟩
      rw [hw]
      exact ⟨c, fun _ _ => rfl, rfl, hW.pure (by decide) (by decide)⟩
    · exact fun W => s_mid s 20 36 (by omega) (by have := unhide HS; omega)
    · intro W
      simp [go_sem]
    · intro c L W hW hL
      refine ⟨W.heap.size, _, fun j hj => ?_, s_al Tryz.zeroValue131, hW.alloc hL (by decide)⟩
      unfold vrps3
      split <;> first | rfl | (rw [hL] at hj; cases hj)
    · intro c L W hW hL h11 h12
      exact ⟨_, hW.runs h12 hL Tryz.sizeOf131 _ rfl rfl rfl (by simp [Value.oneCell']), hW.fill h12 (by decide)⟩
    intro c L W hall hW
    obtain ⟨hc0, hc1⟩ := hW.done (hall 12 (by omega)) (hall 13 (by omega))
    have hb := hW.bel
    have HW := hide hb
    have HC := hide hc1
    have HC0 := hide hc0
    obtain ⟨e0, e1, e2, e3⟩ := rbox4 hc1 (Below.refl _ _) (lt_of_row hc1)
    have HY := hide ((hb.block _ (lt_of_row (unhide HG))).trans (unhide HG))
    clear hW hc0 hc1 hb hall
    simp only [Act.put, List.setIfInBounds_toArray, List.set_cons_succ, List.set_cons_zero]
    generalize (s.drop 20).take 16 = nt at *
    go_wp2_with fail
    refine (unhide HM _).mono ?_
    rintro e w4 ⟨rfl, q4⟩
    obtain ⟨d0, d1, d2, d3⟩ := rbox4 (unhide HC) q4 (lt_of_row (unhide HC))
    have HC4 := hide ((q4.block _ (lt_of_row (unhide HC))).trans (unhide HC))
    have HY4 := hide ((q4.block _ (lt_of_row (unhide HY))).trans (unhide HY))
    have HB4 := hide ((unhide HW).trans (q4.mono (unhide HW).size))
    clear q4 e0 e1 e2 e3 HM N1 N2 N3
    cases hm : Hd.may ⟨n1, n2, n3, nt⟩
    · have HPP := hide (show PR = (noHd, false) by rw [unhide HPR, if_neg (by rw [hm]; exact Bool.false_ne_true)])
      clear hm
      go_wp2_with (refine wp_st131 rfl (.tmp 2) (.tmp 27) rfl w.heap.size (by rfl) 0 0 0 [] (by rfl) _ rfl (unhide HY4) ?_)
      refine out2c Tryz.isAgg131 Tryz.sizeOf131 (p := 2) (q := 3) Tryz.results145 rfl (by rfl) (by rfl) (setRow_row (unhide HY4)) rfl ?_
      refine ⟨by rw [unhide HPP]; rfl, ?_⟩
      exact (unhide HBA).trans (belowR ((unhide HB4).mono (by have := unhide HSA; omega)) (Nat.le_refl _) _)
    · have HPP := hide (show PR = (⟨n1, n2, n3, nt⟩, decide (Hd.sec ⟨n1, n2, n3, nt⟩ = s.take 64)) by rw [unhide HPR, if_pos hm])
      have HSE := hide (fun W => rsector_any ⟨n1, n2, n3, nt⟩ W hm)
      clear hm
      unfold hda at HSE
      simp only at HSE
      generalize Hd.sec ⟨n1, n2, n3, nt⟩ = SE at *
      go_wp2_with fail
      refine (unhide HSE _).mono ?_
      rintro e w5 ⟨rfl, q5⟩
      have HC5 := hide ((q5.block _ (lt_of_row (unhide HC4))).trans (unhide HC4))
      have HY5 := hide ((q5.block _ (lt_of_row (unhide HY4))).trans (unhide HY4))
      have HB5 := hide ((unhide HB4).trans (q5.mono (unhide HB4).size))
      clear q5 d0 d1 d2 d3
      go_upto_region 8 with fail
      refine rps8 c w.heap.size n1 n2 n3 nt s SE (decide (SE = s.take 64)) (by kernel_rfl) (by kernel_rfl) (by kernel_rfl) _ _ (by show 35 ≤ Array.size _; simp) rfl rfl rfl rfl (fun _ L W => (L 5 = false → W.heap[w.heap.size]? = some (.cells #[I 0, I 0, I 0, .string ⟨#[]⟩] 131 (0, 0))) ∧ (L 5 = true → W.heap[w.heap.size]? = some (.cells #[I n1, I n2, I n3, S nt] 131 (0, 0))) ∧ W.heap[c]? = some (.cells #[I n1, I n2, I n3, S nt] 131 (0, 0)) ∧ Below w.heap.size w5 W) ?_ ?_ ?_ ?_ ?_ ?_ ?_
      · exact ⟨(), fun _ => unhide HY5, (fun q => nomatch q), unhide HC5, (Below.refl _ _).drew⟩
      · intro i hi _ L W hW
        simp only [List.mem_cons, List.not_mem_nil, or_false] at hi
        rw [upd_ne (Ne.symm hi)]
        exact hW
      · intro _ L W hW _
        exact s_ldr Tryz.isAgg131 Tryz.sizeOf131 hW.2.2.1 [I n1, I n2, I n3, S nt] rfl rfl
      · exact fun W => s_to s 64 (by have := unhide HS; omega)
      · exact fun W => s_eqS _ _ SE (s.take 64)
      · intro _ L W hW hL _
        have q := hW.1 hL
        refine ⟨_, s_sta Tryz.sizeOf131 (o := 0) q _ rfl (by simp) (by show ∀ x ∈ [I n1, I n2, I n3, S nt], x.oneCell' = true; simp [Value.oneCell']), ?_⟩
        have hne : c ≠ w.heap.size := by have := unhide HC0; have := unhide HSA; omega
        exact ⟨(fun h => by rw [upd_self] at h; cases h), fun _ => setRow_row q, (setRow_other _ _ _ _ hne).trans hW.2.2.1, belowR hW.2.2.2 (Nat.le_refl _) _⟩
      intro _ L W hall hW
      have HW6 := hide hW
      have HL6 := hide (hall 5 (by omega))
      clear hW hall
      simp only [Act.put, List.setIfInBounds_toArray, List.set_cons_succ, List.set_cons_zero]
      go_wp2
      refine out2c Tryz.isAgg131 Tryz.sizeOf131 (p := 2) (q := 3) Tryz.results145 rfl (by rfl) (by rfl) ((unhide HW6).2.1 (unhide HL6)) rfl ?_
      refine ⟨by rw [unhide HPP]; rfl, ?_⟩
      have b1 := (unhide HBA).trans ((unhide HB5).mono (by have := unhide HSA; omega))
      exact b1.trans (unhide HW6).2.2.2
  · have hsi : ¬ ((s.length : Nat) : Int) = 512 := by omega
    have hsn : ((s.length : Int) != 512) = true := by simpa using hsi
    have HPP := hide (show prr s = (noHd, false) by unfold prr; rw [if_pos hs])
    clear hs hsi
    generalize prr s = PR at *
    unfold hda
    go_enter Tryz.func145, Tryz.ntmps145
    go_wp2_with (refine wp_st131 rfl (.tmp 2) (.tmp 10) rfl w.heap.size (by rfl) 0 0 0 [] (by rfl) _ rfl (unhide HG) ?_)
    refine out2c Tryz.isAgg131 Tryz.sizeOf131 (p := 2) (q := 3) Tryz.results145 rfl (by rfl) (by rfl) (setRow_row (unhide HG)) rfl ?_
    exact ⟨by rw [unhide HPP]; rfl, belowR (unhide HBA) (Nat.le_refl _) _⟩
theorem rParseHead_any (s : Bs) (w : World) : Calls Tryz.prog 78 #[S s] w fun e w' => e = .returned (.tuple #[I (phr s).1.gen, I (phr s).1.root, I (phr s).1.blocks, S (phr s).1.note, I (phr s).2]) ∧ Below w.heap.size w w' := by
  have H0 := hide (rparse_any s w)
  have HP := hide (phr_prr s)
  generalize phr s = R at *
  generalize prr s = PR at *
  obtain ⟨⟨g, r, b, x⟩, ok⟩ := PR
  unfold hda at H0
  simp only at H0 HP
  go_enter Tryz.func78, Tryz.ntmps78
  go_wp2_with fail
  refine (unhide H0).mono ?_
  rintro e w1 ⟨rfl, b1⟩
  have HB1 := hide (b1.trans (((Below.refl w1.heap.size w1).alloc (Nat.le_refl _) (.cells #[I g, I r, I b, S x] 131)).mono b1.size))
  have hg := heap_alloc_new w1 (.cells #[I g, I r, I b, S x] 131)
  obtain ⟨e0, e1, e2, e3⟩ := rbox4 hg (Below.refl _ _) (lt_of_row hg)
  have HG := hide hg
  clear hg b1
  cases ok
  · have HR := hide (show R = (noHd, 90) by rw [unhide HP]; rfl)
    go_wp2
    refine bodyPost_ret (v := .tuple #[I 0, I 0, I 0, S [], I 90]) (by simp [results, Tryz.results78, go_sem]) rfl ?_
    exact ⟨by rw [unhide HR]; rfl, unhide HB1⟩
  · have HR := hide (show R = (⟨g, r, b, x⟩, 0) by rw [unhide HP]; rfl)
    go_wp2
    go_quiet (fail)
    go_wp2
    refine bodyPost_ret (v := .tuple #[I g, I r, I b, S x, I 0]) (by simp [results, Tryz.results78, go_sem]) rfl ?_
    refine ⟨by rw [unhide HR], ?_⟩
    exact (unhide HB1).trans ⟨rfl, rfl, rfl, Nat.le_refl _, fun _ _ => rfl⟩
end Go.Proofs.YtjopnhhdemfniaaGreatDoor
