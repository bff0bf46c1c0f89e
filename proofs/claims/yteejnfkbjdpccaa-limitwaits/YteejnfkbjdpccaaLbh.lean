import Derived.Test.YteejnfkbjdpccaaLbg
namespace Go.Proofs.Yteejnfkbjdpccaa
open Go.RowKit Fl
attribute [local go_sem] run_storeF
set_option maxHeartbeats 4000000
set_option maxRecDepth 8000
theorem only_like {P : Nat → Prop} {w W0 W w8 : World} (b : Below w.heap.size w W0) (o : Only P W w8) (e : W.heap = W0.heap) (e1 : W.os = W0.os) (e2 : W.tape = W0.tape) (e3 : W.output = W0.output) : Only P w w8 :=
  (Only.of_below (P := P) (Below.like b e e1 e2 e3)).trans o (fun _ _ q => q)
theorem take_any {p : Nat} {x : Li} {w : World} (h : LAt 57 65 p x w) (hx : x.Ok) (s : Bs) (hs : s.length ≤ 281474976710656) (c : Nat) (hc : amt c = true → Am c) (now : Int) :
    Calls Try.prog 13 #[ptr p, S s, fl c, I now] w fun e w' => e = .returned (.tuple #[I (x.told s c now).1, I (x.told s c now).2]) ∧ LAt 57 65 p (x.took s c now) w' ∧ Only (fun k => k = p) w w' := by
  have HN := hide (fun W => isName_any s W hs)
  have HA := hide (fun W => isAmount_any c W)
  have hl := h.lt
  cases hno : Li.no s c with
  | true =>
    have e1 : x.told s c now = (0, 1) := by unfold Li.told; rw [if_pos hno]
    have e2 : x.took s c now = x := by unfold Li.took; rw [if_pos hno]
    rw [e1, e2]
    have HL := hide h
    unfold Li.no at hno
    clear h hc
    cases h1 : nok s with
    | false =>
      go_enter Try.func13, Try.ntmps13
      go_wp2_with (refine (unhide HN _).mono ?_; rintro e w1 ⟨rfl, b1⟩; have B1 := hide b1; clear b1; simp only [h1])
      go_ret2
      exact ⟨rfl, (unhide HL).below (unhide B1), Only.of_below (unhide B1)⟩
    | true =>
      have h2 : amt c = false := by simpa [h1] using hno
      go_enter Try.func13, Try.ntmps13
      go_wp2_with (first
        | (refine (unhide HN _).mono ?_; rintro e w1 ⟨rfl, b1⟩; have B1 := hide b1; clear b1; simp only [h1])
        | (refine (unhide HA _).mono ?_; rintro e w2 ⟨rfl, rfl⟩; simp only [h2]))
      go_ret2
      exact ⟨rfl, (unhide HL).below (unhide B1), Only.of_below (unhide B1)⟩
  | false =>
    have h1 : nok s = true := by unfold Li.no at hno; cases hn : nok s <;> simp_all
    have h2 : amt c = true := by unfold Li.no at hno; cases hn : amt c <;> simp_all
    have hA := hc h2
    have hk := has_ok hx s
    have hn := nr_b now
    have HX := hide hx
    have HL := hide h
    have H23 := hide (fun W => nearest_any now W)
    have H24 := hide (fun (W : World) (b : Below w.heap.size w W) => bucket_any (h.below b) hx s)
    have H26 := hide (fun W => gone_any (has x.b x.ks s) (nr now) W hk.2.1 hk.2.2 hn.1 hn.2)
    have hG := gon_le (t := (has x.b x.ks s).tm) (n := nr now) hk.2.1 hn.2
    have H25 := hide (fun (W W0 : World) (b : Below w.heap.size w W0) (e : W.heap = W0.heap) (e1 : W.os = W0.os) (e2 : W.tape = W0.tape) (e3 : W.output = W0.output) => level_any (h.below (Below.like b e e1 e2 e3)) hx (has x.b x.ks s) hk.1 (gon (has x.b x.ks s).tm (nr now)) (by omega))
    have H27 := hide (fun (W W0 : World) (b : Below w.heap.size w W0) (e : W.heap = W0.heap) (e1 : W.os = W0.os) (e2 : W.tape = W0.tape) (e3 : W.output = W0.output) => wait_any (h.below (Below.like b e e1 e2 e3)) hx (has x.b x.ks s) hk.1 (gon (has x.b x.ks s).tm (nr now)) hG c hA)
    have hR : x.level s now = lvl x.r x.b (has x.b x.ks s).lv (gon (has x.b x.ks s).tm (nr now)) := rfl
    have hRb : x.level s now < 2139095040 := Nat.lt_of_le_of_lt (level_le x s now) hx.b1
    have HLT := hide (order_lss hRb hA)
    have HK := hide (fun (W W0 : World) (b : Below w.heap.size w W0) (e : W.heap = W0.heap) (e1 : W.os = W0.os) (e2 : W.tape = W0.tape) (e3 : W.output = W0.output) => keep_any (h.below (Below.like b e e1 e2 e3)) hx ⟨s, sb (x.level s now) c, max (nr now) (has x.b x.ks s).tm⟩)
    have HC := hide (fun W => clone_any s W hs)
    by_cases hlt : x.level s now < nz c
    · have e1 : x.told s c now = (((wt x.r x.b (has x.b x.ks s).lv (gon (has x.b x.ks s).tm (nr now)) c : Nat) : Int), 241) := by unfold Li.told; rw [if_neg (by simp [hno]), if_pos hlt]
      have e2 : x.took s c now = x := by unfold Li.took; rw [if_neg (by simp [hno]), if_pos hlt]
      rw [e1, e2]
      have HLT2 := hide ((unhide HLT).trans (decide_eq_true hlt))
      clear HLT HK HC hx h hA hc hk hn hG hRb hlt e1 e2 HX
      rw [hR] at HLT2
      clear hR
      generalize wt x.r x.b (has x.b x.ks s).lv (gon (has x.b x.ks s).tm (nr now)) c = WT at *
      generalize has x.b x.ks s = k at *
      generalize gon k.tm (nr now) = G at *
      generalize nr now = m at *
      generalize lvl x.r x.b k.lv G = R at *
      obtain ⟨k0, k1, k2⟩ := k
      go_enter Try.func13, Try.ntmps13
      go_wp2_with (first
        | (refine (unhide HN _).mono ?_; rintro e w1 ⟨rfl, b1⟩; have B1 := hide b1; clear b1; simp only [h1])
        | (refine (unhide HA _).mono ?_; rintro e w2 ⟨rfl, rfl⟩; simp only [h2])
        | (refine (unhide H23 _).mono ?_; rintro e w3 ⟨rfl, rfl⟩))
      refine (unhide H24 _ (unhide B1)).mono ?_
      rintro e w4 ⟨rfl, b4⟩
      have bx := (unhide B1).trans (b4.mono (unhide B1).size)
      have B4 := hide (bx.alloc bx.size (.cells #[S k0, fl k1, I k2] 65))
      have z0 := cell_of_row (w4.alloc (.cells #[S k0, fl k1, I k2] 65)) w4.heap.size 0 _ 65 (0, 0) (heap_alloc_new _ _)
      have z1 := cell_of_row (w4.alloc (.cells #[S k0, fl k1, I k2] 65)) w4.heap.size 1 _ 65 (0, 0) (heap_alloc_new _ _)
      have z2 := cell_of_row (w4.alloc (.cells #[S k0, fl k1, I k2] 65)) w4.heap.size 2 _ 65 (0, 0) (heap_alloc_new _ _)
      have hzl : w4.heap.size < (w4.alloc (.cells #[S k0, fl k1, I k2] 65)).heap.size := by simp
      clear b4 bx
      go_wp2_with fail
      generalize w4.alloc (.cells #[S k0, fl k1, I k2] 65) = W1 at *
      generalize w4.heap.size = Z at *
      go_region_with (first
        | (refine (unhide H26 _).mono ?_; rintro e w5 ⟨rfl, b5⟩; obtain ⟨bb1, bb2⟩ := reg_step (unhide B4) b5 rfl rfl rfl rfl; have y0 := (bb2.cell hzl).trans z0; have y1 := (bb2.cell hzl).trans z1; have y2 := (bb2.cell hzl).trans z2; have BB := hide bb1; have B2 := hide bb2; clear b5 bb1 bb2)
        | (refine (unhide H25 _ _ (unhide BB) rfl rfl rfl rfl).mono ?_; rintro e w6 ⟨rfl, b6⟩; obtain ⟨bb1, bb2⟩ := reg_step (unhide BB) b6 rfl rfl rfl rfl; have BC := hide bb1; have bd := (unhide B2).trans (bb2.mono (unhide B2).size); have x0 := (bd.cell hzl).trans z0; have x1 := (bd.cell hzl).trans z1; have x2 := (bd.cell hzl).trans z2; have B3 := hide bd; clear b6 bb1 bb2 bd))
      all_goals have hlt2 := unhide HLT2
      all_goals go_wp2_with fail
      all_goals clear hlt2
      all_goals go_region_with (first
        | (refine (unhide H26 _).mono ?_; rintro e w7 ⟨rfl, b7⟩; obtain ⟨bb1, bb2⟩ := reg_step (unhide BC) b7 rfl rfl rfl rfl; have bd := (unhide B3).trans (bb2.mono (unhide B3).size); have v0 := (bd.cell hzl).trans z0; have v1 := (bd.cell hzl).trans z1; have v2 := (bd.cell hzl).trans z2; have BD := hide bb1; clear b7 bb1 bb2 bd)
        | (refine (unhide H27 _ _ (unhide BD) rfl rfl rfl rfl).mono ?_; rintro e w8 ⟨rfl, b8⟩; have BE := hide (reg_step (unhide BD) b8 rfl rfl rfl rfl).1; clear b8))
      all_goals go_wp2
      all_goals go_ret2
      all_goals exact ⟨rfl, (unhide HL).below (unhide BE), Only.of_below (unhide BE)⟩
    · have e1 : x.told s c now = (0, 0) := by unfold Li.told; rw [if_neg (by simp [hno]), if_neg hlt]
      have e2 : x.took s c now = ⟨x.r, x.b, keep x.ks ⟨s, sb (x.level s now) c, max (nr now) (has x.b x.ks s).tm⟩⟩ := by unfold Li.took; rw [if_neg (by simp [hno]), if_neg hlt]
      rw [e1, e2]
      have HLT2 := hide ((unhide HLT).trans (decide_eq_false hlt))
      have HSB := hide (fun W => run_subF (P := Try.prog) 37 hRb hA (by omega) W)
      clear HLT H27 hx h hA hc hk hn hG hRb hlt e1 e2
      rw [hR] at HLT2 HSB HK
      rw [hR]
      clear hR
      generalize hKS : keep x.ks ⟨s, sb (lvl x.r x.b (has x.b x.ks s).lv (gon (has x.b x.ks s).tm (nr now))) c, max (nr now) (has x.b x.ks s).tm⟩ = KS at *
      generalize has x.b x.ks s = k at *
      generalize gon k.tm (nr now) = G at *
      generalize nr now = m at *
      generalize lvl x.r x.b k.lv G = R at *
      generalize sb R c = SB at *
      obtain ⟨k0, k1, k2⟩ := k
      simp only at HK
      clear hKS
      go_enter Try.func13, Try.ntmps13
      go_wp2_with (first
        | (refine (unhide HN _).mono ?_; rintro e w1 ⟨rfl, b1⟩; have B1 := hide b1; clear b1; simp only [h1])
        | (refine (unhide HA _).mono ?_; rintro e w2 ⟨rfl, rfl⟩; simp only [h2])
        | (refine (unhide H23 _).mono ?_; rintro e w3 ⟨rfl, rfl⟩))
      refine (unhide H24 _ (unhide B1)).mono ?_
      rintro e w4 ⟨rfl, b4⟩
      have bx := (unhide B1).trans (b4.mono (unhide B1).size)
      have B4 := hide (bx.alloc bx.size (.cells #[S k0, fl k1, I k2] 65))
      have z0 := cell_of_row (w4.alloc (.cells #[S k0, fl k1, I k2] 65)) w4.heap.size 0 _ 65 (0, 0) (heap_alloc_new _ _)
      have z1 := cell_of_row (w4.alloc (.cells #[S k0, fl k1, I k2] 65)) w4.heap.size 1 _ 65 (0, 0) (heap_alloc_new _ _)
      have z2 := cell_of_row (w4.alloc (.cells #[S k0, fl k1, I k2] 65)) w4.heap.size 2 _ 65 (0, 0) (heap_alloc_new _ _)
      have hzl : w4.heap.size < (w4.alloc (.cells #[S k0, fl k1, I k2] 65)).heap.size := by simp
      clear b4 bx
      go_wp2_with fail
      generalize w4.alloc (.cells #[S k0, fl k1, I k2] 65) = W1 at *
      generalize w4.heap.size = Z at *
      go_region_with (first
        | (refine (unhide H26 _).mono ?_; rintro e w5 ⟨rfl, b5⟩; obtain ⟨bb1, bb2⟩ := reg_step (unhide B4) b5 rfl rfl rfl rfl; have y0 := (bb2.cell hzl).trans z0; have y1 := (bb2.cell hzl).trans z1; have y2 := (bb2.cell hzl).trans z2; have BB := hide bb1; have B2 := hide bb2; clear b5 bb1 bb2)
        | (refine (unhide H25 _ _ (unhide BB) rfl rfl rfl rfl).mono ?_; rintro e w6 ⟨rfl, b6⟩; obtain ⟨bb1, bb2⟩ := reg_step (unhide BB) b6 rfl rfl rfl rfl; have BC := hide bb1; have bd := (unhide B2).trans (bb2.mono (unhide B2).size); have x0 := (bd.cell hzl).trans z0; have x1 := (bd.cell hzl).trans z1; have x2 := (bd.cell hzl).trans z2; have B3 := hide bd; clear b6 bb1 bb2 bd))
      all_goals have hlt2 := unhide HLT2
      all_goals go_wp2_with fail
      all_goals clear hlt2
      all_goals have hsb := unhide HSB
      all_goals go_region_with (first
        | (refine (unhide HC _).mono ?_; rintro e w7 ⟨rfl, b7⟩; obtain ⟨bb1, bb2⟩ := reg_step (unhide BC) b7 rfl rfl rfl rfl; have bd := (unhide B3).trans (bb2.mono (unhide B3).size); have v0 := (bd.cell hzl).trans z0; have v1 := (bd.cell hzl).trans z1; have v2 := (bd.cell hzl).trans z2; have BD := hide bb1; clear b7 bb1 bb2 bd)
        | (refine (unhide HK _ _ (unhide BD) rfl rfl rfl rfl).mono ?_; rintro e w8 ⟨rfl, l8, o8⟩; have L8 := hide l8; have O8 := hide o8; clear l8 o8))
      all_goals go_wp2
      all_goals go_ret2
      all_goals exact ⟨rfl, unhide L8, only_like (unhide BD) (unhide O8) rfl rfl rfl rfl⟩
end Go.Proofs.Yteejnfkbjdpccaa
