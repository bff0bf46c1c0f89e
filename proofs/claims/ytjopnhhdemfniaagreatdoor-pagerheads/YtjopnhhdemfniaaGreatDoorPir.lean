import Derived.Test.YtjopnhhdemfniaaGreatDoorPiq
namespace Go.Proofs.YtjopnhhdemfniaaGreatDoor
open Go.RowKit
set_option maxHeartbeats 8000000
set_option maxRecDepth 8000
variable {P D : Nat} {d : Ds} {p : Pr} {vw vl vu : Value} {w w' : World}
/-- A pager and its disk behind a call. -/
def PTo (P D : Nat) (d : Ds) (p : Pr) (vw vl vu : Value) (w w' : World) : Prop :=
  ∃ vw' vu', PD P D d p vw' vl vu' w' ∧ Only (POf P D vw vl vu) w w' ∧ (∀ k, vw'.ownBlock = some k → vw.ownBlock = some k ∨ w.heap.size ≤ k) ∧ (∀ k, vu'.ownBlock = some k → vu.ownBlock = some k ∨ w.heap.size ≤ k)
theorem PTo.same (h : PD P D d p vw vl vu w') (o : Only (POf P D vw vl vu) w w') : PTo P D d p vw vl vu w w' := ⟨vw, vu, h, o, fun _ q => .inl q, fun _ q => .inl q⟩
theorem cmr_eq (d : Ds) (p : Pr) (l : List Pg) (root : Int) (note : Bs) (gone : List Int) : cmr d p l root note gone = (
  if note.length ≠ 16 then (1, d, p) else
  if (l.all Pg.fresh && rsg (l.map Pg.number) && rsg gone) = false then (94, d, p) else
  if askv d p ≠ 0 then (askv d p, d, p.ask d) else
  if (decide (l.map Pg.number = (sel (p.ask d).use frb).take l.length) && gone.all (hasv (p.ask d).use · 1)) = false then (94, d, p.ask d) else
  if clo (after (p.ask d).use (l.map Pg.number) gone) l root = false then (94, d, p.ask d) else
  if (p.ask d).h.gen = 4611686018427387904 then (96, d, p.ask d) else
  (trv d l (nxh (p.ask d) root note), trd d l (nxh (p.ask d) root note), if trv d l (nxh (p.ask d) root note) = 0 then { p.ask d with h := nxh (p.ask d) root note, use := after (p.ask d).use (l.map Pg.number) gone } else { p.ask d with doubt := true })) := rfl
theorem commit_any (h : PD P D d p vw vl vu w) (hp : Prok d p) (a a2 : Option Addr) (n cap n2 cap2 : Nat) (l : List Pg) (root : Int) (note : Bs) (gone : List Int) (hst : ∀ W, Only (POf P D vw vl vu) w W → Pgs W a n l ∧ Ins W a2 n2 gone)
    (hf : Fit l) (hln : ∀ x ∈ l, Mch x.links) (hg : Mch gone) (hr : root ≤ 9223372036854775807) (hnt : note.length ≤ 281474976710656) (ha : 0 ≤ d.acts ∧ d.acts ≤ 99999999999999) (hn : n ≤ 1000000) (hn2 : n2 ≤ 1000000000) :
    Calls Tryz.prog 51 #[ptr P, .slice a n cap, I root, S note, .slice a2 n2 cap2] w fun e w' => e = .returned (I (cmr d p l root note gone).1) ∧ PTo P D (cmr d p l root note gone).2.1 (cmr d p l root note gone).2.2 vw vl vu w w' := by
  have HR := hide (cmr_eq d p l root note gone)
  generalize cmr d p l root note gone = R at *
  obtain ⟨hp0, hi0⟩ := hst w (Only.refl _ _)
  have hln0 : l.length = n := hp0.1.symm
  have hlg0 : gone.length = n2 := hi0.1.symm
  have HLN := hide hln0
  have HLG := hide hlg0
  have H0 := hide (isNote_any note w)
  have H1 := hide (numbersOf_any a n cap l w hp0 (by omega))
  have X1 := hide (fun W (q : Below w.heap.size w W) => allMayBe_any a n cap l W (hst W (Only.of_below q)).1 hf (by omega))
  have X2 := hide (fun W q1 c1 (q : Ins W q1 n (l.map Pg.number)) => rises_any q1 n c1 (l.map Pg.number) W q (by omega))
  have X3 := hide (fun W (q : Below w.heap.size w W) => rises_any a2 n2 cap2 gone W (hst W (Only.of_below q)).2 (by omega))
  have HD := hide h
  have HP := hide hp
  have HST := hide hst
  have HF := hide hf
  have HK := hide (And.intro hln (And.intro hg (And.intro hr (And.intro hnt (And.intro ha (And.intro hn hn2))))))
  clear h hp hst hf hln hg hr hnt ha hn hn2 hp0 hi0 hln0 hlg0
  generalize hnums : l.map Pg.number = nums at *
  have HNM := hide hnums
  clear hnums
  by_cases h16 : note.length = 16
  · rw [show decide (note.length = 16) = true by simp [h16]] at H0
    have hi16 : ((note.length : Nat) : Int) = 16 := by omega
    have H16 := hide h16
    rw [if_neg (by simp [h16])] at HR
    clear h16
    go_enter Tryz.func51, Tryz.ntmps51
    go_wp2_with fail
    refine (unhide H0).mono ?_
    rintro e w0 ⟨rfl, hw0⟩
    rw [hw0]
    clear hw0 w0 H0
    go_wp2_with fail
    refine (unhide H1).mono ?_
    rintro e w1 ⟨V1, rfl, r1, n1, b1⟩
    have hl1 : nums.length = n := by rw [← unhide HNM, List.length_map]; exact unhide HLN
    rw [← hl1] at r1
    obtain ⟨q1, c1, hV1, i1, o1⟩ := Ins.of r1
    rw [hl1] at hV1 i1
    subst hV1
    have HI1 := hide i1
    have HN1 := hide (fun g o (e : q1 = some ⟨g, o, none⟩) => n1 g (o1 g o e))
    have HB1 := hide b1
    have HL1 := hide hl1
    clear r1 n1 b1 i1 o1 hl1 H1
    cases hb1 : l.all Pg.fresh
    · rw [hb1] at X1 HR
      rw [if_pos (by simp)] at HR
      clear hb1
      go_wp2_with fail
      refine (unhide X1 _ (unhide HB1)).mono ?_
      rintro e w2 ⟨rfl, b2⟩
      have HB2 := hide ((unhide HB1).trans (b2.mono (unhide HB1).size))
      clear b2
      go_wp2
      go_ret
      rw [unhide HR]
      exact ⟨rfl, PTo.same ((unhide HD).below (unhide HB2)) (Only.of_below (unhide HB2))⟩
    · rw [hb1] at X1 HR
      have HAF := hide hb1
      clear hb1
      cases hb2 : rsg nums
      · rw [hb2] at X2 HR
        rw [if_pos (by simp)] at HR
        clear hb2
        go_wp2_with fail
        refine (unhide X1 _ (unhide HB1)).mono ?_
        rintro e w2 ⟨rfl, b2⟩
        have HB2 := hide ((unhide HB1).trans (b2.mono (unhide HB1).size))
        have HI2 := hide ((unhide HI1).below b2)
        clear b2
        go_wp2_with fail
        refine (unhide X2 _ q1 c1 (unhide HI2)).mono ?_
        rintro e w3 ⟨rfl, b3⟩
        have HB3 := hide ((unhide HB2).trans (b3.mono (unhide HB2).size))
        clear b3
        go_wp2
        go_ret
        rw [unhide HR]
        exact ⟨rfl, PTo.same ((unhide HD).below (unhide HB3)) (Only.of_below (unhide HB3))⟩
      · rw [hb2] at X2 HR
        clear hb2
        go_wp2_with fail
        refine (unhide X1 _ (unhide HB1)).mono ?_
        rintro e w2 ⟨rfl, b2⟩
        have HB2 := hide ((unhide HB1).trans (b2.mono (unhide HB1).size))
        have HI2 := hide ((unhide HI1).below b2)
        clear b2
        go_wp2_with fail
        refine (unhide X2 _ q1 c1 (unhide HI2)).mono ?_
        rintro e w3 ⟨rfl, b3⟩
        have HB3 := hide ((unhide HB2).trans (b3.mono (unhide HB2).size))
        have HI3 := hide ((unhide HI2).below b3)
        clear b3
        cases hb3 : rsg gone
        · rw [hb3] at X3 HR
          rw [if_pos (by simp)] at HR
          clear hb3
          go_wp2_with fail
          refine (unhide X3 _ (unhide HB3)).mono ?_
          rintro e w4 ⟨rfl, b4⟩
          have HB4 := hide ((unhide HB3).trans (b4.mono (unhide HB3).size))
          clear b4
          go_wp2
          go_ret
          rw [unhide HR]
          exact ⟨rfl, PTo.same ((unhide HD).below (unhide HB4)) (Only.of_below (unhide HB4))⟩
        · rw [hb3] at X3 HR
          rw [if_neg (by simp)] at HR
          clear hb3
          go_wp2_with fail
          refine (unhide X3 _ (unhide HB3)).mono ?_
          rintro e w4 ⟨rfl, b4⟩
          have HB4 := hide ((unhide HB3).trans (b4.mono (unhide HB3).size))
          have HI4 := hide ((unhide HI3).below b4)
          clear b4 HB1 HB2 HB3 HI1 HI2 HI3 X1 X2 X3
          have H4 := hide (ask_any ((unhide HD).below (unhide HB4)))
          go_wp2_with fail
          refine (unhide H4).mono ?_
          rintro e w5 ⟨rfl, p5, o5⟩
          have on5 : Only (POf P D vw vl vu) w w5 := (Only.of_below (unhide HB4)).trans o5 (fun k _ q => .inl q)
          have i5 := (unhide HI4).only o5 (fun g o e => by have := unhide HN1 g o e; have := (unhide HD).lt; omega)
          have HP5 := hide p5
          have HO5 := hide on5
          have HI5 := hide i5
          clear p5 o5 on5 i5 H4 HI4
          have hpa : Prok d (p.ask d) := ⟨(unhide HP).may, (unhide HP).blocks, (unhide HP).len, (unhide HP).low0, (unhide HP).low1⟩
          have HPA := hide hpa
          clear hpa HP
          generalize p.ask d = pa at *
          generalize hav : askv d p = av at *
          clear hav
          by_cases h0 : av = 0
          · subst h0
            rw [if_neg (by simp)] at HR
            obtain ⟨z0, z1, z2, z3, z4, z5, z6, z7⟩ := (unhide HP5).c
            have hPl := (unhide HP5).lt
            have hfew := (unhide HP5).few
            obtain ⟨qu, cu, hvu⟩ := owns_form (unhide HP5).us
            have hus := (unhide HP5).us
            rw [hvu] at z5 hus
            have HUS := hide hus
            have HVU := hide hvu
            have H6 := hide (leastFree_any hus n (by omega))
            clear hus hvu
            have HFW := hide hfew
            clear hfew z0 z1 z2 z3 z4 z6 z7
            generalize hul : pa.use.length = ul at *
            have HUL := hide hul
            clear hul
            go_wp2_with fail
            refine (unhide H6).mono ?_
            rintro e w6 ⟨V2, rfl, r2, n2', b6⟩
            obtain ⟨q2, c2, hV2, i2, o2⟩ := Ins.of r2
            have hle : ((sel pa.use frb).take n).length ≤ n := by rw [List.length_take]; omega
            have H7 := hide (equal_any q1 q2 n ((sel pa.use frb).take n).length c1 c2 nums ((sel pa.use frb).take n) w6 ((unhide HI5).below b6) i2 (by have := unhide HK; omega) (by have := unhide HK; omega))
            have HP6 := hide ((unhide HP5).below b6)
            have HI6 := hide ((unhide HI5).below b6)
            have HO6 := hide ((unhide HO5).trans (Only.of_below (P := POf P D vw vl vu) b6) (fun _ _ q => q))
            subst hV2
            clear r2 n2' b6 i2 o2 hle H6 z5 HI5 HP5 HO5
            rw [unhide HLN] at HR
            generalize hs2 : (sel pa.use frb).take n = S2 at *
            have HS2 := hide hs2
            clear hs2
            generalize S2.length = s2l at *
            have X7 := hide (fun W vw' vu' (q : PD P D d pa vw' vl vu' W) (i : Ins W a2 n2 gone) => reachesAll_any q a2 n2 cap2 gone i (unhide HK).2.1 (by have := unhide HK; omega))
            cases hq : decide (nums = S2)
            · rw [hq] at H7 HR
              rw [if_pos (by simp)] at HR
              clear hq
              go_wp2_with fail
              refine (unhide H7).mono ?_
              rintro e w7 ⟨rfl, b7⟩
              have HP7 := hide ((unhide HP6).below b7)
              have HO7 := hide ((unhide HO6).trans (Only.of_below (P := POf P D vw vl vu) b7) (fun _ _ q => q))
              clear b7
              go_wp2
              go_ret
              rw [unhide HR]
              exact ⟨rfl, PTo.same (unhide HP7) (unhide HO7)⟩
            · have HQ := hide (of_decide_eq_true hq)
              rw [hq] at H7 HR
              clear hq
              go_wp2_with fail
              refine (unhide H7).mono ?_
              rintro e w7 ⟨rfl, b7⟩
              have hP7 := (unhide HP6).below b7
              have hO7 := (unhide HO6).trans (Only.of_below (P := POf P D vw vl vu) b7) (fun _ _ q => q)
              have HP7 := hide hP7
              have HO7 := hide hO7
              have HI7 := hide ((unhide HI6).below b7)
              have H8 := hide (unhide X7 w7 vw vu hP7 (unhide HST w7 hO7).2)
              clear b7 hP7 hO7 HP6 HO6 HI6 H7 X7
              cases hga : gone.all (hasv pa.use · 1)
              · rw [hga] at H8 HR
                rw [if_pos (by simp)] at HR
                clear hga
                go_wp2_with fail
                refine (unhide H8).mono ?_
                rintro e w8 ⟨rfl, hw8⟩
                rw [hw8]
                clear hw8 w8
                go_wp2
                go_ret
                rw [unhide HR]
                exact ⟨rfl, PTo.same (unhide HP7) (unhide HO7)⟩
              · have HGA := hide hga
                rw [hga] at H8 HR
                rw [if_neg (by simp)] at HR
                clear hga
                obtain ⟨z0, z1, z2, z3, z4, z5, z6, z7⟩ := (unhide HP7).c
                have hPl := (unhide HP7).lt
                have hus := (unhide HP7).us
                have hvu := unhide HVU
                rw [hvu] at z5 hus
                have hpos : 0 < pa.use.length := by
                  have h1 := (unhide HPA).may
                  have h2 := (unhide HPA).blocks
                  have h3 := (unhide HPA).len
                  simp only [Hd.may, Bool.and_eq_true, decide_eq_true_eq] at h1
                  omega
                have hul := unhide HUL
                have hnm := unhide HNM
                have hln := unhide HLN
                have hlg := unhide HLG
                have hsel : l.map Pg.number = (sel pa.use frb).take l.length := by rw [hnm, hln, unhide HS2]; exact unhide HQ
                have HSEL := hide hsel
                have hin : ∀ k, k < n → 0 ≤ nums.getD k 0 ∧ nums.getD k 0 < pa.use.length := fun k hk => by rw [← hnm]; exact num_in hsel k (by omega)
                have hgi : ∀ k, k < n2 → 0 ≤ gone.getD k 0 ∧ gone.getD k 0 < pa.use.length := fun k hk => gone_in (unhide HGA) k (by omega)
                have H9 := hide (turned_any (u := pa.use) (by rw [← hul] at hus; exact hus) hpos (by have := unhide HFW; omega) q1 a2 n n2 c1 cap2 nums gone (unhide HI7) (unhide HST w7 (unhide HO7)).2 hin hgi (by have := unhide HK; omega) (by have := unhide HK; omega))
                rw [hul] at H9
                clear hus hvu hpos hul hnm hln hlg hsel hin hgi z0 z1 z2 z3 z4 z6 z7
                go_wp2_with fail
                refine (unhide H8).mono ?_
                rintro e w8 ⟨rfl, hw8⟩
                rw [hw8]
                clear hw8 w8 H8
                go_wp2_with fail
                refine (unhide H9).mono ?_
                rintro e w9 ⟨V9, rfl, u9, n9, b9⟩
                have hP9 := (unhide HP7).below b9
                have hO9 := (unhide HO7).trans (Only.of_below (P := POf P D vw vl vu) b9) (fun _ _ q => q)
                have HP9 := hide hP9
                have HO9 := hide hO9
                have HN9 := hide (fun k hk => Nat.le_trans (unhide HO7).size (n9 k hk))
                have HU9 := hide u9
                obtain ⟨q9, c9, hv9⟩ := owns_form u9
                have H10 := hide (closed_any u9 a n cap l (unhide HST w9 hO9).1 root (unhide HK).2.2.1 (fun x hx => ⟨(unhide HK).1 x hx, ((unhide HF) x hx).1⟩) (by have := unhide HK; omega))
                subst hv9
                clear u9 n9 b9 hP9 hO9 HP7 HO7 H9 z5
                have hal : (after pa.use nums gone).length = pa.use.length := after_len _ _ _
                have HAL := hide hal
                clear hal
                generalize hua : after pa.use nums gone = ua at *
                have HUA := hide hua
                clear hua
                generalize hual : ua.length = ual at *
                have HUAL := hide hual
                clear hual
                cases hcl : clo ua l root
                · rw [hcl] at H10 HR
                  rw [if_pos rfl] at HR
                  clear hcl
                  go_wp2_with fail
                  refine (unhide H10).mono ?_
                  rintro e w10 ⟨rfl, b10⟩
                  have HP10 := hide ((unhide HP9).below b10)
                  have HO10 := hide ((unhide HO9).trans (Only.of_below (P := POf P D vw vl vu) b10) (fun _ _ q => q))
                  clear b10
                  go_wp2
                  go_ret
                  rw [unhide HR]
                  exact ⟨rfl, PTo.same (unhide HP10) (unhide HO10)⟩
                · have HCL := hide hcl
                  rw [hcl] at H10 HR
                  rw [if_neg (by simp)] at HR
                  clear hcl
                  go_wp2_with fail
                  refine (unhide H10).mono ?_
                  rintro e w10 ⟨rfl, b10⟩
                  have HP10 := hide ((unhide HP9).below b10)
                  have HO10 := hide ((unhide HO9).trans (Only.of_below (P := POf P D vw vl vu) b10) (fun _ _ q => q))
                  have HU10 := hide (owns_below (unhide HU9) b10)
                  clear b10 HP9 HO9 HU9 H10
                  obtain ⟨z0, z1, z2, z3, z4, z5, z6, z7⟩ := (unhide HP10).c
                  have hPl := (unhide HP10).lt
                  clear z0 z2 z3 z4 z5 z6 z7
                  by_cases hgm : pa.h.gen = 4611686018427387904
                  · rw [if_pos hgm] at HR
                    rw [hgm] at z1
                    clear hgm
                    go_wp2
                    go_ret
                    rw [unhide HR]
                    exact ⟨rfl, PTo.same (unhide HP10) (unhide HO10)⟩
                  · rw [if_neg hgm] at HR
                    have hgm2 : (pa.h.gen == 4611686018427387904) = false := by rw [beq_eq_false_iff_ne]; exact hgm
                    have hmay : (nxh pa root note).may = true := nxh_may (unhide HPA) (unhide H16) (unhide HSEL) (by rw [unhide HNM, unhide HUA]; exact unhide HCL) hgm
                    have HMAY := hide hmay
                    have hgb : 1 ≤ pa.h.gen ∧ pa.h.gen ≤ 4611686018427387904 := by
                      have h1 := (unhide HPA).may
                      simp only [Hd.may, isGn, Bool.and_eq_true, decide_eq_true_eq] at h1
                      omega
                    have HGB := hide hgb
                    clear hgm hmay hgb
                    go_upto_region 16 with fail
                    refine rcm16 P pa.h.gen root pa.h.blocks note (by kernel_rfl) (by kernel_rfl) (by kernel_rfl) _ _ (by show 87 ≤ Array.size _; simp) rfl rfl rfl (Mk1 w10 123 15 16 #[I 0, I 0, I 0, .string ⟨#[]⟩] #[I (pa.h.gen + 1), I root, I pa.h.blocks, S note]) ⟨0, Mk1.start _ _ _ _ _ _ _⟩ ?_ ?_ ?_ ?_ ?_ ?_ ?_ ?_ ?_
                    · intro i hi c L W hW
                      simp only [List.mem_cons, List.not_mem_nil, or_false, not_or] at hi
                      exact hW.pure hi.2.1 hi.2.2
                    · intro c L W hW _ _
                      exact s_ld Tryz.isAgg3 (cell_of_row _ _ 1 _ 172 (0, 0) ((hW.bel.block _ (unhide HP10).lt).trans (unhide HP10).blk))
                    · intro W
                      have hb := unhide HGB
                      have q : IntKind.i64.wrap (pa.h.gen + 1) = pa.h.gen + 1 := by rw [IntKind.wrap_i64]; omega
                      simp [go_sem, eqGuard, q]
                    · intro c L W hW _ _
                      exact s_ld Tryz.isAgg3 (cell_of_row _ _ 3 _ 172 (0, 0) ((hW.bel.block _ (unhide HP10).lt).trans (unhide HP10).blk))
                    · intro c L W hW _ _
                      refine (clone_any note W (unhide HK).2.2.2.1).mono ?_
                      rintro e w' ⟨rfl, b⟩
                      exact ⟨c, fun _ _ => rfl, rfl, hW.call b (by decide) (by decide)⟩
                    · intro W
                      simp [go_sem]
                    · intro c L W hW hL
                      refine ⟨W.heap.size, _, fun j hj => ?_, s_al Tryz.zeroValue123, hW.alloc hL (by decide)⟩
                      unfold vrcm16
                      split <;> first | rfl | (rw [hL] at hj; cases hj)
                    · intro c L W hW hL _ h15
                      exact ⟨_, hW.runs h15 hL Tryz.sizeOf123 _ rfl rfl rfl (by simp [Value.oneCell']), hW.fill h15 (by decide)⟩
                    intro c L W11 hall hW
                    obtain ⟨hc0, hc1⟩ := hW.done (hall 15 (by omega)) (hall 16 (by omega))
                    have b11 := hW.bel
                    have hP11 := (unhide HP10).below b11
                    have hO11 := (unhide HO10).trans (Only.of_below (P := POf P D vw vl vu) b11) (fun _ _ q => q)
                    have hU11 : Uls W11 (.slice q9 ual c9) ua := by
                      have q := owns_below (unhide HU10) b11
                      rw [← unhide HUAL] at q ⊢
                      exact q
                    obtain ⟨e0, e1, e2, e3⟩ := box4 hc1 (Below.refl _ _) (lt_of_row hc1)
                    have hul : ua.length = d.last.length := by rw [unhide HUAL, unhide HAL]; exact (unhide HPA).len
                    have HC := hide (turn_any hP11 a n cap l (nxh pa root note) (.slice q9 ual c9) ua hU11 hul (unhide HMAY) (fun W o => (unhide HST W (hO11.trans o (fun _ _ q => q))).1) (fun x hx => List.all_eq_true.1 (unhide HAF) x hx) (by have := unhide HK; omega) (by have := unhide HK; omega))
                    have HCC := hide (show hda (nxh pa root note) = .agg #[I (pa.h.gen + 1), I root, I pa.h.blocks, S note] from rfl)
                    rw [unhide HCC] at HC
                    have HO11 := hide hO11
                    clear hc0 hc1 b11 hP11 hO11 hU11 hul hW hall z1 hgm2
                    have HTT := hide (fun W (q : TrnTo P D d pa vw vl vu (.slice q9 ual c9) ua (nxh pa root note) l W11 W) => q)
                    generalize hTv : trv d l (nxh pa root note) = TV at *
                    have HTV := hide hTv
                    clear hTv
                    generalize hTp : TrnTo P D d pa vw vl vu (.slice q9 ual c9) ua (nxh pa root note) l W11 = TP at *
                    have HTP := hide hTp
                    clear hTp
                    simp only [Act.put, List.setIfInBounds_toArray, List.set_cons_succ, List.set_cons_zero]
                    go_wp2_with fail
                    refine (unhide HC).mono ?_
                    rintro e w12 ⟨rfl, t12⟩
                    have HT12 := hide t12
                    clear t12
                    go_wp2
                    go_ret
                    rw [unhide HR]
                    refine ⟨rfl, ?_⟩
                    have q := unhide HT12
                    rw [← unhide HTP] at q
                    obtain ⟨vw', vu', x1, x2, x3, x4⟩ := q
                    rw [unhide HTV] at x1
                    refine ⟨vw', vu', x1, (unhide HO11).trans x2 (fun _ _ q => q), fun k hk => (x3 k hk).imp id (fun q => Nat.le_trans (unhide HO11).size q), fun k hk => ?_⟩
                    rcases x4 with rfl | rfl
                    · exact .inl hk
                    · exact .inr (unhide HN9 k hk)
          · have hne : (av != 0) = true := by simpa using h0
            rw [if_pos h0] at HR
            clear h0
            go_wp2
            go_ret
            rw [unhide HR]
            exact ⟨rfl, PTo.same (unhide HP5) (unhide HO5)⟩
  · rw [show decide (note.length = 16) = false by simp [h16]] at H0
    rw [if_pos h16] at HR
    clear h16
    go_enter Tryz.func51, Tryz.ntmps51
    go_wp2_with fail
    refine (unhide H0).mono ?_
    rintro e w0 ⟨rfl, hw0⟩
    rw [hw0]
    clear hw0 w0 H0
    go_wp2
    go_ret
    rw [unhide HR]
    exact ⟨rfl, PTo.same (unhide HD) (Only.refl _ _)⟩
end Go.Proofs.YtjopnhhdemfniaaGreatDoor
