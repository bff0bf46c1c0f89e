import Derived.Test.YtpelmacblglhoaaDtg
import Derived.Deep.CutRange
namespace Go.Proofs.Ytpelmacblglhoaa
open Go.RowKit
set_option maxHeartbeats 8000000
set_option maxRecDepth 8000
theorem lasts_start (puts : List Pt) (pa : Option Addr) (ca : Nat) (dies : Int) (ss : List Int) (sa : Option Addr) (cs : Nat) (w : World) (hp : Pls w pa puts.length puts) (hn : puts.length ≤ 140737488355328) (hs : Ns w sa ss.length ss) (hn2 : ss.length ≤ 140737488355328) (b3 : -9223372036854775808 ≤ dies ∧ dies ≤ 9223372036854775807) (hsi : ∀ x ∈ ss, -9223372036854775808 ≤ x ∧ x ≤ 9223372036854775807) (hpi : ∀ x ∈ puts, -9223372036854775808 ≤ x.2.1 ∧ x.2.1 ≤ 9223372036854775807) :
    Calls Try.prog 5 #[.slice pa puts.length ca, I dies, .slice sa ss.length cs] w fun e w' => e = .returned (.bool true) ∧ Below w.heap.size w w' := by
  have H0 := hide (known_any w)
  have HN := hide (fun W => new_any 9 W (by omega))
  have HP := hide hp
  have HSs := hide hs
  have HK := hide (fun W => pick_any dies (puts.length + 2) W (by omega) (by omega) b3.1 b3.2)
  have hpk := pkv_lt dies (puts.length + 2) (by omega)
  clear hp hs
  obtain ⟨n, hnd⟩ : ∃ n, n = dv dies puts.length := ⟨_, rfl⟩
  have hn3 : n ≤ puts.length + 2 := by rw [hnd]; unfold dv; split <;> omega
  go_enter Try.func5, Try.ntmps5
  go_wp2_with fail
  refine (unhide H0).mono ?_
  rintro e w1 ⟨rfl, bw1⟩
  have X1 := hide bw1
  clear bw1 H0
  go_wp2_with fail
  refine (unhide HN _).mono ?_
  rintro e w2 (⟨hm, -⟩ | ⟨-, D, V, rfl, hd2, nd2, bd2⟩)
  · exact absurd hm (by decide)
  rw [show (9 : Int).toNat = 9 from rfl] at hd2
  have X2 := hide (And.intro hd2 (And.intro (fun k hk => Nat.le_trans (unhide X1).size (nd2 k hk)) ((unhide X1).trans (bd2.mono (unhide X1).size))))
  clear hd2 nd2 bd2 X1 HN
  go_upto_if 50 with fail
  go_cut [10] from 34 to 56 (fun s10 wx => s10 = .int .i64 n ∧ wx = w2)
  case first =>
    by_cases hdz : dies = 0
    · have e1 : n = 0 := by rw [hnd]; unfold dv; rw [if_pos hdz]
      subst e1
      go_wp2
      all_goals go_meet
      case rel => exact ⟨rfl, rfl⟩
    · have e1 : n = 1 + pkv dies (puts.length + 2) := by rw [hnd]; unfold dv; rw [if_neg hdz]
      rw [show (((puts.length + 2 : Nat)) : Int) = (puts.length : Int) + 2 by omega] at HK
      generalize pkv dies (puts.length + 2) = kk at *
      subst e1
      go_wp2_with fail
      refine (unhide HK _).mono ?_
      rintro e w3 ⟨rfl, rfl⟩
      go_wp2
      all_goals go_meet
      case rel => exact ⟨by simp, rfl⟩
  case rest =>
    obtain ⟨rfl, rfl⟩ := hcut
    obtain ⟨h2, n2, b2⟩ := unhide X2
    have h3 := arm_any h2 (n : Int)
    rw [arm_new (List.replicate 9 zs) n] at h3
    have H3 := hide h3
    clear h3 h2 n2 b2 HK hpk hnd
    go_wp2_with fail
    refine (unhide H3).mono ?_
    rintro e w3 ⟨rfl, h3, o3⟩
    obtain ⟨h2, n2, b2⟩ := unhide X2
    have HL := hide (lst_start h3 n2 (o3.below b2 b2.size (fun k q => by subst q; exact n2 _ (.inl rfl))))
    clear h2 n2 b2 h3 o3 X2 H3
    go_wp2
    go_loopw [13] (fun i wr => ∃ k : Nat, k ≤ 9 ∧ i = .int .i64 k ∧ Lst w D w3.heap.size (w3.heap.size + 1) (dsn n) (.slice none 0 0) V (hlf k) none9 wr) (fun i _ => 9 - (Go.RowKit.intOf i).toNat)
    case atStart => exact ⟨0, by omega, rfl, unhide HL⟩
    case round =>
      clear HL
      obtain ⟨k, hk, rfl, hl⟩ := hrel
      have HK := hide hl
      by_cases hlt : k < 9
      · have hlt' : (k : Int) < 9 := by omega
        clear hl
        go_wp2_with (first
            | (refine make_own 63 5 _ 1 1 Try.underlying63 info5 rfl (.const (.int .i64 512)) (.const (.int .i64 512)) rfl _ _ 512 rfl rfl rfl rfl (by omega) (by omega) ?_; intro w5 ho5 b5 _; rw [made5] at ho5; have HT := hide (zs_text ho5); have hl5 := (unhide HK).below b5; have HK5 := hide (hl5.setA k zs); have c5 := hl5.a.at k hlt; have z5 := hl5.a.fz k; have l5 := hl5.a.lt; generalize hlf_ : (hlf k).getD k [] = ol at c5; clear ho5 b5 hl5 hlf_)
            | (refine wpList_conv rfl 63 9 (.tmp 65) rfl _ _ (by rfl) (unhide HT) ?_)
            | fail)
        go_round
        case measure => simp [Go.RowKit.intOf]; omega
        case rel => exact ⟨k + 1, by omega, by simp, by rw [← hlf_set k hlt]; exact unhide HK5⟩
      · have hlt' : ¬ (k : Int) < 9 := by omega
        obtain rfl : k = 9 := by omega
        clear hl
        go_wp2
        go_loopw [14, 15] (fun a i wr => ∃ (k : Nat) (d : Ds) (vw : Value) (la nw : List Bs), k ≤ puts.length ∧ i = .int .i64 k ∧ a = .int .i64 k ∧ Lst w D w3.heap.size (w3.heap.size + 1) d vw V la nw wr ∧ Lgc k d la nw ∧ Alv n k d) (fun _ i _ => puts.length - (Go.RowKit.intOf i).toNat)
        case atStart => exact ⟨0, dsn n, .slice none 0 0, nine, none9, by omega, rfl, rfl, by rw [← hlf_all]; exact unhide HK, (lgc0 n (by omega)).1, (lgc0 n (by omega)).2⟩
        case round =>
          clear HK
          obtain ⟨k, d, vw, la, nw, hk, rfl, rfl, hl, hg, hv⟩ := hrel
          by_cases hlt : k < puts.length
          · have hlt' : (k : Int) < (puts.length : Int) := by omega
            obtain ⟨gp, op, rfl, hgw, c0w, c1w, c2w⟩ := (unhide HP).at hlt
            have hpr := hpi _ (mem_getD (z := (false, 0, 0)) hlt)
            generalize puts.getD k (false, 0, 0) = x at *
            obtain ⟨sy, bl, cc⟩ := x
            simp only at c0w c1w c2w hpr
            have c0 := (hl.bel.cell (by exact hgw)).trans c0w
            have c1 := (hl.bel.cell (by exact hgw)).trans c1w
            have c2 := (hl.bel.cell (by exact hgw)).trans c2w
            have hpl : gp < wr.heap.size := Nat.lt_of_lt_of_le hgw hl.bel.size
            have HPk := hide (fun W => pick_any bl 9 W (by omega) (by omega) hpr.1 hpr.2)
            have hb9 := pkv_lt bl 9 (by omega)
            generalize pkv bl 9 = bb at *
            have HG := hide (And.intro hg hv)
            have HL := hide hl
            have hact : 0 ≤ d.acts ∧ d.acts ≤ 1000000000000000000 := by rw [hg.acts]; omega
            have hlD := hl.dat.lt
            cases sy with
            | true =>
              have HS := hide (sync_any hl.dat hg.ok hact)
              by_cases hf : d.fuse = 1
              · have ha := hv.die hf
                have e1 : syncv d = 2 := by unfold syncv; rw [hv.live, ha.1]; rfl
                have e2 : d.sync = { d with dead := true } := by unfold Ds.sync; rw [hv.live, ha.1, ha.2.1]; rfl
                rw [e1, e2] at HS
                have HDie := hide ha.2.2
                clear hl hg hv hact ha e1 e2 hf
                go_wp2_with fail
                refine (unhide HPk _).mono ?_
                rintro e w5 ⟨rfl, hw5⟩
                rw [hw5]
                clear hw5 w5
                go_wp2_with fail
                refine (unhide HS).mono ?_
                rintro e w5 ⟨rfl, vw5, h5, o5, n5⟩
                have hl5 := (unhide HL).step (P := fun k => k = D ∨ V.ownBlock = some k) (fun k q => q.imp id (fun r => Or.inr r)) h5 o5 (fun k hk => Or.inl (n5 k hk))
                have HZ := hide (dead_any hl5.dat)
                have HL5 := hide hl5
                have HGT := hide (unhide HG).1.die
                have hki : (k : Int) = (n : Int) - 1 := (unhide HDie)
                clear hl5 h5 o5 n5 HL HG HS
                go_wp2_with fail
                refine (unhide HZ).mono ?_
                rintro e w6 ⟨rfl, hw6⟩
                rw [hw6]
                clear hw6 w6 HZ
                generalize ({ d with dead := true } : Ds) = d at *
                generalize vw5 = vw at *
                generalize w5 = wr at *
                have H38 := hide (acts_any (unhide HL5).dat)
                rw [(unhide HGT).acts] at H38
                have hok := (unhide HGT).ok
                have h40 := pending_any (unhide HL5).dat hok
                rw [(unhide HGT).ws] at h40
                have H40 := hide h40
                clear h40
                go_wp2_with fail
                refine (unhide H38).mono ?_
                rintro e w6 ⟨rfl, hw6⟩
                rw [hw6]
                clear hw6 w6 H38
                go_wp2_with fail
                refine (unhide H40).mono ?_
                rintro e w7 ⟨VP, rfl, r7, n7, b7⟩
                have hl7 := (unhide HL5).below b7
                have HLA := hide (unhide HGT).la9
                have a0 := hl7.a.at 0 (by omega)
                have a1 := hl7.a.at 1 (by omega)
                have a2 := hl7.a.at 2 (by omega)
                have a3 := hl7.a.at 3 (by omega)
                have a4 := hl7.a.at 4 (by omega)
                have a5 := hl7.a.at 5 (by omega)
                have a6 := hl7.a.at 6 (by omega)
                have a7 := hl7.a.at 7 (by omega)
                have a8 := hl7.a.at 8 (by omega)
                have al := hl7.a.lt
                have HL7 := hide n7
                obtain ⟨pP, cP, rfl⟩ := owns_form r7
                have ht0 := tl_start hl7 r7 (unhide HLA)
                rw [← nine_cells (unhide HLA)] at ht0
                have HT0 := hide ht0
                clear hl7 b7 r7 n7 HL5 H40 ht0 HL7
                generalize la.getD 0 [] = y0 at a0 HT0
                generalize la.getD 1 [] = y1 at a1 HT0
                generalize la.getD 2 [] = y2 at a2 HT0
                generalize la.getD 3 [] = y3 at a3 HT0
                generalize la.getD 4 [] = y4 at a4 HT0
                generalize la.getD 5 [] = y5 at a5 HT0
                generalize la.getD 6 [] = y6 at a6 HT0
                generalize la.getD 7 [] = y7 at a7 HT0
                generalize la.getD 8 [] = y8 at a8 HT0
                go_wp2
                go_loopw [20, 21, 23] (fun s20 s21 s23 wq => ∃ m : Nat, m ≤ 9 ∧ s23 = .int .i64 m ∧ s20 = .int .i64 (pnd nw m).length ∧ Tl w D w3.heap.size (w3.heap.size + 1) w7.heap.size d vw V (.slice pP (pnd nw 9).length cP) s21 la nw (wnt la nw ss m) (ks ss (min (pnd nw m).length ss.length)) wq) (fun _ _ s23 _ => 9 - (Go.RowKit.intOf s23).toNat)
                case atStart => exact ⟨0, by omega, rfl, rfl, by
                  have h := unhide HT0
                  have e : ks ss (min (pnd nw 0).length ss.length) = [] := by simp [ks, pnd]
                  rw [e]
                  exact h⟩
                case round =>
                  clear HT0 a0 a1 a2 a3 a4 a5 a6 a7 a8 al
                  obtain ⟨m, hm, rfl, rfl, hq⟩ := hrel
                  obtain ⟨pK, cK, rfl⟩ := owns_form hq.k
                  rw [ks_len] at *
                  by_cases hm9 : m < 9
                  · have hm9' : (m : Int) < 9 := by omega
                    have q1 := hq.l.n.at m hm9
                    have q3 := hq.l.n.lt
                    by_cases hne : nw.getD m [] = []
                    · have HM := hide hq
                      have e1 : pnd nw (m + 1) = pnd nw m := by show (if _ then _ else _) = _; rw [if_pos hne]
                      have e2 : wnt la nw ss (m + 1) = wnt la nw ss m := by show (if _ then _ else _) = _; rw [if_pos hne]
                      have HE := hide (And.intro e1 e2)
                      rw [hne] at q1
                      clear hq e1 e2
                      go_wp2
                      go_roundw
                      case measure => simp [Go.RowKit.intOf]; omega
                      case rel => exact ⟨m + 1, by omega, by simp, by rw [(unhide HE).1], by rw [(unhide HE).1, (unhide HE).2]; exact unhide HM⟩
                    · obtain ⟨g1, g2⟩ := pnd_get nw m 9 hm9 hne
                      have e1 : (pnd nw (m + 1)).length = (pnd nw m).length + 1 := by
                        show (if _ then _ else _ : List Wr).length = _
                        rw [if_neg hne]
                        simp
                      have e2 : wnt la nw ss (m + 1) = if (pnd nw m).length < ss.length then (wnt la nw ss m).set m (tornv (la.getD m []) (nw.getD m []) (pkv (ss.getD (pnd nw m).length 0) 256)) else wnt la nw ss m := by show (if _ then _ else _) = _; rw [if_neg hne]
                      obtain ⟨gP, cP', curP, eP, _⟩ := owns_at hq.p (by omega)
                      cases eP
                      have z := cellsW_at (pnd nw 9) _ g1
                      rw [g2] at z
                      have hal : (nw.getD m []).length = 512 := ((unhide HGT).txt m).resolve_left hne
                      have hll : (la.getD m []).length = 512 := by
                        rw [← (unhide HGT).ls]
                        exact (unhide HGT).ok.sz _ (mem_getD (by rw [(unhide HGT).ls, unhide HLA]; exact hm9))
                      have HZ := hide (And.intro z.1 z.2)
                      have HM := hide hq
                      have HE := hide (And.intro e1 e2)
                      have ha9 := pnd_le nw m
                      have HSc := hide (fun (W : World) (b : Below w.heap.size w W) (h : (pnd nw m).length < ss.length) => ((unhide HSs).below b).at h)
                      have HSi := hide (fun (h : (pnd nw m).length < ss.length) => hsi _ (mem_getD (z := 0) h))
                      have g1' : ((pnd nw m).length : Int) < ((pnd nw 9).length : Int) := by omega
                      have HT4 := hide (fun (W : World) (s : Nat) (hs : s < 256) => lawTorn_any (la.getD m []) (nw.getD m []) s W hll hal hs)
                      have HXl := hide (rfl : la.getD m [] = la.getD m [])
                      clear hq z e1 e2 g2 hal hll
                      obtain ⟨aa, haa⟩ : ∃ aa, aa = (pnd nw m).length := ⟨_, rfl⟩
                      obtain ⟨ln, hln⟩ : ∃ ln, ln = (pnd nw 9).length := ⟨_, rfl⟩
                      obtain ⟨tx, htx⟩ : ∃ tx, tx = nw.getD m [] := ⟨_, rfl⟩
                      rw [← haa] at HM HE ha9 HSc HSi g1' g1 HZ ⊢
                      rw [← hln] at HM g1' g1 ⊢
                      rw [← htx] at q1 hne HZ HE HT4
                      have HHH := hide (And.intro haa (And.intro hln htx))
                      clear haa hln htx
                      obtain ⟨c0, tr, rfl⟩ : ∃ c0 tr, tx = c0 :: tr := by
                        cases tx with
                        | nil => exact absurd rfl hne
                        | cons a b => exact ⟨a, b, rfl⟩
                      clear hne
                      go_wp2
                      refine rla gP ln cP aa m (w3.heap.size + 1) (c0 :: tr) rfl rfl rfl _ _ (show 180 ≤ 299 from by decide) rfl rfl rfl rfl (fun _ W => Tl w D w3.heap.size (w3.heap.size + 1) w7.heap.size d vw V (.slice (some ⟨gP, 0, none⟩) ln cP) (.slice pK (min aa ss.length) cK) la nw (wnt la nw ss m) (ks ss (min aa ss.length)) W) ?_ (fun _ _ _ _ h => h) g1' (by omega) hm9 ?_ ?_ ?_
                      · exact (unhide HM).below (below_drew (Below.refl _ _))
                      · intro L W h
                        have hp := h.p
                        rw [← (unhide HHH).2.1] at hp
                        rw [Nat.zero_add]
                        exact ⟨owns_cell hp _ _ (unhide HZ).1, owns_cell hp _ _ (unhide HZ).2⟩
                      · intro L W h
                        rw [Nat.zero_add, (unhide HHH).2.2]
                        exact h.l.n.at m hm9
                      intro L w9 _ hq9
                      have HQ9 := hide hq9
                      clear hq9 HM q1 q3
                      simp only [Act.put, List.setIfInBounds_toArray, List.set_cons_succ, List.set_cons_zero]
                      by_cases hsl : aa < ss.length
                      · have hsl' : (aa : Int) < (ss.length : Int) := by omega
                        obtain ⟨gs, os, rfl, hgs, cs0⟩ := unhide HSc w9 (unhide HQ9).l.bel hsl
                        have hsr := unhide HSi hsl
                        have e2 := (unhide HE).2
                        rw [if_pos hsl] at e2
                        have HE2 := hide e2
                        generalize hgv : ss.getD aa 0 = sv at cs0 hsr HE2 e2
                        have HPc := hide (fun W => pick_any sv 256 W (by omega) (by omega) hsr.1 hsr.2)
                        have hs9 := pkv_lt sv 256 (by omega)
                        generalize hsv : pkv sv 256 = s9 at HPc hs9 HE2 e2
                        have HGV := hide (And.intro hgv hsv)
                        clear e2 hgv hsv
                        go_wp2_with fail
                        refine (unhide HPc _).mono ?_
                        rintro e w10 ⟨rfl, hw10⟩
                        rw [hw10]
                        clear hw10 w10
                        go_wp2_with (first
                          | (refine wp_pushK (x := ((aa : Int), (s9 : Int))) rfl (.tmp 189) (.tmp 193) rfl rfl rfl (unhide HQ9) (by rw [ks_len]; omega) ?_; rintro V10 w10 ⟨pV, nV, cV, rfl⟩ hq10; have HQ10 := hide hq10; clear hq10)
                          | fail)
                        refine rlb w3.heap.size (w3.heap.size + 1) w7.heap.size m s9 (la.getD m []) (c0 :: tr) (tornv (la.getD m []) (c0 :: tr) s9) rfl rfl rfl _ _ (show 205 ≤ 299 from by decide) rfl rfl rfl rfl rfl (fun L W => Tl w D w3.heap.size (w3.heap.size + 1) w7.heap.size d vw V (.slice (some ⟨gP, 0, none⟩) ln cP) (.slice pV nV cV) la nw (if L 10 then (wnt la nw ss m).set m (tornv (la.getD m []) (c0 :: tr) s9) else wnt la nw ss m) (ks ss (min aa ss.length) ++ [((aa : Int), (s9 : Int))]) W) ?_ ?_ hm9 ?_ hm9 ?_ ?_ hm9 ?_ ?_
                        · exact (unhide HQ10).below (below_drew (Below.refl _ _))
                        · intro i hi L W h
                          have e : upd L i 10 = L 10 := by
                            have : i ≠ 10 := by rintro rfl; simp at hi
                            simp [upd, Ne.symm this]
                          simpa only [e] using h
                        · intro L W h
                          rw [Nat.zero_add]
                          exact h.l.a.at m hm9
                        · intro L W h
                          rw [Nat.zero_add, (unhide HHH).2.2]
                          exact h.l.n.at m hm9
                        · intro L W h _
                          refine (unhide HT4 W s9 hs9).mono ?_
                          rintro e w' ⟨rfl, hw⟩
                          rw [hw]
                          have e : upd L 8 10 = L 10 := by simp [upd]
                          exact ⟨rfl, by simpa only [e] using h⟩
                        · intro L W h h10 h8 h9
                          rw [Nat.zero_add]
                          have e10 : upd L 10 10 = true := by simp [upd]
                          simp only [h10, Bool.false_eq_true, if_false] at h
                          refine ⟨?_, ⟨_, h.t.at m hm9⟩, h.t.fz m⟩
                          simp only [e10, if_true]
                          exact h.setT m _
                        intro L w11 hall hq11
                        have h10 := hall 10 (by omega)
                        simp only [h10, if_true] at hq11
                        have HQ11 := hide hq11
                        clear hq11 hall h10 HQ10 HQ9
                        simp only [Act.put, List.setIfInBounds_toArray, List.set_cons_succ, List.set_cons_zero]
                        go_wp2
                        go_roundw
                        case measure => simp [Go.RowKit.intOf]; omega
                        case rel => exact ⟨m + 1, by omega, by simp, by rw [(unhide HE).1]; simp, by
                          rw [(unhide HE).1, unhide HE2]
                          have h := unhide HQ11
                          rw [show min aa ss.length = aa by omega] at h
                          rw [show min (aa + 1) ss.length = aa + 1 by omega, ks_next, (unhide HGV).1, (unhide HGV).2]
                          exact h⟩
                      · have hsl' : ¬ (aa : Int) < (ss.length : Int) := by omega
                        have e2 := (unhide HE).2
                        rw [if_neg hsl] at e2
                        have HE2 := hide e2
                        clear e2
                        go_wp2
                        go_roundw
                        case measure => simp [Go.RowKit.intOf]; omega
                        case rel => exact ⟨m + 1, by omega, by simp, by rw [(unhide HE).1]; simp, by
                          rw [(unhide HE).1, unhide HE2]
                          have h := unhide HQ9
                          rw [show min (aa + 1) ss.length = min aa ss.length by omega]
                          exact h⟩
                  · have hm9' : ¬ (m : Int) < 9 := by omega
                    obtain rfl : m = 9 := by omega
                    have h55 := blocks_any hq.l.dat (fun x hx => by have := (unhide HGT).ok.sz x hx; omega) (by rw [(unhide HGT).ls, unhide HLA]; omega)
                    rw [(unhide HGT).ls] at h55
                    have H55 := hide h55
                    have HQ := hide hq
                    clear hq h55
                    have cl := crash_law ss (unhide HGT)
                    obtain ⟨d', hd'⟩ : ∃ d' : Ds, d' = { ws := [], last := wnt la nw ss 9, fuse := 0, dead := false, acts := k } := ⟨_, rfl⟩
                    rw [← hd'] at cl
                    have CL := hide cl
                    have D1 : d'.ws = [] := by rw [hd']
                    have D2 : d'.dead = false := by rw [hd']
                    have D3 : d'.last = wnt la nw ss 9 := by rw [hd']
                    have D4 : d'.acts = k := by rw [hd']
                    have HD := hide (And.intro D1 (And.intro D2 (And.intro D3 D4)))
                    clear D1 D2 D3 D4 hd' cl
                    go_wp2_with fail
                    refine (unhide H55).mono ?_
                    rintro e w8 ⟨VB, rfl, r8, n8, b8⟩
                    obtain ⟨pB, cB, rfl, s8, -⟩ := Sts.of r8
                    have HLd := hide (load_any pB la.length cB la w8 s8 (by rw [unhide HLA]; omega))
                    have X8 := hide ((unhide HQ).below b8)
                    clear r8 n8 b8 s8 HQ H55
                    go_wp2_with fail
                    refine (unhide HLd).mono ?_
                    rintro e w9 (⟨h0, -⟩ | ⟨-, C, VC, rfl, hc9, nc9, b9⟩)
                    · exact absurd (load_zero (unhide HGT)) h0
                    have hT9 := (unhide X8).below b9
                    obtain ⟨pK', cK', eK, hK⟩ := kls_of hT9.k
                    rw [ks_len] at eK hK
                    cases eK
                    have h58 := crash_any hT9.l.dat (unhide HGT).ok pK _ cK _ hK (by omega) (fun st hs i => by rw [(unhide CL).1] at hs; cases hs; exact stv_small _ _ _ _)
                    rw [(unhide CL).2.1, (unhide CL).2.2.1] at h58
                    have H58 := hide h58
                    have X9 := hide (And.intro b9 (And.intro hc9 nc9))
                    clear h58 hT9 b9 hc9 nc9 hK HLd
                    have HOk := hide (unhide CL).2.2.2
                    have HOc := hide (ok_new (unhide HGT))
                    have HXA := hide (And.intro (unhide HLA) (unhide CL).2.2.2.2)
                    generalize (pnd nw 9).length = ln at *
                    generalize min ln ss.length = lk at *
                    go_wp2_with fail
                    refine (unhide H58).mono ?_
                    rintro e w10 ⟨rfl, vw10, h10, o10, -⟩
                    have hF := fin_start (unhide X8) (unhide X9).1 (unhide X9).2.1 (unhide X9).2.2 h10 o10
                    have HF := hide hF
                    have h59 := dead_any hF.dat
                    rw [(unhide HD).2.1] at h59
                    have H59 := hide h59
                    have h60 := pending_any hF.dat (unhide HOk).1
                    rw [(unhide HD).1] at h60
                    have H60 := hide h60
                    clear h59 h60 hF h10 o10 X8 X9 H58
                    go_wp2_with fail
                    refine (unhide H59).mono ?_
                    rintro e w11 ⟨rfl, hw11⟩
                    rw [hw11]
                    clear hw11 w11 H59
                    go_wp2_with fail
                    refine (unhide H60).mono ?_
                    rintro e w11 ⟨VQ, rfl, r11, -, b11⟩
                    obtain ⟨pQ, cQ, rfl⟩ := owns_form r11
                    have hF11 := (unhide HF).below b11
                    have h61 := acts_any hF11.dat
                    rw [(unhide HD).2.2.2] at h61
                    have H61 := hide h61
                    have h62 := blocks_any hF11.dat (fun x hx => by have := (unhide HOk).1.sz x hx; omega) (by rw [(unhide HD).2.2.1, (unhide HXA).2]; omega)
                    rw [(unhide HD).2.2.1, (unhide HXA).2] at h62
                    have H62 := hide h62
                    have HF11 := hide hF11
                    clear h61 h62 hF11 r11 b11 HF H60
                    go_wp2_with fail
                    refine (unhide H61).mono ?_
                    rintro e w12 ⟨rfl, hw12⟩
                    rw [hw12]
                    clear hw12 w12 H61
                    go_wp2_with fail
                    refine (unhide H62).mono ?_
                    rintro e w12 ⟨VB2, rfl, r12, -, b12⟩
                    obtain ⟨gb, cb, cur12, rfl, _⟩ := owns_at r12 (by omega)
                    have HF12 := hide (And.intro ((unhide HF11).below b12) r12)
                    clear r12 b12 HF11 H62
                    go_wp2
                    go_loopw [29] (fun s29 wq => ∃ m : Nat, m ≤ 9 ∧ s29 = .int .i64 m ∧ Fin w D C w3.heap.size w7.heap.size d' vw10 V VC la (wnt la nw ss 9) wq ∧ wq.ownsRow 0 9 1 (.slice (some ⟨gb, 0, none⟩) 9 cb) 9 ((wnt la nw ss 9).map S)) (fun s29 _ => 9 - (Go.RowKit.intOf s29).toNat)
                    case atStart => exact ⟨0, by omega, rfl, (unhide HF12).1, (unhide HF12).2⟩
                    case round =>
                      clear HF12
                      obtain ⟨m, hm, rfl, hq, hr⟩ := hrel
                      by_cases hm9 : m < 9
                      · have hm9' : (m : Int) < 9 := by omega
                        have h65 := read_any hq.dat (unhide HOk).1 (m : Int)
                        obtain ⟨k1, k2⟩ := read_plain (unhide HD).1 (unhide HD).2.1 m (by rw [(unhide HD).2.2.1, (unhide HXA).2]; exact hm9)
                        rw [k1, k2, (unhide HD).2.2.1] at h65
                        have H65 := hide h65
                        have HQ := hide (And.intro hq hr)
                        clear h65 k1 k2 hq hr
                        go_wp2_with fail
                        refine (unhide H65).mono ?_
                        rintro e w13 ⟨rfl, b13⟩
                        have hq13 := (unhide HQ).1.below b13
                        have h66 := read_any hq13.c (unhide HOc) (m : Int)
                        obtain ⟨k1, k2⟩ := read_plain (d := Ds.new la) rfl rfl m (by show m < la.length; rw [(unhide HXA).1]; exact hm9)
                        rw [k1, k2, show (Ds.new la).last = la from rfl] at h66
                        have H66 := hide h66
                        have HQ13 := hide (And.intro hq13 (owns_below (unhide HQ).2 b13))
                        clear h66 k1 k2 hq13 b13 HQ H65
                        go_wp2_with fail
                        refine (unhide H66).mono ?_
                        rintro e w14 ⟨rfl, b14⟩
                        have HQ14 := hide (And.intro ((unhide HQ13).1.below b14) (owns_below (unhide HQ13).2 b14))
                        clear b14 HQ13 H66
                        go_wp2
                        have HX := hide (And.intro (rfl : (wnt la nw ss 9).getD m [] = (wnt la nw ss 9).getD m []) (rfl : la.getD m [] = la.getD m []))
                        refine rlc gb cb w7.heap.size w3.heap.size m ((wnt la nw ss 9).getD m []) (la.getD m []) rfl rfl rfl _ _ (show 299 ≤ 299 from by decide) rfl rfl rfl rfl rfl rfl rfl rfl (fun _ W => Below w14.heap.size w14 W) (below_drew (Below.refl _ _)) (fun _ _ _ _ h => h) hm9 ?_ hm9 ?_ hm9 ?_ hm9 ?_ ?_
                        · intro L W h
                          rw [Nat.zero_add]
                          exact ((unhide HQ14).1.below h).t.at m hm9
                        · intro L W h
                          rw [Nat.zero_add]
                          exact owns_cell (owns_below (unhide HQ14).2 h) m _ (by rw [List.getElem?_map, List.getElem?_eq_getElem (by rw [(unhide HXA).2]; exact hm9), List.getD_eq_getElem?_getD, List.getElem?_eq_getElem (by rw [(unhide HXA).2]; exact hm9)]; rfl)
                        · intro L W h
                          rw [Nat.zero_add]
                          exact ((unhide HQ14).1.below h).t.at m hm9
                        · intro L W h
                          rw [Nat.zero_add]
                          exact ((unhide HQ14).1.below h).a.at m hm9
                        intro L w15 _ b15
                        have HQ15 := hide (And.intro ((unhide HQ14).1.below b15) (owns_below (unhide HQ14).2 b15))
                        clear b15 HQ14 HX
                        simp only [Act.put, List.setIfInBounds_toArray, List.set_cons_succ, List.set_cons_zero]
                        go_wp2
                        go_roundw
                        case measure => simp [Go.RowKit.intOf]; omega
                        case rel => exact ⟨m + 1, by omega, by simp, (unhide HQ15).1, (unhide HQ15).2⟩
                      · have hm9' : ¬ (m : Int) < 9 := by omega
                        have HZ9 := hide hq.bel
                        clear hq hr
                        go_wp2
                        go_ret
                        exact ⟨rfl, unhide HZ9⟩
              · have ha := hv.ok hf
                have e1 : syncv d = 0 := by unfold syncv; rw [hv.live, ha.1]; rfl
                have e2 : d.sync = { d.act with ws := [], last := snc d.act.last d.act.ws d.act.ws.length } := by unfold Ds.sync; rw [hv.live, ha.1, act_last, act_ws]; rfl
                rw [e1, e2] at HS
                have HG2 := hide (hg.acted hf).synced
                have HA2 := hide (show Alv n (k + 1) { d.act with ws := [], last := snc d.act.last d.act.ws d.act.ws.length } from ⟨ha.2.live, ha.2.fuse, ha.2.lt⟩)
                clear hl hg hv hact ha e1 e2 hf HG
                generalize ({ d.act with ws := [], last := snc d.act.last d.act.ws d.act.ws.length } : Ds) = d5 at *
                go_wp2_with fail
                refine (unhide HPk _).mono ?_
                rintro e w5 ⟨rfl, hw5⟩
                rw [hw5]
                clear hw5 w5
                go_wp2_with fail
                refine (unhide HS).mono ?_
                rintro e w5 ⟨rfl, vw5, h5, o5, n5⟩
                have hl5 := (unhide HL).step (P := fun k => k = D ∨ V.ownBlock = some k) (fun k q => q.imp id (fun r => Or.inr r)) h5 o5 (fun k hk => Or.inl (n5 k hk))
                have c0' : w5.cell? ⟨gp, op + k * 3, none⟩ = some (.bool true) := (hl5.bel.cell (by exact hgw)).trans c0w
                have hpl5 : gp < w5.heap.size := Nat.lt_of_lt_of_le hgw hl5.bel.size
                have HL5 := hide hl5
                have hok := (unhide HA2).lt
                clear hl5 h5 o5 n5 HL HS c0 c1 c2
                by_cases hn0 : n = 0
                · have hn2' : ¬ (0 : Int) < (n : Int) := by omega
                  clear hn0
                  go_wp2
                  go_loopw [18] (fun s18 wq => ∃ m : Nat, m ≤ 9 ∧ s18 = .int .i64 m ∧ Lst w D w3.heap.size (w3.heap.size + 1) d5 vw5 V (mrg la nw m) (clr nw m) wq) (fun s18 _ => 9 - (Go.RowKit.intOf s18).toNat)
                  case atStart => exact ⟨0, by omega, rfl, unhide HL5⟩
                  case round =>
                    clear HL5
                    obtain ⟨m, hm, rfl, hq⟩ := hrel
                    by_cases hm9 : m < 9
                    · have hm9' : (m : Int) < 9 := by omega
                      have HQ := hide hq
                      have q1 := hq.n.at m hm9
                      rw [clr_at nw m m (Nat.le_refl _)] at q1
                      have q2 := hq.n.fz m
                      have q3 := hq.n.lt
                      by_cases hne : nw.getD m [] = []
                      · rw [hne] at q1
                        have HM := hide (show Lst w D w3.heap.size (w3.heap.size + 1) d5 vw5 V (mrg la nw (m + 1)) (clr nw (m + 1)) (wr.setCell ⟨w3.heap.size + 1, m, none⟩ (S [])) from by
                          have e : mrg la nw (m + 1) = mrg la nw m := by show (if _ then _ else _) = _; rw [if_pos hne]
                          rw [e]
                          exact hq.setN m [])
                        clear hq
                        go_wp2
                        go_round
                        case measure => simp [Go.RowKit.intOf]; omega
                        case rel => exact ⟨m + 1, by omega, by simp, unhide HM⟩
                      · have hq2 := hq.setA m (nw.getD m [])
                        have p1 := hq.a.at m hm9
                        have p2 := hq.a.fz m
                        have p3 := hq.a.lt
                        have HM := hide (show Lst w D w3.heap.size (w3.heap.size + 1) d5 vw5 V (mrg la nw (m + 1)) (clr nw (m + 1)) ((wr.setCell ⟨w3.heap.size, m, none⟩ (S (nw.getD m []))).setCell ⟨w3.heap.size + 1, m, none⟩ (S [])) from by
                          have e : mrg la nw (m + 1) = (mrg la nw m).set m (nw.getD m []) := by show (if _ then _ else _) = _; rw [if_neg hne]
                          rw [e]
                          exact hq2.setN m [])
                        have q4 := hq2.n.at m hm9
                        rw [clr_at nw m m (Nat.le_refl _)] at q4
                        have q5 := hq2.n.fz m
                        have q6 := hq2.n.lt
                        generalize (mrg la nw m).getD m [] = om at p1
                        generalize nw.getD m [] = tx at *
                        obtain ⟨t0, tr, rfl⟩ : ∃ t0 tr, tx = t0 :: tr := by
                          cases tx with
                          | nil => exact absurd rfl hne
                          | cons a b => exact ⟨a, b, rfl⟩
                        clear hq hq2 hne
                        go_wp2
                        go_round
                        case measure => simp [Go.RowKit.intOf]; omega
                        case rel => exact ⟨m + 1, by omega, by simp, unhide HM⟩
                    · have hm9' : ¬ (m : Int) < 9 := by omega
                      obtain rfl : m = 9 := by omega
                      have HQ := hide hq
                      clear hq
                      go_wp2
                      go_roundw
                      case measure => simp [Go.RowKit.intOf]; omega
                      case rel => exact ⟨k + 1, d5, vw5, _, _, by omega, by simp, by simp, unhide HQ, unhide HG2, unhide HA2⟩
                · have hn1 := hok hn0
                  have hn2' : (0 : Int) < (n : Int) := by omega
                  have hn3' : ¬ (n : Int) ≤ (k : Int) + 1 := by omega
                  go_wp2
                  go_loopw [18] (fun s18 wq => ∃ m : Nat, m ≤ 9 ∧ s18 = .int .i64 m ∧ Lst w D w3.heap.size (w3.heap.size + 1) d5 vw5 V (mrg la nw m) (clr nw m) wq) (fun s18 _ => 9 - (Go.RowKit.intOf s18).toNat)
                  case atStart => exact ⟨0, by omega, rfl, unhide HL5⟩
                  case round =>
                    clear HL5
                    obtain ⟨m, hm, rfl, hq⟩ := hrel
                    by_cases hm9 : m < 9
                    · have hm9' : (m : Int) < 9 := by omega
                      have HQ := hide hq
                      have q1 := hq.n.at m hm9
                      rw [clr_at nw m m (Nat.le_refl _)] at q1
                      have q2 := hq.n.fz m
                      have q3 := hq.n.lt
                      by_cases hne : nw.getD m [] = []
                      · rw [hne] at q1
                        have HM := hide (show Lst w D w3.heap.size (w3.heap.size + 1) d5 vw5 V (mrg la nw (m + 1)) (clr nw (m + 1)) (wr.setCell ⟨w3.heap.size + 1, m, none⟩ (S [])) from by
                          have e : mrg la nw (m + 1) = mrg la nw m := by show (if _ then _ else _) = _; rw [if_pos hne]
                          rw [e]
                          exact hq.setN m [])
                        clear hq
                        go_wp2
                        go_round
                        case measure => simp [Go.RowKit.intOf]; omega
                        case rel => exact ⟨m + 1, by omega, by simp, unhide HM⟩
                      · have hq2 := hq.setA m (nw.getD m [])
                        have p1 := hq.a.at m hm9
                        have p2 := hq.a.fz m
                        have p3 := hq.a.lt
                        have HM := hide (show Lst w D w3.heap.size (w3.heap.size + 1) d5 vw5 V (mrg la nw (m + 1)) (clr nw (m + 1)) ((wr.setCell ⟨w3.heap.size, m, none⟩ (S (nw.getD m []))).setCell ⟨w3.heap.size + 1, m, none⟩ (S [])) from by
                          have e : mrg la nw (m + 1) = (mrg la nw m).set m (nw.getD m []) := by show (if _ then _ else _) = _; rw [if_neg hne]
                          rw [e]
                          exact hq2.setN m [])
                        have q4 := hq2.n.at m hm9
                        rw [clr_at nw m m (Nat.le_refl _)] at q4
                        have q5 := hq2.n.fz m
                        have q6 := hq2.n.lt
                        generalize (mrg la nw m).getD m [] = om at p1
                        generalize nw.getD m [] = tx at *
                        obtain ⟨t0, tr, rfl⟩ : ∃ t0 tr, tx = t0 :: tr := by
                          cases tx with
                          | nil => exact absurd rfl hne
                          | cons a b => exact ⟨a, b, rfl⟩
                        clear hq hq2 hne
                        go_wp2
                        go_round
                        case measure => simp [Go.RowKit.intOf]; omega
                        case rel => exact ⟨m + 1, by omega, by simp, unhide HM⟩
                    · have hm9' : ¬ (m : Int) < 9 := by omega
                      obtain rfl : m = 9 := by omega
                      have HQ := hide hq
                      clear hq
                      go_wp2
                      go_roundw
                      case measure => simp [Go.RowKit.intOf]; omega
                      case rel => exact ⟨k + 1, d5, vw5, _, _, by omega, by simp, by simp, unhide HQ, unhide HG2, unhide HA2⟩
            | false =>
              have HBk := hide (fun W => block_any cc W)
              have hblk := blkv_len cc
              generalize blkv cc = bk at *
              have hr0 : reachv d (bb : Int) = 0 := by
                unfold reachv
                rw [hv.live, hg.ls, hg.la9]
                simp
                omega
              by_cases hf : d.fuse = 1
              · have ha := hv.die hf
                have e1 : writev d (bb : Int) bk = 2 := by
                  unfold writev
                  rw [if_neg (by simpa using hblk), if_neg (by simpa using hr0), ha.1]
                have e2 : d.write (bb : Int) bk = { d with dead := true } := by
                  unfold Ds.write
                  rw [if_neg (by simpa using hblk), if_neg (by simpa using hr0), if_pos (by rw [ha.1]; decide), ha.2.1]
                have HDie := hide ha.2.2
                have HS := hide (fun (W : World) (b : Below wr.heap.size wr W) => write_any (hl.dat.below b) hg.ok hact (bb : Int) bk)
                rw [e1, e2] at HS
                clear hl hg hv hact ha e1 e2 hf hr0
                go_wp2_with fail
                refine (unhide HPk _).mono ?_
                rintro e w5 ⟨rfl, hw5⟩
                rw [hw5]
                clear hw5 w5
                go_wp2_with fail
                refine (unhide HBk _).mono ?_
                rintro e w4 ⟨rfl, b4⟩
                have HLb := hide ((unhide HL).below b4)
                have HS4 := hide (unhide HS w4 b4)
                clear b4
                go_wp2_with fail
                refine (unhide HS4).mono ?_
                clear HS4
                rintro e w5 ⟨rfl, vw5, h5, o5, n5⟩
                have hl5 := (unhide HLb).step (P := fun k => k = D ∨ vw.ownBlock = some k) (fun k q => q.imp id (fun r => Or.inl r)) h5 o5 n5
                have HZ := hide (dead_any hl5.dat)
                have HL5 := hide hl5
                have HGT := hide (unhide HG).1.die
                have hki : (k : Int) = (n : Int) - 1 := (unhide HDie)
                clear hl5 h5 o5 n5 HL HLb HG HS
                go_wp2_with fail
                refine (unhide HZ).mono ?_
                rintro e w6 ⟨rfl, hw6⟩
                rw [hw6]
                clear hw6 w6 HZ
                generalize ({ d with dead := true } : Ds) = d at *
                generalize vw5 = vw at *
                generalize w5 = wr at *
                have H38 := hide (acts_any (unhide HL5).dat)
                rw [(unhide HGT).acts] at H38
                have hok := (unhide HGT).ok
                have h40 := pending_any (unhide HL5).dat hok
                rw [(unhide HGT).ws] at h40
                have H40 := hide h40
                clear h40
                go_wp2_with fail
                refine (unhide H38).mono ?_
                rintro e w6 ⟨rfl, hw6⟩
                rw [hw6]
                clear hw6 w6 H38
                go_wp2_with fail
                refine (unhide H40).mono ?_
                rintro e w7 ⟨VP, rfl, r7, n7, b7⟩
                have hl7 := (unhide HL5).below b7
                have HLA := hide (unhide HGT).la9
                have a0 := hl7.a.at 0 (by omega)
                have a1 := hl7.a.at 1 (by omega)
                have a2 := hl7.a.at 2 (by omega)
                have a3 := hl7.a.at 3 (by omega)
                have a4 := hl7.a.at 4 (by omega)
                have a5 := hl7.a.at 5 (by omega)
                have a6 := hl7.a.at 6 (by omega)
                have a7 := hl7.a.at 7 (by omega)
                have a8 := hl7.a.at 8 (by omega)
                have al := hl7.a.lt
                have HL7 := hide n7
                obtain ⟨pP, cP, rfl⟩ := owns_form r7
                have ht0 := tl_start hl7 r7 (unhide HLA)
                rw [← nine_cells (unhide HLA)] at ht0
                have HT0 := hide ht0
                clear hl7 b7 r7 n7 HL5 H40 ht0 HL7
                generalize la.getD 0 [] = y0 at a0 HT0
                generalize la.getD 1 [] = y1 at a1 HT0
                generalize la.getD 2 [] = y2 at a2 HT0
                generalize la.getD 3 [] = y3 at a3 HT0
                generalize la.getD 4 [] = y4 at a4 HT0
                generalize la.getD 5 [] = y5 at a5 HT0
                generalize la.getD 6 [] = y6 at a6 HT0
                generalize la.getD 7 [] = y7 at a7 HT0
                generalize la.getD 8 [] = y8 at a8 HT0
                go_wp2
                go_loopw [20, 21, 23] (fun s20 s21 s23 wq => ∃ m : Nat, m ≤ 9 ∧ s23 = .int .i64 m ∧ s20 = .int .i64 (pnd nw m).length ∧ Tl w D w3.heap.size (w3.heap.size + 1) w7.heap.size d vw V (.slice pP (pnd nw 9).length cP) s21 la nw (wnt la nw ss m) (ks ss (min (pnd nw m).length ss.length)) wq) (fun _ _ s23 _ => 9 - (Go.RowKit.intOf s23).toNat)
                case atStart => exact ⟨0, by omega, rfl, rfl, by
                  have h := unhide HT0
                  have e : ks ss (min (pnd nw 0).length ss.length) = [] := by simp [ks, pnd]
                  rw [e]
                  exact h⟩
                case round =>
                  clear HT0 a0 a1 a2 a3 a4 a5 a6 a7 a8 al
                  obtain ⟨m, hm, rfl, rfl, hq⟩ := hrel
                  obtain ⟨pK, cK, rfl⟩ := owns_form hq.k
                  rw [ks_len] at *
                  by_cases hm9 : m < 9
                  · have hm9' : (m : Int) < 9 := by omega
                    have q1 := hq.l.n.at m hm9
                    have q3 := hq.l.n.lt
                    by_cases hne : nw.getD m [] = []
                    · have HM := hide hq
                      have e1 : pnd nw (m + 1) = pnd nw m := by show (if _ then _ else _) = _; rw [if_pos hne]
                      have e2 : wnt la nw ss (m + 1) = wnt la nw ss m := by show (if _ then _ else _) = _; rw [if_pos hne]
                      have HE := hide (And.intro e1 e2)
                      rw [hne] at q1
                      clear hq e1 e2
                      go_wp2
                      go_roundw
                      case measure => simp [Go.RowKit.intOf]; omega
                      case rel => exact ⟨m + 1, by omega, by simp, by rw [(unhide HE).1], by rw [(unhide HE).1, (unhide HE).2]; exact unhide HM⟩
                    · obtain ⟨g1, g2⟩ := pnd_get nw m 9 hm9 hne
                      have e1 : (pnd nw (m + 1)).length = (pnd nw m).length + 1 := by
                        show (if _ then _ else _ : List Wr).length = _
                        rw [if_neg hne]
                        simp
                      have e2 : wnt la nw ss (m + 1) = if (pnd nw m).length < ss.length then (wnt la nw ss m).set m (tornv (la.getD m []) (nw.getD m []) (pkv (ss.getD (pnd nw m).length 0) 256)) else wnt la nw ss m := by show (if _ then _ else _) = _; rw [if_neg hne]
                      obtain ⟨gP, cP', curP, eP, _⟩ := owns_at hq.p (by omega)
                      cases eP
                      have z := cellsW_at (pnd nw 9) _ g1
                      rw [g2] at z
                      have hal : (nw.getD m []).length = 512 := ((unhide HGT).txt m).resolve_left hne
                      have hll : (la.getD m []).length = 512 := by
                        rw [← (unhide HGT).ls]
                        exact (unhide HGT).ok.sz _ (mem_getD (by rw [(unhide HGT).ls, unhide HLA]; exact hm9))
                      have HZ := hide (And.intro z.1 z.2)
                      have HM := hide hq
                      have HE := hide (And.intro e1 e2)
                      have ha9 := pnd_le nw m
                      have HSc := hide (fun (W : World) (b : Below w.heap.size w W) (h : (pnd nw m).length < ss.length) => ((unhide HSs).below b).at h)
                      have HSi := hide (fun (h : (pnd nw m).length < ss.length) => hsi _ (mem_getD (z := 0) h))
                      have g1' : ((pnd nw m).length : Int) < ((pnd nw 9).length : Int) := by omega
                      have HT4 := hide (fun (W : World) (s : Nat) (hs : s < 256) => lawTorn_any (la.getD m []) (nw.getD m []) s W hll hal hs)
                      have HXl := hide (rfl : la.getD m [] = la.getD m [])
                      clear hq z e1 e2 g2 hal hll
                      obtain ⟨aa, haa⟩ : ∃ aa, aa = (pnd nw m).length := ⟨_, rfl⟩
                      obtain ⟨ln, hln⟩ : ∃ ln, ln = (pnd nw 9).length := ⟨_, rfl⟩
                      obtain ⟨tx, htx⟩ : ∃ tx, tx = nw.getD m [] := ⟨_, rfl⟩
                      rw [← haa] at HM HE ha9 HSc HSi g1' g1 HZ ⊢
                      rw [← hln] at HM g1' g1 ⊢
                      rw [← htx] at q1 hne HZ HE HT4
                      have HHH := hide (And.intro haa (And.intro hln htx))
                      clear haa hln htx
                      obtain ⟨c0, tr, rfl⟩ : ∃ c0 tr, tx = c0 :: tr := by
                        cases tx with
                        | nil => exact absurd rfl hne
                        | cons a b => exact ⟨a, b, rfl⟩
                      clear hne
                      go_wp2
                      refine rla gP ln cP aa m (w3.heap.size + 1) (c0 :: tr) rfl rfl rfl _ _ (show 180 ≤ 299 from by decide) rfl rfl rfl rfl (fun _ W => Tl w D w3.heap.size (w3.heap.size + 1) w7.heap.size d vw V (.slice (some ⟨gP, 0, none⟩) ln cP) (.slice pK (min aa ss.length) cK) la nw (wnt la nw ss m) (ks ss (min aa ss.length)) W) ?_ (fun _ _ _ _ h => h) g1' (by omega) hm9 ?_ ?_ ?_
                      · exact (unhide HM).below (below_drew (Below.refl _ _))
                      · intro L W h
                        have hp := h.p
                        rw [← (unhide HHH).2.1] at hp
                        rw [Nat.zero_add]
                        exact ⟨owns_cell hp _ _ (unhide HZ).1, owns_cell hp _ _ (unhide HZ).2⟩
                      · intro L W h
                        rw [Nat.zero_add, (unhide HHH).2.2]
                        exact h.l.n.at m hm9
                      intro L w9 _ hq9
                      have HQ9 := hide hq9
                      clear hq9 HM q1 q3
                      simp only [Act.put, List.setIfInBounds_toArray, List.set_cons_succ, List.set_cons_zero]
                      by_cases hsl : aa < ss.length
                      · have hsl' : (aa : Int) < (ss.length : Int) := by omega
                        obtain ⟨gs, os, rfl, hgs, cs0⟩ := unhide HSc w9 (unhide HQ9).l.bel hsl
                        have hsr := unhide HSi hsl
                        have e2 := (unhide HE).2
                        rw [if_pos hsl] at e2
                        have HE2 := hide e2
                        generalize hgv : ss.getD aa 0 = sv at cs0 hsr HE2 e2
                        have HPc := hide (fun W => pick_any sv 256 W (by omega) (by omega) hsr.1 hsr.2)
                        have hs9 := pkv_lt sv 256 (by omega)
                        generalize hsv : pkv sv 256 = s9 at HPc hs9 HE2 e2
                        have HGV := hide (And.intro hgv hsv)
                        clear e2 hgv hsv
                        go_wp2_with fail
                        refine (unhide HPc _).mono ?_
                        rintro e w10 ⟨rfl, hw10⟩
                        rw [hw10]
                        clear hw10 w10
                        go_wp2_with (first
                          | (refine wp_pushK (x := ((aa : Int), (s9 : Int))) rfl (.tmp 189) (.tmp 193) rfl rfl rfl (unhide HQ9) (by rw [ks_len]; omega) ?_; rintro V10 w10 ⟨pV, nV, cV, rfl⟩ hq10; have HQ10 := hide hq10; clear hq10)
                          | fail)
                        refine rlb w3.heap.size (w3.heap.size + 1) w7.heap.size m s9 (la.getD m []) (c0 :: tr) (tornv (la.getD m []) (c0 :: tr) s9) rfl rfl rfl _ _ (show 205 ≤ 299 from by decide) rfl rfl rfl rfl rfl (fun L W => Tl w D w3.heap.size (w3.heap.size + 1) w7.heap.size d vw V (.slice (some ⟨gP, 0, none⟩) ln cP) (.slice pV nV cV) la nw (if L 10 then (wnt la nw ss m).set m (tornv (la.getD m []) (c0 :: tr) s9) else wnt la nw ss m) (ks ss (min aa ss.length) ++ [((aa : Int), (s9 : Int))]) W) ?_ ?_ hm9 ?_ hm9 ?_ ?_ hm9 ?_ ?_
                        · exact (unhide HQ10).below (below_drew (Below.refl _ _))
                        · intro i hi L W h
                          have e : upd L i 10 = L 10 := by
                            have : i ≠ 10 := by rintro rfl; simp at hi
                            simp [upd, Ne.symm this]
                          simpa only [e] using h
                        · intro L W h
                          rw [Nat.zero_add]
                          exact h.l.a.at m hm9
                        · intro L W h
                          rw [Nat.zero_add, (unhide HHH).2.2]
                          exact h.l.n.at m hm9
                        · intro L W h _
                          refine (unhide HT4 W s9 hs9).mono ?_
                          rintro e w' ⟨rfl, hw⟩
                          rw [hw]
                          have e : upd L 8 10 = L 10 := by simp [upd]
                          exact ⟨rfl, by simpa only [e] using h⟩
                        · intro L W h h10 h8 h9
                          rw [Nat.zero_add]
                          have e10 : upd L 10 10 = true := by simp [upd]
                          simp only [h10, Bool.false_eq_true, if_false] at h
                          refine ⟨?_, ⟨_, h.t.at m hm9⟩, h.t.fz m⟩
                          simp only [e10, if_true]
                          exact h.setT m _
                        intro L w11 hall hq11
                        have h10 := hall 10 (by omega)
                        simp only [h10, if_true] at hq11
                        have HQ11 := hide hq11
                        clear hq11 hall h10 HQ10 HQ9
                        simp only [Act.put, List.setIfInBounds_toArray, List.set_cons_succ, List.set_cons_zero]
                        go_wp2
                        go_roundw
                        case measure => simp [Go.RowKit.intOf]; omega
                        case rel => exact ⟨m + 1, by omega, by simp, by rw [(unhide HE).1]; simp, by
                          rw [(unhide HE).1, unhide HE2]
                          have h := unhide HQ11
                          rw [show min aa ss.length = aa by omega] at h
                          rw [show min (aa + 1) ss.length = aa + 1 by omega, ks_next, (unhide HGV).1, (unhide HGV).2]
                          exact h⟩
                      · have hsl' : ¬ (aa : Int) < (ss.length : Int) := by omega
                        have e2 := (unhide HE).2
                        rw [if_neg hsl] at e2
                        have HE2 := hide e2
                        clear e2
                        go_wp2
                        go_roundw
                        case measure => simp [Go.RowKit.intOf]; omega
                        case rel => exact ⟨m + 1, by omega, by simp, by rw [(unhide HE).1]; simp, by
                          rw [(unhide HE).1, unhide HE2]
                          have h := unhide HQ9
                          rw [show min (aa + 1) ss.length = min aa ss.length by omega]
                          exact h⟩
                  · have hm9' : ¬ (m : Int) < 9 := by omega
                    obtain rfl : m = 9 := by omega
                    have h55 := blocks_any hq.l.dat (fun x hx => by have := (unhide HGT).ok.sz x hx; omega) (by rw [(unhide HGT).ls, unhide HLA]; omega)
                    rw [(unhide HGT).ls] at h55
                    have H55 := hide h55
                    have HQ := hide hq
                    clear hq h55
                    have cl := crash_law ss (unhide HGT)
                    obtain ⟨d', hd'⟩ : ∃ d' : Ds, d' = { ws := [], last := wnt la nw ss 9, fuse := 0, dead := false, acts := k } := ⟨_, rfl⟩
                    rw [← hd'] at cl
                    have CL := hide cl
                    have D1 : d'.ws = [] := by rw [hd']
                    have D2 : d'.dead = false := by rw [hd']
                    have D3 : d'.last = wnt la nw ss 9 := by rw [hd']
                    have D4 : d'.acts = k := by rw [hd']
                    have HD := hide (And.intro D1 (And.intro D2 (And.intro D3 D4)))
                    clear D1 D2 D3 D4 hd' cl
                    go_wp2_with fail
                    refine (unhide H55).mono ?_
                    rintro e w8 ⟨VB, rfl, r8, n8, b8⟩
                    obtain ⟨pB, cB, rfl, s8, -⟩ := Sts.of r8
                    have HLd := hide (load_any pB la.length cB la w8 s8 (by rw [unhide HLA]; omega))
                    have X8 := hide ((unhide HQ).below b8)
                    clear r8 n8 b8 s8 HQ H55
                    go_wp2_with fail
                    refine (unhide HLd).mono ?_
                    rintro e w9 (⟨h0, -⟩ | ⟨-, C, VC, rfl, hc9, nc9, b9⟩)
                    · exact absurd (load_zero (unhide HGT)) h0
                    have hT9 := (unhide X8).below b9
                    obtain ⟨pK', cK', eK, hK⟩ := kls_of hT9.k
                    rw [ks_len] at eK hK
                    cases eK
                    have h58 := crash_any hT9.l.dat (unhide HGT).ok pK _ cK _ hK (by omega) (fun st hs i => by rw [(unhide CL).1] at hs; cases hs; exact stv_small _ _ _ _)
                    rw [(unhide CL).2.1, (unhide CL).2.2.1] at h58
                    have H58 := hide h58
                    have X9 := hide (And.intro b9 (And.intro hc9 nc9))
                    clear h58 hT9 b9 hc9 nc9 hK HLd
                    have HOk := hide (unhide CL).2.2.2
                    have HOc := hide (ok_new (unhide HGT))
                    have HXA := hide (And.intro (unhide HLA) (unhide CL).2.2.2.2)
                    generalize (pnd nw 9).length = ln at *
                    generalize min ln ss.length = lk at *
                    go_wp2_with fail
                    refine (unhide H58).mono ?_
                    rintro e w10 ⟨rfl, vw10, h10, o10, -⟩
                    have hF := fin_start (unhide X8) (unhide X9).1 (unhide X9).2.1 (unhide X9).2.2 h10 o10
                    have HF := hide hF
                    have h59 := dead_any hF.dat
                    rw [(unhide HD).2.1] at h59
                    have H59 := hide h59
                    have h60 := pending_any hF.dat (unhide HOk).1
                    rw [(unhide HD).1] at h60
                    have H60 := hide h60
                    clear h59 h60 hF h10 o10 X8 X9 H58
                    go_wp2_with fail
                    refine (unhide H59).mono ?_
                    rintro e w11 ⟨rfl, hw11⟩
                    rw [hw11]
                    clear hw11 w11 H59
                    go_wp2_with fail
                    refine (unhide H60).mono ?_
                    rintro e w11 ⟨VQ, rfl, r11, -, b11⟩
                    obtain ⟨pQ, cQ, rfl⟩ := owns_form r11
                    have hF11 := (unhide HF).below b11
                    have h61 := acts_any hF11.dat
                    rw [(unhide HD).2.2.2] at h61
                    have H61 := hide h61
                    have h62 := blocks_any hF11.dat (fun x hx => by have := (unhide HOk).1.sz x hx; omega) (by rw [(unhide HD).2.2.1, (unhide HXA).2]; omega)
                    rw [(unhide HD).2.2.1, (unhide HXA).2] at h62
                    have H62 := hide h62
                    have HF11 := hide hF11
                    clear h61 h62 hF11 r11 b11 HF H60
                    go_wp2_with fail
                    refine (unhide H61).mono ?_
                    rintro e w12 ⟨rfl, hw12⟩
                    rw [hw12]
                    clear hw12 w12 H61
                    go_wp2_with fail
                    refine (unhide H62).mono ?_
                    rintro e w12 ⟨VB2, rfl, r12, -, b12⟩
                    obtain ⟨gb, cb, cur12, rfl, _⟩ := owns_at r12 (by omega)
                    have HF12 := hide (And.intro ((unhide HF11).below b12) r12)
                    clear r12 b12 HF11 H62
                    go_wp2
                    go_loopw [29] (fun s29 wq => ∃ m : Nat, m ≤ 9 ∧ s29 = .int .i64 m ∧ Fin w D C w3.heap.size w7.heap.size d' vw10 V VC la (wnt la nw ss 9) wq ∧ wq.ownsRow 0 9 1 (.slice (some ⟨gb, 0, none⟩) 9 cb) 9 ((wnt la nw ss 9).map S)) (fun s29 _ => 9 - (Go.RowKit.intOf s29).toNat)
                    case atStart => exact ⟨0, by omega, rfl, (unhide HF12).1, (unhide HF12).2⟩
                    case round =>
                      clear HF12
                      obtain ⟨m, hm, rfl, hq, hr⟩ := hrel
                      by_cases hm9 : m < 9
                      · have hm9' : (m : Int) < 9 := by omega
                        have h65 := read_any hq.dat (unhide HOk).1 (m : Int)
                        obtain ⟨k1, k2⟩ := read_plain (unhide HD).1 (unhide HD).2.1 m (by rw [(unhide HD).2.2.1, (unhide HXA).2]; exact hm9)
                        rw [k1, k2, (unhide HD).2.2.1] at h65
                        have H65 := hide h65
                        have HQ := hide (And.intro hq hr)
                        clear h65 k1 k2 hq hr
                        go_wp2_with fail
                        refine (unhide H65).mono ?_
                        rintro e w13 ⟨rfl, b13⟩
                        have hq13 := (unhide HQ).1.below b13
                        have h66 := read_any hq13.c (unhide HOc) (m : Int)
                        obtain ⟨k1, k2⟩ := read_plain (d := Ds.new la) rfl rfl m (by show m < la.length; rw [(unhide HXA).1]; exact hm9)
                        rw [k1, k2, show (Ds.new la).last = la from rfl] at h66
                        have H66 := hide h66
                        have HQ13 := hide (And.intro hq13 (owns_below (unhide HQ).2 b13))
                        clear h66 k1 k2 hq13 b13 HQ H65
                        go_wp2_with fail
                        refine (unhide H66).mono ?_
                        rintro e w14 ⟨rfl, b14⟩
                        have HQ14 := hide (And.intro ((unhide HQ13).1.below b14) (owns_below (unhide HQ13).2 b14))
                        clear b14 HQ13 H66
                        go_wp2
                        have HX := hide (And.intro (rfl : (wnt la nw ss 9).getD m [] = (wnt la nw ss 9).getD m []) (rfl : la.getD m [] = la.getD m []))
                        refine rlc gb cb w7.heap.size w3.heap.size m ((wnt la nw ss 9).getD m []) (la.getD m []) rfl rfl rfl _ _ (show 299 ≤ 299 from by decide) rfl rfl rfl rfl rfl rfl rfl rfl (fun _ W => Below w14.heap.size w14 W) (below_drew (Below.refl _ _)) (fun _ _ _ _ h => h) hm9 ?_ hm9 ?_ hm9 ?_ hm9 ?_ ?_
                        · intro L W h
                          rw [Nat.zero_add]
                          exact ((unhide HQ14).1.below h).t.at m hm9
                        · intro L W h
                          rw [Nat.zero_add]
                          exact owns_cell (owns_below (unhide HQ14).2 h) m _ (by rw [List.getElem?_map, List.getElem?_eq_getElem (by rw [(unhide HXA).2]; exact hm9), List.getD_eq_getElem?_getD, List.getElem?_eq_getElem (by rw [(unhide HXA).2]; exact hm9)]; rfl)
                        · intro L W h
                          rw [Nat.zero_add]
                          exact ((unhide HQ14).1.below h).t.at m hm9
                        · intro L W h
                          rw [Nat.zero_add]
                          exact ((unhide HQ14).1.below h).a.at m hm9
                        intro L w15 _ b15
                        have HQ15 := hide (And.intro ((unhide HQ14).1.below b15) (owns_below (unhide HQ14).2 b15))
                        clear b15 HQ14 HX
                        simp only [Act.put, List.setIfInBounds_toArray, List.set_cons_succ, List.set_cons_zero]
                        go_wp2
                        go_roundw
                        case measure => simp [Go.RowKit.intOf]; omega
                        case rel => exact ⟨m + 1, by omega, by simp, (unhide HQ15).1, (unhide HQ15).2⟩
                      · have hm9' : ¬ (m : Int) < 9 := by omega
                        have HZ9 := hide hq.bel
                        clear hq hr
                        go_wp2
                        go_ret
                        exact ⟨rfl, unhide HZ9⟩
              · have ha := hv.ok hf
                have e1 : writev d (bb : Int) bk = 0 := by
                  unfold writev
                  rw [if_neg (by simpa using hblk), if_neg (by simpa using hr0), ha.1]
                have e2 : d.write (bb : Int) bk = d.act.put bb bk := by
                  unfold Ds.write
                  rw [if_neg (by simpa using hblk), if_neg (by simpa using hr0), if_neg (by rw [ha.1]; simp)]
                  rfl
                have HS := hide (fun (W : World) (b : Below wr.heap.size wr W) => write_any (hl.dat.below b) hg.ok hact (bb : Int) bk)
                rw [e1, e2] at HS
                have HG2 := hide ((hg.acted hf).wrote hb9 hblk)
                have HA2 := hide (show Alv n (k + 1) (d.act.put bb bk) from ⟨ha.2.live, ha.2.fuse, ha.2.lt⟩)
                clear hl hg hv hact ha e1 e2 hf hr0 HG
                generalize d.act.put bb bk = d5 at *
                go_wp2_with fail
                refine (unhide HPk _).mono ?_
                rintro e w5 ⟨rfl, hw5⟩
                rw [hw5]
                clear hw5 w5
                go_wp2_with fail
                refine (unhide HBk _).mono ?_
                rintro e w4 ⟨rfl, b4⟩
                have HLb := hide ((unhide HL).below b4)
                have HS4 := hide (unhide HS w4 b4)
                clear b4
                go_wp2_with fail
                refine (unhide HS4).mono ?_
                rintro e w5 ⟨rfl, vw5, h5, o5, n5⟩
                have hl5 := (unhide HLb).step (P := fun k => k = D ∨ vw.ownBlock = some k) (fun k q => q.imp id (fun r => Or.inl r)) h5 o5 n5
                have c0' : w5.cell? ⟨gp, op + k * 3, none⟩ = some (.bool false) := (hl5.bel.cell (by exact hgw)).trans c0w
                have c2' : w5.cell? ⟨gp, op + k * 3 + 2, none⟩ = some (I cc) := (hl5.bel.cell (by exact hgw)).trans c2w
                have hpl5 : gp < w5.heap.size := Nat.lt_of_lt_of_le hgw hl5.bel.size
                have HL5 := hide hl5
                have hok := (unhide HA2).lt
                clear hl5 h5 o5 n5 HL HLb HS HS4 c0 c1 c2
                by_cases hn0 : n = 0
                · have hn2' : ¬ (0 : Int) < (n : Int) := by omega
                  clear hn0
                  go_wp2_with fail
                  refine (unhide HBk _).mono ?_
                  rintro e w7 ⟨rfl, b7⟩
                  have hl7 := (unhide HL5).below b7
                  have q1 := hl7.n.at bb hb9
                  have q2 := hl7.n.fz bb
                  have q3 := hl7.n.lt
                  have HM := hide (hl7.setN bb bk)
                  generalize nw.getD bb [] = om at q1
                  have hbb' : (bb : Int) < 9 := by omega
                  clear hl7 b7
                  go_wp2
                  go_roundw
                  case measure => simp [Go.RowKit.intOf]; omega
                  case rel => exact ⟨k + 1, d5, vw5, _, _, by omega, by simp, by simp, unhide HM, unhide HG2, unhide HA2⟩
                · have hn1 := hok hn0
                  have hn2' : (0 : Int) < (n : Int) := by omega
                  have hn3' : ¬ (n : Int) ≤ (k : Int) + 1 := by omega
                  go_wp2_with fail
                  refine (unhide HBk _).mono ?_
                  rintro e w7 ⟨rfl, b7⟩
                  have hl7 := (unhide HL5).below b7
                  have q1 := hl7.n.at bb hb9
                  have q2 := hl7.n.fz bb
                  have q3 := hl7.n.lt
                  have HM := hide (hl7.setN bb bk)
                  generalize nw.getD bb [] = om at q1
                  have hbb' : (bb : Int) < 9 := by omega
                  clear hl7 b7
                  go_wp2
                  go_roundw
                  case measure => simp [Go.RowKit.intOf]; omega
                  case rel => exact ⟨k + 1, d5, vw5, _, _, by omega, by simp, by simp, unhide HM, unhide HG2, unhide HA2⟩
          · have hlt' : ¬ (k : Int) < (puts.length : Int) := by omega
            have HL5 := hide hl
            have HGT := hide hg
            clear hl hg hv
            have H38 := hide (acts_any (unhide HL5).dat)
            rw [(unhide HGT).acts] at H38
            have hok := (unhide HGT).ok
            have h40 := pending_any (unhide HL5).dat hok
            rw [(unhide HGT).ws] at h40
            have H40 := hide h40
            clear h40
            go_wp2_with fail
            refine (unhide H38).mono ?_
            rintro e w6 ⟨rfl, hw6⟩
            rw [hw6]
            clear hw6 w6 H38
            go_wp2_with fail
            refine (unhide H40).mono ?_
            rintro e w7 ⟨VP, rfl, r7, n7, b7⟩
            have hl7 := (unhide HL5).below b7
            have HLA := hide (unhide HGT).la9
            have a0 := hl7.a.at 0 (by omega)
            have a1 := hl7.a.at 1 (by omega)
            have a2 := hl7.a.at 2 (by omega)
            have a3 := hl7.a.at 3 (by omega)
            have a4 := hl7.a.at 4 (by omega)
            have a5 := hl7.a.at 5 (by omega)
            have a6 := hl7.a.at 6 (by omega)
            have a7 := hl7.a.at 7 (by omega)
            have a8 := hl7.a.at 8 (by omega)
            have al := hl7.a.lt
            have HL7 := hide n7
            obtain ⟨pP, cP, rfl⟩ := owns_form r7
            have ht0 := tl_start hl7 r7 (unhide HLA)
            rw [← nine_cells (unhide HLA)] at ht0
            have HT0 := hide ht0
            clear hl7 b7 r7 n7 HL5 H40 ht0 HL7
            generalize la.getD 0 [] = y0 at a0 HT0
            generalize la.getD 1 [] = y1 at a1 HT0
            generalize la.getD 2 [] = y2 at a2 HT0
            generalize la.getD 3 [] = y3 at a3 HT0
            generalize la.getD 4 [] = y4 at a4 HT0
            generalize la.getD 5 [] = y5 at a5 HT0
            generalize la.getD 6 [] = y6 at a6 HT0
            generalize la.getD 7 [] = y7 at a7 HT0
            generalize la.getD 8 [] = y8 at a8 HT0
            go_wp2
            go_loopw [20, 21, 23] (fun s20 s21 s23 wq => ∃ m : Nat, m ≤ 9 ∧ s23 = .int .i64 m ∧ s20 = .int .i64 (pnd nw m).length ∧ Tl w D w3.heap.size (w3.heap.size + 1) w7.heap.size d vw V (.slice pP (pnd nw 9).length cP) s21 la nw (wnt la nw ss m) (ks ss (min (pnd nw m).length ss.length)) wq) (fun _ _ s23 _ => 9 - (Go.RowKit.intOf s23).toNat)
            case atStart => exact ⟨0, by omega, rfl, rfl, by
              have h := unhide HT0
              have e : ks ss (min (pnd nw 0).length ss.length) = [] := by simp [ks, pnd]
              rw [e]
              exact h⟩
            case round =>
              clear HT0 a0 a1 a2 a3 a4 a5 a6 a7 a8 al
              obtain ⟨m, hm, rfl, rfl, hq⟩ := hrel
              obtain ⟨pK, cK, rfl⟩ := owns_form hq.k
              rw [ks_len] at *
              by_cases hm9 : m < 9
              · have hm9' : (m : Int) < 9 := by omega
                have q1 := hq.l.n.at m hm9
                have q3 := hq.l.n.lt
                by_cases hne : nw.getD m [] = []
                · have HM := hide hq
                  have e1 : pnd nw (m + 1) = pnd nw m := by show (if _ then _ else _) = _; rw [if_pos hne]
                  have e2 : wnt la nw ss (m + 1) = wnt la nw ss m := by show (if _ then _ else _) = _; rw [if_pos hne]
                  have HE := hide (And.intro e1 e2)
                  rw [hne] at q1
                  clear hq e1 e2
                  go_wp2
                  go_roundw
                  case measure => simp [Go.RowKit.intOf]; omega
                  case rel => exact ⟨m + 1, by omega, by simp, by rw [(unhide HE).1], by rw [(unhide HE).1, (unhide HE).2]; exact unhide HM⟩
                · obtain ⟨g1, g2⟩ := pnd_get nw m 9 hm9 hne
                  have e1 : (pnd nw (m + 1)).length = (pnd nw m).length + 1 := by
                    show (if _ then _ else _ : List Wr).length = _
                    rw [if_neg hne]
                    simp
                  have e2 : wnt la nw ss (m + 1) = if (pnd nw m).length < ss.length then (wnt la nw ss m).set m (tornv (la.getD m []) (nw.getD m []) (pkv (ss.getD (pnd nw m).length 0) 256)) else wnt la nw ss m := by show (if _ then _ else _) = _; rw [if_neg hne]
                  obtain ⟨gP, cP', curP, eP, _⟩ := owns_at hq.p (by omega)
                  cases eP
                  have z := cellsW_at (pnd nw 9) _ g1
                  rw [g2] at z
                  have hal : (nw.getD m []).length = 512 := ((unhide HGT).txt m).resolve_left hne
                  have hll : (la.getD m []).length = 512 := by
                    rw [← (unhide HGT).ls]
                    exact (unhide HGT).ok.sz _ (mem_getD (by rw [(unhide HGT).ls, unhide HLA]; exact hm9))
                  have HZ := hide (And.intro z.1 z.2)
                  have HM := hide hq
                  have HE := hide (And.intro e1 e2)
                  have ha9 := pnd_le nw m
                  have HSc := hide (fun (W : World) (b : Below w.heap.size w W) (h : (pnd nw m).length < ss.length) => ((unhide HSs).below b).at h)
                  have HSi := hide (fun (h : (pnd nw m).length < ss.length) => hsi _ (mem_getD (z := 0) h))
                  have g1' : ((pnd nw m).length : Int) < ((pnd nw 9).length : Int) := by omega
                  have HT4 := hide (fun (W : World) (s : Nat) (hs : s < 256) => lawTorn_any (la.getD m []) (nw.getD m []) s W hll hal hs)
                  have HXl := hide (rfl : la.getD m [] = la.getD m [])
                  clear hq z e1 e2 g2 hal hll
                  obtain ⟨aa, haa⟩ : ∃ aa, aa = (pnd nw m).length := ⟨_, rfl⟩
                  obtain ⟨ln, hln⟩ : ∃ ln, ln = (pnd nw 9).length := ⟨_, rfl⟩
                  obtain ⟨tx, htx⟩ : ∃ tx, tx = nw.getD m [] := ⟨_, rfl⟩
                  rw [← haa] at HM HE ha9 HSc HSi g1' g1 HZ ⊢
                  rw [← hln] at HM g1' g1 ⊢
                  rw [← htx] at q1 hne HZ HE HT4
                  have HHH := hide (And.intro haa (And.intro hln htx))
                  clear haa hln htx
                  obtain ⟨c0, tr, rfl⟩ : ∃ c0 tr, tx = c0 :: tr := by
                    cases tx with
                    | nil => exact absurd rfl hne
                    | cons a b => exact ⟨a, b, rfl⟩
                  clear hne
                  go_wp2
                  refine rla gP ln cP aa m (w3.heap.size + 1) (c0 :: tr) rfl rfl rfl _ _ (show 180 ≤ 299 from by decide) rfl rfl rfl rfl (fun _ W => Tl w D w3.heap.size (w3.heap.size + 1) w7.heap.size d vw V (.slice (some ⟨gP, 0, none⟩) ln cP) (.slice pK (min aa ss.length) cK) la nw (wnt la nw ss m) (ks ss (min aa ss.length)) W) ?_ (fun _ _ _ _ h => h) g1' (by omega) hm9 ?_ ?_ ?_
                  · exact (unhide HM).below (below_drew (Below.refl _ _))
                  · intro L W h
                    have hp := h.p
                    rw [← (unhide HHH).2.1] at hp
                    rw [Nat.zero_add]
                    exact ⟨owns_cell hp _ _ (unhide HZ).1, owns_cell hp _ _ (unhide HZ).2⟩
                  · intro L W h
                    rw [Nat.zero_add, (unhide HHH).2.2]
                    exact h.l.n.at m hm9
                  intro L w9 _ hq9
                  have HQ9 := hide hq9
                  clear hq9 HM q1 q3
                  simp only [Act.put, List.setIfInBounds_toArray, List.set_cons_succ, List.set_cons_zero]
                  by_cases hsl : aa < ss.length
                  · have hsl' : (aa : Int) < (ss.length : Int) := by omega
                    obtain ⟨gs, os, rfl, hgs, cs0⟩ := unhide HSc w9 (unhide HQ9).l.bel hsl
                    have hsr := unhide HSi hsl
                    have e2 := (unhide HE).2
                    rw [if_pos hsl] at e2
                    have HE2 := hide e2
                    generalize hgv : ss.getD aa 0 = sv at cs0 hsr HE2 e2
                    have HPc := hide (fun W => pick_any sv 256 W (by omega) (by omega) hsr.1 hsr.2)
                    have hs9 := pkv_lt sv 256 (by omega)
                    generalize hsv : pkv sv 256 = s9 at HPc hs9 HE2 e2
                    have HGV := hide (And.intro hgv hsv)
                    clear e2 hgv hsv
                    go_wp2_with fail
                    refine (unhide HPc _).mono ?_
                    rintro e w10 ⟨rfl, hw10⟩
                    rw [hw10]
                    clear hw10 w10
                    go_wp2_with (first
                      | (refine wp_pushK (x := ((aa : Int), (s9 : Int))) rfl (.tmp 189) (.tmp 193) rfl rfl rfl (unhide HQ9) (by rw [ks_len]; omega) ?_; rintro V10 w10 ⟨pV, nV, cV, rfl⟩ hq10; have HQ10 := hide hq10; clear hq10)
                      | fail)
                    refine rlb w3.heap.size (w3.heap.size + 1) w7.heap.size m s9 (la.getD m []) (c0 :: tr) (tornv (la.getD m []) (c0 :: tr) s9) rfl rfl rfl _ _ (show 205 ≤ 299 from by decide) rfl rfl rfl rfl rfl (fun L W => Tl w D w3.heap.size (w3.heap.size + 1) w7.heap.size d vw V (.slice (some ⟨gP, 0, none⟩) ln cP) (.slice pV nV cV) la nw (if L 10 then (wnt la nw ss m).set m (tornv (la.getD m []) (c0 :: tr) s9) else wnt la nw ss m) (ks ss (min aa ss.length) ++ [((aa : Int), (s9 : Int))]) W) ?_ ?_ hm9 ?_ hm9 ?_ ?_ hm9 ?_ ?_
                    · exact (unhide HQ10).below (below_drew (Below.refl _ _))
                    · intro i hi L W h
                      have e : upd L i 10 = L 10 := by
                        have : i ≠ 10 := by rintro rfl; simp at hi
                        simp [upd, Ne.symm this]
                      simpa only [e] using h
                    · intro L W h
                      rw [Nat.zero_add]
                      exact h.l.a.at m hm9
                    · intro L W h
                      rw [Nat.zero_add, (unhide HHH).2.2]
                      exact h.l.n.at m hm9
                    · intro L W h _
                      refine (unhide HT4 W s9 hs9).mono ?_
                      rintro e w' ⟨rfl, hw⟩
                      rw [hw]
                      have e : upd L 8 10 = L 10 := by simp [upd]
                      exact ⟨rfl, by simpa only [e] using h⟩
                    · intro L W h h10 h8 h9
                      rw [Nat.zero_add]
                      have e10 : upd L 10 10 = true := by simp [upd]
                      simp only [h10, Bool.false_eq_true, if_false] at h
                      refine ⟨?_, ⟨_, h.t.at m hm9⟩, h.t.fz m⟩
                      simp only [e10, if_true]
                      exact h.setT m _
                    intro L w11 hall hq11
                    have h10 := hall 10 (by omega)
                    simp only [h10, if_true] at hq11
                    have HQ11 := hide hq11
                    clear hq11 hall h10 HQ10 HQ9
                    simp only [Act.put, List.setIfInBounds_toArray, List.set_cons_succ, List.set_cons_zero]
                    go_wp2
                    go_roundw
                    case measure => simp [Go.RowKit.intOf]; omega
                    case rel => exact ⟨m + 1, by omega, by simp, by rw [(unhide HE).1]; simp, by
                      rw [(unhide HE).1, unhide HE2]
                      have h := unhide HQ11
                      rw [show min aa ss.length = aa by omega] at h
                      rw [show min (aa + 1) ss.length = aa + 1 by omega, ks_next, (unhide HGV).1, (unhide HGV).2]
                      exact h⟩
                  · have hsl' : ¬ (aa : Int) < (ss.length : Int) := by omega
                    have e2 := (unhide HE).2
                    rw [if_neg hsl] at e2
                    have HE2 := hide e2
                    clear e2
                    go_wp2
                    go_roundw
                    case measure => simp [Go.RowKit.intOf]; omega
                    case rel => exact ⟨m + 1, by omega, by simp, by rw [(unhide HE).1]; simp, by
                      rw [(unhide HE).1, unhide HE2]
                      have h := unhide HQ9
                      rw [show min (aa + 1) ss.length = min aa ss.length by omega]
                      exact h⟩
              · have hm9' : ¬ (m : Int) < 9 := by omega
                obtain rfl : m = 9 := by omega
                have h55 := blocks_any hq.l.dat (fun x hx => by have := (unhide HGT).ok.sz x hx; omega) (by rw [(unhide HGT).ls, unhide HLA]; omega)
                rw [(unhide HGT).ls] at h55
                have H55 := hide h55
                have HQ := hide hq
                clear hq h55
                have cl := crash_law ss (unhide HGT)
                obtain ⟨d', hd'⟩ : ∃ d' : Ds, d' = { ws := [], last := wnt la nw ss 9, fuse := 0, dead := false, acts := k } := ⟨_, rfl⟩
                rw [← hd'] at cl
                have CL := hide cl
                have D1 : d'.ws = [] := by rw [hd']
                have D2 : d'.dead = false := by rw [hd']
                have D3 : d'.last = wnt la nw ss 9 := by rw [hd']
                have D4 : d'.acts = k := by rw [hd']
                have HD := hide (And.intro D1 (And.intro D2 (And.intro D3 D4)))
                clear D1 D2 D3 D4 hd' cl
                go_wp2_with fail
                refine (unhide H55).mono ?_
                rintro e w8 ⟨VB, rfl, r8, n8, b8⟩
                obtain ⟨pB, cB, rfl, s8, -⟩ := Sts.of r8
                have HLd := hide (load_any pB la.length cB la w8 s8 (by rw [unhide HLA]; omega))
                have X8 := hide ((unhide HQ).below b8)
                clear r8 n8 b8 s8 HQ H55
                go_wp2_with fail
                refine (unhide HLd).mono ?_
                rintro e w9 (⟨h0, -⟩ | ⟨-, C, VC, rfl, hc9, nc9, b9⟩)
                · exact absurd (load_zero (unhide HGT)) h0
                have hT9 := (unhide X8).below b9
                obtain ⟨pK', cK', eK, hK⟩ := kls_of hT9.k
                rw [ks_len] at eK hK
                cases eK
                have h58 := crash_any hT9.l.dat (unhide HGT).ok pK _ cK _ hK (by omega) (fun st hs i => by rw [(unhide CL).1] at hs; cases hs; exact stv_small _ _ _ _)
                rw [(unhide CL).2.1, (unhide CL).2.2.1] at h58
                have H58 := hide h58
                have X9 := hide (And.intro b9 (And.intro hc9 nc9))
                clear h58 hT9 b9 hc9 nc9 hK HLd
                have HOk := hide (unhide CL).2.2.2
                have HOc := hide (ok_new (unhide HGT))
                have HXA := hide (And.intro (unhide HLA) (unhide CL).2.2.2.2)
                generalize (pnd nw 9).length = ln at *
                generalize min ln ss.length = lk at *
                go_wp2_with fail
                refine (unhide H58).mono ?_
                rintro e w10 ⟨rfl, vw10, h10, o10, -⟩
                have hF := fin_start (unhide X8) (unhide X9).1 (unhide X9).2.1 (unhide X9).2.2 h10 o10
                have HF := hide hF
                have h59 := dead_any hF.dat
                rw [(unhide HD).2.1] at h59
                have H59 := hide h59
                have h60 := pending_any hF.dat (unhide HOk).1
                rw [(unhide HD).1] at h60
                have H60 := hide h60
                clear h59 h60 hF h10 o10 X8 X9 H58
                go_wp2_with fail
                refine (unhide H59).mono ?_
                rintro e w11 ⟨rfl, hw11⟩
                rw [hw11]
                clear hw11 w11 H59
                go_wp2_with fail
                refine (unhide H60).mono ?_
                rintro e w11 ⟨VQ, rfl, r11, -, b11⟩
                obtain ⟨pQ, cQ, rfl⟩ := owns_form r11
                have hF11 := (unhide HF).below b11
                have h61 := acts_any hF11.dat
                rw [(unhide HD).2.2.2] at h61
                have H61 := hide h61
                have h62 := blocks_any hF11.dat (fun x hx => by have := (unhide HOk).1.sz x hx; omega) (by rw [(unhide HD).2.2.1, (unhide HXA).2]; omega)
                rw [(unhide HD).2.2.1, (unhide HXA).2] at h62
                have H62 := hide h62
                have HF11 := hide hF11
                clear h61 h62 hF11 r11 b11 HF H60
                go_wp2_with fail
                refine (unhide H61).mono ?_
                rintro e w12 ⟨rfl, hw12⟩
                rw [hw12]
                clear hw12 w12 H61
                go_wp2_with fail
                refine (unhide H62).mono ?_
                rintro e w12 ⟨VB2, rfl, r12, -, b12⟩
                obtain ⟨gb, cb, cur12, rfl, _⟩ := owns_at r12 (by omega)
                have HF12 := hide (And.intro ((unhide HF11).below b12) r12)
                clear r12 b12 HF11 H62
                go_wp2
                go_loopw [29] (fun s29 wq => ∃ m : Nat, m ≤ 9 ∧ s29 = .int .i64 m ∧ Fin w D C w3.heap.size w7.heap.size d' vw10 V VC la (wnt la nw ss 9) wq ∧ wq.ownsRow 0 9 1 (.slice (some ⟨gb, 0, none⟩) 9 cb) 9 ((wnt la nw ss 9).map S)) (fun s29 _ => 9 - (Go.RowKit.intOf s29).toNat)
                case atStart => exact ⟨0, by omega, rfl, (unhide HF12).1, (unhide HF12).2⟩
                case round =>
                  clear HF12
                  obtain ⟨m, hm, rfl, hq, hr⟩ := hrel
                  by_cases hm9 : m < 9
                  · have hm9' : (m : Int) < 9 := by omega
                    have h65 := read_any hq.dat (unhide HOk).1 (m : Int)
                    obtain ⟨k1, k2⟩ := read_plain (unhide HD).1 (unhide HD).2.1 m (by rw [(unhide HD).2.2.1, (unhide HXA).2]; exact hm9)
                    rw [k1, k2, (unhide HD).2.2.1] at h65
                    have H65 := hide h65
                    have HQ := hide (And.intro hq hr)
                    clear h65 k1 k2 hq hr
                    go_wp2_with fail
                    refine (unhide H65).mono ?_
                    rintro e w13 ⟨rfl, b13⟩
                    have hq13 := (unhide HQ).1.below b13
                    have h66 := read_any hq13.c (unhide HOc) (m : Int)
                    obtain ⟨k1, k2⟩ := read_plain (d := Ds.new la) rfl rfl m (by show m < la.length; rw [(unhide HXA).1]; exact hm9)
                    rw [k1, k2, show (Ds.new la).last = la from rfl] at h66
                    have H66 := hide h66
                    have HQ13 := hide (And.intro hq13 (owns_below (unhide HQ).2 b13))
                    clear h66 k1 k2 hq13 b13 HQ H65
                    go_wp2_with fail
                    refine (unhide H66).mono ?_
                    rintro e w14 ⟨rfl, b14⟩
                    have HQ14 := hide (And.intro ((unhide HQ13).1.below b14) (owns_below (unhide HQ13).2 b14))
                    clear b14 HQ13 H66
                    go_wp2
                    have HX := hide (And.intro (rfl : (wnt la nw ss 9).getD m [] = (wnt la nw ss 9).getD m []) (rfl : la.getD m [] = la.getD m []))
                    refine rlc gb cb w7.heap.size w3.heap.size m ((wnt la nw ss 9).getD m []) (la.getD m []) rfl rfl rfl _ _ (show 299 ≤ 299 from by decide) rfl rfl rfl rfl rfl rfl rfl rfl (fun _ W => Below w14.heap.size w14 W) (below_drew (Below.refl _ _)) (fun _ _ _ _ h => h) hm9 ?_ hm9 ?_ hm9 ?_ hm9 ?_ ?_
                    · intro L W h
                      rw [Nat.zero_add]
                      exact ((unhide HQ14).1.below h).t.at m hm9
                    · intro L W h
                      rw [Nat.zero_add]
                      exact owns_cell (owns_below (unhide HQ14).2 h) m _ (by rw [List.getElem?_map, List.getElem?_eq_getElem (by rw [(unhide HXA).2]; exact hm9), List.getD_eq_getElem?_getD, List.getElem?_eq_getElem (by rw [(unhide HXA).2]; exact hm9)]; rfl)
                    · intro L W h
                      rw [Nat.zero_add]
                      exact ((unhide HQ14).1.below h).t.at m hm9
                    · intro L W h
                      rw [Nat.zero_add]
                      exact ((unhide HQ14).1.below h).a.at m hm9
                    intro L w15 _ b15
                    have HQ15 := hide (And.intro ((unhide HQ14).1.below b15) (owns_below (unhide HQ14).2 b15))
                    clear b15 HQ14 HX
                    simp only [Act.put, List.setIfInBounds_toArray, List.set_cons_succ, List.set_cons_zero]
                    go_wp2
                    go_roundw
                    case measure => simp [Go.RowKit.intOf]; omega
                    case rel => exact ⟨m + 1, by omega, by simp, (unhide HQ15).1, (unhide HQ15).2⟩
                  · have hm9' : ¬ (m : Int) < 9 := by omega
                    have HZ9 := hide hq.bel
                    clear hq hr
                    go_wp2
                    go_ret
                    exact ⟨rfl, unhide HZ9⟩
end Go.Proofs.Ytpelmacblglhoaa
