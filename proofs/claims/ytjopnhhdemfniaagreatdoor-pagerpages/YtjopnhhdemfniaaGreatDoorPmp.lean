import Derived.Test.YtjopnhhdemfniaaGreatDoorPmo
import Derived.Test.YtjopnhhdemfniaaGreatDoorPmn
import Derived.Test.YtjopnhhdemfniaaGreatDoorPml
namespace Go.Proofs.YtjopnhhdemfniaaGreatDoor
open Go.RowKit
set_option maxHeartbeats 8000000
set_option maxRecDepth 8000
theorem s_gtr (x y : Operand) (a b : Int) {w : World} : (do eqGuard .gtr 3 x y (I a) (I b); binOp .gtr 3 (I a) (I b) : Sem Value).run Tryz.prog w = .ok (.bool (decide (b < a))) w := by
  simp [go_sem, eqGuard]
theorem s_bs27 (v0 v1 v2 v3 v4 : Value) (W : World) : (Instr.buildSlice 27 2 #[(0, .agg #[v0, v1, v2, v3, v4]), (1, .agg #[v0, v1, v2, v3, v4])]).run Tryz.prog W = .ok (.slice (some ⟨W.heap.size, 0, none⟩) 2 2) (W.alloc (.cells (two5 v0 v1 v2 v3 v4) 24)) := by
  simp [go_sem, Tryz.zeroValue24, Tryz.sizeOf24, two5]
theorem owns_keep {w w' : World} {v : Value} {n : Nat} {xs : List Value} (h : w.ownsRow 0 3 1 v n xs) (k : KeepT w w') : w'.ownsRow 0 3 1 v n xs := by
  refine ⟨h.1, ?_⟩
  rcases h.2 with q | ⟨g, cap, cur, e1, e0, e2, e3⟩
  · exact .inl q
  · exact .inr ⟨g, cap, cur, e1, e0, k g cur 3 e2 (by decide) (by decide), e3⟩
theorem owns_none0 {w : World} {q : Option Addr} {n c : Nat} {xs : List Value} (h : w.ownsRow 0 3 1 (.slice q n c) n xs) : q = none → c = 0 := fun e => by
  rcases h.2 with ⟨e1, _⟩ | ⟨g, cp, cur, e1, _⟩
  · injection e1
  · injection e1 with e2 _ _
    rw [e] at e2
    cases e2
theorem pagerPages_any (p : Pg) (a : Option Addr) (cap : Nat) (s : Bs) (at_ by_ : Int) (w : World) (hl : Ins w a p.links.length p.links) (hnone : a = none → cap = 0) (hn : p.links.length ≤ 9223372036854775807) (hx : p.body.length ≤ 9223372036854775807) (hs : s.length ≤ 9223372036854775807)
    (hk : -9223372036854775808 ≤ p.kind ∧ p.kind ≤ 9223372036854775807) (hm : -9223372036854775808 ≤ p.number ∧ p.number ≤ 9223372036854775807) (hb : -9223372036854775808 ≤ p.birth ∧ p.birth ≤ 9223372036854775807) (hz : ∀ z ∈ p.links, -9223372036854775808 ≤ z ∧ z ≤ 9223372036854775807) (ha : -9223372036854775808 ≤ at_ ∧ at_ ≤ 9223372036854775807) :
    Calls Tryz.prog 3 #[pga p a cap, S s, I at_, I by_] w fun e w' => e = .returned (.bool true) ∧ Below w.heap.size w w' := by
  have hg := heap_alloc_new w (.cells (pgc p a cap) 24)
  have b1 := (Below.refl w.heap.size w).alloc (Nat.le_refl _) (.cells (pgc p a cap) 24)
  have s1 : (w.alloc (.cells (pgc p a cap) 24)).heap.size = w.heap.size + 1 := by simp
  have HY := hide hg
  have HB1 := hide b1
  have HS1 := hide s1
  have HI1 := hide (hl.below b1)
  have bd1 := addv_nn (n := (s.length : Int)) (m := (s.length : Int)) (by omega) (by omega)
  have bd2 := wtv_bd p
  have A1 := hide (fun W => add2_any (s.length : Int) (s.length : Int) W (by omega) (by omega) (by omega) (by omega))
  have A2 := hide (fun W => add2_any (addv (s.length : Int) (s.length : Int)) (wtv p) W (by omega) (by omega) (by omega) (by omega))
  have HWT := hide (fun W g q => weight_any p a cap g W q hn hx)
  have HSM := hide (show addv (addv (s.length : Int) (s.length : Int)) (wtv p) ≤ 2147483647 → s.length ≤ 2147483647 ∧ p.body.length ≤ 2147483647 ∧ p.links.length ≤ 134217728 from fun q => by
    have q1 := addv_le q
    have q2 := wtv_few p (by omega)
    have q3 := addv_le (show addv (s.length : Int) (s.length : Int) ≤ 2147483647 by omega)
    omega)
  have KP := hide (fun (B b : Nat) (E : List En) (vF vW : Value) (W : World) (h : Bok B b E vF vW W) (i : Ins W a p.links.length p.links) (h1 : p.links.length ≤ 1000000000) (h2 : p.body.length ≤ 1000000000000) (h3 : E.length ≤ 1000) => page_any h p a cap i hnone h1 h2 h3)
  have KF := hide (fun W (i : Ins W a p.links.length p.links) (h1 : p.links.length ≤ 1000000000000) (h2 : p.body.length ≤ 1000000000000) => fitted_any p a cap W i h1 h2 hk hm hb hz)
  have hmay := fit_may p
  have hfr := Pg.fresh_room (Pg.may_fresh hmay)
  have hbl := Pg.blk_len hmay
  have hprn : prn (fit p) = ((fit p).blk, 0) := by unfold prn; rw [if_pos hmay]
  have HFR := hide hfr
  have HBL := hide hbl
  have HPRN := hide hprn
  have KR := hide (fun W q c i h1 h2 => rPrintPage_any (fit p) q c W i h1 h2)
  have KP2 := hide (fun (B b : Nat) (E : List En) (vF vW : Value) (W : World) (h : Bok B b E vF vW W) q c (i : Ins W q (fit p).links.length (fit p).links) (h0 : q = none → c = 0) h1 h2 (h3 : E.length ≤ 1000) => page_any h (fit p) q c i h0 h1 h2 h3)
  clear hg b1 s1 hl hnone hk hm hb hz hmay hfr hbl hprn bd1 bd2
  rw [unhide HPRN] at KR
  generalize (fit p).blk = BK at *
  generalize fit p = F at *
  generalize addv (s.length : Int) (s.length : Int) = u1 at *
  generalize wtv p = wt at *
  generalize addv u1 wt = u2 at *
  have BN := hide (fun W => bent_any BK at_ by_ W ha.1 ha.2 (by have := unhide HBL; omega))
  have P4 := hide (fun W => pick_any at_ 20 W (by omega) (by omega) ha.1 ha.2)
  have pl4 := pkv_lt at_ 20 (by omega)
  have BN4 := hide (fun W => bent_any BK (pkv at_ 20 : Nat) by_ W (by omega) (by omega) (by have := unhide HBL; omega))
  have P5 := hide (fun W => pick_any at_ 513 W (by omega) (by omega) ha.1 ha.2)
  have pl5 := pkv_lt at_ 513 (by omega)
  have HSL := hide (fun W => sliceTo BK (pkv at_ 513) (by have := unhide HBL; omega) W)
  generalize pkv at_ 20 = p4 at *
  generalize pkv at_ 513 = p5 at *
  obtain ⟨k, m, b, l, x⟩ := p
  unfold pga pgc at *
  simp only at *
  clear pl4 pl5 ha hs hn hx
  go_enter Tryz.func3, Tryz.ntmps3
  go_upto_region 1 with fail
  generalize hWA : w.alloc (.cells #[I k, I m, I b, .slice a l.length cap, S x] 24) = WA at *
  clear hWA
  refine rpz1 w.heap.size s #[I k, I m, I b, .slice a l.length cap, S x] u1 wt u2 (decide (2147483647 < u2)) (by kernel_rfl) (by kernel_rfl) (by kernel_rfl) _ _ (by show 33 ≤ Array.size _; simp) rfl rfl (fun c L W => Below WA.heap.size WA W ∧ (L 7 = true → W.heap[c]? = some (.cells (two5 (I k) (I m) (I b) (.slice a l.length cap) (S x)) 24 (0, 0)))) ⟨0, (Below.refl _ _).drew, (fun q => nomatch q)⟩ ?_ ?_ ?_ ?_ ?_ ?_ ?_ ?_ ?_
  · intro i hi c L W hW
    simp only [List.mem_cons, List.not_mem_nil, or_false, not_or] at hi
    rw [upd_ne (Ne.symm hi.2.1)]
    exact hW
  · intro c L W hW _ _ _
    refine (unhide A1 W).mono ?_
    rintro e w' ⟨rfl, hw⟩
    rw [hw]
    exact ⟨c, fun _ _ => rfl, rfl, by rw [upd_ne (by decide)]; exact hW⟩
  · intro c L W hW _
    exact s_ldr Tryz.isAgg24 Tryz.sizeOf24 ((hW.1.block _ (lt_of_row (unhide HY))).trans (unhide HY)) [I k, I m, I b, .slice a l.length cap, S x] rfl rfl
  · intro c L W hW _
    exact s_ldr Tryz.isAgg24 Tryz.sizeOf24 ((hW.1.block _ (lt_of_row (unhide HY))).trans (unhide HY)) [I k, I m, I b, .slice a l.length cap, S x] rfl rfl
  · intro c L W hW hL _ _
    refine ⟨W.heap.size, _, fun j hj => ?_, s_bs27 _ _ _ _ _ W, hW.1.alloc hW.1.size _, fun _ => heap_alloc_new W _⟩
    unfold vrpz1
    split <;> first | rfl | (rw [hL] at hj; cases hj)
  · intro c L W hW _ h7
    refine (unhide HWT W c (hW.2 h7)).mono ?_
    rintro e w' ⟨rfl, q1⟩
    exact ⟨c, fun _ _ => rfl, rfl, hW.1.trans (q1.mono hW.1.size), fun _ => (q1.block c (lt_of_row (hW.2 h7))).trans (hW.2 h7)⟩
  · intro c L W hW _ _ _
    refine (unhide A2 W).mono ?_
    rintro e w' ⟨rfl, hw⟩
    rw [hw]
    exact ⟨c, fun _ _ => rfl, rfl, by rw [upd_ne (by decide)]; exact hW⟩
  · exact fun W => s_gtr _ _ _ _
  intro c L W1 _ hW
  have HB1' := hide ((unhide HB1).trans (hW.1.mono (by have := unhide HS1; omega)))
  have HI1' := hide ((unhide HI1).below hW.1)
  have HY1 := hide ((hW.1.block _ (lt_of_row (unhide HY))).trans (unhide HY))
  clear hW A1 A2 HWT
  simp only [Act.put, List.setIfInBounds_toArray, List.set_cons_succ, List.set_cons_zero]
  by_cases hbig : 2147483647 < u2
  · rw [decide_eq_true hbig]
    go_wp2
    go_ret
    exact ⟨rfl, unhide HB1'⟩
  · rw [decide_eq_false hbig]
    obtain ⟨hs2, hx2, hl2⟩ := unhide HSM (by omega)
    clear hbig HSM HY HB1 HI1
    go_wp2_with fail
    refine (awake_any _).mono ?_
    rintro e w2 ⟨rfl, b2⟩
    have HB2 := hide ((unhide HB1').trans (b2.mono (unhide HB1').size))
    have HI2 := hide ((unhide HI1').below b2)
    have HY2 := hide ((b2.block _ (lt_of_row (unhide HY1))).trans (unhide HY1))
    have HL2 := hide (lt_of_row (unhide HY2))
    clear b2 HI1' HY1 HB1'
    have hnew := Bok.new w2
    have hba := (Below.refl w2.heap.size w2).alloc (Nat.le_refl _) (.cells #[.slice none 0 0, .slice none 0 0, .slice none 0 0, .slice none 0 0, .slice none 0 0] 32)
    have HI3 := hide ((unhide HI2).below hba)
    have hy3 := (hba.block _ (unhide HL2)).trans (unhide HY2)
    obtain ⟨x0, x1, x2, x3, x4⟩ := box5 hy3 (Below.refl _ _) (lt_of_row hy3)
    have HN := hide (unhide KP _ _ _ _ _ _ hnew (unhide HI3) (by omega) (by omega) (by simp))
    have HBA := hide hba
    clear hnew hba hy3 KP
    go_wp2_with fail
    refine (unhide HN).mono ?_
    rintro e w3 ⟨rfl, E3, vF3, vW3, h3, n3, b3, k3⟩
    have hb3 := (unhide HBA).trans b3
    have HB3 := hide hb3
    have HI3' := hide ((unhide HI2).below hb3)
    have hy3 := (hb3.block _ (unhide HL2)).trans (unhide HY2)
    obtain ⟨y0, y1, y2, y3, y4⟩ := box5 hy3 (Below.refl _ _) (lt_of_row hy3)
    have HH3 := hide h3
    have HN3 := hide n3
    clear h3 n3 b3 k3 hb3 hy3 x0 x1 x2 x3 x4 HN HI3 HBA
    have KF' := hide (unhide KF w3 (unhide HI3') (by omega) (by omega))
    clear KF HI3' HI2
    go_wp2_with fail
    refine (unhide KF').mono ?_
    rintro e w4 ⟨q, c4, rfl, r4, b4⟩
    have f4' := owns_none0 r4
    have h3' := (unhide HH3).below b4
    have hb4 := (unhide HB3).trans (b4.mono (unhide HH3).lb.2)
    have HF4 := hide f4'
    have HR4 := hide r4
    have HH4 := hide h3'
    have HB4 := hide hb4
    clear f4' r4 h3' hb4 b4 y0 y1 y2 y3 y4 HH3 HB3 KF' HL2 HY2
    obtain ⟨k', m', b', l', x'⟩ := F
    simp only at *
    obtain ⟨f4, g4⟩ := box_fill w4 k' m' b' q l'.length c4 x'
    have HA4 := hide (heap_alloc_new w4 (.cells #[I 0, I 0, I 0, .slice none 0 0, .string ⟨#[]⟩] 24))
    have r4b := owns_below (unhide HR4) f4
    have h4b := (unhide HH4).below f4
    have HK2 := hide (unhide KP2 _ _ _ _ _ _ h4b q c4 (ins_of r4b) (unhide HF4) (by have := unhide HFR; omega) (by have := unhide HFR; omega) (by have := unhide HN3; simp only [List.length_nil] at this; omega))
    have HR4b := hide r4b
    have HG4 := hide g4
    have HB4b := hide ((unhide HB4).trans (f4.mono (unhide HH4).lb.2))
    clear f4 g4 r4b h4b KP2 HR4 HH4 HB4
    go_wp2_with (refine wp_st24 rfl (.tmp 12) (.tmp 40) rfl w4.heap.size (by rfl) k' m' b' q l'.length c4 x' (by rfl) _ rfl (unhide HA4) ?_; generalize (w4.alloc (.cells #[I 0, I 0, I 0, .slice none 0 0, .string ⟨#[]⟩] 24)).setRow w4.heap.size #[I k', I m', I b', .slice q l'.length c4, S x'] = w4b at *; obtain ⟨y0, y1, y2, y3, y4⟩ := box5 (unhide HG4) (Below.refl _ _) (lt_of_row (unhide HG4)))
    refine (unhide HK2).mono ?_
    rintro e w5 ⟨rfl, E5, vF5, vW5, h5, n5, b5, k5⟩
    have HR5 := hide (owns_keep (unhide HR4b) k5)
    have HG5 := hide (k5 _ _ _ (unhide HG4) (by decide) (by decide))
    have HB5 := hide ((unhide HB4b).trans b5)
    have HH5 := hide h5
    have HN5 := hide (show E5.length = 4 by have := unhide HN3; simp only [List.length_nil] at this; omega)
    clear h5 n5 b5 k5 HK2 HR4b HB4b HG4 HN3 HA4
    clear y0 y1 y2 y3 y4
    obtain ⟨y0, y1, y2, y3, y4⟩ := box5 (unhide HG5) (Below.refl _ _) (lt_of_row (unhide HG5))
    have KR' := hide (unhide KR w5 q c4 (ins_of (unhide HR5)) (by have := unhide HFR; omega) (by have := unhide HFR; omega))
    clear KR
    go_wp2_with fail
    refine (unhide KR').mono ?_
    rintro e w6 ⟨rfl, b6⟩
    have HH6 := hide ((unhide HH5).below b6)
    have HB6 := hide ((unhide HB5).trans (b6.mono (unhide HH5).lb.2))
    clear b6 HH5 HB5 HR5 HG5 KR' y0 y1 y2 y3 y4
    have Q1 := hide (parses_any (unhide HH6) s (by have := unhide HN5; omega))
    go_wp2_with fail
    refine (unhide Q1).mono ?_
    rintro e w7 ⟨rfl, E7, vF7, vW7, h7, n7, b7, _⟩
    have HH7 := hide h7
    have HB7 := hide ((unhide HB6).trans b7)
    have HN7 := hide (show E7.length = 6 by have := unhide HN5; omega)
    clear h7 b7 n7 HH6 HB6 HN5 Q1
    go_wp2_with fail
    refine (unhide BN _).mono ?_
    rintro e w8 ⟨Y8, rfl, _, b8⟩
    have HH8 := hide ((unhide HH7).below b8)
    have HB8 := hide ((unhide HB7).trans (b8.mono (unhide HH7).lb.2))
    clear b8 HH7 HB7
    have Q2 := hide (parses_any (unhide HH8) Y8 (by have := unhide HN7; omega))
    go_wp2_with fail
    refine (unhide Q2).mono ?_
    rintro e w9 ⟨rfl, E9, vF9, vW9, h9, n9, b9, _⟩
    have HH9 := hide h9
    have HB9 := hide ((unhide HB8).trans b9)
    have HN9 := hide (show E9.length = 8 by have := unhide HN7; omega)
    clear h9 b9 n9 HH8 HB8 HN7 Q2
    go_wp2_with fail
    refine (unhide BN _).mono ?_
    rintro e wa ⟨Ya, rfl, _, ba⟩
    have HHa := hide ((unhide HH9).below ba)
    have HBa := hide ((unhide HB9).trans (ba.mono (unhide HH9).lb.2))
    clear ba HH9 HB9 BN
    go_wp2_with fail
    refine (summed_any Ya _).mono ?_
    rintro e wb ⟨Yb, rfl, bb⟩
    have HHb := hide ((unhide HHa).below bb)
    have HBb := hide ((unhide HBa).trans (bb.mono (unhide HHa).lb.2))
    clear bb HHa HBa
    have Q3 := hide (parses_any (unhide HHb) Yb (by have := unhide HN9; omega))
    go_wp2_with fail
    refine (unhide Q3).mono ?_
    rintro e wc ⟨rfl, Ec, vFc, vWc, hc, nc, bc, _⟩
    have HHc := hide hc
    have HBc := hide ((unhide HBb).trans bc)
    have HNc := hide (show Ec.length = 10 by have := unhide HN9; omega)
    clear hc bc nc HHb HBb HN9 Q3
    go_wp2_with fail
    refine (unhide P4 _).mono ?_
    rintro e wx ⟨rfl, hwx⟩
    rw [hwx]
    clear hwx wx P4
    go_wp2_with fail
    refine (unhide BN4 _).mono ?_
    rintro e wd ⟨Yd, rfl, _, bd⟩
    have HHd := hide ((unhide HHc).below bd)
    have HBd := hide ((unhide HBc).trans (bd.mono (unhide HHc).lb.2))
    clear bd HHc HBc BN4
    go_wp2_with fail
    refine (summed_any Yd _).mono ?_
    rintro e we ⟨Ye, rfl, be⟩
    have HHe := hide ((unhide HHd).below be)
    have HBe := hide ((unhide HBd).trans (be.mono (unhide HHd).lb.2))
    clear be HHd HBd
    have Q4 := hide (parses_any (unhide HHe) Ye (by have := unhide HNc; omega))
    go_wp2_with fail
    refine (unhide Q4).mono ?_
    rintro e wf ⟨rfl, Ef, vFf, vWf, hf, nf, bf, _⟩
    have HHf := hide hf
    have HBf := hide ((unhide HBe).trans bf)
    have HNf := hide (show Ef.length = 12 by have := unhide HNc; omega)
    clear hf bf nf HHe HBe HNc Q4
    go_wp2_with fail
    refine (unhide P5 _).mono ?_
    rintro e wx ⟨rfl, hwx⟩
    rw [hwx]
    clear hwx wx P5
    have sl := unhide HSL
    have Q5 := hide (parses_any (unhide HHf) (BK.take p5) (by have := unhide HNf; omega))
    go_wp2_with fail
    refine (unhide Q5).mono ?_
    rintro e wg ⟨rfl, Eg, vFg, vWg, hg, ng, bg, _⟩
    have HBg := hide ((unhide HBf).trans bg)
    have Q6 := hide (still_any hg (by have := unhide HNf; omega) (by have := unhide HNf; omega))
    have hlg := hg.lb.2
    clear hg bg ng HHf HBf HNf Q5 sl HSL
    go_wp2_with fail
    refine (unhide Q6).mono ?_
    rintro e wh ⟨rfl, bh⟩
    have HBh := hide ((unhide HBg).trans bh)
    clear bh HBg Q6 hlg
    go_wp2
    go_ret
    exact ⟨rfl, (unhide HB2).trans ((unhide HBh).mono (unhide HB2).size)⟩
end Go.Proofs.YtjopnhhdemfniaaGreatDoor
