import Derived.Test.YtllialbdofklgaaGreatDoorNor
import Derived.Test.YtllialbdofklgaaGreatDoorZnfl
import Derived.Test.YtllialbdofklgaaGreatDoorZndb
import Derived.Test.YtllialbdofklgaaGreatDoorZnds
namespace Go.Proofs.YtllialbdofklgaaGreatDoor
open Go.RowKit
set_option maxHeartbeats 16000000
set_option maxRecDepth 8000
theorem sam_same (n : Nd) : sam n n = true := by unfold sam; simp
theorem owns_cap {B e k m n c : Nat} {p : Option Addr} {w : World} {xs : List Value} (h : w.ownsRow B e k (.slice p n c) m xs) : n ≤ c ∧ c ≤ 9223372036854775807 := by
  rcases h.2 with ⟨q, _⟩ | ⟨g, cap, cur, q1, q2, q3, q4, q5, q6, q7⟩
  · cases q; omega
  · cases q1
    unfold maxLen at q5
    omega
theorem siz_lsz {n : Nd} (h : agv n = true) : lsz n = n.siz := by
  unfold agv at h
  unfold lsz Nd.siz
  cases hl : n.leaf
  · rw [hl] at h
    simp only [Bool.false_eq_true, if_false, agi, Bool.and_eq_true, decide_eq_true_eq] at h ⊢
    have : n.vals = [] := List.eq_nil_of_length_eq_zero h.1.1.2
    rw [this]
    simp [tot]
    omega
  · rw [hl] at h
    simp only [if_true, agl, Bool.and_eq_true, decide_eq_true_eq] at h ⊢
    omega
theorem tot_lim {l : List Bs} {B : Nat} (h : ∀ i, (l.getD i []).length ≤ B) : tot l ≤ B * l.length := by
  have : ∀ k, k ≤ l.length → tot (l.take k) ≤ B * k := by
    intro k
    induction k with
    | zero => intro _; simp [tot]
    | succ k ih =>
      intro hk
      rw [tot_next l k (by omega)]
      have := ih (by omega)
      have := h k
      rw [Nat.mul_succ]
      omega
  have := this l.length (Nat.le_refl _)
  rwa [List.take_length] at this
theorem Grt.las {n : Nd} (h : Grt n) : 1 ≤ las n := by
  obtain ⟨hv, hk⟩ := h.lists
  have h1 := h.lo
  have ht : tot n.keys ≤ 36 * n.keys.length := tot_lim (fun i => by
    by_cases hi : i < n.keys.length
    · exact (h.key i hi).2
    · rw [List.getD_eq_getElem?_getD, List.getElem?_eq_none (by omega)]; simp)
  unfold Go.Proofs.YtllialbdofklgaaGreatDoor.las Nd.siz at *
  cases hl : n.leaf
  · rw [hl] at h1
    have := (hk hl).1
    simp only [Bool.false_eq_true, if_false] at h1 ⊢
    omega
  · rw [hl] at h1
    obtain ⟨a, b, c⟩ := hv hl
    have := tot_lim c
    simp only [if_true] at h1 ⊢
    omega
theorem nodeParts_any (lf : Bool) (a : Option Addr) (m cp : Nat) (l : List Ce) (big : Int) (w : World) (hc : Ces w a m l) (hm : m ≤ 9223372036854775807) (hbig : -9223372036854775808 ≤ big ∧ big ≤ 9223372036854775807) :
    Calls Tryz.prog 8 #[.bool lf, .slice a m cp, I big] w fun e w' => e = .returned (.bool true) ∧ Below w.heap.size w w' := by
  have HCW := hide (cellsWeigh_any a m cp l w hc hm)
  have HC := hide (fun W (q : Below w.heap.size w W) => hc.below q)
  clear hc
  go_enter Tryz.func8, Tryz.ntmps8
  go_wp2_with fail
  refine (unhide HCW).mono ?_
  rintro e w1 ⟨r, r1, r2, rfl, b1⟩
  have B1 := hide b1
  clear HCW b1
  by_cases hr : 2147483647 < r
  · have hr' : decide ((2147483647 : Int) < (r : Int)) = true := by rw [decide_eq_true_eq]; omega
    go_wp2
    go_ret
    exact ⟨rfl, unhide B1⟩
  · have hr' : decide ((2147483647 : Int) < (r : Int)) = false := by rw [decide_eq_false_iff_not]; omega
    have hm2 := r2 (by omega)
    have HAW := hide (awake_any w1)
    clear r2 hr
    go_wp2_with fail
    refine (unhide HAW).mono ?_
    rintro e w2 ⟨rfl, b2⟩
    have B2 := hide ((unhide B1).trans (b2.mono (unhide B1).size))
    have HPk := hide (pick_any big 200 w2 hbig (by omega))
    clear b2 B1 HAW hr' r1
    go_wp2_with fail
    refine (unhide HPk).mono ?_
    rintro e w2' ⟨p, hp, rfl, rfl⟩
    clear HPk
    have HMa := hide (made2_any lf a m cp l (481 + p) w2' (unhide HC _ (unhide B2)) (by omega) (by omega))
    rw [show ((481 + p : Nat) : Int) = 481 + (p : Int) by omega] at HMa
    clear HC
    go_wp2_with fail
    refine (unhide HMa).mono ?_
    rintro e w3 ⟨n, vK, vV, vI, hM, hsz, rfl, hN, b3⟩
    clear HMa
    have hg := hM.grt hsz
    have hlf := hM.leaf
    have hnb := lsz_nb (n := n) (by have := hM.sz; omega)
    obtain ⟨ka, va, ia, kc, vc, ic, rfl, rfl, rfl, -⟩ := hN.na
    have ck := (owns_cap hN.rK).1
    have cv := (owns_cap hN.rV).1
    have ci := owns_cap hN.rI
    have t4 := heap_alloc_new w3 (.cells #[.bool lf, .slice ka n.keys.length kc, .slice va n.vals.length vc, .slice ia n.kids.length ic] 25)
    have b4 := (Below.refl w3.heap.size w3).alloc (Nat.le_refl _) (.cells #[.bool lf, .slice ka n.keys.length kc, .slice va n.vals.length vc, .slice ia n.kids.length ic] 25)
    have z4 := lt_of_row t4
    generalize hW4 : w3.alloc (.cells #[.bool lf, .slice ka n.keys.length kc, .slice va n.vals.length vc, .slice ia n.kids.length ic] 25) = W4 at t4 b4 z4
    have B4 := hide ((unhide B2).trans (((b3.trans (b4.mono b3.size))).mono (unhide B2).size))
    have T4 := hide t4
    have NA4 := hide (fun W (q : Below W4.heap.size W4 W) => show NA n ka va ia W from by
      obtain ⟨a1, a2, a3, a4, a5, a6, q1, q2, q3, q4⟩ := ((hN.below b4).below q).na
      cases q1
      cases q2
      cases q3
      exact q4)
    have X5 := split_any n ka va ia kc vc ic W4 (unhide NA4 _ (Below.refl _ _)) hnb hg ck cv ci.1 ci.2 hg.las
    unfold nda at X5
    rw [hlf] at X5
    have HX5 := hide X5
    obtain ⟨c0, c1, c2, c3⟩ := box4 t4 (Below.refl _ _) z4
    have HNB := hide hnb
    have HG := hide hg
    have HLF := hide hlf
    clear hM hsz hN b3 hlf hnb hg t4 b4 X5 B2 ck cv ci hp
    generalize hkl : n.keys.length = kl at *
    generalize hvl : n.vals.length = vl at *
    generalize hil : n.kids.length = il at *
    have HKL := hide (And.intro hkl (And.intro hvl hil))
    clear hkl hvl hil
    go_wp2_with fail
    refine (unhide HX5).mono ?_
    rintro e w5 ⟨i, xK, xV, xI, yK, yV, yI, hPl, rfl, rl, rr, b5⟩
    clear HX5 hW4 c0 c1 c2 c3
    obtain ⟨l1, k1, l2, k2, l3, k3, rfl, rfl, rfl⟩ := rl.form
    obtain ⟨o1, d1, o2, d2, o3, d3, rfl, rfl, rfl⟩ := rr.form
    have hg := unhide HG
    have hfit := fit hg hPl
    have hkb := kbt_is hg hPl
    have hl1 := (lft_leaf n i).trans (unhide HLF)
    have hr1 := (rgt_leaf n i).trans (unhide HLF)
    have hbw := lft_blw hg hPl
    have hab := rgt_abv hg hPl
    rw [unhide HLF] at hab
    have hwl := wrv_lft hg hPl
    have hwr := wrv_rgt hg hPl
    have hzl := siz_lsz (lft_ag hg hPl).1
    have hzr := siz_lsz (rgt_ag hg hPl).1
    have hbl := (unhide HNB).lft i
    have hbr := (unhide HNB).rgt i
    have NL := hide (fun W (q : Below w5.heap.size w5 W) => show NA (lft n i) l1 l2 l3 W from by
      obtain ⟨a1, a2, a3, a4, a5, a6, q1, q2, q3, q4⟩ := (rl.below q).na
      cases q1
      cases q2
      cases q3
      exact q4)
    have NQ := hide (fun W (q : Below w5.heap.size w5 W) => show NA (rgt n i) o1 o2 o3 W from by
      obtain ⟨a1, a2, a3, a4, a5, a6, q1, q2, q3, q4⟩ := (rr.below q).na
      cases q1
      cases q2
      cases q3
      exact q4)
    have XB := hide (fun W (q : Below w5.heap.size w5 W) => below_all l1 _ k1 (lft n i).keys (kbt n i) W (unhide NL W q).ks hbl.k hbw)
    have XA := hide (fun W (q : Below w5.heap.size w5 W) => above_all o1 _ d1 (rgt n i).keys (kbt n i) lf W (unhide NQ W q).ks hbr.k hab)
    have XP := hide (fun W (q : Below w5.heap.size w5 W) => page_any (lft n i) l1 l2 l3 k1 k2 k3 W (unhide NL W q) hbl)
    have XQ := hide (fun W (q : Below w5.heap.size w5 W) => page_any (rgt n i) o1 o2 o3 d1 d2 d3 W (unhide NQ W q) hbr)
    have XS := hide (fun W (q : Below w5.heap.size w5 W) => lsize_any (lft n i) l1 l2 l3 k1 k2 k3 W (unhide NL W q) hbl)
    have XT := hide (fun W (q : Below w5.heap.size w5 W) => lsize_any (rgt n i) o1 o2 o3 d1 d2 d3 W (unhide NQ W q) hbr)
    have XJ := hide (fun W (q : Below w5.heap.size w5 W) => join_parts n i l1 l2 l3 o1 o2 o3 k1 k2 k3 d1 d2 d3 W hg hPl (unhide HNB) (unhide NL W q) (unhide NQ W q))
    unfold nda at XP XQ XS XT XJ
    rw [hl1, hwl] at XP
    rw [hr1, hwr] at XQ
    rw [hl1, hzl] at XS
    rw [hr1, hzr] at XT
    rw [hl1, hr1, unhide HLF] at XJ
    obtain ⟨f1, f2, f3, f4⟩ := hfit
    obtain ⟨g1, g2, -⟩ := hkb
    have B5 := hide b5
    clear hg hl1 hr1 hbw hab hwl hwr hzl hzr hbl hbr NL NQ rl rr b5 HG hPl
    generalize kbt n i = key at *
    generalize (lft n i).siz = s1 at *
    generalize (rgt n i).siz = s2 at *
    generalize (lft n i).keys.length = x1 at *
    generalize (lft n i).vals.length = x2 at *
    generalize (lft n i).kids.length = x3 at *
    generalize (rgt n i).keys.length = y1 at *
    generalize (rgt n i).vals.length = y2 at *
    generalize (rgt n i).kids.length = y3 at *
    go_upto_region 7 with fail
    have ta := heap_alloc_new w5 (.cells #[.bool lf, .slice l1 x1 k1, .slice l2 x2 k2, .slice l3 x3 k3] 25)
    have sa := size_alloc w5 (.cells #[.bool lf, .slice l1 x1 k1, .slice l2 x2 k2, .slice l3 x3 k3] 25)
    have ba := (Below.refl w5.heap.size w5).alloc (Nat.le_refl _) (.cells #[.bool lf, .slice l1 x1 k1, .slice l2 x2 k2, .slice l3 x3 k3] 25)
    generalize w5.alloc (.cells #[.bool lf, .slice l1 x1 k1, .slice l2 x2 k2, .slice l3 x3 k3] 25) = Wa at ta sa ba ⊢
    have tb := heap_alloc_new Wa (.cells #[.bool lf, .slice o1 y1 d1, .slice o2 y2 d2, .slice o3 y3 d3] 25)
    rw [sa] at tb
    have ta2 := (alloc_old Wa (.cells #[.bool lf, .slice o1 y1 d1, .slice o2 y2 d2, .slice o3 y3 d3] 25) (lt_of_row ta)).trans ta
    have bb := ba.alloc ba.size (.cells #[.bool lf, .slice o1 y1 d1, .slice o2 y2 d2, .slice o3 y3 d3] 25)
    generalize Wa.alloc (.cells #[.bool lf, .slice o1 y1 d1, .slice o2 y2 d2, .slice o3 y3 d3] 25) = Wb at tb ta2 bb ⊢
    have TA := hide ta2
    have TB := hide tb
    have BB := hide bb
    have za := lt_of_row ta2
    have zb := lt_of_row tb
    obtain ⟨c0, c1, c2, c3⟩ := box4 ta2 (Below.refl _ _) za
    obtain ⟨e0, e1, e2, e3⟩ := box4 tb (Below.refl _ _) zb
    clear ta sa ba tb ta2 bb
    go_cut [68] from 41 to 68 (fun s68 wx => s68 = .bool false ∧ wx = Wb)
    case first =>
      have q1 : decide ((key.length : Int) < 1) = false := by rw [decide_eq_false_iff_not]; omega
      have q2 : decide ((36 : Int) < (key.length : Int)) = false := by rw [decide_eq_false_iff_not]; omega
      clear XB XA XP XQ XS XT XJ NA4 HNB HLF T4 TA TB BB B4 B5 HKL z4
      go_wp2
      go_meet
      refine ⟨?_, by first | rfl | trivial⟩
      cases lf <;> simp <;> omega
    case rest =>
      obtain ⟨rfl, hwc⟩ := hcut
      rw [hwc]
      clear hwc g1 g2
      have x1' := hide (unhide XB Wb (unhide BB))
      go_wp2_with fail
      refine (unhide x1').mono ?_
      rintro e w6 ⟨rfl, rfl⟩
      clear x1' XB
      have x2' := hide (unhide XA w6 (unhide BB))
      go_wp2_with fail
      refine (unhide x2').mono ?_
      rintro e w7 ⟨rfl, rfl⟩
      clear x2' XA
      have x3' := hide (unhide XP w7 (unhide BB))
      go_wp2_with fail
      refine (unhide x3').mono ?_
      rintro e w8 ⟨p1, pc1, rfl, -, b8⟩
      clear x3' XP
      generalize pvk (lft n i) = PK at *
      generalize pvb (lft n i) = PB at *
      generalize (pvl (lft n i)).length = pl at *
      clear c0 c1 c2 c3 e0 e1 e2 e3
      go_upto_region 12 with fail
      have b9 := b8.trans (((Below.refl w8.heap.size w8).alloc (Nat.le_refl _) (.cells #[I PK, I 0, I 0, .slice p1 pl pc1, S PB] 27)).mono b8.size)
      generalize w8.alloc (.cells #[I PK, I 0, I 0, .slice p1 pl pc1, S PB] 27) = W9 at b9 ⊢
      have C9 := hide b9
      obtain ⟨c0, c1, c2, c3⟩ := box4 (unhide TA) b9 za
      obtain ⟨e0, e1, e2, e3⟩ := box4 (unhide TB) b9 zb
      have za9 := Nat.lt_of_lt_of_le za b9.size
      have zb9 := Nat.lt_of_lt_of_le zb b9.size
      have x4' := hide (unhide XQ W9 ((unhide BB).trans (b9.mono (unhide BB).size)))
      clear b8 b9 XQ
      go_wp2_with fail
      refine (unhide x4').mono ?_
      rintro e w10 ⟨p2, pc2, rfl, -, b10⟩
      clear x4' c0 c1 c2 c3 e0 e1 e2 e3 za9 zb9
      generalize pvk (rgt n i) = QK at *
      generalize pvb (rgt n i) = QB at *
      generalize (pvl (rgt n i)).length = ql at *
      go_upto_region 13 with fail
      have b11 := b10.trans (((Below.refl w10.heap.size w10).alloc (Nat.le_refl _) (.cells #[I QK, I 0, I 0, .slice p2 ql pc2, S QB] 27)).mono b10.size)
      generalize w10.alloc (.cells #[I QK, I 0, I 0, .slice p2 ql pc2, S QB] 27) = W11 at b11 ⊢
      have C0 := hide ((unhide C9).trans (b11.mono (unhide C9).size))
      clear b10 b11 C9
      go_cut [121] from 88 to 121 (fun s121 wx => s121 = .bool false ∧ Below w7.heap.size w7 wx)
      case first =>
        have D0 := hide ((unhide BB).trans ((unhide C0).mono (unhide BB).size))
        obtain ⟨c0, c1, c2, c3⟩ := box4 (unhide TA) (unhide C0) za
        obtain ⟨e0, e1, e2, e3⟩ := box4 (unhide TB) (unhide C0) zb
        have lqx := Nat.lt_of_lt_of_le za (unhide C0).size
        have lrx := Nat.lt_of_lt_of_le zb (unhide C0).size
        have q1 : decide ((s1 : Int) < 120) = false := by rw [decide_eq_false_iff_not]; omega
        have q2 : decide ((s2 : Int) < 120) = false := by rw [decide_eq_false_iff_not]; omega
        have q3 : decide ((480 : Int) < (s1 : Int)) = false := by rw [decide_eq_false_iff_not]; omega
        have q4 : decide ((480 : Int) < (s2 : Int)) = false := by rw [decide_eq_false_iff_not]; omega
        clear XJ NA4 HNB HLF T4 BB B4 B5 HKL z4 f1 f2 f3 f4
        have y0 := hide (unhide XS W11 (unhide D0))
        go_wp2_with fail
        refine (unhide y0).mono ?_
        rintro e v0 ⟨rfl, bq⟩
        clear y0 c0 c1 c2 c3 e0 e1 e2 e3
        have C1 := hide ((unhide C0).trans (bq.mono (unhide C0).size))
        have D1 := hide ((unhide D0).trans (bq.mono (unhide D0).size))
        obtain ⟨c0, c1, c2, c3⟩ := box4 (unhide TA) (unhide C1) za
        obtain ⟨e0, e1, e2, e3⟩ := box4 (unhide TB) (unhide C1) zb
        have lq0 := Nat.lt_of_lt_of_le za (unhide C1).size
        have lr0 := Nat.lt_of_lt_of_le zb (unhide C1).size
        clear bq C0 D0
        have y1 := hide (unhide XT v0 (unhide D1))
        go_wp2_with fail
        refine (unhide y1).mono ?_
        rintro e v1 ⟨rfl, bq⟩
        clear y1 c0 c1 c2 c3 e0 e1 e2 e3
        have C2 := hide ((unhide C1).trans (bq.mono (unhide C1).size))
        have D2 := hide ((unhide D1).trans (bq.mono (unhide D1).size))
        obtain ⟨c0, c1, c2, c3⟩ := box4 (unhide TA) (unhide C2) za
        obtain ⟨e0, e1, e2, e3⟩ := box4 (unhide TB) (unhide C2) zb
        have lq1 := Nat.lt_of_lt_of_le za (unhide C2).size
        have lr1 := Nat.lt_of_lt_of_le zb (unhide C2).size
        clear bq C1 D1
        have y2 := hide (unhide XS v1 (unhide D2))
        go_wp2_with fail
        refine (unhide y2).mono ?_
        rintro e v2 ⟨rfl, bq⟩
        clear y2 c0 c1 c2 c3 e0 e1 e2 e3
        have C3 := hide ((unhide C2).trans (bq.mono (unhide C2).size))
        have D3 := hide ((unhide D2).trans (bq.mono (unhide D2).size))
        obtain ⟨c0, c1, c2, c3⟩ := box4 (unhide TA) (unhide C3) za
        obtain ⟨e0, e1, e2, e3⟩ := box4 (unhide TB) (unhide C3) zb
        have lq2 := Nat.lt_of_lt_of_le za (unhide C3).size
        have lr2 := Nat.lt_of_lt_of_le zb (unhide C3).size
        clear bq C2 D2
        have y3 := hide (unhide XT v2 (unhide D3))
        go_wp2_with fail
        refine (unhide y3).mono ?_
        rintro e v3 ⟨rfl, bq⟩
        clear y3 c0 c1 c2 c3 e0 e1 e2 e3
        have C4 := hide ((unhide C3).trans (bq.mono (unhide C3).size))
        have D4 := hide ((unhide D3).trans (bq.mono (unhide D3).size))
        obtain ⟨c0, c1, c2, c3⟩ := box4 (unhide TA) (unhide C4) za
        obtain ⟨e0, e1, e2, e3⟩ := box4 (unhide TB) (unhide C4) zb
        have lq3 := Nat.lt_of_lt_of_le za (unhide C4).size
        have lr3 := Nat.lt_of_lt_of_le zb (unhide C4).size
        clear bq C3 D3
        go_wp2
        go_meet
        exact ⟨by simp, unhide C4⟩
      case rest =>
        obtain ⟨rfl, hbc⟩ := hcut
        have D0 := hide ((unhide BB).trans (hbc.mono (unhide BB).size))
        obtain ⟨c0, c1, c2, c3⟩ := box4 (unhide TA) hbc za
        obtain ⟨e0, e1, e2, e3⟩ := box4 (unhide TB) hbc zb
        have lqx := Nat.lt_of_lt_of_le za hbc.size
        have lrx := Nat.lt_of_lt_of_le zb hbc.size
        have x5' := hide (unhide XJ wc (unhide D0))
        clear XS XT XJ f1 f2 f3 f4 hbc C0
        go_wp2_with fail
        refine (unhide x5').mono ?_
        rintro e w12 ⟨vK, vV, vI, rfl, r12, b12⟩
        clear x5' c0 c1 c2 c3 e0 e1 e2 e3 lqx lrx TA TB za zb
        obtain ⟨qK, qV, qI, tK, tV, tI, rfl, rfl, rfl, -⟩ := r12.na
        obtain ⟨hkl, hvl, hil⟩ := unhide HKL
        have D12 := hide ((unhide D0).trans (b12.mono (unhide D0).size))
        have R12 := hide r12
        clear r12 b12 D0 BB
        rw [hkl, hvl, hil]
        go_upto_region 16 with fail
        have t13 := heap_alloc_new w12 (.cells #[.bool lf, .slice qK kl tK, .slice qV vl tV, .slice qI il tI] 25)
        have b13 := (Below.refl w12.heap.size w12).alloc (Nat.le_refl _) (.cells #[.bool lf, .slice qK kl tK, .slice qV vl tV, .slice qI il tI] 25)
        generalize w12.alloc (.cells #[.bool lf, .slice qK kl tK, .slice qV vl tV, .slice qI il tI] 25) = W13 at t13 b13 ⊢
        have D13 := (unhide D12).trans (b13.mono (unhide D12).size)
        have E13 := (unhide B5).trans (D13.mono (unhide B5).size)
        have na13 : NA n qK qV qI W13 := by
          obtain ⟨a1, a2, a3, a4, a5, a6, q1, q2, q3, q4⟩ := ((unhide R12).below b13).na
          cases q1
          cases q2
          cases q3
          exact q4
        have X9 := nodes_any n n qK qV qI ka va ia tK tV tI kc vc ic W13 na13 (unhide NA4 _ E13) (unhide HNB) (unhide HNB)
        unfold nda at X9
        rw [sam_same, unhide HLF, hkl, hvl, hil] at X9
        have HX9 := hide X9
        obtain ⟨c0, c1, c2, c3⟩ := box4 t13 (Below.refl _ _) (lt_of_row t13)
        obtain ⟨e0, e1, e2, e3⟩ := box4 (unhide T4) E13 z4
        have lqx := lt_of_row t13
        have lrx := Nat.lt_of_lt_of_le z4 E13.size
        have BW := hide ((unhide B4).trans (E13.mono (unhide B4).size))
        clear X9 na13 D13 E13 D12 R12 b13 t13 T4 NA4 HNB HLF HKL B4 B5 z4 hkl hvl hil
        go_wp2_with fail
        refine (unhide HX9).mono ?_
        rintro e w14 ⟨rfl, b14⟩
        have BZ := hide ((unhide BW).trans (b14.mono (unhide BW).size))
        clear HX9 b14 BW c0 c1 c2 c3 e0 e1 e2 e3 lqx lrx
        go_wp2
        go_ret
        exact ⟨ret_bool (by first | rfl | simp), unhide BZ⟩
end Go.Proofs.YtllialbdofklgaaGreatDoor
