import Derived.Test.YtllialbdofklgaaGreatDoorNse
import Derived.Test.YtllialbdofklgaaGreatDoorNqh
namespace Go.Proofs.YtllialbdofklgaaGreatDoor
open Go.RowKit
set_option linter.unusedVariables false
set_option maxHeartbeats 16000000
set_option maxRecDepth 8000
theorem nodeJoins_any (x y o : Nd) (ka va ia kb vb ib ke ve ie : Option Addr) (kc vc ic kd vd jd kf vf jf : Nat) (key : Bs) (w : World)
    (hx : NA x ka va ia w) (az1 : ka = none → kc = 0) (az2 : va = none → vc = 0) (az3 : ia = none → ic = 0) (ab1 : x.keys.length ≤ 9223372036854775807) (ab2 : x.vals.length ≤ 9223372036854775807) (ab3 : x.kids.length ≤ 9223372036854775807) (aL1 : ∀ j, (x.keys.getD j []).length ≤ 9223372036854775807) (aL2 : ∀ j, (x.vals.getD j []).length ≤ 9223372036854775807) (ac : x.kids.length ≤ ic) (ad : ic ≤ 9223372036854775807)
    (hy : NA y kb vb ib w) (bz1 : kb = none → kd = 0) (bz2 : vb = none → vd = 0) (bz3 : ib = none → jd = 0) (bb1 : y.keys.length ≤ 9223372036854775807) (bb2 : y.vals.length ≤ 9223372036854775807) (bb3 : y.kids.length ≤ 9223372036854775807) (bL1 : ∀ j, (y.keys.getD j []).length ≤ 9223372036854775807) (bL2 : ∀ j, (y.vals.getD j []).length ≤ 9223372036854775807) (bc : y.kids.length ≤ jd) (bd : jd ≤ 9223372036854775807)
    (ho : NA o ke ve ie w) (cz1 : ke = none → kf = 0) (cz2 : ve = none → vf = 0) (cz3 : ie = none → jf = 0) (cb1 : o.keys.length ≤ 9223372036854775807) (cb2 : o.vals.length ≤ 9223372036854775807) (cb3 : o.kids.length ≤ 9223372036854775807) (cL1 : ∀ j, (o.keys.getD j []).length ≤ 9223372036854775807) (cL2 : ∀ j, (o.vals.getD j []).length ≤ 9223372036854775807) (cc : o.kids.length ≤ jf) (cd : jf ≤ 9223372036854775807)
    (hk : key.length ≤ 9223372036854775807) :
    Calls Tryz.prog 6 #[nda x ka va ia kc vc ic, S key, nda y kb vb ib kd vd jd, nda o ke ve ie kf vf jf] w fun e w' => e = .returned (.bool true) ∧ Below w.heap.size w w' := by
  have tb := three_box w (bxc x ka va ia kc vc ic) (bxc y kb vb ib kd vd jd) (bxc o ke ve ie kf vf jf)
  have hs3 : (((w.alloc (.cells (bxc x ka va ia kc vc ic) 25)).alloc (.cells (bxc y kb vb ib kd vd jd) 25)).alloc (.cells (bxc o ke ve ie kf vf jf) 25)).heap.size = w.heap.size + 1 + 1 + 1 := by simp
  generalize hW3 : (((w.alloc (.cells (bxc x ka va ia kc vc ic) 25)).alloc (.cells (bxc y kb vb ib kd vd jd) 25)).alloc (.cells (bxc o ke ve ie kf vf jf) 25)) = W3 at tb hs3
  obtain ⟨hA, hg1, hg2, hg3⟩ := tb
  have hX := fun {W : World} (q : Below W3.heap.size W3 W) => (hx.below hA).below q
  have hY := fun {W : World} (q : Below W3.heap.size W3 W) => (hy.below hA).below q
  have hO := fun {W : World} (q : Below W3.heap.size W3 W) => (ho.below hA).below q
  have hxl := nwe_le x
  have hyl := nwe_le y
  have hol := nwe_le o
  have t1l : add3 (nwe x) key.length ≤ 4294967296 := by rcases add3_le (nwe x) key.length with q | q <;> omega
  have t4l : add3 (nwe y) (nwe o) ≤ 4294967296 := by rcases add3_le (nwe y) (nwe o) with q | q <;> omega
  have X0 := hide (fun W (q : Below W3.heap.size W3 W) => nodeWeighs_any x ka va ia kc vc ic W (hX q) ab1 ab2 ab3 aL1 aL2)
  have X1 := hide (fun W => addsUp_any (nwe x) key.length W (by omega) hk)
  have X2 := hide (fun W (q : Below W3.heap.size W3 W) => nodeWeighs_any y kb vb ib kd vd jd W (hY q) bb1 bb2 bb3 bL1 bL2)
  have X3 := hide (fun W (q : Below W3.heap.size W3 W) => nodeWeighs_any o ke ve ie kf vf jf W (hO q) cb1 cb2 cb3 cL1 cL2)
  have X4 := hide (fun W => addsUp_any (nwe y) (nwe o) W (by omega) (by omega))
  have X5 := hide (fun W => addsUp_any (add3 (nwe x) key.length) (add3 (nwe y) (nwe o)) W (by omega) (by omega))
  have HA := hide hA
  have hz1 := lt_of_row hg1
  have hz2 := lt_of_row hg2
  have hz3 := lt_of_row hg3
  have l0 : ∀ W : World, Below W3.heap.size W3 W → _ := fun W q => box4 (by unfold bxc at hg1; exact hg1) q hz1
  have l1 : ∀ W : World, Below W3.heap.size W3 W → _ := fun W q => box4 (by unfold bxc at hg2; exact hg2) q hz2
  have l2 : ∀ W : World, Below W3.heap.size W3 W → _ := fun W q => box4 (by unfold bxc at hg3; exact hg3) q hz3
  by_cases hbig : 2147483647 < add3 (add3 (nwe x) key.length) (add3 (nwe y) (nwe o))
  · unfold nda at X0 X2 X3 ⊢
    unfold bxc at hW3
    generalize add3 (add3 (nwe x) key.length) (add3 (nwe y) (nwe o)) = T5 at *
    generalize add3 (nwe x) key.length = T1 at *
    generalize add3 (nwe y) (nwe o) = T4 at *
    generalize nwe x = T0 at *
    generalize nwe y = T2 at *
    generalize nwe o = T3 at *
    have h' : decide ((2147483647 : Int) < (T5 : Int)) = true := by rw [decide_eq_true_eq]; omega
    clear hA hg1 hg2 hg3 hX hY hO hx hy ho aL1 aL2 bL1 bL2 cL1 cL2 hxl hyl hol
    generalize hxk : x.keys.length = xk at *
    generalize hxv : x.vals.length = xv at *
    generalize hxi : x.kids.length = xi at *
    generalize hxl : x.leaf = lx at *
    generalize hyk : y.keys.length = yk at *
    generalize hyv : y.vals.length = yv at *
    generalize hyi : y.kids.length = yi at *
    generalize hyl : y.leaf = ly at *
    generalize hok : o.keys.length = ok at *
    generalize hov : o.vals.length = ov at *
    generalize hoi : o.kids.length = oi at *
    generalize hol : o.leaf = lo at *
    clear hxk hxv hxi hxl hyk hyv hyi hyl hok hov hoi hol
    go_enter Tryz.func6, Tryz.ntmps6
    go_wp2
    try rw [hW3]
    refine rnj w.heap.size (w.heap.size + 1) (w.heap.size + 1 + 1) xk kc xv vc xi ic yk kd yv vd yi jd ok kf ov vf oi jf T0 T1 T2 T3 T4 T5 ka va ia kb vb ib ke ve ie lx ly lo key (by kernel_rfl) (by kernel_rfl) (by kernel_rfl) _ _ (by show 33 ≤ Array.size _; simp) rfl rfl rfl rfl (fun _ W => Below W3.heap.size W3 W) ?h0 ?hp ?l0 ?l5 ?l7 ?c1 ?c4 ?c6 ?c8 ?c9 ?c10 ?_
    case h0 => exact (Below.refl _ _).drew
    case hp => exact fun _ _ _ _ q => q
    case l0 => exact fun _ W q => l0 W q
    case l5 => exact fun _ W q => l1 W q
    case l7 => exact fun _ W q => l2 W q
    case c1 =>
      intro L W q _
      refine (unhide X0 W q).mono ?_
      rintro e w' ⟨rfl, q1⟩
      exact ⟨rfl, q.trans (q1.mono q.size)⟩
    case c6 =>
      intro L W q _
      refine (unhide X2 W q).mono ?_
      rintro e w' ⟨rfl, q1⟩
      exact ⟨rfl, q.trans (q1.mono q.size)⟩
    case c8 =>
      intro L W q _
      refine (unhide X3 W q).mono ?_
      rintro e w' ⟨rfl, q1⟩
      exact ⟨rfl, q.trans (q1.mono q.size)⟩
    case c4 =>
      intro L W q _
      refine (unhide X1 W).mono ?_
      rintro e w' ⟨rfl, rfl⟩
      exact ⟨rfl, q⟩
    case c9 =>
      intro L W q _
      refine (unhide X4 W).mono ?_
      rintro e w' ⟨rfl, rfl⟩
      exact ⟨rfl, q⟩
    case c10 =>
      intro L W q _
      refine (unhide X5 W).mono ?_
      rintro e w' ⟨rfl, rfl⟩
      exact ⟨rfl, q⟩
    intro L W _ hW
    have HB := hide ((unhide HA).trans (hW.mono (unhide HA).size))
    clear hW l0 l1 l2
    simp only [Act.put, List.setIfInBounds_toArray, List.set_cons_succ, List.set_cons_zero]
    go_wp2
    go_ret
    exact ⟨rfl, unhide HB⟩
  · have hs := add3_sm (show add3 (add3 (nwe x) key.length) (add3 (nwe y) (nwe o)) ≤ 2147483647 by omega)
    have hs1 := add3_sm (show add3 (nwe x) key.length ≤ 2147483647 by omega)
    have hs2 := add3_sm (show add3 (nwe y) (nwe o) ≤ 2147483647 by omega)
    have hxb := nwe_nb (show nwe x ≤ 2147483647 by omega)
    have hyb := nwe_nb (show nwe y ≤ 2147483647 by omega)
    obtain ⟨s1, s2, s3⟩ := nwe_sm (show nwe x ≤ 2147483647 by omega)
    obtain ⟨u1, u2, u3⟩ := nwe_sm (show nwe y ≤ 2147483647 by omega)
    obtain ⟨t1, t2, t3⟩ := nwe_sm (show nwe o ≤ 2147483647 by omega)
    have hob : NB (ovn x o) := hxb.ovn (by omega) (by omega)
    have hkk : key.length ≤ 4294967296 := by omega
    have ek : (ovn x o).keys.length = x.keys.length := ovr_len _ _
    have ev : (ovn x o).vals.length = x.vals.length := ovr_len _ _
    have ei : (ovn x o).kids.length = x.kids.length := ovr_len _ _
    have Y4 := hide (fun W => awake_any W)
    have Y5 := hide (fun W (q : Below W3.heap.size W3 W) => lentN2_any x ka va ia kc vc ic W (hX q) hxb az1 az2 az3)
    have Y6 := hide (fun W (q : Below W3.heap.size W3 W) => lentN2_any y kb vb ib kd vd jd W (hY q) hyb bz1 bz2 bz3)
    have Y7 := hide (fun W C b g1 g2 g3 h1 h2 h3 T N (q : Below W3.heap.size W3 W) (l : LN x g1 g2 g3 W) (m : LN y h1 h2 h3 W) (k : Bok2 b C b T N W) (hC : C ≤ W.heap.size) (e1 : T.length ≤ 100000) (e2 : N.length ≤ 100000) => bok_put2 C x y b b g1 0 h1 0 g2 0 h2 0 (some ⟨g3, 0, none⟩) (some ⟨h3, 0, none⟩) ka va ia kb vb ib (x.keys.length + 4) (x.vals.length + 4) (x.kids.length + 4) (y.keys.length + 4) (y.vals.length + 4) (y.kids.length + 4) kc vc ic kd vd jd key T N W l.na m.na (hX q) (hY q) hxb hyb az1 az2 az3 bz1 bz2 bz3 ac ad bc bd hkk k hC e1 e2)
    have Y8 := hide (fun W g1 g2 g3 (q : Below W3.heap.size W3 W) (l : LN x g1 g2 g3 W) => whole_any x g1 g2 g3 ka va ia kc vc ic W l (hX q) hxb)
    have Y9 := hide (fun W g1 g2 g3 (q : Below W3.heap.size W3 W) (l : LN y g1 g2 g3 W) => whole_any y g1 g2 g3 kb vb ib kd vd jd W l (hY q) hyb)
    have Y10 := hide (fun W g1 g2 g3 (q : Below W3.heap.size W3 W) (l : LN x g1 g2 g3 W) (hg : W3.heap.size ≤ g1 ∧ g1 < g2 ∧ g2 < g3) => over_any x o g1 g2 g3 ke ve ie kf vf jf W3 W l (hO (Below.refl _ _)) q hg cz1 cz2 cz3)
    have Y11 := hide (fun W g1 g2 g3 (l : LN (ovn x o) g1 g2 g3 W) => lcopied_any (ovn x o) (some ⟨g1, 0, none⟩) (some ⟨g2, 0, none⟩) (some ⟨g3, 0, none⟩) (x.keys.length + 4) (x.vals.length + 4) (x.kids.length + 4) W l.na hob (fun q => nomatch q) (fun q => nomatch q) (fun q => nomatch q))
    have Y12 := hide (fun W C b g1 g2 g3 h1 h2 h3 T N (q : Below W3.heap.size W3 W) (l : LN (ovn x o) g1 g2 g3 W) (m : LN y h1 h2 h3 W) ja ua ha jc uc hc (nw : NA (ovn x o) ja ua ha W) (f1 : ja = none → jc = 0) (f2 : ua = none → uc = 0) (f3 : ha = none → hc = 0) (f4 : (ovn x o).kids.length ≤ hc) (f5 : hc ≤ 9223372036854775807) (k : Bok2 b C b T N W) (hC : C ≤ W.heap.size) (e1 : T.length ≤ 100000) (e2 : N.length ≤ 100000) => bok_put2 C (ovn x o) y b b g1 0 h1 0 g2 0 h2 0 (some ⟨g3, 0, none⟩) (some ⟨h3, 0, none⟩) ja ua ha kb vb ib (x.keys.length + 4) (x.vals.length + 4) (x.kids.length + 4) (y.keys.length + 4) (y.vals.length + 4) (y.kids.length + 4) jc uc hc kd vd jd key T N W l.na m.na nw (hY q) hob hyb f1 f2 f3 bz1 bz2 bz3 f4 f5 bc bd hkk k hC e1 e2)
    have Y13 := hide (fun W C b g1 g2 g3 h1 h2 h3 T N (q : Below W3.heap.size W3 W) (l : LN (ovn x o) g1 g2 g3 W) (m : LN y h1 h2 h3 W) ja ua ha jc uc hc (nw : NA (ovn x o) ja ua ha W) (f1 : ja = none → jc = 0) (f2 : ua = none → uc = 0) (f3 : ha = none → hc = 0) (f4 : (ovn x o).kids.length ≤ hc) (f5 : hc ≤ 9223372036854775807) (k : Bok2 b C b T N W) (hC : C ≤ W.heap.size) (e1 : T.length ≤ 100000) (e2 : N.length ≤ 100000) => bok_put2 C y (ovn x o) b b h1 0 g1 0 h2 0 g2 0 (some ⟨h3, 0, none⟩) (some ⟨g3, 0, none⟩) kb vb ib ja ua ha (y.keys.length + 4) (y.vals.length + 4) (y.kids.length + 4) (x.keys.length + 4) (x.vals.length + 4) (x.kids.length + 4) kd vd jd jc uc hc key T N W m.na l.na (hY q) nw hyb hob bz1 bz2 bz3 f1 f2 f3 bc bd f4 f5 hkk k hC e1 e2)
    have hlf : (ovn x o).leaf = x.leaf := rfl
    unfold nda at X0 X2 X3 Y5 Y6 Y7 Y8 Y9 Y10 Y11 Y12 Y13 ⊢
    unfold lnv at Y5 Y6 Y8 Y9 Y10
    unfold bxc at hW3
    rw [hlf, ek, ev, ei] at Y11 Y12 Y13
    generalize add3 (add3 (nwe x) key.length) (add3 (nwe y) (nwe o)) = T5 at *
    generalize add3 (nwe x) key.length = T1 at *
    generalize add3 (nwe y) (nwe o) = T4 at *
    generalize nwe x = T0 at *
    generalize nwe y = T2 at *
    generalize nwe o = T3 at *
    have h' : decide ((2147483647 : Int) < (T5 : Int)) = false := by rw [decide_eq_false_iff_not]; omega
    have HEK := hide (And.intro ek (And.intro ev ei))
    clear hA hg1 hg2 hg3 hX hY hO hx hy ho aL1 aL2 bL1 bL2 cL1 cL2 hxl hyl hol hxb hyb hob s1 s2 s3 u1 u2 u3 t1 t2 t3 hs hs1 hs2 az1 az2 az3 bz1 bz2 bz3 cz1 cz2 cz3 ac ad bc bd cc cd ek ev ei hlf ab1 ab2 ab3 bb1 bb2 bb3 cb1 cb2 cb3
    generalize hxk : x.keys.length = xk at *
    generalize hxv : x.vals.length = xv at *
    generalize hxi : x.kids.length = xi at *
    generalize hxl : x.leaf = lx at *
    generalize hyk : y.keys.length = yk at *
    generalize hyv : y.vals.length = yv at *
    generalize hyi : y.kids.length = yi at *
    generalize hyl : y.leaf = ly at *
    generalize hok : o.keys.length = ok at *
    generalize hov : o.vals.length = ov at *
    generalize hoi : o.kids.length = oi at *
    generalize hol : o.leaf = lo at *
    clear hxk hxv hxi hxl hyk hyv hyi hyl hok hov hoi hol
    go_enter Tryz.func6, Tryz.ntmps6
    go_wp2
    try rw [hW3]
    refine rnj w.heap.size (w.heap.size + 1) (w.heap.size + 1 + 1) xk kc xv vc xi ic yk kd yv vd yi jd ok kf ov vf oi jf T0 T1 T2 T3 T4 T5 ka va ia kb vb ib ke ve ie lx ly lo key (by kernel_rfl) (by kernel_rfl) (by kernel_rfl) _ _ (by show 33 ≤ Array.size _; simp) rfl rfl rfl rfl (fun _ W => Below W3.heap.size W3 W) ?h0 ?hp ?l0 ?l5 ?l7 ?c1 ?c4 ?c6 ?c8 ?c9 ?c10 ?_
    case h0 => exact (Below.refl _ _).drew
    case hp => exact fun _ _ _ _ q => q
    case l0 => exact fun _ W q => l0 W q
    case l5 => exact fun _ W q => l1 W q
    case l7 => exact fun _ W q => l2 W q
    case c1 =>
      intro L W q _
      refine (unhide X0 W q).mono ?_
      rintro e w' ⟨rfl, q1⟩
      exact ⟨rfl, q.trans (q1.mono q.size)⟩
    case c6 =>
      intro L W q _
      refine (unhide X2 W q).mono ?_
      rintro e w' ⟨rfl, q1⟩
      exact ⟨rfl, q.trans (q1.mono q.size)⟩
    case c8 =>
      intro L W q _
      refine (unhide X3 W q).mono ?_
      rintro e w' ⟨rfl, q1⟩
      exact ⟨rfl, q.trans (q1.mono q.size)⟩
    case c4 =>
      intro L W q _
      refine (unhide X1 W).mono ?_
      rintro e w' ⟨rfl, rfl⟩
      exact ⟨rfl, q⟩
    case c9 =>
      intro L W q _
      refine (unhide X4 W).mono ?_
      rintro e w' ⟨rfl, rfl⟩
      exact ⟨rfl, q⟩
    case c10 =>
      intro L W q _
      refine (unhide X5 W).mono ?_
      rintro e w' ⟨rfl, rfl⟩
      exact ⟨rfl, q⟩
    intro L W _ hW
    have HW := hide hW
    have L0 := hide l0
    have L1 := hide l1
    have L2 := hide l2
    clear hW l0 l1 l2 X0 X1 X2 X3 X4 X5 hW3
    simp only [Act.put, List.setIfInBounds_toArray, List.set_cons_succ, List.set_cons_zero]
    go_wp2_with fail
    refine (unhide Y4 _).mono ?_
    rintro e w3 ⟨rfl, q3⟩
    have b3 := (unhide HW).trans (q3.mono (unhide HW).size)
    have hq := heap_alloc_new w3 (.cells #[.slice none 0 0, .slice none 0 0, .slice none 0 0, .slice none 0 0] 36)
    have b4 := (Below.refl w3.heap.size w3).alloc (Nat.le_refl _) (.cells #[.slice none 0 0, .slice none 0 0, .slice none 0 0, .slice none 0 0] 36)
    have HB3 := hide b3
    clear q3 b3 Y4 HW
    go_upto_region 5 with fail
    generalize w3.alloc (.cells #[.slice none 0 0, .slice none 0 0, .slice none 0 0, .slice none 0 0] 36) = W4 at hq b4 ⊢
    have b24 : Below W3.heap.size W3 W4 := (unhide HB3).trans (b4.mono (unhide HB3).size)
    have hb0 : W3.heap.size ≤ w3.heap.size := (unhide HB3).size
    generalize hbk : w3.heap.size = b at *
    have HQ := hide hq
    have hbl := lt_of_row hq
    have HB24 := hide b24
    have x5 := hide (unhide Y5 W4 b24)
    obtain ⟨c0, c1, c2, c3⟩ := (unhide L0) _ b24
    have e0 : w.heap.size < W4.heap.size := Nat.lt_of_lt_of_le hz1 b24.size
    clear hq b4 b24 Y5 HB3 hbk
    go_wp2_with fail
    refine (unhide x5).mono ?_
    rintro e w5 ⟨g1, g2, g3, rfl, ln5, hg5, q5⟩
    clear c0 c1 c2 c3 x5 e0
    have b5 := (unhide HB24).trans (q5.mono (unhide HB24).size)
    have hg3l : g3 < w5.heap.size := ln5.i.lt
    have hq6 := heap_alloc_new w5 (.cells #[.bool false, .slice none 0 0, .slice none 0 0, .slice none 0 0] 25)
    have hb6 := (Below.refl w5.heap.size w5).alloc (Nat.le_refl _) (.cells #[.bool false, .slice none 0 0, .slice none 0 0, .slice none 0 0] 25)
    have ht6 := setRow_heap _ _ _ #[.bool lx, .slice (some ⟨g1, 0, none⟩) xk (xk + 4), .slice (some ⟨g2, 0, none⟩) xv (xv + 4), .slice (some ⟨g3, 0, none⟩) xi (xi + 4)] 25 _ hq6
    have hc6 := (setRow_only (w5.alloc (.cells #[.bool false, .slice none 0 0, .slice none 0 0, .slice none 0 0] 25)) w5.heap.size #[.bool lx, .slice (some ⟨g1, 0, none⟩) xk (xk + 4), .slice (some ⟨g2, 0, none⟩) xv (xv + 4), .slice (some ⟨g3, 0, none⟩) xi (xi + 4)]).below hb6 hb6.size (fun k e => by omega)
    generalize hW6 : (w5.alloc (.cells #[.bool false, .slice none 0 0, .slice none 0 0, .slice none 0 0] 25)).setRow w5.heap.size #[.bool lx, .slice (some ⟨g1, 0, none⟩) xk (xk + 4), .slice (some ⟨g2, 0, none⟩) xv (xv + 4), .slice (some ⟨g3, 0, none⟩) xi (xi + 4)] = W6 at ht6 hc6
    have HW6 := hide hW6
    have HQ6 := hide hq6
    have b6 := b5.trans (hc6.mono b5.size)
    have HB6 := hide b6
    have HT6 := hide ht6
    have HLN6 := hide (ln5.below hc6)
    have HQb6 := hide (((q5.trans (hc6.mono q5.size)).block _ hbl).trans (unhide HQ))
    have HLO := hide (And.intro hb0 (And.intro (show W3.heap.size ≤ g1 by have := (unhide HB24).size; omega) (And.intro hg5.2.1 (And.intro hg5.2.2 (show g3 < W6.heap.size by have := hc6.size; omega)))))
    have x6 := hide (unhide Y6 W6 b6)
    obtain ⟨c0, c1, c2, c3⟩ := (unhide L1) _ b6
    have e0 : w.heap.size + 1 < W6.heap.size := Nat.lt_of_lt_of_le hz2 b6.size
    clear b5 hq6 hb6 ht6 hc6 hW6 b6 q5 ln5 HQ HB24 hbl hg3l hg5 hb0 Y6
    go_wp2_with (first | (refine wp_st25 rfl (.tmp 11) (.tmp 37) rfl w5.heap.size (by rfl) lx (some ⟨g1, 0, none⟩) (some ⟨g2, 0, none⟩) (some ⟨g3, 0, none⟩) xk (xk + 4) xv (xv + 4) xi (xi + 4) (by rfl) _ rfl (unhide HQ6) ?_; rw [unhide HW6]) | fail)
    refine (unhide x6).mono ?_
    rintro e w7 ⟨h1, h2, h3, rfl, ln7, hg7, q7⟩
    clear c0 c1 c2 c3 x6 e0 HQ6 HW6
    have b7 := (unhide HB6).trans (q7.mono (unhide HB6).size)
    have hh3l : h3 < w7.heap.size := ln7.i.lt
    have hq8 := heap_alloc_new w7 (.cells #[.bool false, .slice none 0 0, .slice none 0 0, .slice none 0 0] 25)
    have hb8 := (Below.refl w7.heap.size w7).alloc (Nat.le_refl _) (.cells #[.bool false, .slice none 0 0, .slice none 0 0, .slice none 0 0] 25)
    have ht8 := setRow_heap _ _ _ #[.bool ly, .slice (some ⟨h1, 0, none⟩) yk (yk + 4), .slice (some ⟨h2, 0, none⟩) yv (yv + 4), .slice (some ⟨h3, 0, none⟩) yi (yi + 4)] 25 _ hq8
    have hc8 := (setRow_only (w7.alloc (.cells #[.bool false, .slice none 0 0, .slice none 0 0, .slice none 0 0] 25)) w7.heap.size #[.bool ly, .slice (some ⟨h1, 0, none⟩) yk (yk + 4), .slice (some ⟨h2, 0, none⟩) yv (yv + 4), .slice (some ⟨h3, 0, none⟩) yi (yi + 4)]).below hb8 hb8.size (fun k e => by omega)
    generalize hW8 : (w7.alloc (.cells #[.bool false, .slice none 0 0, .slice none 0 0, .slice none 0 0] 25)).setRow w7.heap.size #[.bool ly, .slice (some ⟨h1, 0, none⟩) yk (yk + 4), .slice (some ⟨h2, 0, none⟩) yv (yv + 4), .slice (some ⟨h3, 0, none⟩) yi (yi + 4)] = W8 at ht8 hc8
    have HW8 := hide hW8
    have HQ8 := hide hq8
    have q68 := q7.trans (hc8.mono q7.size)
    have k8 : Bok2 b w7.heap.size b [] [] W8 := bok2_new ((q68.block _ (lt_of_row (unhide HQb6))).trans (unhide HQb6)) (Nat.le_refl _)
    have S8 : Bdj W3 b w5.heap.size w7.heap.size w7.heap.size g1 g2 g3 h1 h2 h3 #[.bool lx, .slice (some ⟨g1, 0, none⟩) xk (xk + 4), .slice (some ⟨g2, 0, none⟩) xv (xv + 4), .slice (some ⟨g3, 0, none⟩) xi (xi + 4)] #[.bool ly, .slice (some ⟨h1, 0, none⟩) yk (yk + 4), .slice (some ⟨h2, 0, none⟩) yv (yv + 4), .slice (some ⟨h3, 0, none⟩) yi (yi + 4)] x y [] [] W8 := by
      obtain ⟨r1, r2, r3, r4, r5⟩ := unhide HLO
      exact ⟨(unhide HB6).trans (q68.mono (unhide HB6).size), (q68.block _ (lt_of_row (unhide HT6))).trans (unhide HT6), ht8, (unhide HLN6).below q68, ln7.below hc8, k8, hc8.size, r1, r2, r3, r4, by omega, hg7.2.1, hg7.2.2, hh3l⟩
    have HS8 := hide S8
    obtain ⟨m0, m1, m2, m3⟩ := box4 S8.own1 (Below.refl _ _) (lt_of_row S8.own1)
    have me := lt_of_row S8.own1
    obtain ⟨n0, n1, n2, n3⟩ := box4 S8.own2 (Below.refl _ _) (lt_of_row S8.own2)
    have ne := lt_of_row S8.own2
    obtain ⟨c0, c1, c2, c3⟩ := (unhide L0) _ S8.bel
    have ce : w.heap.size < W8.heap.size := Nat.lt_of_lt_of_le hz1 S8.bel.size
    obtain ⟨d0, d1, d2, d3⟩ := (unhide L1) _ S8.bel
    have de : w.heap.size + 1 < W8.heap.size := Nat.lt_of_lt_of_le hz2 S8.bel.size
    have x9 := hide (unhide Y7 W8 w7.heap.size b g1 g2 g3 h1 h2 h3 [] [] S8.bel S8.ln1 S8.ln2 S8.bk S8.sz (by simp) (by simp))
    clear S8 k8 q68 hq8 hb8 ht8 hc8 hW8 b7 q7 ln7 hg7 hh3l HLO HLN6 HQb6 HT6 HB6
    go_wp2_with (first | (refine wp_st25 rfl (.tmp 12) (.tmp 39) rfl w7.heap.size (by rfl) ly (some ⟨h1, 0, none⟩) (some ⟨h2, 0, none⟩) (some ⟨h3, 0, none⟩) yk (yk + 4) yv (yv + 4) yi (yi + 4) (by rfl) _ rfl (unhide HQ8) ?_; rw [unhide HW8]) | fail)
    refine (unhide x9).mono ?_
    rintro e w9 ⟨rfl, T9, N9, k9, lT9, lN9, o9⟩
    clear m0 m1 m2 m3 me n0 n1 n2 n3 ne c0 c1 c2 c3 ce d0 d1 d2 d3 de x9 HQ8 HW8
    have S9 := (unhide HS8).cut o9 k9
    have HS9 := hide S9
    have HL9 := hide (And.intro lT9 lN9)
    obtain ⟨m0, m1, m2, m3⟩ := box4 S9.own1 (Below.refl _ _) (lt_of_row S9.own1)
    have me := lt_of_row S9.own1
    obtain ⟨n0, n1, n2, n3⟩ := box4 S9.own2 (Below.refl _ _) (lt_of_row S9.own2)
    have ne := lt_of_row S9.own2
    obtain ⟨c0, c1, c2, c3⟩ := (unhide L0) _ S9.bel
    have ce : w.heap.size < w9.heap.size := Nat.lt_of_lt_of_le hz1 S9.bel.size
    obtain ⟨d0, d1, d2, d3⟩ := (unhide L1) _ S9.bel
    have de : w.heap.size + 1 < w9.heap.size := Nat.lt_of_lt_of_le hz2 S9.bel.size
    have x10 := hide (unhide Y7 w9 w7.heap.size b g1 g2 g3 h1 h2 h3 T9 N9 S9.bel S9.ln1 S9.ln2 S9.bk S9.sz (by rw [lT9]; simp) (by rw [lN9]; simp))
    clear S9 k9 o9 HS8 lT9 lN9 Y7
    go_wp2_with fail
    refine (unhide x10).mono ?_
    rintro e w10 ⟨rfl, T10, N10, k10, lT10, lN10, o10⟩
    clear m0 m1 m2 m3 me n0 n1 n2 n3 ne c0 c1 c2 c3 ce d0 d1 d2 d3 de x10
    have S10 := (unhide HS9).cut o10 k10
    have HS10 := hide S10
    have HL10 : Hid (T10.length = 4 ∧ N10.length = 2) := by
      obtain ⟨q1, q2⟩ := unhide HL9
      exact ⟨by rw [lT10, q1]; rfl, by rw [lN10, q2]; rfl⟩
    obtain ⟨m0, m1, m2, m3⟩ := box4 S10.own1 (Below.refl _ _) (lt_of_row S10.own1)
    have me := lt_of_row S10.own1
    obtain ⟨c0, c1, c2, c3⟩ := (unhide L0) _ S10.bel
    have ce : w.heap.size < w10.heap.size := Nat.lt_of_lt_of_le hz1 S10.bel.size
    have x11 := hide (unhide Y8 w10 g1 g2 g3 S10.bel S10.ln1)
    clear S10 k10 o10 HS9 HL9 lT10 lN10 Y8
    go_wp2_with fail
    refine (unhide x11).mono ?_
    rintro e w11 ⟨rfl, q11⟩
    clear m0 m1 m2 m3 me c0 c1 c2 c3 ce x11
    have S11 := (unhide HS10).below q11
    have HS11 := hide S11
    obtain ⟨n0, n1, n2, n3⟩ := box4 S11.own2 (Below.refl _ _) (lt_of_row S11.own2)
    have ne := lt_of_row S11.own2
    obtain ⟨d0, d1, d2, d3⟩ := (unhide L1) _ S11.bel
    have de : w.heap.size + 1 < w11.heap.size := Nat.lt_of_lt_of_le hz2 S11.bel.size
    have x12 := hide (unhide Y9 w11 h1 h2 h3 S11.bel S11.ln2)
    clear S11 q11 HS10 Y9
    go_wp2_with fail
    refine (unhide x12).mono ?_
    rintro e w12 ⟨rfl, q12⟩
    clear n0 n1 n2 n3 ne d0 d1 d2 d3 de x12
    have S12 := (unhide HS11).below q12
    have HS12 := hide S12
    obtain ⟨m0, m1, m2, m3⟩ := box4 S12.own1 (Below.refl _ _) (lt_of_row S12.own1)
    have me := lt_of_row S12.own1
    obtain ⟨f0, f1, f2, f3⟩ := (unhide L2) _ S12.bel
    have fe : w.heap.size + 1 + 1 < w12.heap.size := Nat.lt_of_lt_of_le hz3 S12.bel.size
    have x13 := hide (unhide Y10 w12 g1 g2 g3 S12.bel S12.ln1 ⟨S12.lo.2.1, S12.lo.2.2.1, S12.lo.2.2.2.1⟩)
    clear S12 q12 HS11 Y10
    go_wp2_with fail
    refine (unhide x13).mono ?_
    rintro e w13 ⟨rfl, ln13, o13⟩
    clear m0 m1 m2 m3 me f0 f1 f2 f3 fe x13
    have S13 := (unhide HS12).over o13 ln13
    have HS13 := hide S13
    obtain ⟨m0, m1, m2, m3⟩ := box4 S13.own1 (Below.refl _ _) (lt_of_row S13.own1)
    have me := lt_of_row S13.own1
    have x14 := hide (unhide Y11 w13 g1 g2 g3 S13.ln1)
    clear S13 o13 ln13 HS12 Y11
    go_wp2_with fail
    refine (unhide x14).mono ?_
    rintro e w14 ⟨vK, vV, vI, rfl, r14, q14⟩
    clear m0 m1 m2 m3 me x14
    have S14 := (unhide HS13).below q14
    obtain ⟨p1, u1, p2, u2, p3, u3, rfl, rfl, rfl⟩ := r14.form
    have zK := owns_z r14.rK
    have zV := owns_z r14.rV
    have zI := owns_z r14.rI
    have cI := owns_capb r14.rI
    have r15 := r14.na'
    obtain ⟨ek, ev, ei⟩ := unhide HEK
    rw [ei] at cI
    rw [ek, ev, ei]
    have hq15 := heap_alloc_new w14 (.cells #[.bool false, .slice none 0 0, .slice none 0 0, .slice none 0 0] 25)
    have hb15 := (Below.refl w14.heap.size w14).alloc (Nat.le_refl _) (.cells #[.bool false, .slice none 0 0, .slice none 0 0, .slice none 0 0] 25)
    have ht15 := setRow_heap _ _ _ #[.bool lx, .slice p1 xk u1, .slice p2 xv u2, .slice p3 xi u3] 25 _ hq15
    have hc15 := (setRow_only (w14.alloc (.cells #[.bool false, .slice none 0 0, .slice none 0 0, .slice none 0 0] 25)) w14.heap.size #[.bool lx, .slice p1 xk u1, .slice p2 xv u2, .slice p3 xi u3]).below hb15 hb15.size (fun k e => by omega)
    generalize hW15 : (w14.alloc (.cells #[.bool false, .slice none 0 0, .slice none 0 0, .slice none 0 0] 25)).setRow w14.heap.size #[.bool lx, .slice p1 xk u1, .slice p2 xv u2, .slice p3 xi u3] = W15 at ht15 hc15
    have HW15 := hide hW15
    have HQ15 := hide hq15
    have S15 := S14.below hc15
    have HS15 := hide S15
    have HT15 := hide ht15
    obtain ⟨m0, m1, m2, m3⟩ := box4 S15.own1 (Below.refl _ _) (lt_of_row S15.own1)
    have me := lt_of_row S15.own1
    obtain ⟨n0, n1, n2, n3⟩ := box4 S15.own2 (Below.refl _ _) (lt_of_row S15.own2)
    have ne := lt_of_row S15.own2
    obtain ⟨d0, d1, d2, d3⟩ := (unhide L1) _ S15.bel
    have de : w.heap.size + 1 < W15.heap.size := Nat.lt_of_lt_of_le hz2 S15.bel.size
    obtain ⟨k0, k1, k2, k3⟩ := box4 ht15 (Below.refl _ _) (lt_of_row ht15)
    have ke := lt_of_row ht15
    obtain ⟨lT10, lN10⟩ := unhide HL10
    have R15 := r14.below hc15
    have HR15 := hide R15
    have x15 := hide (unhide Y12 W15 w7.heap.size b g1 g2 g3 h1 h2 h3 T10 N10 S15.bel S15.ln1 S15.ln2 p1 p2 p3 u1 u2 u3 (r15.below hc15) zK zV zI cI.1 cI.2 S15.bk S15.sz (by omega) (by omega))
    have HZZ := hide (And.intro zK (And.intro zV (And.intro zI cI)))
    have HLF := hide (And.intro lT10 lN10)
    clear S14 S15 r14 r15 R15 q14 hq15 hb15 ht15 hc15 hW15 zK zV zI cI ek ev ei HS13 Y12 lT10 lN10
    go_wp2_with (first | (refine wp_st25 rfl (.tmp 17) (.tmp 64) rfl w14.heap.size (by rfl) lx p1 p2 p3 xk u1 xv u2 xi u3 (by rfl) _ rfl (unhide HQ15) ?_; rw [unhide HW15]) | fail)
    refine (unhide x15).mono ?_
    rintro e w16 ⟨rfl, T16, N16, k16, lT16, lN16, o16⟩
    clear m0 m1 m2 m3 me n0 n1 n2 n3 ne d0 d1 d2 d3 de k0 k1 k2 k3 ke x15 HQ15 HW15
    have S16 := (unhide HS15).cut o16 k16
    have HS16 := hide S16
    have HL16 : Hid (T16.length = 6 ∧ N16.length = 3) := by
      obtain ⟨q1, q2⟩ := unhide HLF
      exact ⟨by rw [lT16, q1], by rw [lN16, q2]⟩
    obtain ⟨m0, m1, m2, m3⟩ := box4 S16.own1 (Below.refl _ _) (lt_of_row S16.own1)
    have me := lt_of_row S16.own1
    obtain ⟨n0, n1, n2, n3⟩ := box4 S16.own2 (Below.refl _ _) (lt_of_row S16.own2)
    have ne := lt_of_row S16.own2
    obtain ⟨d0, d1, d2, d3⟩ := (unhide L1) _ S16.bel
    have de : w.heap.size + 1 < w16.heap.size := Nat.lt_of_lt_of_le hz2 S16.bel.size
    have ht16 := bkt_box (unhide HT15) o16 (by decide)
    obtain ⟨k0, k1, k2, k3⟩ := box4 ht16 (Below.refl _ _) (lt_of_row ht16)
    have ke := lt_of_row ht16
    have R16 := ((unhide HR15).bkt o16).na'
    obtain ⟨lT16', lN16'⟩ := unhide HL16
    obtain ⟨zK, zV, zI, cI⟩ := unhide HZZ
    have x17 := hide (unhide Y13 w16 w7.heap.size b g1 g2 g3 h1 h2 h3 T16 N16 S16.bel S16.ln1 S16.ln2 p1 p2 p3 u1 u2 u3 R16 zK zV zI cI.1 cI.2 S16.bk S16.sz (by omega) (by omega))
    clear S16 R16 ht16 k16 o16 HS15 HT15 HR15 HLF HL10 lT16 lN16 lT16' lN16' zK zV zI cI Y13
    go_wp2_with fail
    refine (unhide x17).mono ?_
    rintro e w17 ⟨rfl, T17, N17, k17, lT17, lN17, o17⟩
    clear m0 m1 m2 m3 me n0 n1 n2 n3 ne d0 d1 d2 d3 de k0 k1 k2 k3 ke x17
    have S17 := (unhide HS16).cut o17 k17
    have x18 := hide (bok_apart S17.bk.b (by have := (unhide HL16).1; omega) (by have := (unhide HL16).2; omega))
    have HS17 := hide S17
    clear S17 k17 o17 lT17 lN17 HS16
    go_wp2_with fail
    refine (unhide x18).mono ?_
    rintro e w18 ⟨rfl, o18⟩
    have HO := hide o18
    clear o18 x18
    go_wp2
    go_ret
    have hS := unhide HS17
    have hA2 := (unhide HA).trans (hS.bel.mono (unhide HA).size)
    exact ⟨by first | rfl | simp, (unhide HO).below hA2 hA2.size (fun k q => by have := hS.lo.1; have := (unhide HA).size; omega)⟩
end Go.Proofs.YtllialbdofklgaaGreatDoor
