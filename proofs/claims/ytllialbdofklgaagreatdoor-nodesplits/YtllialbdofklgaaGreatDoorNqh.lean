import Derived.Test.YtllialbdofklgaaGreatDoorNqe
import Derived.Test.YtllialbdofklgaaGreatDoorNqf
import Derived.Test.YtllialbdofklgaaGreatDoorZrgsd
import Derived.Test.YtllialbdofklgaaGreatDoorZnee
import Derived.Test.YtllialbdofklgaaGreatDoorZnds
namespace Go.Proofs.YtllialbdofklgaaGreatDoor
open Go.RowKit
set_option maxHeartbeats 16000000
set_option maxRecDepth 8000
/-- A node in a box. -/
def bxc (n : Nd) (ka va ia : Option Addr) (kc vc ic : Nat) : Array Value := #[.bool n.leaf, .slice ka n.keys.length kc, .slice va n.vals.length vc, .slice ia n.kids.length ic]
/-- What stands between two calls of the body. -/
structure Bdy (W2 : World) (b ob C g1 g2 g3 : Nat) (oc : Array Value) (nn : Nd) (T : List (Value × Value × List Bs)) (N : List (Value × Value × List Int)) (W : World) : Prop where
  bel : Below W2.heap.size W2 W
  own : W.heap[ob]? = some (.cells oc 25 (0, 0))
  ln : LN nn g1 g2 g3 W
  bk : Bok2 b C b T N W
  sz : C ≤ W.heap.size
  lo : W2.heap.size ≤ b ∧ W2.heap.size ≤ g1 ∧ g1 < g2 ∧ g2 < g3 ∧ g3 < C ∧ C ≤ ob
theorem Bdy.below {W2 : World} {b ob C g1 g2 g3 : Nat} {oc : Array Value} {nn : Nd} {T : List (Value × Value × List Bs)} {N : List (Value × Value × List Int)} {W W' : World} (h : Bdy W2 b ob C g1 g2 g3 oc nn T N W) (q : Below W.heap.size W W') : Bdy W2 b ob C g1 g2 g3 oc nn T N W' :=
  ⟨h.bel.trans (q.mono h.bel.size), (q.block _ (lt_of_row h.own)).trans h.own, h.ln.below q, h.bk.below q, Nat.le_trans h.sz q.size, h.lo⟩
theorem Bdy.cut {W2 : World} {b ob C g1 g2 g3 : Nat} {oc : Array Value} {nn : Nd} {T T' : List (Value × Value × List Bs)} {N N' : List (Value × Value × List Int)} {W W' : World} (h : Bdy W2 b ob C g1 g2 g3 oc nn T N W) (o : Only (bkt b W) W W') (k : Bok2 b C b T' N' W') : Bdy W2 b ob C g1 g2 g3 oc nn T' N' W' :=
  ⟨o.below h.bel h.bel.size (fun j q => Nat.le_trans h.lo.1 q.1), bkt_box h.own o (by decide), h.ln.bkt o, k, Nat.le_trans h.sz o.size, h.lo⟩
theorem Bdy.over {W2 : World} {b ob C g1 g2 g3 : Nat} {oc : Array Value} {nn mm : Nd} {T : List (Value × Value × List Bs)} {N : List (Value × Value × List Int)} {W W' : World} (h : Bdy W2 b ob C g1 g2 g3 oc nn T N W) (o : Only (fun k => k = g1 ∨ k = g2 ∨ k = g3) W W') (l : LN mm g1 g2 g3 W') : Bdy W2 b ob C g1 g2 g3 oc mm T N W' := by
  have hl := h.lo
  refine ⟨o.below h.bel h.bel.size (fun j q => by omega), (o.block _ (lt_of_row h.own) (fun q => by omega)).trans h.own, l, h.bk.over o (fun k q => ⟨by omega, ?_⟩), Nat.le_trans h.sz o.size, h.lo⟩
  rcases q with rfl | rfl | rfl
  · exact ⟨_, _, h.ln.k, by decide, by decide, by decide⟩
  · exact ⟨_, _, h.ln.v, by decide, by decide, by decide⟩
  · exact ⟨_, _, h.ln.i, by decide, by decide, by decide⟩
theorem nodeSplits_any (n m : Nd) (ka va ia kb vb ib : Option Addr) (kc vc ic kd vd jd : Nat) (w : World) (h : NA n ka va ia w) (g : NA m kb vb ib w) (z1 : ka = none → kc = 0) (z2 : va = none → vc = 0) (z3 : ia = none → ic = 0) (y1 : kb = none → kd = 0) (y2 : vb = none → vd = 0) (y3 : ib = none → jd = 0)
    (b1 : n.keys.length ≤ 9223372036854775807) (b2 : n.vals.length ≤ 9223372036854775807) (b3 : n.kids.length ≤ 9223372036854775807) (L1 : ∀ j, (n.keys.getD j []).length ≤ 9223372036854775807) (L2 : ∀ j, (n.vals.getD j []).length ≤ 9223372036854775807)
    (d1 : m.keys.length ≤ 9223372036854775807) (d2 : m.vals.length ≤ 9223372036854775807) (d3 : m.kids.length ≤ 9223372036854775807) (M1 : ∀ j, (m.keys.getD j []).length ≤ 9223372036854775807) (M2 : ∀ j, (m.vals.getD j []).length ≤ 9223372036854775807)
    (ck : n.keys.length ≤ kc) (cv : n.vals.length ≤ vc) (ci : n.kids.length ≤ ic) (hic : ic ≤ 9223372036854775807) :
    Calls Tryz.prog 5 #[nda n ka va ia kc vc ic, nda m kb vb ib kd vd jd] w fun e w' => e = .returned (.bool true) ∧ Below w.heap.size w w' := by
  have tb := two_box w (bxc n ka va ia kc vc ic) (bxc m kb vb ib kd vd jd)
  have hs2 : ((w.alloc (.cells (bxc n ka va ia kc vc ic) 25)).alloc (.cells (bxc m kb vb ib kd vd jd) 25)).heap.size = w.heap.size + 1 + 1 := by simp
  generalize hW2 : (w.alloc (.cells (bxc n ka va ia kc vc ic) 25)).alloc (.cells (bxc m kb vb ib kd vd jd) 25) = W2 at tb hs2
  obtain ⟨hA, hg1, hg2⟩ := tb
  have hN := fun {W : World} (q : Below W2.heap.size W2 W) => (h.below hA).below q
  have hM := fun {W : World} (q : Below W2.heap.size W2 W) => (g.below hA).below q
  have hnl := nwe_le n
  have hml := nwe_le m
  have X0 := hide (fun W (q : Below W2.heap.size W2 W) => nodeWeighs_any n ka va ia kc vc ic W (hN q) b1 b2 b3 L1 L2)
  have X1 := hide (fun W (q : Below W2.heap.size W2 W) => nodeWeighs_any m kb vb ib kd vd jd W (hM q) d1 d2 d3 M1 M2)
  have X2 := hide (fun W => addsUp_any (nwe n) (nwe m) W (by omega) (by omega))
  have HA := hide hA
  have HG1 := hide hg1
  have HG2 := hide hg2
  have hz1 := lt_of_row hg1
  have hz2 := lt_of_row hg2
  have l0 : ∀ W : World, Below W2.heap.size W2 W → _ := fun W q => box4 (by unfold bxc at hg1; exact hg1) q hz1
  have l2 : ∀ W : World, Below W2.heap.size W2 W → _ := fun W q => box4 (by unfold bxc at hg2; exact hg2) q hz2
  by_cases hbig : 2147483647 < add3 (nwe n) (nwe m)
  · unfold nda at X0 X1 ⊢
    unfold bxc at hW2
    generalize add3 (nwe n) (nwe m) = T2 at *
    generalize nwe n = T0 at *
    generalize nwe m = T1 at *
    have h' : decide ((2147483647 : Int) < (T2 : Int)) = true := by rw [decide_eq_true_eq]; omega
    clear hA hg1 hg2 hN hM h g L1 L2 M1 M2
    generalize n.keys.length = kl at *
    generalize n.vals.length = vl at *
    generalize n.kids.length = il at *
    generalize n.leaf = lf at *
    generalize m.keys.length = jl at *
    generalize m.vals.length = ul at *
    generalize m.kids.length = hl at *
    generalize m.leaf = lg at *
    go_enter Tryz.func5, Tryz.ntmps5
    go_wp2
    try rw [hW2]
    refine rns w.heap.size (w.heap.size + 1) kl kc vl vc il ic jl kd ul vd hl jd T0 T1 T2 ka va ia kb vb ib lf lg (by kernel_rfl) (by kernel_rfl) (by kernel_rfl) _ _ (by show 20 ≤ Array.size _; simp) rfl rfl (fun _ W => Below W2.heap.size W2 W) ?h0 ?hp ?l0 ?l2 ?c1 ?c3 ?c4 ?_
    case h0 => exact (Below.refl _ _).drew
    case hp => exact fun _ _ _ _ q => q
    case l0 => exact fun _ W q => l0 W q
    case l2 => exact fun _ W q => l2 W q
    case c1 =>
      intro L W q _
      refine (unhide X0 W q).mono ?_
      rintro e w' ⟨rfl, q1⟩
      exact ⟨rfl, q.trans (q1.mono q.size)⟩
    case c3 =>
      intro L W q _
      refine (unhide X1 W q).mono ?_
      rintro e w' ⟨rfl, q1⟩
      exact ⟨rfl, q.trans (q1.mono q.size)⟩
    case c4 =>
      intro L W q _
      refine (unhide X2 W).mono ?_
      rintro e w' ⟨rfl, rfl⟩
      exact ⟨rfl, q⟩
    intro L W _ hW
    have HB := hide ((unhide HA).trans (hW.mono (unhide HA).size))
    clear hW l0 l2
    simp only [Act.put, List.setIfInBounds_toArray, List.set_cons_succ, List.set_cons_zero]
    go_wp2
    go_ret
    exact ⟨rfl, unhide HB⟩
  · have hs := add3_sm (show add3 (nwe n) (nwe m) ≤ 2147483647 by omega)
    have hnb := nwe_nb (show nwe n ≤ 2147483647 by omega)
    obtain ⟨s1, s2, s3⟩ := nwe_sm (show nwe n ≤ 2147483647 by omega)
    obtain ⟨t1, t2, t3⟩ := nwe_sm (show nwe m ≤ 2147483647 by omega)
    have hob : NB (ovn n m) := hnb.ovn (by omega) (by omega)
    have hi4 : n.kids.length + 4 ≤ 9223372036854775807 := by omega
    have ek : (ovn n m).keys.length = n.keys.length := ovr_len _ _
    have ev : (ovn n m).vals.length = n.vals.length := ovr_len _ _
    have ei : (ovn n m).kids.length = n.kids.length := ovr_len _ _
    have X4 := hide (fun W => awake_any W)
    have X5 := hide (fun W (q : Below W2.heap.size W2 W) => lentN2_any n ka va ia kc vc ic W (hN q) hnb z1 z2 z3)
    have X6 := hide (fun W C b g1 g2 g3 T N (q : Below W2.heap.size W2 W) (l : LN n g1 g2 g3 W) (k : Bok2 b C b T N W) (hC : C ≤ W.heap.size) (e1 : T.length ≤ 100000) (e2 : N.length ≤ 100000) => bok_cut2 C n b b (some ⟨g1, 0, none⟩) (some ⟨g2, 0, none⟩) (some ⟨g3, 0, none⟩) ka va ia (n.keys.length + 4) (n.vals.length + 4) (n.kids.length + 4) kc vc ic T N W l.na (hN q) hnb (by omega) (by omega) (by omega) hi4 ck cv ci hic k hC e1 e2)
    have X7 := hide (fun W g1 g2 g3 (q : Below W2.heap.size W2 W) (l : LN n g1 g2 g3 W) => whole_any n g1 g2 g3 ka va ia kc vc ic W l (hN q) hnb)
    have X8 := hide (fun W g1 g2 g3 (q : Below W2.heap.size W2 W) (l : LN n g1 g2 g3 W) (hg : W2.heap.size ≤ g1 ∧ g1 < g2 ∧ g2 < g3) => over_any n m g1 g2 g3 kb vb ib kd vd jd W2 W l (hM (Below.refl _ _)) q hg y1 y2 y3)
    have X9 := hide (fun W g1 g2 g3 (l : LN (ovn n m) g1 g2 g3 W) => lcopied_any (ovn n m) (some ⟨g1, 0, none⟩) (some ⟨g2, 0, none⟩) (some ⟨g3, 0, none⟩) (n.keys.length + 4) (n.vals.length + 4) (n.kids.length + 4) W l.na hob (fun q => nomatch q) (fun q => nomatch q) (fun q => nomatch q))
    have X10 := hide (fun W C b g1 g2 g3 T N (l : LN (ovn n m) g1 g2 g3 W) ja ua ha jc uc hc (l2 : NA (ovn n m) ja ua ha W) (f1 : (ovn n m).keys.length ≤ jc) (f2 : (ovn n m).vals.length ≤ uc) (f3 : (ovn n m).kids.length ≤ hc) (f4 : hc ≤ 9223372036854775807) (k : Bok2 b C b T N W) (hC : C ≤ W.heap.size) (e1 : T.length ≤ 100000) (e2 : N.length ≤ 100000) => bok_cut2 C (ovn n m) b b (some ⟨g1, 0, none⟩) (some ⟨g2, 0, none⟩) (some ⟨g3, 0, none⟩) ja ua ha (n.keys.length + 4) (n.vals.length + 4) (n.kids.length + 4) jc uc hc T N W l.na l2 hob (by omega) (by omega) (by omega) hi4 f1 f2 f3 f4 k hC e1 e2)
    have hlf : (ovn n m).leaf = n.leaf := rfl
    unfold nda at X0 X1 X5 X6 X7 X8 X9 X10 ⊢
    unfold lnv at X5 X7 X8
    unfold bxc at hW2
    rw [hlf, ek, ev, ei] at X9 X10
    generalize add3 (nwe n) (nwe m) = T2 at *
    generalize nwe n = T0 at *
    generalize nwe m = T1 at *
    have h' : decide ((2147483647 : Int) < (T2 : Int)) = false := by rw [decide_eq_false_iff_not]; omega
    have HNL := hide (And.intro hnb hob)
    clear hA hg1 hg2 hN hM h g L1 L2 M1 M2 hnb hob s1 s2 s3 t1 t2 t3 hs z1 z2 z3 y1 y2 y3 hlf
    have HEK := hide (And.intro ek (And.intro ev ei))
    clear ek ev ei b1 b2 b3 d1 d2 d3 ck cv ci hic
    generalize hkl : n.keys.length = kl at *
    generalize hvl : n.vals.length = vl at *
    generalize hil : n.kids.length = il at *
    generalize hlf : n.leaf = lf at *
    generalize m.keys.length = jl at *
    generalize m.vals.length = ul at *
    generalize m.kids.length = hl at *
    generalize m.leaf = lg at *
    clear hkl hvl hil hlf
    go_enter Tryz.func5, Tryz.ntmps5
    go_wp2
    try rw [hW2]
    refine rns w.heap.size (w.heap.size + 1) kl kc vl vc il ic jl kd ul vd hl jd T0 T1 T2 ka va ia kb vb ib lf lg (by kernel_rfl) (by kernel_rfl) (by kernel_rfl) _ _ (by show 20 ≤ Array.size _; simp) rfl rfl (fun _ W => Below W2.heap.size W2 W) ?h0 ?hp ?l0 ?l2 ?c1 ?c3 ?c4 ?_
    case h0 => exact (Below.refl _ _).drew
    case hp => exact fun _ _ _ _ q => q
    case l0 => exact fun _ W q => l0 W q
    case l2 => exact fun _ W q => l2 W q
    case c1 =>
      intro L W q _
      refine (unhide X0 W q).mono ?_
      rintro e w' ⟨rfl, q1⟩
      exact ⟨rfl, q.trans (q1.mono q.size)⟩
    case c3 =>
      intro L W q _
      refine (unhide X1 W q).mono ?_
      rintro e w' ⟨rfl, q1⟩
      exact ⟨rfl, q.trans (q1.mono q.size)⟩
    case c4 =>
      intro L W q _
      refine (unhide X2 W).mono ?_
      rintro e w' ⟨rfl, rfl⟩
      exact ⟨rfl, q⟩
    intro L W _ hW
    have HW := hide hW
    have L0 := hide l0
    have L2' := hide l2
    clear hW l0 l2 X0 X1 X2 hW2
    simp only [Act.put, List.setIfInBounds_toArray, List.set_cons_succ, List.set_cons_zero]
    go_wp2_with fail
    refine (unhide X4 _).mono ?_
    rintro e w3 ⟨rfl, q3⟩
    have b3 := (unhide HW).trans (q3.mono (unhide HW).size)
    have hq := heap_alloc_new w3 (.cells #[.slice none 0 0, .slice none 0 0, .slice none 0 0, .slice none 0 0] 36)
    have b4 := (Below.refl w3.heap.size w3).alloc (Nat.le_refl _) (.cells #[.slice none 0 0, .slice none 0 0, .slice none 0 0, .slice none 0 0] 36)
    have HB3 := hide b3
    clear q3 b3 X4 HW
    go_upto_region 5 with fail
    generalize w3.alloc (.cells #[.slice none 0 0, .slice none 0 0, .slice none 0 0, .slice none 0 0] 36) = W4 at hq b4 ⊢
    have b24 : Below W2.heap.size W2 W4 := (unhide HB3).trans (b4.mono (unhide HB3).size)
    have hb0 : W2.heap.size ≤ w3.heap.size := (unhide HB3).size
    generalize hbk : w3.heap.size = b at *
    have HQ := hide hq
    have hbl := lt_of_row hq
    have HB24 := hide b24
    have x5 := hide (unhide X5 W4 b24)
    obtain ⟨c0, c1, c2, c3⟩ := (unhide L0) _ b24
    have e0 : w.heap.size < W4.heap.size := Nat.lt_of_lt_of_le hz1 b24.size
    clear hq b4 b24 X5 HB3 hbk
    go_wp2_with fail
    refine (unhide x5).mono ?_
    rintro e w5 ⟨g1, g2, g3, rfl, ln5, hg5, q5⟩
    clear c0 c1 c2 c3 x5 e0
    have b5 := (unhide HB24).trans (q5.mono (unhide HB24).size)
    have k5 : Bok2 b w5.heap.size b [] [] w5 := bok2_new ((q5.block _ hbl).trans (unhide HQ)) (Nat.le_refl _)
    have hg3l : g3 < w5.heap.size := ln5.i.lt
    have hq6 := heap_alloc_new w5 (.cells #[.bool false, .slice none 0 0, .slice none 0 0, .slice none 0 0] 25)
    have hb6 := (Below.refl w5.heap.size w5).alloc (Nat.le_refl _) (.cells #[.bool false, .slice none 0 0, .slice none 0 0, .slice none 0 0] 25)
    have ht6 := setRow_heap _ _ _ #[.bool lf, .slice (some ⟨g1, 0, none⟩) kl (kl + 4), .slice (some ⟨g2, 0, none⟩) vl (vl + 4), .slice (some ⟨g3, 0, none⟩) il (il + 4)] 25 _ hq6
    have hc6 := (setRow_only (w5.alloc (.cells #[.bool false, .slice none 0 0, .slice none 0 0, .slice none 0 0] 25)) w5.heap.size #[.bool lf, .slice (some ⟨g1, 0, none⟩) kl (kl + 4), .slice (some ⟨g2, 0, none⟩) vl (vl + 4), .slice (some ⟨g3, 0, none⟩) il (il + 4)]).below hb6 hb6.size (fun k e => by omega)
    generalize hW6 : (w5.alloc (.cells #[.bool false, .slice none 0 0, .slice none 0 0, .slice none 0 0] 25)).setRow w5.heap.size #[.bool lf, .slice (some ⟨g1, 0, none⟩) kl (kl + 4), .slice (some ⟨g2, 0, none⟩) vl (vl + 4), .slice (some ⟨g3, 0, none⟩) il (il + 4)] = W6 at ht6 hc6
    have HW6 := hide hW6
    have HQ6 := hide hq6
    have S6 : Bdy W2 b w5.heap.size w5.heap.size g1 g2 g3 #[.bool lf, .slice (some ⟨g1, 0, none⟩) kl (kl + 4), .slice (some ⟨g2, 0, none⟩) vl (vl + 4), .slice (some ⟨g3, 0, none⟩) il (il + 4)] n [] [] W6 := ⟨b5.trans (hc6.mono b5.size), ht6, ln5.below hc6, k5.below hc6, hc6.size, hb0, by have := (unhide HB24).size; omega, hg5.2.1, hg5.2.2, hg3l, Nat.le_refl _⟩
    have HS6 := hide S6
    obtain ⟨c0, c1, c2, c3⟩ := (unhide L0) _ S6.bel
    obtain ⟨d0, d1, d2, d3⟩ := box4 ht6 (Below.refl _ _) (lt_of_row ht6)
    have e0 : w.heap.size < W6.heap.size := Nat.lt_of_lt_of_le hz1 S6.bel.size
    have e1 := lt_of_row ht6
    have x6 := hide (unhide X6 W6 w5.heap.size b g1 g2 g3 [] [] S6.bel S6.ln S6.bk S6.sz (by simp) (by simp))
    clear S6 b5 k5 hq6 hb6 ht6 hc6 hW6 q5 ln5 HQ HB24 hbl
    go_wp2_with (first | (refine wp_st25 rfl (.tmp 7) (.tmp 24) rfl w5.heap.size (by rfl) lf (some ⟨g1, 0, none⟩) (some ⟨g2, 0, none⟩) (some ⟨g3, 0, none⟩) kl (kl + 4) vl (vl + 4) il (il + 4) (by rfl) _ rfl (unhide HQ6) ?_; rw [unhide HW6]) | fail)
    refine (unhide x6).mono ?_
    rintro e w7 ⟨rfl, T7, N7, k7, lT7, lN7, o7⟩
    clear c0 c1 c2 c3 d0 d1 d2 d3 e0 e1 HQ6 HW6 x6
    have S7 := (unhide HS6).cut o7 k7
    have HS7 := hide S7
    obtain ⟨c0, c1, c2, c3⟩ := (unhide L0) _ S7.bel
    obtain ⟨d0, d1, d2, d3⟩ := box4 S7.own (Below.refl _ _) (lt_of_row S7.own)
    have e0 : w.heap.size < w7.heap.size := Nat.lt_of_lt_of_le hz1 S7.bel.size
    have e1 := lt_of_row S7.own
    have x7 := hide (unhide X6 w7 w5.heap.size b g1 g2 g3 T7 N7 S7.bel S7.ln S7.bk S7.sz (by rw [lT7]; simp) (by rw [lN7]; simp))
    have HL7 := hide (And.intro lT7 lN7)
    clear S7 k7 o7 HS6 lT7 lN7 X6
    go_wp2_with fail
    refine (unhide x7).mono ?_
    rintro e w8 ⟨rfl, T8, N8, k8, lT8, lN8, o8⟩
    clear c0 c1 c2 c3 d0 d1 d2 d3 e0 e1 x7
    have S8 := (unhide HS7).cut o8 k8
    have HS8 := hide S8
    have HL8 : Hid (T8.length = 8 ∧ N8.length = 4) := by
      obtain ⟨q1, q2⟩ := unhide HL7
      exact ⟨by rw [lT8, q1]; rfl, by rw [lN8, q2]; rfl⟩
    obtain ⟨c0, c1, c2, c3⟩ := (unhide L0) _ S8.bel
    obtain ⟨d0, d1, d2, d3⟩ := box4 S8.own (Below.refl _ _) (lt_of_row S8.own)
    have e0 : w.heap.size < w8.heap.size := Nat.lt_of_lt_of_le hz1 S8.bel.size
    have e1 := lt_of_row S8.own
    have x8 := hide (unhide X7 w8 g1 g2 g3 S8.bel S8.ln)
    clear S8 k8 o8 HS7 HL7 lT8 lN8 X7
    go_wp2_with fail
    refine (unhide x8).mono ?_
    rintro e w9 ⟨rfl, q9⟩
    clear c0 c1 c2 c3 d0 d1 d2 d3 e0 e1 x8
    have S9 := (unhide HS8).below q9
    have HS9 := hide S9
    obtain ⟨c0, c1, c2, c3⟩ := (unhide L2') _ S9.bel
    obtain ⟨d0, d1, d2, d3⟩ := box4 S9.own (Below.refl _ _) (lt_of_row S9.own)
    have e0 : w.heap.size + 1 < w9.heap.size := Nat.lt_of_lt_of_le hz2 S9.bel.size
    have e1 := lt_of_row S9.own
    have x9 := hide (unhide X8 w9 g1 g2 g3 S9.bel S9.ln ⟨S9.lo.2.1, S9.lo.2.2.1, S9.lo.2.2.2.1⟩)
    clear S9 q9 HS8 X8
    go_wp2_with fail
    refine (unhide x9).mono ?_
    rintro e w10 ⟨rfl, ln10, o10⟩
    clear c0 c1 c2 c3 d0 d1 d2 d3 e0 e1 x9
    have S10 := (unhide HS9).over o10 ln10
    have HS10 := hide S10
    obtain ⟨d0, d1, d2, d3⟩ := box4 S10.own (Below.refl _ _) (lt_of_row S10.own)
    have e1 := lt_of_row S10.own
    have x10 := hide (unhide X9 w10 g1 g2 g3 S10.ln)
    clear S10 o10 ln10 HS9 X9
    go_wp2_with fail
    refine (unhide x10).mono ?_
    rintro e w11 ⟨vK, vV, vI, rfl, r11, q11⟩
    clear d0 d1 d2 d3 e1 x10
    have S11 := (unhide HS10).below q11
    obtain ⟨p1, u1, p2, u2, p3, u3, rfl, rfl, rfl⟩ := r11.form
    have cK := owns_capb r11.rK
    have cV := owns_capb r11.rV
    have cI := owns_capb r11.rI
    have hq12 := heap_alloc_new w11 (.cells #[.bool false, .slice none 0 0, .slice none 0 0, .slice none 0 0] 25)
    have hb12 := (Below.refl w11.heap.size w11).alloc (Nat.le_refl _) (.cells #[.bool false, .slice none 0 0, .slice none 0 0, .slice none 0 0] 25)
    obtain ⟨ek, ev, ei⟩ := unhide HEK
    have r12 := r11.na'
    rw [ek] at cK
    rw [ev] at cV
    rw [ei] at cI
    simp only [ek, ev, ei] at X10 ⊢
    have ht12 := setRow_heap _ _ _ #[.bool lf, .slice p1 kl u1, .slice p2 vl u2, .slice p3 il u3] 25 _ hq12
    have hc12 := (setRow_only (w11.alloc (.cells #[.bool false, .slice none 0 0, .slice none 0 0, .slice none 0 0] 25)) w11.heap.size #[.bool lf, .slice p1 kl u1, .slice p2 vl u2, .slice p3 il u3]).below hb12 hb12.size (fun k e => by omega)
    generalize hW12 : (w11.alloc (.cells #[.bool false, .slice none 0 0, .slice none 0 0, .slice none 0 0] 25)).setRow w11.heap.size #[.bool lf, .slice p1 kl u1, .slice p2 vl u2, .slice p3 il u3] = W12 at ht12 hc12
    have HW12 := hide hW12
    have HQ12 := hide hq12
    have S12 := S11.below hc12
    have HS12 := hide S12
    obtain ⟨c0, c1, c2, c3⟩ := box4 ht12 (Below.refl _ _) (lt_of_row ht12)
    obtain ⟨d0, d1, d2, d3⟩ := box4 S12.own (Below.refl _ _) (lt_of_row S12.own)
    have e0 := lt_of_row ht12
    have e1 := lt_of_row S12.own
    obtain ⟨lT8, lN8⟩ := unhide HL8
    have x12 := hide (unhide X10 W12 w5.heap.size b g1 g2 g3 T8 N8 S12.ln p1 p2 p3 u1 u2 u3 (r12.below hc12) cK.1 cV.1 cI.1 cI.2 S12.bk S12.sz (by omega) (by omega))
    have HLF := hide (And.intro lT8 lN8)
    clear S11 S12 r11 r12 q11 hq12 hb12 ht12 hc12 hW12 cK cV cI ek ev ei HS10 X10 lT8 lN8
    go_wp2_with (first | (refine wp_st25 rfl (.tmp 11) (.tmp 40) rfl w11.heap.size (by rfl) lf p1 p2 p3 kl u1 vl u2 il u3 (by rfl) _ rfl (unhide HQ12) ?_; rw [unhide HW12]) | fail)
    refine (unhide x12).mono ?_
    rintro e w13 ⟨rfl, T13, N13, k13, lT13, lN13, o13⟩
    clear c0 c1 c2 c3 d0 d1 d2 d3 e0 e1 HQ12 HW12 x12
    have S13 := (unhide HS12).cut o13 k13
    have x13 := hide (bok_apart S13.bk.b (by have := (unhide HLF).1; omega) (by have := (unhide HLF).2; omega))
    have HS13 := hide S13
    clear S13 k13 o13 lT13 lN13 HS12
    go_wp2_with fail
    refine (unhide x13).mono ?_
    rintro e w14 ⟨rfl, o14⟩
    have HO := hide o14
    clear o14 x13
    go_wp2
    go_ret
    have hS := unhide HS13
    have hA2 := (unhide HA).trans (hS.bel.mono (unhide HA).size)
    exact ⟨by first | rfl | simp, (unhide HO).below hA2 hA2.size (fun k q => by have := hS.lo.1; have := (unhide HA).size; omega)⟩
end Go.Proofs.YtllialbdofklgaaGreatDoor
