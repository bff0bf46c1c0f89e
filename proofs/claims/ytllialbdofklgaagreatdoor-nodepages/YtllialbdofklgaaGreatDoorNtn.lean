import Derived.Test.YtllialbdofklgaaGreatDoorZntl
import Derived.Test.YtllialbdofklgaaGreatDoorNqh
import Derived.Test.YtllialbdofklgaaGreatDoorRgnp
namespace Go.Proofs.YtllialbdofklgaaGreatDoor
open Go.RowKit
set_option linter.unusedVariables false
set_option linter.unusedSimpArgs false
set_option maxHeartbeats 16000000
set_option maxRecDepth 8000
theorem pageWeighs2 (k nu bi : Int) (la : Option Addr) (ln lc : Nat) (x : Bs) (w : World) (h1 : ln ≤ 9223372036854775807) (h2 : x.length ≤ 9223372036854775807) :
    Calls Tryz.prog 12 #[.agg #[I k, I nu, I bi, .slice la ln lc, S x]] w fun e w' => e = .returned (I (add3 ln x.length)) ∧ Below w.heap.size w w' := by
  have hA := (Below.refl w.heap.size w).alloc (Nat.le_refl _) (.cells #[I k, I nu, I bi, .slice la ln lc, S x] 27)
  have HA := hide hA
  have H := hide (addsUp_any ln x.length (w.alloc (.cells #[I k, I nu, I bi, .slice la ln lc, S x] 27)) h1 h2)
  clear hA
  generalize add3 ln x.length = F at *
  go_enter Tryz.func12, Tryz.ntmps12
  go_wp2_with fail
  refine (unhide H).mono ?_
  rintro e w1 ⟨rfl, rfl⟩
  go_wp2
  go_ret
  exact ⟨rfl, unhide HA⟩

theorem mix_box (w : World) (A B C : Array Value) : Below w.heap.size w (((w.alloc (.cells A 25)).alloc (.cells B 27)).alloc (.cells C 25)) ∧ (((w.alloc (.cells A 25)).alloc (.cells B 27)).alloc (.cells C 25)).heap[w.heap.size]? = some (.cells A 25 (0, 0)) ∧ (((w.alloc (.cells A 25)).alloc (.cells B 27)).alloc (.cells C 25)).heap[w.heap.size + 1]? = some (.cells B 27 (0, 0)) ∧ (((w.alloc (.cells A 25)).alloc (.cells B 27)).alloc (.cells C 25)).heap[w.heap.size + 1 + 1]? = some (.cells C 25 (0, 0)) := by
  have h1 := (Below.refl w.heap.size w).alloc (Nat.le_refl _) (.cells A 25)
  have h2 := heap_alloc_new w (.cells A 25)
  have h3 := size_alloc w (.cells A 25)
  generalize w.alloc (.cells A 25) = W1 at *
  have h4 := h1.alloc h1.size (.cells B 27)
  have h5 := heap_alloc_new W1 (.cells B 27)
  have h6 := size_alloc W1 (.cells B 27)
  have h7 := (alloc_old W1 (.cells B 27) (lt_of_row h2)).trans h2
  generalize W1.alloc (.cells B 27) = W2 at *
  have h8 := heap_alloc_new W2 (.cells C 25)
  rw [h3] at h5 h6
  rw [h6] at h8
  exact ⟨h4.alloc h4.size (.cells C 25), (alloc_old W2 (.cells C 25) (lt_of_row h7)).trans h7, (alloc_old W2 (.cells C 25) (lt_of_row h5)).trans h5, h8⟩
/-- A store into a box that is no list's. -/
theorem BokP.box {B b : Nat} {Q : Nat → Prop} {T : List (Value × Value × List Bs)} {N : List (Value × Value × List Int)} {w w' : World} {P : Nat → Prop} (h : BokP B Q b T N w) (o : Only P w w') (hP : ∀ k, P k → ∃ cs t, w.heap[k]? = some (.cells cs t (0, 0)) ∧ t ≠ 36 ∧ t ≠ 22 ∧ t ≠ 23 ∧ t ≠ 9 ∧ t ≠ 3) : BokP B Q b T N w' := by
  obtain ⟨vT, vU, vN, vM, hx⟩ := h.b.bx
  have f : ∀ e, e = 22 ∨ e = 23 ∨ e = 9 ∨ e = 3 → ∀ k, P k → ∃ cs t, w.heap[k]? = some (.cells cs t (0, 0)) ∧ t ≠ e := fun e he k hk => by
    obtain ⟨cs, t, e1, h1, h2, h3, h4, h5⟩ := hP k hk
    refine ⟨cs, t, e1, ?_⟩
    rcases he with rfl | rfl | rfl | rfl <;> assumption
  refine ⟨⟨⟨vT, vU, vN, vM, ⟨(o.block b (lt_of_row hx.box) (fun q => ?_)).trans hx.box, row_off hx.rT o (f 22 (.inl rfl)), row_off hx.rU o (f 22 (.inl rfl)), row_off hx.rN o (f 23 (.inr (.inl rfl))), row_off hx.rM o (f 23 (.inr (.inl rfl))), hx.d1, hx.d2, hx.lo⟩⟩, ?_, ?_, h.b.td, h.b.nd⟩, h.t, h.n⟩
  · obtain ⟨cs, t, e1, h1, _⟩ := hP b q
    rw [hx.box] at e1
    cases e1
    exact h1 rfl
  · intro x hx
    obtain ⟨q1, q2, q3, q4⟩ := h.b.t x hx
    exact ⟨row_off q1 o (f 9 (.inr (.inr (.inl rfl)))), row_off q2 o (f 9 (.inr (.inr (.inl rfl)))), q3, q4⟩
  · intro x hx
    obtain ⟨q1, q2, q3, q4⟩ := h.b.n x hx
    exact ⟨row_off q1 o (f 3 (.inr (.inr (.inr rfl)))), row_off q2 o (f 3 (.inr (.inr (.inr rfl)))), q3, q4⟩
/-- What stands between two calls, once the links are lent. -/
structure Bdq (W3 : World) (b Q G : Nat) (pk pn pb : Int) (x : Bs) (ln : Nat) (LL : List Int) (T : List (Value × Value × List Bs)) (N : List (Value × Value × List Int)) (W : World) : Prop where
  bel : Below W3.heap.size W3 W
  qb : W.heap[Q]? = some (.cells #[I pk, I pn, I pb, .slice (some ⟨G, 0, none⟩) ln (ln + 4), S x] 27 (0, 0))
  gl : BlI G (LL ++ List.replicate 4 (-77)) W
  bk : BokP b (fun i => i ≠ G) b T N W
  lo : W3.heap.size ≤ b ∧ W3.heap.size ≤ G ∧ W3.heap.size ≤ Q
section
variable {W3 : World} {b Q G : Nat} {pk pn pb : Int} {x : Bs} {ln : Nat} {LL : List Int} {T T' : List (Value × Value × List Bs)} {N N' : List (Value × Value × List Int)} {W W' : World}
theorem Bdq.below (h : Bdq W3 b Q G pk pn pb x ln LL T N W) (q : Below W.heap.size W W') : Bdq W3 b Q G pk pn pb x ln LL T N W' :=
  ⟨h.bel.trans (q.mono h.bel.size), (q.block _ (lt_of_row h.qb)).trans h.qb, h.gl.keep q, h.bk.below q, h.lo⟩
theorem Bdq.cut (h : Bdq W3 b Q G pk pn pb x ln LL T N W) (o : Only (bkt b W) W W') (k : BokP b (fun i => i ≠ G) b T' N' W') : Bdq W3 b Q G pk pn pb x ln LL T' N' W' :=
  ⟨o.below h.bel h.bel.size (fun j q => Nat.le_trans h.lo.1 q.1), bkt_box h.qb o (by decide), bkt_box h.gl o (by decide), k, h.lo⟩
theorem Bdq.ne (h : Bdq W3 b Q G pk pn pb x ln LL T N W) : Q ≠ G := fun e => by
  have q := h.gl
  unfold BlI at q
  rw [← e, h.qb] at q
  injection q with q
  injection q with q1 q2
  exact absurd q2 (by decide)
theorem Bdq.set (h : Bdq W3 b Q G pk pn pb x ln LL T N W) (j : Nat) (v : Int) (hj : j < LL.length) : Bdq W3 b Q G pk pn pb x ln (LL.set j v) T N (W.setCell ⟨G, j, none⟩ (I v)) := by
  have o := Only.setCell W ⟨G, j, none⟩ (I v)
  refine ⟨o.below h.bel h.bel.size (fun k q => by rw [show k = G from q]; exact h.lo.2.1), (o.block _ (lt_of_row h.qb) (fun q => h.ne q)).trans h.qb, ?_, h.bk.over o (fun k q => by have q' : k = G := q; subst q'; exact ⟨fun r => r rfl, _, _, h.gl, by decide, by decide, by decide⟩), h.lo⟩
  have g := h.gl.set j v
  rw [List.set_append_left _ _ hj] at g
  exact g
theorem Bdq.box (h : Bdq W3 b Q G pk pn pb x ln LL T N W) {X : Nat} {cs : Array Value} (o : Only (fun k => k = X) W W') (hX : W.heap[X]? = some (.cells cs 27 (0, 0))) (h1 : X ≠ Q) (h2 : W3.heap.size ≤ X) : Bdq W3 b Q G pk pn pb x ln LL T N W' := by
  refine ⟨o.below h.bel h.bel.size (fun k q => by rw [show k = X from q]; exact h2), (o.block _ (lt_of_row h.qb) (fun q => h1 q.symm)).trans h.qb, (o.block _ h.gl.lt (fun q => ?_)).trans h.gl, h.bk.box o (fun k q => by have q' : k = X := q; subst q'; exact ⟨_, _, hX, by decide, by decide, by decide, by decide, by decide⟩), h.lo⟩
  have e := h.gl
  unfold BlI at e
  rw [show G = X from q, hX] at e
  injection e with e
  injection e with e1 e2
  exact absurd e2 (by decide)
theorem Bdq.ins (h : Bdq W3 b Q G pk pn pb x ln LL T N W) (hl : ln = LL.length) : Ins W (some ⟨G, 0, none⟩) ln LL := by
  rw [hl]
  exact h.gl.part
end
theorem ins_own {w : World} {p : Option Addr} {n c : Nat} {l : List Int} (h : w.ownsRow 0 3 1 (.slice p n c) n (l.map fun z => I z)) (hl : n = l.length) : Ins w p n l := by
  subst hl
  obtain ⟨p', c', e, q, _⟩ := Ins.of h
  cases e
  exact q
/-- While two lists of nothing are lent. -/
structure Wq (w0 : World) (c : Ch3) (L : Nat → Bool) (W : World) : Prop where
  bel : Below w0.heap.size w0 W
  a : L 0 = true → Blk c.g1 (mid [] 4) W
  b : L 2 = true → Blk c.g2 (mid [] 4) W
  d : L 1 = true → L 0 = true
  e : L 3 = true → L 2 = true
theorem Wq.pure {w0 W : World} {c : Ch3} {L : Nat → Bool} (h : Wq w0 c L W) (i : Nat) (h0 : i ≠ 0) (h1 : i = 1 → L 0 = true) (h2 : i ≠ 2) (h3 : i = 3 → L 2 = true) : Wq w0 c (upd L i) W := by
  refine ⟨h.bel, fun q => h.a (by rwa [upd_ne (Ne.symm h0)] at q), fun q => h.b (by rwa [upd_ne (Ne.symm h2)] at q), fun q => ?_, fun q => ?_⟩
  · rw [upd_ne (Ne.symm h0)]
    by_cases hi : i = 1
    · exact h1 hi
    · exact h.d (by rwa [upd_ne (Ne.symm hi)] at q)
  · rw [upd_ne (Ne.symm h2)]
    by_cases hi : i = 3
    · exact h3 hi
    · exact h.e (by rwa [upd_ne (Ne.symm hi)] at q)
theorem spare3_any (g1 g2 G ln : Nat) (L : List Int) (W : World) (h1 : Blk g1 (mid [] 4) W) (h2 : Blk g2 (mid [] 4) W) (hg : BlI G (L ++ List.replicate 4 (-77)) W) (hl : ln = L.length) (hn : ln ≤ 2147483647) :
    Calls Tryz.prog 22 #[.slice (some ⟨g1, 0, none⟩) 0 4, .slice (some ⟨g2, 0, none⟩) 0 4, .slice (some ⟨G, 0, none⟩) ln (ln + 4)] W fun e w' => e = .returned (.bool true) ∧ w' = W := by
  subst hl
  exact spare_any ⟨true, [], [], L⟩ g1 g2 G W ⟨h1, h2, hg⟩ ⟨by simp, by simp, by show L.length ≤ _; omega, by simp [tot], by simp [tot]⟩
theorem nodePages_any (n o : Nd) (pk pn pb : Int) (L : List Int) (x : Bs) (ka va ia ke ve ie la : Option Addr) (kc vc ic kf vf jf ln lc : Nat) (w : World)
    (hn : NA n ka va ia w) (az1 : ka = none → kc = 0) (az2 : va = none → vc = 0) (az3 : ia = none → ic = 0) (ab1 : n.keys.length ≤ 9223372036854775807) (ab2 : n.vals.length ≤ 9223372036854775807) (ab3 : n.kids.length ≤ 9223372036854775807) (aL1 : ∀ j, (n.keys.getD j []).length ≤ 9223372036854775807) (aL2 : ∀ j, (n.vals.getD j []).length ≤ 9223372036854775807) (ac : n.kids.length ≤ ic) (ad : ic ≤ 9223372036854775807)
    (ho : NA o ke ve ie w) (cz1 : ke = none → kf = 0) (cz2 : ve = none → vf = 0) (cz3 : ie = none → jf = 0) (cb1 : o.keys.length ≤ 9223372036854775807) (cb2 : o.vals.length ≤ 9223372036854775807) (cb3 : o.kids.length ≤ 9223372036854775807) (cL1 : ∀ j, (o.keys.getD j []).length ≤ 9223372036854775807) (cL2 : ∀ j, (o.vals.getD j []).length ≤ 9223372036854775807) (cc : o.kids.length ≤ jf) (cd : jf ≤ 9223372036854775807)
    (hp : Ins w la ln L) (lz : la = none → lc = 0) (hln : ln ≤ 9223372036854775807) (hxl : x.length ≤ 9223372036854775807) (hl : Lay w) :
    Calls Tryz.prog 3 #[nda n ka va ia kc vc ic, .agg #[I pk, I pn, I pb, .slice la ln lc, S x], nda o ke ve ie kf vf jf] w fun e w' => e = .returned (.bool true) ∧ Below w.heap.size w w' := by
  have tb := mix_box w (bxc n ka va ia kc vc ic) #[I pk, I pn, I pb, .slice la ln lc, S x] (bxc o ke ve ie kf vf jf)
  have hs3 : (((w.alloc (.cells (bxc n ka va ia kc vc ic) 25)).alloc (.cells #[I pk, I pn, I pb, .slice la ln lc, S x] 27)).alloc (.cells (bxc o ke ve ie kf vf jf) 25)).heap.size = w.heap.size + 1 + 1 + 1 := by simp
  generalize hW3 : (((w.alloc (.cells (bxc n ka va ia kc vc ic) 25)).alloc (.cells #[I pk, I pn, I pb, .slice la ln lc, S x] 27)).alloc (.cells (bxc o ke ve ie kf vf jf) 25)) = W3 at tb hs3
  obtain ⟨hA, hg1, hg2, hg3⟩ := tb
  have hN := fun {W : World} (q : Below W3.heap.size W3 W) => (hn.below hA).below q
  have hO := fun {W : World} (q : Below W3.heap.size W3 W) => (ho.below hA).below q
  have hP := fun {W : World} (q : Below W3.heap.size W3 W) => (hp.below hA).below q
  have hLy := fun {W : World} (q : Below W3.heap.size W3 W) => (hl.below hA).below q
  have hnl := nwe_le n
  have hol := nwe_le o
  have t1l : add3 ln x.length ≤ 4294967296 := by rcases add3_le ln x.length with q | q <;> omega
  have t2l : add3 (nwe n) (add3 ln x.length) ≤ 4294967296 := by rcases add3_le (nwe n) (add3 ln x.length) with q | q <;> omega
  have X0 := hide (fun W (q : Below W3.heap.size W3 W) => nodeWeighs_any n ka va ia kc vc ic W (hN q) ab1 ab2 ab3 aL1 aL2)
  have X1 := hide (fun W (q : Below W3.heap.size W3 W) => pageWeighs2 pk pn pb la ln lc x W hln hxl)
  have X2 := hide (fun W => addsUp_any (nwe n) (add3 ln x.length) W (by omega) (by omega))
  have X3 := hide (fun W (q : Below W3.heap.size W3 W) => nodeWeighs_any o ke ve ie kf vf jf W (hO q) cb1 cb2 cb3 cL1 cL2)
  have X4 := hide (fun W => addsUp_any (add3 (nwe n) (add3 ln x.length)) (nwe o) W (by omega) (by omega))
  have HA := hide hA
  have hz1 := lt_of_row hg1
  have hz2 := lt_of_row hg2
  have hz3 := lt_of_row hg3
  have l0 : ∀ W : World, Below W3.heap.size W3 W → _ := fun W q => box4 (by unfold bxc at hg1; exact hg1) q hz1
  have l1 : ∀ W : World, Below W3.heap.size W3 W → _ := fun W q => box5 hg2 q hz2
  have l2 : ∀ W : World, Below W3.heap.size W3 W → _ := fun W q => box4 (by unfold bxc at hg3; exact hg3) q hz3
  by_cases hbig : 2147483647 < add3 (add3 (nwe n) (add3 ln x.length)) (nwe o)
  · unfold nda at X0 X3 ⊢
    unfold bxc at hW3
    generalize add3 (add3 (nwe n) (add3 ln x.length)) (nwe o) = T4 at *
    generalize add3 (nwe n) (add3 ln x.length) = T2 at *
    generalize add3 ln x.length = T1 at *
    generalize nwe n = T0 at *
    generalize nwe o = T3 at *
    have h' : decide ((2147483647 : Int) < (T4 : Int)) = true := by rw [decide_eq_true_eq]; omega
    clear hA hg1 hg2 hg3 hN hO hP hLy hn ho hp hl aL1 aL2 cL1 cL2 hnl hol
    generalize hnk : n.keys.length = kl at *
    generalize hnv : n.vals.length = vl at *
    generalize hni : n.kids.length = il at *
    generalize hnl : n.leaf = lf at *
    generalize hok : o.keys.length = ok at *
    generalize hov : o.vals.length = ov at *
    generalize hoi : o.kids.length = oi at *
    generalize hol : o.leaf = lo at *
    clear hnk hnv hni hnl hok hov hoi hol
    go_enter Tryz.func3, Tryz.ntmps3
    go_wp2
    try rw [hW3]
    refine rnp w.heap.size (w.heap.size + 1) (w.heap.size + 1 + 1) kl kc vl vc il ic ln lc ok kf ov vf oi jf T0 T1 T2 T3 T4 pk pn pb x ka va ia la ke ve ie lf lo (by kernel_rfl) (by kernel_rfl) (by kernel_rfl) _ _ (by show 35 ≤ Array.size _; simp) rfl rfl rfl (fun _ W => Below W3.heap.size W3 W) ?h0 ?hp ?l0 ?l2 ?l5 ?c1 ?c3 ?c4 ?c6 ?c7 ?_
    case h0 => exact (Below.refl _ _).drew
    case hp => exact fun _ _ _ _ q => q
    case l0 => exact fun _ W q => l0 W q
    case l2 => exact fun _ W q => l1 W q
    case l5 => exact fun _ W q => l2 W q
    case c1 =>
      intro L W q _
      refine (unhide X0 W q).mono ?_
      rintro e w' ⟨rfl, q1⟩
      exact ⟨rfl, q.trans (q1.mono q.size)⟩
    case c3 =>
      intro L W q _
      refine (unhide X1 W q).mono ?_
      rintro e w' ⟨rfl, q1⟩
      exact ⟨rfl, q.trans (q1.mono q.size)⟩
    case c6 =>
      intro L W q _
      refine (unhide X3 W q).mono ?_
      rintro e w' ⟨rfl, q1⟩
      exact ⟨rfl, q.trans (q1.mono q.size)⟩
    case c4 =>
      intro L W q _
      refine (unhide X2 W).mono ?_
      rintro e w' ⟨rfl, rfl⟩
      exact ⟨rfl, q⟩
    case c7 =>
      intro L W q _
      refine (unhide X4 W).mono ?_
      rintro e w' ⟨rfl, rfl⟩
      exact ⟨rfl, q⟩
    intro L' W _ hW
    have HB := hide ((unhide HA).trans (hW.mono (unhide HA).size))
    clear hW l0 l1 l2
    simp only [Act.put, List.setIfInBounds_toArray, List.set_cons_succ, List.set_cons_zero]
    go_wp2
    go_ret
    exact ⟨rfl, unhide HB⟩
  · have hs := add3_sm (show add3 (add3 (nwe n) (add3 ln x.length)) (nwe o) ≤ 2147483647 by omega)
    have hs1 := add3_sm (show add3 (nwe n) (add3 ln x.length) ≤ 2147483647 by omega)
    have hs2 := add3_sm (show add3 ln x.length ≤ 2147483647 by omega)
    have hnb := nwe_nb (show nwe n ≤ 2147483647 by omega)
    obtain ⟨s1, s2, s3⟩ := nwe_sm (show nwe n ≤ 2147483647 by omega)
    obtain ⟨t1, t2, t3⟩ := nwe_sm (show nwe o ≤ 2147483647 by omega)
    have hob : NB (ovn n o) := hnb.ovn (by omega) (by omega)
    have hlnb : ln ≤ 2147483647 := by omega
    have hxb : x.length ≤ 4294967296 := by omega
    have ek : (ovn n o).keys.length = n.keys.length := ovr_len _ _
    have ev : (ovn n o).vals.length = n.vals.length := ovr_len _ _
    have ei : (ovn n o).kids.length = n.kids.length := ovr_len _ _
    have hlL := hp.1
    have Y4 := hide (fun W => awake_any W)
    have Y5 := hide (fun W (q : Below W3.heap.size W3 W) => lentN2_any n ka va ia kc vc ic W (hN q) hnb az1 az2 az3)
    have Y6 := hide (fun W C b g1 g2 g3 T N (q : Below W3.heap.size W3 W) (hb : W3.heap.size ≤ b) (l : LN n g1 g2 g3 W) (k : Bok2 b C b T N W) (hC : C ≤ W.heap.size) (e1 : T.length ≤ 100000) (e2 : N.length ≤ 100000) => bok_laid2 C n b b (some ⟨g1, 0, none⟩) (some ⟨g2, 0, none⟩) (some ⟨g3, 0, none⟩) ka va ia (n.keys.length + 4) (n.vals.length + 4) (n.kids.length + 4) kc vc ic T N W (fun W' oo => ⟨(l.bkt oo).na, hN (oo.below q q.size (fun j r => Nat.le_trans hb r.1))⟩) hnb az3 ac ad k hC e1 e2)
    have Y7 := hide (fun W g1 g2 g3 (q : Below W3.heap.size W3 W) (l : LN n g1 g2 g3 W) => whole_any n g1 g2 g3 ka va ia kc vc ic W l (hN q) hnb)
    have Y8 := hide (fun W g1 g2 g3 (q : Below W3.heap.size W3 W) (l : LN n g1 g2 g3 W) (hg : W3.heap.size ≤ g1 ∧ g1 < g2 ∧ g2 < g3) => over_any n o g1 g2 g3 ke ve ie kf vf jf W3 W l (hO (Below.refl _ _)) q hg cz1 cz2 cz3)
    have Y9 := hide (fun W g1 g2 g3 (l : LN (ovn n o) g1 g2 g3 W) => lcopied_any (ovn n o) (some ⟨g1, 0, none⟩) (some ⟨g2, 0, none⟩) (some ⟨g3, 0, none⟩) (n.keys.length + 4) (n.vals.length + 4) (n.kids.length + 4) W l.na hob (fun q => nomatch q) (fun q => nomatch q) (fun q => nomatch q))
    have Y10 := hide (fun W C b g1 g2 g3 T N (l : LN (ovn n o) g1 g2 g3 W) D ja ua ha jc uc hc (r : Rws D (ovn n o) (.slice ja (ovn n o).keys.length jc) (.slice ua (ovn n o).vals.length uc) (.slice ha (ovn n o).kids.length hc) W) (k : Bok2 b C b T N W) (hC : C ≤ W.heap.size) (e1 : T.length ≤ 100000) (e2 : N.length ≤ 100000) => bok_laid2 C (ovn n o) b b (some ⟨g1, 0, none⟩) (some ⟨g2, 0, none⟩) (some ⟨g3, 0, none⟩) ja ua ha (n.keys.length + 4) (n.vals.length + 4) (n.kids.length + 4) jc uc hc T N W (fun W' oo => ⟨(l.bkt oo).na, (r.bkt oo).na'⟩) hob (owns_z r.rI) (owns_capb r.rI).1 (owns_capb r.rI).2 k hC e1 e2)
    have Y11 := hide (fun W (q : Below W3.heap.size W3 W) => lentI_any la ln lc L W (hP q) lz (by omega))
    have Y12 := hide (fun W G b T N (q : Below W3.heap.size W3 W) (i1 : Ins W (some ⟨G, 0, none⟩) ln L) (k : BokP b (fun i => i ≠ G) b T N W) (hC : ∀ i, W.heap.size ≤ i → i ≠ G) (e1 : T.length ≤ 100000) (e2 : N.length ≤ 100000) => bok_readP (fun i => i ≠ G) pk pn pb (some ⟨G, 0, none⟩) la ln (ln + 4) lc L x b b T N W hxb i1 (hP q) (by omega) lz (hLy q) k hC e1 e2)
    have Y13 := hide (fun W G b T N (L2 : List Int) px cx (q : Below W3.heap.size W3 W) (i1 : Ins W (some ⟨G, 0, none⟩) ln L2) (i2 : Ins W px ln L2) (zz : px = none → cx = 0) (k : BokP b (fun i => i ≠ G) b T N W) (hC : ∀ i, W.heap.size ≤ i → i ≠ G) (e1 : T.length ≤ 100000) (e2 : N.length ≤ 100000) => bok_readP (fun i => i ≠ G) pk pn pb (some ⟨G, 0, none⟩) px ln (ln + 4) cx L2 x b b T N W hxb i1 i2 (by omega) zz (hLy q) k hC e1 e2)
    have Y14 := hide (fun W G (q : Below W3.heap.size W3 W) (i1 : Ins W (some ⟨G, 0, none⟩) ln L) => pages_same2 pk pn pb (some ⟨G, 0, none⟩) la ln (ln + 4) lc L x W i1 (hP q) (by omega))
    have HNIL := hide (fun W : World => (⟨rfl, fun hj => absurd hj (by omega)⟩ : Sts W none 0 []))
    have hlf : (ovn n o).leaf = n.leaf := rfl
    unfold nda at X0 X3 Y5 Y6 Y7 Y8 Y9 Y10 ⊢
    unfold lnv at Y5 Y7 Y8
    unfold bxc at hW3
    rw [hlf, ek, ev, ei] at Y9 Y10
    generalize add3 (add3 (nwe n) (add3 ln x.length)) (nwe o) = T4 at *
    generalize add3 (nwe n) (add3 ln x.length) = T2 at *
    generalize add3 ln x.length = T1 at *
    generalize nwe n = T0 at *
    generalize nwe o = T3 at *
    have h' : decide ((2147483647 : Int) < (T4 : Int)) = false := by rw [decide_eq_false_iff_not]; omega
    have HEK := hide (And.intro ek (And.intro ev ei))
    have HlL := hide hlL
    clear hA hg1 hg2 hg3 hN hO hP hLy hn ho hp hl aL1 aL2 cL1 cL2 hnl hol hnb hob s1 s2 s3 t1 t2 t3 hs hs1 hs2 az1 az2 az3 cz1 cz2 cz3 ac ad cc cd ek ev ei hlf ab1 ab2 ab3 cb1 cb2 cb3 hlL lz hxb
    generalize hnk : n.keys.length = kl at *
    generalize hnv : n.vals.length = vl at *
    generalize hni : n.kids.length = il at *
    generalize hnl : n.leaf = lf at *
    generalize hok : o.keys.length = ok at *
    generalize hov : o.vals.length = ov at *
    generalize hoi : o.kids.length = oi at *
    generalize hol : o.leaf = lo at *
    clear hnk hnv hni hnl hok hov hoi hol
    go_enter Tryz.func3, Tryz.ntmps3
    go_wp2
    try rw [hW3]
    refine rnp w.heap.size (w.heap.size + 1) (w.heap.size + 1 + 1) kl kc vl vc il ic ln lc ok kf ov vf oi jf T0 T1 T2 T3 T4 pk pn pb x ka va ia la ke ve ie lf lo (by kernel_rfl) (by kernel_rfl) (by kernel_rfl) _ _ (by show 35 ≤ Array.size _; simp) rfl rfl rfl (fun _ W => Below W3.heap.size W3 W) ?h0 ?hp ?l0 ?l2 ?l5 ?c1 ?c3 ?c4 ?c6 ?c7 ?_
    case h0 => exact (Below.refl _ _).drew
    case hp => exact fun _ _ _ _ q => q
    case l0 => exact fun _ W q => l0 W q
    case l2 => exact fun _ W q => l1 W q
    case l5 => exact fun _ W q => l2 W q
    case c1 =>
      intro L W q _
      refine (unhide X0 W q).mono ?_
      rintro e w' ⟨rfl, q1⟩
      exact ⟨rfl, q.trans (q1.mono q.size)⟩
    case c3 =>
      intro L W q _
      refine (unhide X1 W q).mono ?_
      rintro e w' ⟨rfl, q1⟩
      exact ⟨rfl, q.trans (q1.mono q.size)⟩
    case c6 =>
      intro L W q _
      refine (unhide X3 W q).mono ?_
      rintro e w' ⟨rfl, q1⟩
      exact ⟨rfl, q.trans (q1.mono q.size)⟩
    case c4 =>
      intro L W q _
      refine (unhide X2 W).mono ?_
      rintro e w' ⟨rfl, rfl⟩
      exact ⟨rfl, q⟩
    case c7 =>
      intro L W q _
      refine (unhide X4 W).mono ?_
      rintro e w' ⟨rfl, rfl⟩
      exact ⟨rfl, q⟩
    intro L' W _ hW
    have HW := hide hW
    have L0 := hide l0
    have L1 := hide l1
    have L2' := hide l2
    clear hW l0 l1 l2 X0 X1 X2 X3 X4 hW3
    simp only [Act.put, List.setIfInBounds_toArray, List.set_cons_succ, List.set_cons_zero]
    go_wp2_with fail
    refine (unhide Y4 _).mono ?_
    rintro e w3 ⟨rfl, q3⟩
    have b3 := (unhide HW).trans (q3.mono (unhide HW).size)
    have hq := heap_alloc_new w3 (.cells #[.slice none 0 0, .slice none 0 0, .slice none 0 0, .slice none 0 0] 36)
    have b4 := (Below.refl w3.heap.size w3).alloc (Nat.le_refl _) (.cells #[.slice none 0 0, .slice none 0 0, .slice none 0 0, .slice none 0 0] 36)
    have HB3 := hide b3
    clear q3 b3 Y4 HW
    go_upto_region 5 with fail
    generalize w3.alloc (.cells #[.slice none 0 0, .slice none 0 0, .slice none 0 0, .slice none 0 0] 36) = W4 at hq b4 ⊢
    have b24 : Below W3.heap.size W3 W4 := (unhide HB3).trans (b4.mono (unhide HB3).size)
    have hb0 : W3.heap.size ≤ w3.heap.size := (unhide HB3).size
    generalize hbk : w3.heap.size = b at *
    have HQ := hide hq
    have hbl := lt_of_row hq
    have HB24 := hide b24
    have x5 := hide (unhide Y5 W4 b24)
    obtain ⟨c0, c1, c2, c3⟩ := (unhide L0) _ b24
    have e0 : w.heap.size < W4.heap.size := Nat.lt_of_lt_of_le hz1 b24.size
    clear hq b4 b24 Y5 HB3 hbk
    go_wp2_with fail
    refine (unhide x5).mono ?_
    rintro e w5 ⟨g1, g2, g3, rfl, ln5, hg5, q5⟩
    clear c0 c1 c2 c3 x5 e0
    have b5 := (unhide HB24).trans (q5.mono (unhide HB24).size)
    have k5 : Bok2 b w5.heap.size b [] [] w5 := bok2_new ((q5.block _ hbl).trans (unhide HQ)) (Nat.le_refl _)
    have hg3l : g3 < w5.heap.size := ln5.i.lt
    have hq6 := heap_alloc_new w5 (.cells #[.bool false, .slice none 0 0, .slice none 0 0, .slice none 0 0] 25)
    have hb6 := (Below.refl w5.heap.size w5).alloc (Nat.le_refl _) (.cells #[.bool false, .slice none 0 0, .slice none 0 0, .slice none 0 0] 25)
    have ht6 := setRow_heap _ _ _ #[.bool lf, .slice (some ⟨g1, 0, none⟩) kl (kl + 4), .slice (some ⟨g2, 0, none⟩) vl (vl + 4), .slice (some ⟨g3, 0, none⟩) il (il + 4)] 25 _ hq6
    have hc6 := (setRow_only (w5.alloc (.cells #[.bool false, .slice none 0 0, .slice none 0 0, .slice none 0 0] 25)) w5.heap.size #[.bool lf, .slice (some ⟨g1, 0, none⟩) kl (kl + 4), .slice (some ⟨g2, 0, none⟩) vl (vl + 4), .slice (some ⟨g3, 0, none⟩) il (il + 4)]).below hb6 hb6.size (fun k e => by omega)
    generalize hW6 : (w5.alloc (.cells #[.bool false, .slice none 0 0, .slice none 0 0, .slice none 0 0] 25)).setRow w5.heap.size #[.bool lf, .slice (some ⟨g1, 0, none⟩) kl (kl + 4), .slice (some ⟨g2, 0, none⟩) vl (vl + 4), .slice (some ⟨g3, 0, none⟩) il (il + 4)] = W6 at ht6 hc6
    have HW6 := hide hW6
    have HQ6 := hide hq6
    have S6 : Bdy W3 b w5.heap.size w5.heap.size g1 g2 g3 #[.bool lf, .slice (some ⟨g1, 0, none⟩) kl (kl + 4), .slice (some ⟨g2, 0, none⟩) vl (vl + 4), .slice (some ⟨g3, 0, none⟩) il (il + 4)] n [] [] W6 := ⟨b5.trans (hc6.mono b5.size), ht6, ln5.below hc6, k5.below hc6, hc6.size, hb0, by have := (unhide HB24).size; omega, hg5.2.1, hg5.2.2, hg3l, Nat.le_refl _⟩
    have HS6 := hide S6
    obtain ⟨c0, c1, c2, c3⟩ := (unhide L0) _ S6.bel
    obtain ⟨d0, d1, d2, d3⟩ := box4 ht6 (Below.refl _ _) (lt_of_row ht6)
    have e0 : w.heap.size < W6.heap.size := Nat.lt_of_lt_of_le hz1 S6.bel.size
    have e1 := lt_of_row ht6
    have x6 := hide (unhide Y6 W6 w5.heap.size b g1 g2 g3 [] [] S6.bel hb0 S6.ln S6.bk S6.sz (by simp) (by simp))
    clear S6 b5 k5 hq6 hb6 ht6 hc6 hW6 q5 ln5 HQ HB24 hbl
    go_wp2_with (first | (refine wp_st25 rfl (.tmp 9) (.tmp 39) rfl w5.heap.size (by rfl) lf (some ⟨g1, 0, none⟩) (some ⟨g2, 0, none⟩) (some ⟨g3, 0, none⟩) kl (kl + 4) vl (vl + 4) il (il + 4) (by rfl) _ rfl (unhide HQ6) ?_; rw [unhide HW6]) | fail)
    refine (unhide x6).mono ?_
    rintro e w7 ⟨rfl, N7, k7, lN7, o7⟩
    clear c0 c1 c2 c3 d0 d1 d2 d3 e0 e1 HQ6 HW6 x6
    have S7 := (unhide HS6).cut o7 k7
    have HS7 := hide S7
    obtain ⟨c0, c1, c2, c3⟩ := (unhide L0) _ S7.bel
    obtain ⟨d0, d1, d2, d3⟩ := box4 S7.own (Below.refl _ _) (lt_of_row S7.own)
    have e0 : w.heap.size < w7.heap.size := Nat.lt_of_lt_of_le hz1 S7.bel.size
    have e1 := lt_of_row S7.own
    have x7 := hide (unhide Y6 w7 w5.heap.size b g1 g2 g3 [] N7 S7.bel hb0 S7.ln S7.bk S7.sz (by simp) (by rw [lN7]; simp))
    have HL7 := hide lN7
    clear S7 k7 o7 HS6 lN7 Y6
    go_wp2_with fail
    refine (unhide x7).mono ?_
    rintro e w8 ⟨rfl, N8, k8, lN8, o8⟩
    clear c0 c1 c2 c3 d0 d1 d2 d3 e0 e1 x7
    have S8 := (unhide HS7).cut o8 k8
    have HS8 := hide S8
    have HL8 : Hid (N8.length = 2) := by
      have q := unhide HL7
      show N8.length = 2
      rw [lN8, q]; rfl
    obtain ⟨c0, c1, c2, c3⟩ := (unhide L0) _ S8.bel
    obtain ⟨d0, d1, d2, d3⟩ := box4 S8.own (Below.refl _ _) (lt_of_row S8.own)
    have e0 : w.heap.size < w8.heap.size := Nat.lt_of_lt_of_le hz1 S8.bel.size
    have e1 := lt_of_row S8.own
    have x8 := hide (unhide Y7 w8 g1 g2 g3 S8.bel S8.ln)
    clear S8 k8 o8 HS7 HL7 lN8 Y7
    go_wp2_with fail
    refine (unhide x8).mono ?_
    rintro e w9 ⟨rfl, q9⟩
    clear c0 c1 c2 c3 d0 d1 d2 d3 e0 e1 x8
    have S9 := (unhide HS8).below q9
    have HS9 := hide S9
    obtain ⟨c0, c1, c2, c3⟩ := (unhide L2') _ S9.bel
    obtain ⟨d0, d1, d2, d3⟩ := box4 S9.own (Below.refl _ _) (lt_of_row S9.own)
    have e0 : w.heap.size + 1 + 1 < w9.heap.size := Nat.lt_of_lt_of_le hz3 S9.bel.size
    have e1 := lt_of_row S9.own
    have x9 := hide (unhide Y8 w9 g1 g2 g3 S9.bel S9.ln ⟨S9.lo.2.1, S9.lo.2.2.1, S9.lo.2.2.2.1⟩)
    clear S9 q9 HS8 Y8
    go_wp2_with fail
    refine (unhide x9).mono ?_
    rintro e w10 ⟨rfl, ln10, o10⟩
    clear c0 c1 c2 c3 d0 d1 d2 d3 e0 e1 x9
    have S10 := (unhide HS9).over o10 ln10
    have HS10 := hide S10
    obtain ⟨d0, d1, d2, d3⟩ := box4 S10.own (Below.refl _ _) (lt_of_row S10.own)
    have e1 := lt_of_row S10.own
    have x10 := hide (unhide Y9 w10 g1 g2 g3 S10.ln)
    clear S10 o10 ln10 HS9 Y9
    go_wp2_with fail
    refine (unhide x10).mono ?_
    rintro e w11 ⟨vK, vV, vI, rfl, r11, q11⟩
    clear d0 d1 d2 d3 e1 x10
    have S11 := (unhide HS10).below q11
    obtain ⟨p1, u1, p2, u2, p3, u3, rfl, rfl, rfl⟩ := r11.form
    have hq12 := heap_alloc_new w11 (.cells #[.bool false, .slice none 0 0, .slice none 0 0, .slice none 0 0] 25)
    have hb12 := (Below.refl w11.heap.size w11).alloc (Nat.le_refl _) (.cells #[.bool false, .slice none 0 0, .slice none 0 0, .slice none 0 0] 25)
    obtain ⟨ek, ev, ei⟩ := unhide HEK
    rw [ek, ev, ei]
    have ht12 := setRow_heap _ _ _ #[.bool lf, .slice p1 kl u1, .slice p2 vl u2, .slice p3 il u3] 25 _ hq12
    have hc12 := (setRow_only (w11.alloc (.cells #[.bool false, .slice none 0 0, .slice none 0 0, .slice none 0 0] 25)) w11.heap.size #[.bool lf, .slice p1 kl u1, .slice p2 vl u2, .slice p3 il u3]).below hb12 hb12.size (fun k e => by omega)
    generalize hW12 : (w11.alloc (.cells #[.bool false, .slice none 0 0, .slice none 0 0, .slice none 0 0] 25)).setRow w11.heap.size #[.bool lf, .slice p1 kl u1, .slice p2 vl u2, .slice p3 il u3] = W12 at ht12 hc12
    have HW12 := hide hW12
    have HQ12 := hide hq12
    have S12 := S11.below hc12
    have HS12 := hide S12
    obtain ⟨c0, c1, c2, c3⟩ := box4 ht12 (Below.refl _ _) (lt_of_row ht12)
    obtain ⟨d0, d1, d2, d3⟩ := box4 S12.own (Below.refl _ _) (lt_of_row S12.own)
    have e0 := lt_of_row ht12
    have e1 := lt_of_row S12.own
    have lN8 := unhide HL8
    have r12 := r11.below hc12
    rw [ek, ev, ei] at r12
    have x12 := hide (unhide Y10 W12 w5.heap.size b g1 g2 g3 [] N8 S12.ln _ p1 p2 p3 u1 u2 u3 r12 S12.bk S12.sz (by simp) (by omega))
    clear S11 S12 r11 r12 q11 hq12 hb12 ht12 hc12 hW12 ek ev ei HS10 Y10 lN8
    go_wp2_with (first | (refine wp_st25 rfl (.tmp 13) (.tmp 55) rfl w11.heap.size (by rfl) lf p1 p2 p3 kl u1 vl u2 il u3 (by rfl) _ rfl (unhide HQ12) ?_; rw [unhide HW12]) | fail)
    refine (unhide x12).mono ?_
    rintro e w13 ⟨rfl, N13, k13, lN13, o13⟩
    clear c0 c1 c2 c3 d0 d1 d2 d3 e0 e1 HQ12 HW12 x12
    have S13 := (unhide HS12).cut o13 k13
    have hN13 : N13.length = 3 := by rw [lN13, unhide HL8]
    have hb13 := S13.bel
    have hk13 := S13.bk.b.off (Nat.le_refl _)
    have hlo13 := S13.lo.1
    obtain ⟨c0, c1, c2, c3, c4⟩ := (unhide L1) _ hb13
    have e0 : w.heap.size + 1 < w13.heap.size := Nat.lt_of_lt_of_le hz2 hb13.size
    have x14 := hide (unhide Y11 w13 hb13)
    have HB13 := hide hb13
    have HK13 := hide hk13
    have HN13 := hide hN13
    clear S13 k13 o13 lN13 HS12 hb13 hk13 hN13 HL8 HEK Y11
    go_wp2_with fail
    refine (unhide x14).mono ?_
    rintro e w14 ⟨rfl, gl14, q14⟩
    clear x14 c0 c1 c2 c3 c4 e0
    have hGl : w13.heap.size < w14.heap.size := gl14.lt
    have b14 := (unhide HB13).trans (q14.mono (unhide HB13).size)
    have k14 := (unhide HK13).below q14
    have hG0 : W3.heap.size ≤ w13.heap.size := (unhide HB13).size
    generalize hGG : w13.heap.size = G at *
    clear hGG
    obtain ⟨c0, c1, c2, c3, c4⟩ := (unhide L1) _ b14
    have e0 : w.heap.size + 1 < w14.heap.size := Nat.lt_of_lt_of_le hz2 b14.size
    have hq15 := heap_alloc_new w14 (.cells #[I 0, I 0, I 0, .slice none 0 0, S []] 27)
    have hb15 := (Below.refl w14.heap.size w14).alloc (Nat.le_refl _) (.cells #[I 0, I 0, I 0, .slice none 0 0, S []] 27)
    have ht15 := setRow_heap _ _ _ #[I pk, I pn, I pb, .slice la ln lc, S x] 27 _ hq15
    have hc15 := (setRow_only (w14.alloc (.cells #[I 0, I 0, I 0, .slice none 0 0, S []] 27)) w14.heap.size #[I pk, I pn, I pb, .slice la ln lc, S x]).below hb15 hb15.size (fun k e => by omega)
    generalize hW15 : (w14.alloc (.cells #[I 0, I 0, I 0, .slice none 0 0, S []] 27)).setRow w14.heap.size #[I pk, I pn, I pb, .slice la ln lc, S x] = W15 at ht15 hc15
    have HW15 := hide hW15
    have HQ15 := hide hq15
    have HB14 := hide b14
    have HK14 := hide k14
    have HGL14 := hide gl14
    have HT15 := hide ht15
    have HC15 := hide hc15
    clear hq15 hb15 ht15 hc15 hW15 b14 k14 gl14 q14 HB13 HK13
    go_upto_region 14 with (first | (refine wp_st27 rfl (.tmp 16) (.tmp 63) rfl w14.heap.size (by rfl) pk pn pb la ln lc x (by rfl) _ rfl (unhide HQ15) ?_; rw [unhide HW15]) | fail)
    clear c0 c1 c2 c3 c4 e0 HQ15 HW15
    have b15 := (unhide HB14).trans ((unhide HC15).mono (unhide HB14).size)
    obtain ⟨c0, c1, c2, c3, c4⟩ := (unhide L1) _ b15
    have e0 : w.heap.size + 1 < W15.heap.size := Nat.lt_of_lt_of_le hz2 b15.size
    have hQ0 : W3.heap.size ≤ w14.heap.size := (unhide HB14).size
    have hGQ : G < w14.heap.size := hGl
    generalize hQQ : w14.heap.size = Q at *
    obtain ⟨d0, d1, d2, d3, d4⟩ := box5 (unhide HT15) (Below.refl _ _) (lt_of_row (unhide HT15))
    have e1 := lt_of_row (unhide HT15)
    have f15 := frz (unhide HT15) 3
    have hcut : (ln : Int) ≤ ((ln + 4 : Nat) : Int) := by omega
    have HB15 := hide b15
    clear b15
    go_upto_region 15 with fail
    have hx16 := heap_setCell_same W15 Q 3 _ 27 (.slice (some ⟨G, 0, none⟩) ln (ln + 4)) (unhide HT15)
    have o16 := Only.setCell W15 ⟨Q, 3, none⟩ (.slice (some ⟨G, 0, none⟩) ln (ln + 4))
    have hb16 : Below W3.heap.size W3 (W15.setCell ⟨Q, 3, none⟩ (.slice (some ⟨G, 0, none⟩) ln (ln + 4))) := o16.below (unhide HB15) (unhide HB15).size (fun k q => by rw [show k = Q from q]; exact hQ0)
    have hg16 := (unhide HGL14).keep (hQQ ▸ (unhide HC15))
    have hg17 : BlI G (L ++ List.replicate 4 (-77)) (W15.setCell ⟨Q, 3, none⟩ (.slice (some ⟨G, 0, none⟩) ln (ln + 4))) := (o16.block _ hg16.lt (fun q => by have q' : G = Q := q; omega)).trans hg16
    have hk16 := ((unhide HK14).below (hQQ ▸ (unhide HC15))).box o16 (fun k q => by have q' : k = Q := q; subst q'; exact ⟨_, _, unhide HT15, by decide, by decide, by decide, by decide, by decide⟩)
    have S16 : Bdq W3 b Q G pk pn pb x ln L [] N13 _ := ⟨hb16, hx16, hg17, hk16, ⟨hb0, hG0, hQ0⟩⟩
    generalize W15.setCell ⟨Q, 3, none⟩ (.slice (some ⟨G, 0, none⟩) ln (ln + 4)) = W16 at *
    have HS16 := hide S16
    have HIn := hide (And.intro hb0 (And.intro hGQ hQ0))
    clear hx16 o16 hb16 hg16 hg17 hk16 c0 c1 c2 c3 c4 e0 d0 d1 d2 d3 d4 e1 f15 hcut HB15 HC15 HT15 HGL14 HK14 HB14
    obtain ⟨c0, c1, c2, c3, c4⟩ := (unhide L1) _ S16.bel
    have e0 : w.heap.size + 1 < W16.heap.size := Nat.lt_of_lt_of_le hz2 S16.bel.size
    obtain ⟨d0, d1, d2, d3, d4⟩ := box5 S16.qb (Below.refl _ _) (lt_of_row S16.qb)
    have e1 := lt_of_row S16.qb
    have hGl16 : G < W16.heap.size := S16.gl.lt
    have x16 := hide (unhide Y12 W16 G b [] N13 S16.bel (S16.ins (unhide HlL)) S16.bk (fun i hi => by omega) (by simp) (by rw [unhide HN13]; omega))
    clear S16
    go_wp2_with fail
    refine (unhide x16).mono ?_
    rintro e w17 ⟨rfl, T17, N17, k17, lT17, lN17, o17⟩
    clear c0 c1 c2 c3 c4 e0 d0 d1 d2 d3 d4 e1 x16 hGl16
    have S17 := (unhide HS16).cut o17 k17
    have HS17 := hide S17
    have HL17 : Hid (T17.length = 2 ∧ N17.length = 4) := ⟨by rw [lT17]; rfl, by rw [lN17, unhide HN13]⟩
    obtain ⟨c0, c1, c2, c3, c4⟩ := (unhide L1) _ S17.bel
    have e0 : w.heap.size + 1 < w17.heap.size := Nat.lt_of_lt_of_le hz2 S17.bel.size
    obtain ⟨d0, d1, d2, d3, d4⟩ := box5 S17.qb (Below.refl _ _) (lt_of_row S17.qb)
    have e1 := lt_of_row S17.qb
    have hGl17 : G < w17.heap.size := S17.gl.lt
    have x17 := hide (unhide Y12 w17 G b T17 N17 S17.bel (S17.ins (unhide HlL)) S17.bk (fun i hi => by omega) (by rw [(unhide HL17).1]; omega) (by rw [(unhide HL17).2]; omega))
    clear S17 k17 o17 HS16 lT17 lN17 HN13 Y12
    go_wp2_with fail
    refine (unhide x17).mono ?_
    rintro e w18 ⟨rfl, T18, N18, k18, lT18, lN18, o18⟩
    clear c0 c1 c2 c3 c4 e0 d0 d1 d2 d3 d4 e1 x17 hGl17
    have S18 := (unhide HS17).cut o18 k18
    have HS18 := hide S18
    have HL18 : Hid (T18.length = 4 ∧ N18.length = 5) := ⟨by rw [lT18, (unhide HL17).1], by rw [lN18, (unhide HL17).2]⟩
    obtain ⟨c0, c1, c2, c3, c4⟩ := (unhide L1) _ S18.bel
    have e0 : w.heap.size + 1 < w18.heap.size := Nat.lt_of_lt_of_le hz2 S18.bel.size
    obtain ⟨d0, d1, d2, d3, d4⟩ := box5 S18.qb (Below.refl _ _) (lt_of_row S18.qb)
    have e1 := lt_of_row S18.qb
    have x18 := hide (unhide Y14 w18 G S18.bel (S18.ins (unhide HlL)))
    clear S18 k18 o18 HS17 HL17 lT18 lN18 Y14
    go_wp2_with fail
    refine (unhide x18).mono ?_
    rintro e w19 ⟨rfl, q19⟩
    clear c0 c1 c2 c3 c4 e0 d0 d1 d2 d3 d4 e1 x18
    have S19 := (unhide HS18).below q19
    have HS19 := hide S19
    clear q19 HS18
    go_upto_region 18 with fail
    refine rnq Q G ln (by kernel_rfl) (by kernel_rfl) (by kernel_rfl) _ _ (by show 88 ≤ Array.size _; simp) rfl (fun c L W => Wq w19 c L W) ?h0 ?hp (by omega) (by omega) ?l5 ?c0 ?c2 ?c6 ?p1 ?p3 ?_
    case h0 => exact ⟨⟨none, 0, none, 0, none, 0, 0, 0, 0⟩, (Below.refl _ _).drew, fun q => by simp at q, fun q => by simp at q, fun q => by simp at q, fun q => by simp at q⟩
    case hp =>
      intro i hi c L W hW
      simp only [List.mem_cons, List.not_mem_nil, or_false, not_or] at hi
      exact hW.pure i hi.1 (fun q => absurd q hi.2.2.2.1) hi.2.1 (fun q => absurd q hi.2.2.2.2)
    case l5 =>
      intro c L W hW
      exact (box5 (unhide HS19).qb hW.bel (lt_of_row (unhide HS19).qb)).2.2.2.1
    case c0 =>
      intro c L W hW h0
      refine (lent_any none 0 0 [] W (unhide HNIL W) (fun _ => rfl) (by omega)).mono ?_
      rintro e w' ⟨rfl, q1, q2⟩
      have hf : ∀ {p : Prop}, L 1 = true → p := fun q => by have := hW.d q; rw [h0] at this; cases this
      refine ⟨{ c with g1 := W.heap.size }, fun j hj => ?_, rfl, hW.bel.trans (q2.mono hW.bel.size), fun _ => q1, fun q => (hW.b (by rwa [upd_ne (by decide)] at q)).keep q2, fun q => upd_eq _ _, fun q => ?_⟩
      · match j, hj with
        | 0, hj => rw [h0] at hj; cases hj
        | 1, hj => exact hf hj
        | 2, _ => rfl
        | 3, _ => rfl
        | 4, _ => rfl
        | 5, _ => rfl
        | 6, _ => rfl
        | 7, _ => rfl
        | (j + 8), _ => rfl
      · rw [upd_ne (by decide)] at q ⊢
        exact hW.e q
    case c2 =>
      intro c L W hW h0
      refine (lent_any none 0 0 [] W (unhide HNIL W) (fun _ => rfl) (by omega)).mono ?_
      rintro e w' ⟨rfl, q1, q2⟩
      have hf : ∀ {p : Prop}, L 3 = true → p := fun q => by have := hW.e q; rw [h0] at this; cases this
      refine ⟨{ c with g2 := W.heap.size }, fun j hj => ?_, rfl, hW.bel.trans (q2.mono hW.bel.size), fun q => (hW.a (by rwa [upd_ne (by decide)] at q)).keep q2, fun _ => q1, fun q => ?_, fun q => upd_eq _ _⟩
      · match j, hj with
        | 0, _ => rfl
        | 1, _ => rfl
        | 2, hj => rw [h0] at hj; cases hj
        | 3, hj => exact hf hj
        | 4, _ => rfl
        | 5, _ => rfl
        | 6, _ => rfl
        | 7, _ => rfl
        | (j + 8), _ => rfl
      · rw [upd_ne (by decide)] at q ⊢
        exact hW.d q
    case c6 =>
      intro c L W hW _ h1 h3 _
      refine (spare3_any c.g1 c.g2 G ln _ W (hW.a (hW.d h1)) (hW.b (hW.e h3)) ((unhide HS19).gl.keep hW.bel) (unhide HlL) hlnb).mono ?_
      rintro e w' ⟨rfl, rfl⟩
      exact ⟨rfl, hW.pure 6 (by decide) (fun q => absurd q (by decide)) (by decide) (fun q => absurd q (by decide))⟩
    case p1 => exact fun c L W hW h => hW.pure 1 (by decide) (fun _ => h) (by decide) (fun q => absurd q (by decide))
    case p3 => exact fun c L W hW h => hW.pure 3 (by decide) (fun q => absurd q (by decide)) (by decide) (fun _ => h)
    intro c L' W20 _ hW20
    have S20 := (unhide HS19).below hW20.bel
    have HS20 := hide S20
    clear S20 hW20 HS19
    simp only [Act.put, List.setIfInBounds_toArray, List.set_cons_succ, List.set_cons_zero]
    have HM := hide (show Hid (ln = L.length) ∧ Hid (Bdq W3 b Q G pk pn pb x ln L T18 N18 W20) from ⟨HlL, HS20⟩)
    clear HS20
    go_wp2_with fail
    go_loopw [21] (fun i wr => ∃ (j : Nat) (LL : List Int), j ≤ ln ∧ i = .int .i64 j ∧ Hid (ln = LL.length) ∧ Hid (Bdq W3 b Q G pk pn pb x ln LL T18 N18 wr)) (fun i _ => ln - (Go.RowKit.intOf i).toNat)
    case atStart => exact ⟨0, L, by omega, rfl, (unhide HM).1, (unhide HM).2⟩
    case round =>
      clear HM
      obtain ⟨k, LL, hk, rfl, HLL, HS⟩ := hrel
      have SR := unhide HS
      obtain ⟨d0, d1, d2, d3, d4⟩ := box5 SR.qb (Below.refl _ _) (lt_of_row SR.qb)
      have e1 := lt_of_row SR.qb
      by_cases hlt : k < ln
      · have hlt' : (k : Int) < (ln : Int) := by omega
        have hj : k < LL.length := by have := unhide HLL; omega
        have hc := SR.gl.at k (by rw [List.length_append]; omega)
        have hf := frz SR.gl k
        have hz := SR.gl.lt
        have HS2 := hide (SR.set k (2 + (k : Int)) hj)
        generalize (LL ++ List.replicate 4 (-77)).getD k 0 = y at *
        clear SR hj
        go_wp2
        go_round
        case measure => simp [Go.RowKit.intOf]; omega
        case rel =>
          exact ⟨k + 1, LL.set k (2 + (k : Int)), by omega, by simp, by have q := unhide HLL; show ln = _; rw [List.length_set]; exact q, HS2⟩
      · have hkl : ln = k := by omega
        subst hkl
        have hlt' : ¬ (ln : Int) < (ln : Int) := by omega
        obtain ⟨c0, c1, c2, c3, c4⟩ := (unhide L1) _ SR.bel
        have e0 : w.heap.size + 1 < wr.heap.size := Nat.lt_of_lt_of_le hz2 SR.bel.size
        have hq22 := heap_alloc_new wr (.cells #[I 0, I 0, I 0, .slice none 0 0, S []] 27)
        have hb22 := (Below.refl wr.heap.size wr).alloc (Nat.le_refl _) (.cells #[I 0, I 0, I 0, .slice none 0 0, S []] 27)
        have ht22 := setRow_heap _ _ _ #[I pk, I pn, I pb, .slice la ln lc, S x] 27 _ hq22
        have hc22 := (setRow_only (wr.alloc (.cells #[I 0, I 0, I 0, .slice none 0 0, S []] 27)) wr.heap.size #[I pk, I pn, I pb, .slice la ln lc, S x]).below hb22 hb22.size (fun k e => by omega)
        generalize hW22 : (wr.alloc (.cells #[I 0, I 0, I 0, .slice none 0 0, S []] 27)).setRow wr.heap.size #[I pk, I pn, I pb, .slice la ln lc, S x] = W22 at ht22 hc22
        have HW22 := hide hW22
        have HQ22 := hide hq22
        have S22 := SR.below hc22
        have HS22 := hide S22
        have HT22 := hide ht22
        have hXQ : Q < wr.heap.size := e1
        have hX0 : W3.heap.size ≤ wr.heap.size := SR.bel.size
        have HXX := hide (And.intro hXQ hX0)
        clear SR S22 hq22 hb22 ht22 hc22 hW22 hXQ hX0 HS
        go_upto_region 24 with (first | (refine wp_st27 rfl (.tmp 22) (.tmp 101) rfl wr.heap.size (by rfl) pk pn pb la ln lc x (by rfl) _ rfl (unhide HQ22) ?_; rw [unhide HW22]) | fail)
        clear c0 c1 c2 c3 c4 e0 d0 d1 d2 d3 d4 e1 HQ22 HW22 hlt'
        generalize wr.heap.size = X at HT22 HXX ⊢
        obtain ⟨d0, d1, d2, d3, d4⟩ := box5 (unhide HS22).qb (Below.refl _ _) (lt_of_row (unhide HS22).qb)
        have e1 := lt_of_row (unhide HS22).qb
        obtain ⟨c0, c1, c2, c3, c4⟩ := box5 (unhide HT22) (Below.refl _ _) (lt_of_row (unhide HT22))
        have e0 := lt_of_row (unhide HT22)
        go_upto_region 25 with fail
        have HI2 := hide ((unhide HS22).ins (unhide HLL))
        go_upto_region 26 with (at_builtin; go_loud (refine wp_anyI rfl (.tmp 102) (.tmp 104) rfl (.slice none 0 0) 0 [] (by rfl) (owns_nil _ _ _) (some ⟨G, 0, none⟩) ln (ln + 4) LL (unhide HI2) (fun q => nomatch q) (by rfl) (by omega) ?_; intro p6 c6 w6 r6 o6 n6; have hx6 := (o6.block _ (lt_of_row (unhide HT22)) (fun q => nomatch q)).trans (unhide HT22); obtain ⟨y0, y1, y2, y3, y4⟩ := box5 hx6 (Below.refl _ _) (lt_of_row hx6); have f6 := frz hx6 3; have yl := lt_of_row hx6; have HX6 := hide hx6; have HR6 := hide r6; have HO6 := hide o6; clear r6 o6 n6 hx6))
        simp only [List.nil_append, Nat.zero_add] at *
        clear c0 c1 c2 c3 c4 e0 d0 d1 d2 d3 d4 e1 y0 y1 y2 y3 y4 f6 yl
        have b6 := (unhide HO6).below (Below.refl W22.heap.size W22) (Nat.le_refl _) (fun k q => nomatch q)
        have S6 := (unhide HS22).below b6
        have o7 := Only.setCell w6 ⟨X, 3, none⟩ (.slice p6 ln c6)
        have hx7 := heap_setCell_same w6 X 3 _ 27 (.slice p6 ln c6) (unhide HX6)
        have r7 := owns_only (unhide HR6) o7 (fun i hi q => by
          obtain ⟨cs, e⟩ := owns_lt (unhide HR6) i hi
          rw [show i = X from q, unhide HX6] at e
          cases e)
        have S7 := S6.box (X := X) o7 (unhide HX6) (by have := (unhide HXX).1; omega) (unhide HXX).2
        generalize w6.setCell ⟨X, 3, none⟩ (.slice p6 ln c6) = V7 at hx7 r7 S7 ⊢
        have hx7' : V7.heap[X]? = some (.cells #[I pk, I pn, I pb, .slice p6 ln c6, S x] 27 (0, 0)) := by rw [hx7]; rfl
        obtain ⟨c0, c1, c2, c3, c4⟩ := box5 hx7' (Below.refl _ _) (lt_of_row hx7')
        have e0 := lt_of_row hx7'
        obtain ⟨d0, d1, d2, d3, d4⟩ := box5 S7.qb (Below.refl _ _) (lt_of_row S7.qb)
        have e1 := lt_of_row S7.qb
        have hGl7 : G < V7.heap.size := S7.gl.lt
        have x23 := hide (unhide Y13 V7 G b T18 N18 LL p6 c6 S7.bel (S7.ins (unhide HLL)) (ins_own r7 (unhide HLL)) (owns_z r7) S7.bk (fun i hi => by omega) (by rw [(unhide HL18).1]; omega) (by rw [(unhide HL18).2]; omega))
        have HS7 := hide S7
        clear S6 S7 b6 o7 hx7 r7 hx7' HO6 HR6 HX6 HS22 HT22 HI2 Y13
        go_wp2_with fail
        refine (unhide x23).mono ?_
        rintro e w24 ⟨rfl, T24, N24, k24, lT24, lN24, o24⟩
        clear c0 c1 c2 c3 c4 e0 d0 d1 d2 d3 d4 e1 x23 hGl7
        have S24 := (unhide HS7).cut o24 k24
        have x24 := hide (bok_apart S24.bk.b (by rw [lT24, (unhide HL18).1]; omega) (by rw [lN24, (unhide HL18).2]; omega))
        have HS24 := hide S24
        clear S24 k24 o24 lT24 lN24 HS7
        go_wp2_with fail
        refine (unhide x24).mono ?_
        rintro e w25 ⟨rfl, o25⟩
        have HO := hide o25
        clear o25 x24
        go_wp2
        go_ret
        have hS := unhide HS24
        have hA2 := (unhide HA).trans (hS.bel.mono (unhide HA).size)
        exact ⟨by first | rfl | simp, (unhide HO).below hA2 hA2.size (fun k q => by have := hS.lo.1; have := (unhide HA).size; omega)⟩
end Go.Proofs.YtllialbdofklgaaGreatDoor
