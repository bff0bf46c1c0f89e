import Derived.Test.YthlacailhfhjnaaGreatDoorZzbp
import Derived.Test.YthlacailhfhjnaaGreatDoorZzbq
import Derived.Test.YthlacailhfhjnaaGreatDoorWcq
import Derived.Test.YthlacailhfhjnaaGreatDoorZzak
namespace Go.Proofs.YthlacailhfhjnaaGreatDoor
open Go.RowKit Go.Lib
theorem lens_flw {hs : List Fl} {b : Bs} (h : flw hs b = true) : Lens hs := by
  unfold flw at h
  simp only [Bool.and_eq_true, decide_eq_true_eq] at h
  intro j
  by_cases hj : j < hs.length
  · have e : hs.getD j fl0 = hs[j] := by simp [hj]
    rw [e]
    have := List.all_eq_true.1 h.2 _ (List.getElem_mem hj)
    unfold hdr at this
    simp only [Bool.and_eq_true, decide_eq_true_eq] at this
    have := this.1.1.1.1
    omega
  · have e : hs.getD j fl0 = fl0 := by simp [List.getD, show hs[j]? = none from List.getElem?_eq_none (by omega)]
    rw [e]
    exact ⟨Nat.zero_le _, Nat.zero_le _⟩
theorem lay_len {l : Bs} {hs : List Fl} {b : Bs} (h : flw hs b = true) (hl : l.length ≤ 1000) : 0 < (lay l hs b).length ∧ (lay l hs b).length ≤ 100000 := by
  obtain ⟨h1, h2, h3⟩ := flw_len h
  have h4 := dec_len b.length (by omega)
  unfold lay hln
  simp [CL]
  omega
/-- What is known of an answer's text. -/
structure AT (n : Nat) (hs : List Fl) (b more T : Bs) : Prop where
  whole : pa p0 (T ++ more) = .ok (⟨n, hs, b⟩, more)
  begins : ∀ k, k < T.length → pa p0 (T.take k) = .error 56
  pos : 0 < T.length
  len : T.length ≤ 100000
theorem at_of {n : Nat} {hs : List Fl} {b : Bs} (more : Bs) (hn : 100 ≤ n ∧ n ≤ 599) (h : flw hs b = true) : ∃ T, pans n hs b = (T, 0) ∧ AT n hs b more T := by
  have hl := (aline_op hn (by have := dec_len n (by omega); omega)).2.2
  refine ⟨lay (aline n) hs b, ?_, pa_back hn h more, pa_begin hn h, (lay_len h hl).1, (lay_len h hl).2⟩
  unfold pans stat
  rw [if_pos (by simp [h]; omega)]
  rfl
/-- What is known of a message's text. -/
structure MT (z : Ms) (T : Bs) : Prop where
  cut : ∀ k, k < T.length → ∃ r, feed p0 (T.take k) = (r, [], 0) ∧ r.rd = k ∧ feed r (T.drop k) = (p0, [z], 0)
  pos : 0 < T.length
  len : T.length ≤ 100000
theorem mt_of {z : Ms} (h : may z = true) : ∃ T, pmsg z = (T, 0) ∧ MT z T := by
  have h' := h
  unfold may at h'
  simp only [Bool.and_eq_true] at h'
  have hl := (mline_op h'.1.1 h'.1.2).2.2
  refine ⟨lay (mline z.m z.p) z.hs z.b, by unfold pmsg; rw [if_pos h], fun k hk => ?_, (lay_len h'.2 hl).1, (lay_len h'.2 hl).2⟩
  obtain ⟨r, q1, q2, _, q4⟩ := feed_begin h k hk
  exact ⟨r, q1, q2, q4⟩
theorem tldbd (hs : List Fl) (b : Bs) : 0 ≤ tld hs b ∧ tld hs b ≤ 2147483648 := addv_bd2 (wgt_bd hs).1 (addv_bd2 (by omega) (by omega)).1
theorem sizbd (m : Ms) : 0 ≤ siz m ∧ siz m ≤ 2147483648 := addv_bd2 (addv_bd2 (by omega) (by omega)).1 (addv_bd2 (wgt_bd m.hs).1 (addv_bd2 (by omega) (by omega)).1).1
set_option maxHeartbeats 8000000 in
set_option maxRecDepth 8000 in
theorem wireBack_any {B : Nat} (st : Int) (fa : List Fl) (ba : Bs) (pa : Option Addr) (na ca : Nat) (m : Ms) (pm : Option Addr) (nm cm : Nat) (more : Bs) (at' : Int) (w : World) (hE : Env B w)
    (hA : Fls w pa na fa) (hLa : Lens fa) (hna : na ≤ 140737488351232) (hba : ba.length ≤ 140737488351232) (s1 : -9223372036854775808 ≤ st) (s2 : st ≤ 9223372036854775807)
    (hM : Fls w pm nm m.hs) (hLm : Lens m.hs) (hnm : nm ≤ 140737488351232) (hm1 : m.m.length ≤ 140737488351232) (hm2 : m.p.length ≤ 140737488351232) (hm3 : m.b.length ≤ 140737488351232)
    (hmo : more.length ≤ 140737488351232) (a1 : -9223372036854775808 ≤ at') (a2 : at' ≤ 9223372036854775807) :
    Calls Tryz.prog 7 #[.agg #[.int .i64 st, .slice pa na ca, S ba], .agg #[S m.m, S m.p, .slice pm nm cm, S m.b], S more, .int .i64 at'] w fun e w' => e = .returned (.bool true) ∧ Below w.heap.size w w' := by
  have b1 := (Below.refl w.heap.size w).alloc (Nat.le_refl _) (.cells #[.int .i64 st, .slice pa na ca, S ba] 26)
  have x1 := heap_alloc_new w (.cells #[.int .i64 st, .slice pa na ca, S ba] 26)
  obtain ⟨W1, hW1⟩ : ∃ W1, W1 = w.alloc (.cells #[.int .i64 st, .slice pa na ca, S ba] 26) := ⟨_, rfl⟩
  have z1 : W1.heap.size = w.heap.size + 1 := by subst hW1; simp
  rw [← hW1] at b1 x1
  have b2 := b1.alloc (by omega) (.cells #[S m.m, S m.p, .slice pm nm cm, S m.b] 24)
  have x2 := heap_alloc_new W1 (.cells #[S m.m, S m.p, .slice pm nm cm, S m.b] 24)
  have y1 := (heap_alloc_old W1 (.cells #[S m.m, S m.p, .slice pm nm cm, S m.b] 24) (r := w.heap.size) (by omega)).trans x1
  rw [z1] at x2
  have X2 := hide (And.intro b2 (And.intro y1 x2))
  have HE := hide (And.intro hE (And.intro hA hM))
  clear b1 b2 x1 x2 y1 hE hA hM
  have hq1 := (tldbd fa ba)
  have hq2 := (sizbd m)
  have hq3 := addv_bd2 hq1.1 hq2.1
  have hq4 := addv_bd2 (show (0 : Int) ≤ more.length by omega) (show (0 : Int) ≤ more.length by omega)
  have hq5 := addv_bd2 hq3.1 hq4.1
  go_enter Tryz.func7, Tryz.ntmps7
  go_wp2_with fail
  subst hW1
  generalize (w.alloc (.cells #[.int .i64 st, .slice pa na ca, S ba] 26)).alloc (.cells #[S m.m, S m.p, .slice pm nm cm, S m.b] 24) = W2 at *
  obtain ⟨b2, y1, x2⟩ := unhide X2
  obtain ⟨hE, hA, hM⟩ := unhide HE
  have hw2 : ∀ W, Below W2.heap.size W2 W → Below w.heap.size w W := fun W h => b2.trans (h.mono b2.size)
  have adds : ∀ (n k : Int) (i : Nat) (L : Nat → Bool) (W : World), 0 ≤ n → 0 ≤ k → n ≤ 9000000000000000000 → k ≤ 9000000000000000000 → Below W2.heap.size W2 W → Calls Tryz.prog 8 #[.int .i64 n, .int .i64 k] W fun e w' => e = .returned (.int .i64 (addv n k)) ∧ Below W2.heap.size W2 w' := by
    intro n k i L W h1 h2 h3 h4 h
    refine (add2_any n k W h1 h2 h3 h4).mono ?_
    rintro e w' ⟨rfl, hw⟩
    rw [hw]
    exact ⟨rfl, h⟩
  refine rbk w.heap.size (w.heap.size + 1) na ca nm cm pa pm st (tld fa ba) (siz m) (addv (tld fa ba) (siz m)) (addv more.length more.length) (addv (addv (tld fa ba) (siz m)) (addv more.length more.length)) (addv (addv (tld fa ba) (siz m)) (addv (addv (tld fa ba) (siz m)) (addv more.length more.length))) m.m m.p ba m.b more rfl rfl rfl _ _ (show 49 ≤ 169 from by decide) rfl rfl rfl (fun _ W => Below W2.heap.size W2 W) ((Below.refl _ _).drew) (fun _ _ _ _ h => h) ?_ ?_ ?_ ?_ ?_ ?_ ?_ ?_ ?_ ?_ ?_ ?_ ?_ ?_
  · intro L W h
    have := (h.block _ (lt_of_row y1)).trans y1
    exact ⟨cell_of_row W _ 0 _ 26 (0, 0) this, cell_of_row W _ 1 _ 26 (0, 0) this, cell_of_row W _ 2 _ 26 (0, 0) this⟩
  · intro L W h _
    refine (told_any st pa na ca fa ba W (hA.below (hw2 W h)) hna hLa hba).mono ?_
    rintro e w' ⟨rfl, hb⟩
    exact ⟨rfl, h.trans (hb.mono h.size)⟩
  · intro L W h
    have := (h.block _ (lt_of_row x2)).trans x2
    exact ⟨cell_of_row W _ 0 _ 24 (0, 0) this, cell_of_row W _ 1 _ 24 (0, 0) this, cell_of_row W _ 2 _ 24 (0, 0) this, cell_of_row W _ 3 _ 24 (0, 0) this⟩
  · intro L W h _
    refine (size_any m pm nm cm W (hM.below (hw2 W h)) hnm hLm hm1 hm2 hm3).mono ?_
    rintro e w' ⟨rfl, hb⟩
    exact ⟨rfl, h.trans (hb.mono h.size)⟩
  · intro L W h _
    exact adds _ _ 0 L W hq1.1 hq2.1 (by omega) (by omega) h
  · intro L W h
    have := (h.block _ (lt_of_row y1)).trans y1
    exact ⟨cell_of_row W _ 0 _ 26 (0, 0) this, cell_of_row W _ 1 _ 26 (0, 0) this, cell_of_row W _ 2 _ 26 (0, 0) this⟩
  · intro L W h _
    refine (told_any st pa na ca fa ba W (hA.below (hw2 W h)) hna hLa hba).mono ?_
    rintro e w' ⟨rfl, hb⟩
    exact ⟨rfl, h.trans (hb.mono h.size)⟩
  · intro L W h
    have := (h.block _ (lt_of_row x2)).trans x2
    exact ⟨cell_of_row W _ 0 _ 24 (0, 0) this, cell_of_row W _ 1 _ 24 (0, 0) this, cell_of_row W _ 2 _ 24 (0, 0) this, cell_of_row W _ 3 _ 24 (0, 0) this⟩
  · intro L W h _
    refine (size_any m pm nm cm W (hM.below (hw2 W h)) hnm hLm hm1 hm2 hm3).mono ?_
    rintro e w' ⟨rfl, hb⟩
    exact ⟨rfl, h.trans (hb.mono h.size)⟩
  · intro L W h _
    exact adds _ _ 0 L W hq1.1 hq2.1 (by omega) (by omega) h
  · intro L W h _
    exact adds _ _ 0 L W (by omega) (by omega) (by omega) (by omega) h
  · intro L W h _
    exact adds _ _ 0 L W hq3.1 hq4.1 (by omega) (by omega) h
  · intro L W h _
    exact adds _ _ 0 L W hq3.1 hq5.1 (by omega) (by omega) h
  intro L w3 _ b3
  have hml : addv (addv (tld fa ba) (siz m)) (addv (addv (tld fa ba) (siz m)) (addv more.length more.length)) ≤ 2147483647 → more.length ≤ 2147483647 := by
    intro h
    have h1 := addv_le h
    have h2 := addv_le (show addv (addv (tld fa ba) (siz m)) (addv more.length more.length) ≤ 2147483647 by omega)
    have h3 := addv_le (show addv (more.length : Int) more.length ≤ 2147483647 by omega)
    omega
  generalize addv (addv (tld fa ba) (siz m)) (addv (addv (tld fa ba) (siz m)) (addv more.length more.length)) = K at *
  have X3 := hide (And.intro (hw2 _ b3) (And.intro ((b3.block _ (lt_of_row y1)).trans y1) ((b3.block _ (lt_of_row x2)).trans x2)))
  generalize addv (addv (tld fa ba) (siz m)) (addv more.length more.length) = G at *
  generalize addv (tld fa ba) (siz m) = A at *
  generalize addv (more.length : Int) more.length = D at *
  generalize tld fa ba = TT at *
  generalize siz m = ZZ at *
  clear b2 b3 y1 x2 hE hA hM hw2 adds hq1 hq2 hq3 hq4 hq5 X2 z1
  by_cases hK : 2147483647 < K
  · have hK' : decide ((2147483647 : Int) < K) = true := by simpa using hK
    rw [hK']
    simp only [Act.put, List.setIfInBounds_toArray, List.set_cons_succ, List.set_cons_zero]
    go_wp2
    go_ret
    exact ⟨rfl, (unhide X3).1⟩
  have hK' : decide ((2147483647 : Int) < K) = false := by simpa using hK
  rw [hK']
  have hm31 := hml (by omega)
  clear hml hK hK'
  simp only [Act.put, List.setIfInBounds_toArray, List.set_cons_succ, List.set_cons_zero]
  have H3 := hide (awake_any w3 ((unhide HE).1.below ((unhide X3).1.mono (unhide HE).1.le)))
  go_wp2_with fail
  refine (unhide H3).mono ?_
  rintro e w4 ⟨rfl, b4⟩
  obtain ⟨b3, y3, x3⟩ := unhide X3
  have b4' := b3.trans (b4.mono b3.size)
  have y4 := (b4.block _ (lt_of_row y3)).trans y3
  have x4 := (b4.block _ (lt_of_row x3)).trans x3
  have H4 := hide (answer_any st fa ba pa na ca w4 ((unhide HE).2.1.below b4') hLa hna hba s1 s2)
  have d0 : w4.cell? ⟨w.heap.size, 0, none⟩ = some (.int .i64 st) := cell_of_row w4 _ 0 _ 26 (0, 0) y4
  have d1 : w4.cell? ⟨w.heap.size, 1, none⟩ = some (.slice pa na ca) := cell_of_row w4 _ 1 _ 26 (0, 0) y4
  have d2 : w4.cell? ⟨w.heap.size, 2, none⟩ = some (S ba) := cell_of_row w4 _ 2 _ 26 (0, 0) y4
  have X4 := hide (And.intro b4' x4)
  clear b3 y3 x3 b4 b4' y4 x4 X3 H3
  go_wp2_with fail
  refine (unhide H4).mono ?_
  rintro e w5 ⟨n, hs, b, a, k, rfl, hok⟩
  obtain ⟨k1, k2, k3, k4, k5⟩ := hok
  have f5 := owns_fls k3 rfl
  have K5 := hide (And.intro k1 k2)
  have X5 := hide (And.intro ((unhide X4).1.trans (k5.mono (unhide X4).1.size)) (And.intro ((k5.block _ (lt_of_row (unhide X4).2)).trans (unhide X4).2) f5))
  clear k1 k2 k3 k4 k5 f5 X4 d0 d1 d2 H4
  go_wp2_with fail
  change Calls Tryz.prog 32 #[.agg #[.int .i64 n, .slice a hs.length k, S b]] (w5.alloc (.cells #[.int .i64 n, .slice a hs.length k, S b] 26)) _
  obtain ⟨b5, x5, f5⟩ := unhide X5
  have b6 := (Below.refl w5.heap.size w5).alloc (Nat.le_refl _) (.cells #[.int .i64 n, .slice a hs.length k, S b] 26)
  have u6 := heap_alloc_new w5 (.cells #[.int .i64 n, .slice a hs.length k, S b] 26)
  generalize w5.alloc (.cells #[.int .i64 n, .slice a hs.length k, S b] 26) = w6 at *
  obtain ⟨T, t1, t2⟩ := at_of more (unhide K5).1 (unhide K5).2
  have hl6 := flw_len (unhide K5).2
  have H6 := printAnswer_any n hs b a hs.length k w6 (f5.below b6) ((unhide HE).1.below ((b5.trans (b6.mono b5.size)).mono (unhide HE).1.le)) (lens_flw (unhide K5).2) (by omega) (by omega)
  rw [t1] at H6
  have X6 := hide (And.intro (b5.trans (b6.mono b5.size)) (And.intro ((b6.block _ (lt_of_row x5)).trans x5) (And.intro u6 (f5.below b6))))
  have T6 := hide t2
  clear b5 x5 f5 b6 u6 X5 t1 t2
  refine H6.mono ?_
  rintro e w7 ⟨rfl, b7⟩
  obtain ⟨b6, x6, u6, f6⟩ := unhide X6
  have b7' := b6.trans (b7.mono b6.size)
  have X7 := hide (And.intro b7' (And.intro ((b7.block _ (lt_of_row x6)).trans x6) (And.intro ((b7.block _ (lt_of_row u6)).trans u6) (f6.below b7))))
  have hT := (unhide T6).len
  have hE7 := (unhide HE).1.below (b7'.mono (unhide HE).1.le)
  have H7 := hide (parseAnswer_any (T ++ more) w7 hE7 (by simp; omega))
  rw [(unhide T6).whole] at H7
  clear b6 x6 u6 f6 b7 b7' X6 H6 hE7
  go_wp2_with fail
  rw [ba_append]
  refine (unhide H7).mono ?_
  rintro e w8 ⟨h8, b8⟩
  unfold PaR at h8
  simp only at h8
  obtain ⟨hv, rfl, ow, -⟩ := h8
  obtain ⟨p8, c8, rfl⟩ : ∃ p8 c8, hv = .slice p8 hs.length c8 := by
    rcases ow.2 with ⟨e, q⟩ | ⟨g, cap, cur, e1, _⟩
    · exact ⟨none, 0, by rw [e, q]⟩
    · exact ⟨_, _, e1⟩
  obtain ⟨b7, x7, u7, f7⟩ := unhide X7
  have b8' := b7.trans (b8.mono b7.size)
  have b9 := (Below.refl w8.heap.size w8).alloc (Nat.le_refl _) (.cells #[.int .i64 n, .slice p8 hs.length c8, S b] 26)
  have v9 := heap_alloc_new w8 (.cells #[.int .i64 n, .slice p8 hs.length c8, S b] 26)
  have x8 := (b8.block _ (lt_of_row x7)).trans x7
  have u8 := (b8.block _ (lt_of_row u7)).trans u7
  have X9 := hide (And.intro (b8'.trans (b9.mono b8'.size)) (And.intro ((b9.block _ (lt_of_row x8)).trans x8) (And.intro ((b9.block _ (lt_of_row u8)).trans u8) (And.intro ((f7.below b8).below b9) (And.intro v9 ((owns_fls ow rfl).below b9))))))
  have H9 := hide (fun W => pick_any at' T.length W (unhide T6).pos (by omega) a1 a2)
  have hpk := pkv_lt at' T.length (unhide T6).pos
  have HT9 := hide ((unhide T6).begins _ hpk)
  generalize pkv at' T.length = kk at *
  clear b7 x7 u7 f7 b8 b8' b9 v9 x8 u8 ow X7 H7
  go_wp2_with fail
  change Calls Tryz.prog 15 _ (w8.alloc (.cells #[.int .i64 n, .slice p8 hs.length c8, S b] 26)) _
  generalize w8.alloc (.cells #[.int .i64 n, .slice p8 hs.length c8, S b] 26) = w9 at *
  refine (unhide H9 w9).mono ?_
  rintro e w9' ⟨rfl, hw9⟩
  rw [hw9]
  clear hw9 w9' H9
  have hkl : (kk : Int) ≤ (T.length : Int) := by omega
  have H10 := hide (parseAnswer_any (T.take kk) w9 ((unhide HE).1.below ((unhide X9).1.mono (unhide HE).1.le)) (by simp; omega))
  rw [unhide HT9] at H10
  go_wp2_with fail
  rw [show ({ data := List.toArray T } : ByteArray).extract 0 kk = ⟨(T.take kk).toArray⟩ by rw [extract_eq]; simp]
  refine (unhide H10).mono ?_
  rintro e w10 ⟨h10, b10⟩
  unfold PaR at h10
  simp only at h10
  subst h10
  obtain ⟨b9, x9, u9, f9, v9, g9⟩ := unhide X9
  have b10' := b9.trans (b10.mono b9.size)
  have b11 := (Below.refl w10.heap.size w10).alloc (Nat.le_refl _) (.cells #[.int .i64 0, .slice none 0 0, S []] 26)
  have x10 := (b10.block _ (lt_of_row x9)).trans x9
  have u10 := (b10.block _ (lt_of_row u9)).trans u9
  have v10 := (b10.block _ (lt_of_row v9)).trans v9
  have X11 := hide (And.intro (b10'.trans (b11.mono b10'.size)) (And.intro ((b11.block _ (lt_of_row x10)).trans x10) (And.intro ((b11.block _ (lt_of_row u10)).trans u10) (And.intro ((f9.below b10).below b11) (And.intro ((b11.block _ (lt_of_row v10)).trans v10) ((g9.below b10).below b11))))))
  have hx1 := (unhide X11).2.2.1
  have hx2 := (unhide X11).2.2.2.2.1
  obtain ⟨w11, hw11⟩ : ∃ w11, w11 = w10.alloc (.cells #[.int .i64 0, .slice none 0 0, S []] 26) := ⟨_, rfl⟩
  rw [← hw11] at X11 hx1 hx2
  have d0 : w11.cell? ⟨w5.heap.size, 0, none⟩ = some (.int .i64 n) := cell_of_row w11 _ 0 _ 26 (0, 0) hx1
  have d1 : w11.cell? ⟨w5.heap.size, 1, none⟩ = some (.slice a hs.length k) := cell_of_row w11 _ 1 _ 26 (0, 0) hx1
  have d2 : w11.cell? ⟨w5.heap.size, 2, none⟩ = some (S b) := cell_of_row w11 _ 2 _ 26 (0, 0) hx1
  have e0 : w11.cell? ⟨w8.heap.size, 0, none⟩ = some (.int .i64 n) := cell_of_row w11 _ 0 _ 26 (0, 0) hx2
  have e1 : w11.cell? ⟨w8.heap.size, 1, none⟩ = some (.slice p8 hs.length c8) := cell_of_row w11 _ 1 _ 26 (0, 0) hx2
  have e2 : w11.cell? ⟨w8.heap.size, 2, none⟩ = some (S b) := cell_of_row w11 _ 2 _ 26 (0, 0) hx2
  rw [hw11] at d0 d1 d2 e0 e1 e2
  have H11 := hide (sameAnswer_eq a p8 hs.length k c8 hs n b w11 (unhide X11).2.2.2.1 (unhide X11).2.2.2.2.2 (by omega))
  clear b9 x9 u9 f9 v9 g9 b10 b10' b11 x10 u10 v10 hx1 hx2 X9 H10
  go_wp2_with fail
  change Calls Tryz.prog 34 _ (w10.alloc (.cells #[.int .i64 0, .slice none 0 0, S []] 26)) _
  rw [← hw11]
  clear d0 d1 d2 e0 e1 e2 hw11
  refine (unhide H11).mono ?_
  rintro e w12 ⟨rfl, b12⟩
  obtain ⟨b11, x11, -⟩ := unhide X11
  have b12' := b11.trans (b12.mono b11.size)
  have x12 := (b12.block _ (lt_of_row x11)).trans x11
  have H12 := hide (message_any m pm nm cm w12 ((unhide HE).2.2.below b12') hLm hnm hm1 hm2 hm3)
  have d0 : w12.cell? ⟨w.heap.size + 1, 0, none⟩ = some (S m.m) := cell_of_row w12 _ 0 _ 24 (0, 0) x12
  have d1 : w12.cell? ⟨w.heap.size + 1, 1, none⟩ = some (S m.p) := cell_of_row w12 _ 1 _ 24 (0, 0) x12
  have d2 : w12.cell? ⟨w.heap.size + 1, 2, none⟩ = some (.slice pm nm cm) := cell_of_row w12 _ 2 _ 24 (0, 0) x12
  have d3 : w12.cell? ⟨w.heap.size + 1, 3, none⟩ = some (S m.b) := cell_of_row w12 _ 3 _ 24 (0, 0) x12
  have X12 := hide b12'
  clear b11 x11 b12 b12' x12 X11 H11
  go_wp2_with fail
  refine (unhide H12).mono ?_
  rintro e w13 ⟨z, za, zk, rfl, hok⟩
  obtain ⟨k1, k2, k3, k4⟩ := hok
  have f13 := owns_fls k2 rfl
  have X13 := hide (And.intro ((unhide X12).trans (k4.mono (unhide X12).size)) (And.intro f13 k1))
  clear k1 k2 k3 k4 f13 X12 d0 d1 d2 d3 H12
  go_wp2_with fail
  change Calls Tryz.prog 31 #[.agg #[S z.m, S z.p, .slice za z.hs.length zk, S z.b]] (w13.alloc (.cells #[S z.m, S z.p, .slice za z.hs.length zk, S z.b] 24)) _
  obtain ⟨b13, f13, hmay⟩ := unhide X13
  have b14 := (Below.refl w13.heap.size w13).alloc (Nat.le_refl _) (.cells #[S z.m, S z.p, .slice za z.hs.length zk, S z.b] 24)
  have u14 := heap_alloc_new w13 (.cells #[S z.m, S z.p, .slice za z.hs.length zk, S z.b] 24)
  generalize w13.alloc (.cells #[S z.m, S z.p, .slice za z.hs.length zk, S z.b] 24) = w14 at *
  have b14' := b13.trans (b14.mono b13.size)
  have f14 := f13.below b14
  obtain ⟨U, t1, t2⟩ := mt_of hmay
  unfold may at hmay
  simp only [Bool.and_eq_true] at hmay
  have hz := flw_len hmay.2
  have H14 := printMessage_any z za z.hs.length zk w14 f14 ((unhide HE).1.below (b14'.mono (unhide HE).1.le)) (lens_flw hmay.2) (by have := meth_len hmay.1.1; omega) (by have := pth_len hmay.1.2; omega) (by omega) (by omega)
  rw [t1] at H14
  have TU := hide t2
  have X14 := hide (And.intro b14' (And.intro u14 f14))
  have hzh : z.hs.length ≤ 1000000000000 := by omega
  clear b13 f13 hmay b14 u14 b14' f14 t1 t2 hz X13
  refine H14.mono ?_
  rintro e w15 ⟨rfl, b15⟩
  clear H14
  obtain ⟨b14, u14, f14⟩ := unhide X14
  have b15' := b14.trans (b15.mono b14.size)
  have X15 := hide (And.intro b15' (And.intro ((b15.block _ (lt_of_row u14)).trans u14) (And.intro (f14.below b15) ((unhide HE).1.below (b15'.mono (unhide HE).1.le)))))
  clear b14 u14 f14 b15 b15' X14
  have H15 := hide (newReader_any w15)
  go_wp2_with fail
  refine (unhide H15).mono ?_
  rintro e w16 ⟨R, O, rfl, hr, hO, b16⟩
  have X16 := hide (And.intro b16 (And.intro hr hO))
  clear b16 hr hO H15
  have H16 := hide (fun W => pick_any at' U.length W (unhide TU).pos (by have := (unhide TU).len; omega) a1 a2)
  have hpk2 := pkv_lt at' U.length (unhide TU).pos
  have HT16 := hide ((unhide TU).cut _ hpk2)
  have hUl := (unhide TU).len
  generalize pkv at' U.length = kq at *
  go_wp2_with fail
  refine (unhide H16 _).mono ?_
  rintro e w16' ⟨rfl, hw⟩
  rw [hw]
  clear hw w16' H16
  have hkl2 : (kq : Int) ≤ (U.length : Int) := by omega
  go_wp2_with fail
  obtain ⟨r, f1, f2, f3⟩ := unhide HT16
  have F := hide (And.intro f2 f3)
  obtain ⟨b16, hr, hO⟩ := unhide X16
  obtain ⟨b15, u15, g15, E15⟩ := unhide X15
  have H17 := hide (feed_st E15 b16 hr hO (U.take kq) (by simp; omega) (by simp [p0]; omega))
  rw [f1] at H17
  rw [show ({ data := List.toArray U } : ByteArray).extract 0 kq = ⟨(U.take kq).toArray⟩ by rw [extract_eq]; simp]
  clear f1 f2 f3 b16 hr hO b15 u15 g15 E15 X16 HT16
  refine (unhide H17).mono ?_
  rintro e w17 ⟨a17, c17, O17, rfl, b17, r17, hO17, -⟩
  have H18 := hide (waiting_any r17)
  rw [(unhide F).1] at H18
  have X17 := hide (And.intro b17 (And.intro r17 hO17))
  clear b17 r17 hO17 H17
  dsimp only [List.length_nil]
  go_wp2_with fail
  refine (unhide H18).mono ?_
  rintro e w18 ⟨rfl, hw⟩
  rw [hw]
  clear hw w18 H18
  go_wp2_with fail
  obtain ⟨b17, r17, hO17⟩ := unhide X17
  obtain ⟨b15, u15, g15, E15⟩ := unhide X15
  have H19 := hide (feed_st E15 b17 r17 hO17 (U.drop kq) (by simp; omega) (by rw [(unhide F).1]; simp; omega))
  rw [(unhide F).2] at H19
  rw [show ({ data := List.toArray U } : ByteArray).extract kq (List.length U) = ⟨(U.drop kq).toArray⟩ by rw [extract_eq]; simp; exact List.take_of_length_le (by simp)]
  clear b17 r17 hO17 b15 u15 g15 E15 X17
  refine (unhide H19).mono ?_
  rintro e w19 ⟨a19, c19, O19, rfl, b19, r19, hO19, m19⟩
  obtain ⟨b15, u15, g15, E15⟩ := unhide X15
  have u19 := (b19.block _ (lt_of_row u15)).trans u15
  have d0 : w19.cell? ⟨w13.heap.size, 0, none⟩ = some (S z.m) := cell_of_row w19 _ 0 _ 24 (0, 0) u19
  have d1 : w19.cell? ⟨w13.heap.size, 1, none⟩ = some (S z.p) := cell_of_row w19 _ 1 _ 24 (0, 0) u19
  have d2 : w19.cell? ⟨w13.heap.size, 2, none⟩ = some (.slice za z.hs.length zk) := cell_of_row w19 _ 2 _ 24 (0, 0) u19
  have d3 : w19.cell? ⟨w13.heap.size, 3, none⟩ = some (S z.b) := cell_of_row w19 _ 3 _ 24 (0, 0) u19
  have b20 := (Below.refl w19.heap.size w19).alloc (Nat.le_refl _) (.cells #[S z.m, S z.p, .slice za z.hs.length zk, S z.b] 24)
  have v20 := heap_alloc_new w19 (.cells #[S z.m, S z.p, .slice za z.hs.length zk, S z.b] 24)
  have H20 := hide (messages_eq a19 (some ⟨w19.heap.size, 0, none⟩) 1 c19 1 [z] _ (m19.below b20) (mls_one (z := z) v20 ((g15.below b19).below b20)) (by decide) (by intro j; match j with | 0 => exact hzh | j + 1 => exact Nat.zero_le _))
  have b19' := b15.trans (b19.mono b15.size)
  have X20 := hide (And.intro (b19'.trans (b20.mono b19'.size)) (r19.below b20))
  clear b19 b19' r19 hO19 m19 b15 u15 g15 E15 u19 b20 v20 H19 X15 F
  dsimp only [List.length_cons, List.length_nil]
  go_wp2_with fail
  generalize w19.alloc (.cells #[S z.m, S z.p, .slice za z.hs.length zk, S z.b] 24) = w20 at *
  refine (unhide H20).mono ?_
  rintro e w21 ⟨rfl, b21⟩
  obtain ⟨b20, r20⟩ := unhide X20
  have H21 := hide (waiting_any (r20.below b21))
  have X21 := hide (b20.trans (b21.mono b20.size))
  clear b20 r20 b21 X20 H20 d0 d1 d2 d3
  go_wp2_with fail
  refine (unhide H21).mono ?_
  rintro e w22 ⟨rfl, hw⟩
  rw [hw]
  clear hw w22 H21
  go_wp2
  go_ret
  exact ⟨by first | rfl | simp, unhide X21⟩
end Go.Proofs.YthlacailhfhjnaaGreatDoor
