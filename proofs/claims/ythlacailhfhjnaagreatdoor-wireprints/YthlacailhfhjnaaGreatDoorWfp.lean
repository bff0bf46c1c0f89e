import Derived.Test.YthlacailhfhjnaaGreatDoorWfs
import Derived.Test.YthlacailhfhjnaaGreatDoorWfq
import Derived.Test.YthlacailhfhjnaaGreatDoorWft
import Derived.BigQuiet
import Derived.Deep.CutRange
import Derived.Test.YthlacailhfhjnaaGreatDoorRgp
import Derived.Deep.CutBlock
namespace Go.Proofs.YthlacailhfhjnaaGreatDoor
open Go.RowKit Go.Lib
theorem lm_may {z : Ms} (h : may z = true) : LM z := by
  unfold may at h
  simp only [Bool.and_eq_true] at h
  have hz := flw_len h.2
  exact ⟨lens_flw h.2, by omega, by have := meth_len h.1.1; omega, by have := pth_len h.1.2; omega, by omega⟩
theorem few_may {z : Ms} (h : may z = true) : z.hs.length ≤ 32 := by
  unfold may at h
  simp only [Bool.and_eq_true] at h
  exact (flw_len h.2).2.1
theorem la_flw {f : List Fl} {b : Bs} (h : flw f b = true) : LA f b := by
  have hz := flw_len h
  exact ⟨lens_flw h, by omega, by omega⟩
theorem fls_lt {w : World} {a : Option Addr} {n : Nat} {fs : List Fl} (h : Fls w a n fs) : ∀ p o, a = some ⟨p, o, none⟩ → 0 < n → p < w.heap.size := by
  intro p o e hn
  obtain ⟨p', o', e', hl, _⟩ := h.at hn
  rw [e] at e'
  cases e'
  exact hl
/-- A message that was made, in a box of its own. -/
theorem mb_new {z : Ms} {a : Option Addr} {k : Nat} {w0 w : World} (h : Mok z a k w0 w) : MB w.heap.size z w.heap.size (w.alloc (.cells #[S z.m, S z.p, .slice a z.hs.length k, S z.b] 24)) := by
  have hf := owns_fls h.row rfl
  have hc := owns_cases h.row
  have b := (Below.refl w.heap.size w).alloc (Nat.le_refl _) (.cells #[S z.m, S z.p, .slice a z.hs.length k, S z.b] 24)
  exact ⟨a, k, heap_alloc_new _ _, hf.below b, hc.2.1, fls_lt hf⟩
theorem ab_new {n : Nat} {hs : List Fl} {b' : Bs} {a : Option Addr} {k : Nat} {w0 w : World} (h : Aok n hs b' a k w0 w) : AB w.heap.size (n : Nat) hs b' w.heap.size (w.alloc (.cells #[.int .i64 (n : Nat), .slice a hs.length k, S b'] 26)) := by
  have hf := owns_fls h.row rfl
  have hc := owns_cases h.row
  have b := (Below.refl w.heap.size w).alloc (Nat.le_refl _) (.cells #[.int .i64 (n : Nat), .slice a hs.length k, S b'] 26)
  exact ⟨a, k, heap_alloc_new _ _, hf.below b, hc.2.1, fls_lt hf⟩
set_option maxHeartbeats 8000000 in
set_option maxRecDepth 8000 in
theorem wirePrints_any {B : Nat} (m : Ms) (pm : Option Addr) (cm : Nat) (st : Int) (fa : List Fl) (ba : Bs) (pa : Option Addr) (ca : Nat) (wh : Int) (name : Bs) (w : World) (hE : Env B w)
    (hM : Fls w pm m.hs.length m.hs) (hMn : pm = none → cm = 0) (hLm : Lens m.hs) (hnm : m.hs.length ≤ 140737488351232) (h1 : m.m.length ≤ 140737488351232) (h2 : m.p.length ≤ 140737488351232) (h3 : m.b.length ≤ 140737488351232)
    (hA : Fls w pa fa.length fa) (hAn : pa = none → ca = 0) (hLa : Lens fa) (hna : fa.length ≤ 140737488351232) (h4 : ba.length ≤ 140737488351232) (s1 : -9223372036854775808 ≤ st) (s2 : st ≤ 9223372036854775807)
    (a1 : -9223372036854775808 ≤ wh) (a2 : wh ≤ 9223372036854775807) (hname : name.length ≤ 140737488351232) :
    Calls Tryz.prog 3 #[.agg #[S m.m, S m.p, .slice pm m.hs.length cm, S m.b], .agg #[.int .i64 st, .slice pa fa.length ca, S ba], .int .i64 wh, S name] w fun e w' => e = .returned (.bool true) ∧ Below w.heap.size w w' := by
  have b1 := (Below.refl w.heap.size w).alloc (Nat.le_refl _) (.cells #[S m.m, S m.p, .slice pm m.hs.length cm, S m.b] 24)
  have x1 := heap_alloc_new w (.cells #[S m.m, S m.p, .slice pm m.hs.length cm, S m.b] 24)
  obtain ⟨W1, hW1⟩ : ∃ W1, W1 = w.alloc (.cells #[S m.m, S m.p, .slice pm m.hs.length cm, S m.b] 24) := ⟨_, rfl⟩
  have z1 : W1.heap.size = w.heap.size + 1 := by subst hW1; simp
  rw [← hW1] at b1 x1
  have b2 := b1.alloc (by omega) (.cells #[.int .i64 st, .slice pa fa.length ca, S ba] 26)
  have x2 := heap_alloc_new W1 (.cells #[.int .i64 st, .slice pa fa.length ca, S ba] 26)
  have y1 := (heap_alloc_old W1 (.cells #[.int .i64 st, .slice pa fa.length ca, S ba] 26) (r := w.heap.size) (by omega)).trans x1
  rw [z1] at x2
  have X2 := hide (And.intro b2 (And.intro y1 x2))
  have HE := hide (And.intro hE (And.intro (And.intro hM hMn) (And.intro hA hAn)))
  clear b1 b2 x1 x2 y1 hE hM hMn hA hAn
  have hq1 := (tldbd fa ba)
  have hq2 := (sizbd m)
  have hq3 := addv_bd2 hq2.1 hq1.1
  have hq4 := addv_bd2 hq3.1 (show (0 : Int) ≤ name.length by omega)
  go_enter Tryz.func3, Tryz.ntmps3
  go_wp2_with fail
  subst hW1
  generalize (w.alloc (.cells #[S m.m, S m.p, .slice pm m.hs.length cm, S m.b] 24)).alloc (.cells #[.int .i64 st, .slice pa fa.length ca, S ba] 26) = W2 at *
  obtain ⟨b2, y1, x2⟩ := unhide X2
  obtain ⟨hE, ⟨hM, hMn⟩, hA, hAn⟩ := unhide HE
  have hw2 : ∀ W, Below W2.heap.size W2 W → Below w.heap.size w W := fun W h => b2.trans (h.mono b2.size)
  have adds : ∀ (n k : Int) (W : World), 0 ≤ n → 0 ≤ k → n ≤ 9000000000000000000 → k ≤ 9000000000000000000 → Below W2.heap.size W2 W → Calls Tryz.prog 8 #[.int .i64 n, .int .i64 k] W fun e w' => e = .returned (.int .i64 (addv n k)) ∧ Below W2.heap.size W2 w' := by
    intro n k W h1 h2 h3 h4 h
    refine (add2_any n k W h1 h2 h3 h4).mono ?_
    rintro e w' ⟨rfl, hw⟩
    rw [hw]
    exact ⟨rfl, h⟩
  have cm4 : ∀ W, Below W2.heap.size W2 W → W.cell? ⟨w.heap.size, 0, none⟩ = some (S m.m) ∧ W.cell? ⟨w.heap.size, 0 + 1, none⟩ = some (S m.p) ∧ W.cell? ⟨w.heap.size, 0 + 2, none⟩ = some (.slice pm m.hs.length cm) ∧ W.cell? ⟨w.heap.size, 0 + 3, none⟩ = some (S m.b) := fun W h => by
    have := (h.block _ (lt_of_row y1)).trans y1
    exact ⟨cell_of_row W _ 0 _ 24 (0, 0) this, cell_of_row W _ 1 _ 24 (0, 0) this, cell_of_row W _ 2 _ 24 (0, 0) this, cell_of_row W _ 3 _ 24 (0, 0) this⟩
  have ca4 : ∀ W, Below W2.heap.size W2 W → W.cell? ⟨w.heap.size + 1, 0, none⟩ = some (.int .i64 st) ∧ W.cell? ⟨w.heap.size + 1, 1, none⟩ = some (.slice pa fa.length ca) ∧ W.cell? ⟨w.heap.size + 1, 2, none⟩ = some (S ba) := fun W h => by
    have := (h.block _ (lt_of_row x2)).trans x2
    exact ⟨cell_of_row W _ 0 _ 26 (0, 0) this, cell_of_row W _ 1 _ 26 (0, 0) this, cell_of_row W _ 2 _ 26 (0, 0) this⟩
  have sz4 : ∀ W, Below W2.heap.size W2 W → Calls Tryz.prog 9 #[.agg #[S m.m, S m.p, .slice pm m.hs.length cm, S m.b]] W fun e w' => e = .returned (.int .i64 (siz m)) ∧ Below W2.heap.size W2 w' := fun W h => by
    refine (size_any m pm m.hs.length cm W (hM.below (hw2 W h)) hnm hLm h1 h2 h3).mono ?_
    rintro e w' ⟨rfl, hb⟩
    exact ⟨rfl, h.trans (hb.mono h.size)⟩
  have td4 : ∀ W, Below W2.heap.size W2 W → Calls Tryz.prog 10 #[.agg #[.int .i64 st, .slice pa fa.length ca, S ba]] W fun e w' => e = .returned (.int .i64 (tld fa ba)) ∧ Below W2.heap.size W2 w' := fun W h => by
    refine (told_any st pa fa.length ca fa ba W (hA.below (hw2 W h)) hna hLa h4).mono ?_
    rintro e w' ⟨rfl, hb⟩
    exact ⟨rfl, h.trans (hb.mono h.size)⟩
  refine rw1 (w.heap.size + 1) w.heap.size fa.length ca m.hs.length cm pa pm st (tld fa ba) (siz m) (addv (siz m) (tld fa ba)) (addv (addv (siz m) (tld fa ba)) name.length) (addv (addv (siz m) (tld fa ba)) (addv (addv (siz m) (tld fa ba)) name.length)) m.m m.p ba m.b name rfl rfl rfl _ _ (show 41 ≤ 222 from by decide) rfl rfl rfl (fun _ W => Below W2.heap.size W2 W) ((Below.refl _ _).drew) (fun _ _ _ _ h => h)
    (fun L W h => cm4 W h) (fun L W h _ => sz4 W h) (fun L W h => ca4 W h) (fun L W h _ => td4 W h) (fun L W h _ => adds _ _ W hq2.1 hq1.1 (by omega) (by omega) h)
    (fun L W h => cm4 W h) (fun L W h _ => sz4 W h) (fun L W h => ca4 W h) (fun L W h _ => td4 W h) (fun L W h _ => adds _ _ W hq2.1 hq1.1 (by omega) (by omega) h)
    (fun L W h _ => adds _ _ W hq3.1 (by omega) (by omega) (by omega) h) (fun L W h _ => adds _ _ W hq3.1 hq4.1 (by omega) (by omega) h) ?_
  intro L w3 _ b3
  have hml : addv (addv (siz m) (tld fa ba)) (addv (addv (siz m) (tld fa ba)) name.length) ≤ 2147483647 → wgt m.hs ≤ 2147483647 ∧ wgt fa ≤ 2147483647 := by
    intro h
    have e1 := addv_le h
    have e2 := addv_le (show addv (siz m) (tld fa ba) ≤ 2147483647 by omega)
    have e3 : siz m ≤ 2147483647 := by omega
    have e4 : tld fa ba ≤ 2147483647 := by omega
    have w1 := wgt_bd m.hs
    have w2 := wgt_bd fa
    unfold siz at e3
    unfold tld at e4
    have q1 := addv_bd2 (show (0 : Int) ≤ m.b.length by omega) (show (0 : Int) ≤ 100 by omega)
    have q2 := addv_bd2 (show (0 : Int) ≤ ba.length by omega) (show (0 : Int) ≤ 100 by omega)
    have q3 := addv_bd2 (show (0 : Int) ≤ m.m.length by omega) (show (0 : Int) ≤ m.p.length by omega)
    have f1 := addv_le e3
    have f2 := addv_le (show addv (wgt m.hs) (addv (m.b.length : Int) 100) ≤ 2147483647 by omega)
    have f3 := addv_le e4
    exact ⟨by omega, by omega⟩
  have X3 := hide (show Bx w w.heap.size (w.heap.size + 1) m st fa ba w3 from ⟨hw2 _ b3, show MB w.heap.size m w.heap.size w3 from ⟨pm, cm, (b3.block _ (lt_of_row y1)).trans y1, hM.below (hw2 _ b3), hMn, fls_lt hM⟩, show AB (w.heap.size + 1) st fa ba w.heap.size w3 from ⟨pa, ca, (b3.block _ (lt_of_row x2)).trans x2, hA.below (hw2 _ b3), hAn, fls_lt hA⟩⟩)
  have HE' := hide hE
  generalize addv (addv (siz m) (tld fa ba)) (addv (addv (siz m) (tld fa ba)) name.length) = K at *
  generalize addv (addv (siz m) (tld fa ba)) name.length = D at *
  generalize addv (siz m) (tld fa ba) = A at *
  generalize tld fa ba = TT at *
  generalize siz m = ZZ at *
  clear b2 b3 y1 x2 hE hA hM hw2 adds hq1 hq2 hq3 hq4 X2 z1 cm4 ca4 sz4 td4 hMn hAn HE
  by_cases hK : 2147483647 < K
  · have hK' : decide ((2147483647 : Int) < K) = true := by simpa using hK
    rw [hK']
    simp only [Act.put, List.setIfInBounds_toArray, List.set_cons_succ, List.set_cons_zero]
    go_wp2
    go_ret
    exact ⟨rfl, (unhide X3).bel⟩
  have hK' : decide ((2147483647 : Int) < K) = false := by simpa using hK
  rw [hK']
  obtain ⟨hw1, hw2⟩ := hml (by omega)
  have LMm := hide (show LM m from ⟨hLm, by have := wgt_len _ hw1; omega, h1, h2, h3⟩)
  have LAa := hide (show LA fa ba from ⟨hLa, by have := wgt_len _ hw2; omega, h4⟩)
  clear hml hK hK' hw1 hw2 hLm hLa hnm hna h1 h2 h3 h4
  simp only [Act.put, List.setIfInBounds_toArray, List.set_cons_succ, List.set_cons_zero]
  generalize w.heap.size + 1 = P5 at *
  go_wp2_with fail
  refine (awake_any w3 ((unhide X3).env (unhide HE'))).mono ?_
  rintro e w4 ⟨rfl, b4⟩
  have X4 := hide ((unhide X3).below b4)
  clear b4 X3
  obtain ⟨p4, c4, q4, k4, d0, d1, d2, d3, e0, e1, e2, f4, H4, -⟩ := mprints ((unhide X4).env (unhide HE')) (unhide X4).mb (unhide X4).ab (unhide LMm) (unhide LAa)
  have H4' := hide H4
  clear H4 f4
  go_wp2_with fail
  refine (unhide H4').mono ?_
  rintro e w5 ⟨rfl, b5⟩
  have X5 := hide ((unhide X4).below b5)
  clear b5 X4 d0 d1 d2 d3 e0 e1 e2 H4'
  obtain ⟨p5, c5, q5, k5, d0, d1, d2, d3, e0, e1, e2, f5, -, -⟩ := mprints ((unhide X5).env (unhide HE')) (unhide X5).mb (unhide X5).ab (unhide LMm) (unhide LAa)
  have H5 := hide (message2_any m p5 m.hs.length c5 w5 f5 (unhide LMm).hl (by have := (unhide LMm).hn; omega) (unhide LMm).hm (unhide LMm).hp (unhide LMm).hb)
  clear f5
  go_wp2_with fail
  refine (unhide H5).mono ?_
  rintro e w6 ⟨x, xa, xk, rfl, hok, hxl⟩
  have HXL := hide hxl
  have X6 := hide ((unhide X5).below hok.bel)
  have B6 := (Below.refl w6.heap.size w6).alloc (Nat.le_refl _) (.cells #[S x.m, S x.p, .slice xa x.hs.length xk, S x.b] 24)
  have X7 := hide ((unhide X6).below B6)
  have M7 := hide (mb_new hok)
  have LX := hide (lm_may hok.may)
  have HFX := hide (few_may hok.may)
  have G7 := hide (unhide X6).bel.size
  clear hok hxl B6 X5 d0 d1 d2 d3 e0 e1 e2 H5
  go_upto_region 6 with fail
  change Code.wp _ _ _ _ (w6.alloc (.cells #[S x.m, S x.p, .slice xa x.hs.length xk, S x.b] 24))
  generalize w6.alloc (.cells #[S x.m, S x.p, .slice xa x.hs.length xk, S x.b] 24) = w7 at *
  obtain ⟨p7, c7, q7, k7, d0, d1, d2, d3, e0, e1, e2, -, -, -⟩ := mprints ((unhide X7).env (unhide HE')) (unhide X7).mb (unhide X7).ab (unhide LMm) (unhide LAa)
  obtain ⟨_, _, _, f7, _, _⟩ := (unhide X7).ab
  have H7 := hide (fun a k (e : w7.cell? ⟨P5, 1, none⟩ = some (.slice a fa.length k)) => (show Calls Tryz.prog 14 #[.agg #[.int .i64 st, .slice a fa.length k, S ba]] w7 _ from by
    obtain ⟨a', k', x', f', _⟩ := (unhide X7).ab
    have h' : w7.cell? ⟨P5, 1, none⟩ = some (.slice a' fa.length k') := cell_of_row w7 _ 1 _ 26 (0, 0) x'
    rw [e] at h'
    cases h'
    exact answer_any st fa ba a fa.length k w7 f' (unhide LAa).hl (by have := (unhide LAa).hn; omega) (unhide LAa).hb s1 s2))
  generalize w6.heap.size = X11 at *
  clear f7
  go_wp2_with fail
  refine (unhide H7 _ _ e1).mono ?_
  rintro e w8 ⟨yn, yh, yb, ya, yk, rfl, hok⟩
  have X8 := hide ((unhide X7).below hok.bel)
  have M8 := hide ((unhide M7).below hok.bel)
  have B8 := (Below.refl w8.heap.size w8).alloc (Nat.le_refl _) (.cells #[.int .i64 (yn : Nat), .slice ya yh.length yk, S yb] 26)
  have X9 := hide ((unhide X8).below B8)
  have M9 := hide ((unhide M8).below B8)
  have A9 := hide (ab_new hok)
  have LY := hide (la_flw hok.flw)
  have HFEW := hide (show x.hs.length + yh.length ≤ 100000000000 by have := unhide HFX; have := (flw_len hok.flw).2.1; omega)
  have G9 := hide (And.intro (unhide M8).lt (unhide X8).bel.size)
  have hyn := hok.st
  clear hok B8 X7 M7 X8 M8 d0 d1 d2 d3 e0 e1 e2 H7
  go_upto_region 7 with fail
  change Code.wp _ _ _ _ (w8.alloc (.cells #[.int .i64 (yn : Nat), .slice ya yh.length yk, S yb] 26))
  generalize w8.alloc (.cells #[.int .i64 (yn : Nat), .slice ya yh.length yk, S yb] 26) = w9 at *
  generalize w8.heap.size = X12 at *
  obtain ⟨p9, c9, q9, k9, d0, d1, d2, d3, e0, e1, e2, -, H9, -⟩ := mprints ((unhide X9).env (unhide HE')) (unhide M9) (unhide A9) (unhide LX) (unhide LY)
  have H9' := hide H9
  clear H9
  go_wp2_with fail
  refine (unhide H9').mono ?_
  rintro e w10 ⟨rfl, b10⟩
  have X10 := hide ((unhide X9).below b10)
  have M10 := hide ((unhide M9).below b10)
  have A10 := hide ((unhide A9).below b10)
  clear b10 X9 M9 A9 d0 d1 d2 d3 e0 e1 e2 H9'
  obtain ⟨xp, xc, xx, xf, xn, xb⟩ := unhide M10
  obtain ⟨yp, yc, yx, yf, yn', yb'⟩ := unhide A10
  have d0 : w10.cell? ⟨X11, 0, none⟩ = some (S x.m) := cell_of_row w10 _ 0 _ 24 (0, 0) xx
  have d1 : w10.cell? ⟨X11, 1, none⟩ = some (S x.p) := cell_of_row w10 _ 1 _ 24 (0, 0) xx
  have d2 : w10.cell? ⟨X11, 2, none⟩ = some (.slice xp x.hs.length xc) := cell_of_row w10 _ 2 _ 24 (0, 0) xx
  have d3 : w10.cell? ⟨X11, 3, none⟩ = some (S x.b) := cell_of_row w10 _ 3 _ 24 (0, 0) xx
  have b11 := (Below.refl w10.heap.size w10).alloc (Nat.le_refl _) (.cells #[S x.m, S x.p, .slice xp x.hs.length xc, S x.b] 24)
  have Z11 : Hid (MB w10.heap.size x X11 _) := hide ⟨xp, xc, heap_alloc_new w10 (.cells #[S x.m, S x.p, .slice xp x.hs.length xc, S x.b] 24), xf.below b11, xn, xb⟩
  have X11' := hide ((unhide X10).below b11)
  have M11 := hide ((unhide M10).below b11)
  have A11 := hide ((unhide A10).below b11)
  have yx1 := hide ((b11.block _ (lt_of_row yx)).trans yx)
  have yf1 := hide (And.intro (yf.below b11) (And.intro yn' yb'))
  have G11 := hide (And.intro (lt_of_row xx) (And.intro (lt_of_row yx) (And.intro (unhide X10).mb.lt (And.intro (unhide X10).ab.lt (unhide X10).bel.size))))
  clear xx xf xn xb yx yf yn' yb' b11 X10 M10 A10
  go_upto_region 9 with fail
  change Code.wp _ _ _ _ (w10.alloc (.cells #[S x.m, S x.p, .slice xp x.hs.length xc, S x.b] 24))
  have hz11 : (w10.alloc (.cells #[S x.m, S x.p, .slice xp x.hs.length xc, S x.b] 24)).heap.size = w10.heap.size + 1 := by simp
  generalize w10.alloc (.cells #[S x.m, S x.p, .slice xp x.hs.length xc, S x.b] 24) = w11 at *
  generalize w10.heap.size = X14 at *
  have e0 : w11.cell? ⟨X12, 0, none⟩ = some (.int .i64 (yn : Nat)) := cell_of_row w11 _ 0 _ 26 (0, 0) (unhide yx1)
  have e1 : w11.cell? ⟨X12, 1, none⟩ = some (.slice yp yh.length yc) := cell_of_row w11 _ 1 _ 26 (0, 0) (unhide yx1)
  have e2 : w11.cell? ⟨X12, 2, none⟩ = some (S yb) := cell_of_row w11 _ 2 _ 26 (0, 0) (unhide yx1)
  have b12 := (Below.refl w11.heap.size w11).alloc (Nat.le_refl _) (.cells #[.int .i64 (yn : Nat), .slice yp yh.length yc, S yb] 26)
  have V12 : Hid (AB w11.heap.size (yn : Nat) yh yb X12 _) := hide ⟨yp, yc, heap_alloc_new w11 (.cells #[.int .i64 (yn : Nat), .slice yp yh.length yc, S yb] 26), (unhide yf1).1.below b12, (unhide yf1).2.1, (unhide yf1).2.2⟩
  have X12' := hide ((unhide X11').below b12)
  have M12 := hide ((unhide M11).below b12)
  have A12 := hide ((unhide A11).below b12)
  have Z12 := hide ((unhide Z11).below b12)
  clear b12 X11' M11 A11 Z11 yx1 yf1 d0 d1 d2 d3
  go_upto_region 10 with fail
  change Code.wp _ _ _ _ (w11.alloc (.cells #[.int .i64 (yn : Nat), .slice yp yh.length yc, S yb] 26))
  generalize w11.alloc (.cells #[.int .i64 (yn : Nat), .slice yp yh.length yc, S yb] 26) = w12 at *
  have HZ := hide hz11
  rw [hz11] at V12
  obtain ⟨X15, hX15⟩ : ∃ X15, X15 = X14 + 1 := ⟨_, rfl⟩
  rw [← hX15] at V12 ⊢
  have HX := hide hX15
  clear hz11 hX15 e0 e1 e2
  have HPk := hide (fun W => pick_any wh 5 W (by omega) (by omega) a1 a2)
  have hpk := pkv_lt wh 5 (by omega)
  generalize pkv wh 5 = pk at *
  have SW : Hid (Swi w w.heap.size P5 X11 X12 X14 X15 m st fa ba x (yn : Nat) yh yb x (yn : Nat) yh yb X11 X12 w12) := by
    obtain ⟨g1, g2, g3, g4, g5⟩ := unhide G11
    exact hide ⟨unhide X12', (unhide M12).mono (by omega), (unhide A12).mono (by omega), unhide Z12, unhide V12, unhide LX, unhide LY, ⟨g3, g4, g1, g2, unhide HX, g5⟩⟩
  have HGB := hide (show X11 ≤ X14 ∧ X12 ≤ X15 by have := unhide G11; have := unhide HX; omega)
  clear X12' M12 A12 Z12 V12 G11 HX HZ G9 G7
  go_upto_block 0 with (refine (unhide HPk w12).mono ?_; rintro e w13 ⟨rfl, hw13⟩; rw [hw13]; clear hw13)
  go_cut [] from 54 to 113 (fun wc => ∃ z vs vh vb Bz Bv, Swi w w.heap.size P5 X11 X12 X14 X15 m st fa ba x (yn : Nat) yh yb z vs vh vb Bz Bv wc)
  case first =>
    have S0 := unhide SW
    obtain ⟨q1, q2, q3, q4, q5, q6⟩ := S0.o1
    have hgb := unhide HGB
    rcases (by omega : pk = 0 ∨ pk = 1 ∨ pk = 2 ∨ pk = 3 ∨ pk = 4) with rfl | rfl | rfl | rfl | rfl
    · obtain ⟨_, _, d0, _, _, _, _, _, _⟩ := S0.bx.mb.cells
      obtain ⟨_, _, z0, _, _, _, zz, _, _⟩ := S0.mz.cells
      have ho := Only.setCell w12 ⟨X14, 0, none⟩ (S m.m)
      have hA1 := S0.bx.ab.only ho (by intro e; simp at e; omega) (fun k e => by simp at e; omega)
      have hV1 := S0.av.only ho (by intro e; simp at e; omega) (fun k e => by simp at e; omega)
      obtain ⟨_, _, e0, _, _, _, _, _⟩ := hA1.cells
      obtain ⟨_, _, v0, _, _, vz, _, _⟩ := hV1.cells
      have hzz := zz 0
      have hvz := vz 0
      have ho2 := Only.setCell (w12.setCell ⟨X14, 0, none⟩ (S m.m)) ⟨X15, 0, none⟩ (.int .i64 st)
      have FIN := hide (S0.mk' (w' := (w12.setCell ⟨X14, 0, none⟩ (S m.m)).setCell ⟨X15, 0, none⟩ (.int .i64 st)) (z' := { x with m := m.m }) (vs' := st) (vh' := yh) (vb' := yb) (Bz' := X11) (Bv' := X12) ((ho.mono (fun k _ e => .inl e)).trans ho2 (fun k _ e => .inr e)) ((S0.mz.set0 (by omega) m.m).only ho2 (by intro e; simp at e; omega) (fun k e => by simp at e; omega)) (hV1.set0 (by omega) st) ⟨(unhide LX).hl, (unhide LX).hn, (unhide LMm).hm, (unhide LX).hp, (unhide LX).hb⟩ (unhide LY))
      clear S0 ho ho2 hA1 hV1 zz vz hgb q1 q2 q3 q4 q5 q6
      go_wp2_with fail
      go_meet
      exact ⟨_, _, _, _, _, _, unhide FIN⟩
    · obtain ⟨_, _, _, d0, _, _, _, _, _⟩ := S0.bx.mb.cells
      obtain ⟨_, _, _, z0, _, _, zz, _, _⟩ := S0.mz.cells
      have ho := Only.setCell w12 ⟨X14, 1, none⟩ (S m.p)
      have hV1 := S0.av.only ho (by intro e; simp at e; omega) (fun k e => by simp at e; omega)
      have hzz := zz 1
      have FIN := hide (S0.mk' (w' := w12.setCell ⟨X14, 1, none⟩ (S m.p)) (z' := { x with p := m.p }) (vs' := (yn : Nat)) (vh' := yh) (vb' := yb) (Bz' := X11) (Bv' := X12) (ho.mono (fun k _ e => .inl e)) (S0.mz.set1 (by omega) m.p) hV1 ⟨(unhide LX).hl, (unhide LX).hn, (unhide LX).hm, (unhide LMm).hp, (unhide LX).hb⟩ (unhide LY))
      clear S0 ho hV1 zz hgb q1 q2 q3 q4 q5 q6
      go_wp2_with fail
      go_meet
      exact ⟨_, _, _, _, _, _, unhide FIN⟩
    · obtain ⟨_, _, _, _, _, d0, _, _, _⟩ := S0.bx.mb.cells
      obtain ⟨_, _, _, _, _, z0, zz, _, _⟩ := S0.mz.cells
      have ho := Only.setCell w12 ⟨X14, 3, none⟩ (S m.b)
      have hA1 := S0.bx.ab.only ho (by intro e; simp at e; omega) (fun k e => by simp at e; omega)
      have hV1 := S0.av.only ho (by intro e; simp at e; omega) (fun k e => by simp at e; omega)
      obtain ⟨_, _, _, _, e0, _, _, _⟩ := hA1.cells
      obtain ⟨_, _, _, _, v0, vz, _, _⟩ := hV1.cells
      have hzz := zz 3
      have hvz := vz 2
      have ho2 := Only.setCell (w12.setCell ⟨X14, 3, none⟩ (S m.b)) ⟨X15, 2, none⟩ (S ba)
      have FIN := hide (S0.mk' (w' := (w12.setCell ⟨X14, 3, none⟩ (S m.b)).setCell ⟨X15, 2, none⟩ (S ba)) (z' := { x with b := m.b }) (vs' := (yn : Nat)) (vh' := yh) (vb' := ba) (Bz' := X11) (Bv' := X12) ((ho.mono (fun k _ e => .inl e)).trans ho2 (fun k _ e => .inr e)) ((S0.mz.set3 (by omega) m.b).only ho2 (by intro e; simp at e; omega) (fun k e => by simp at e; omega)) (hV1.set2 (by omega) ba) ⟨(unhide LX).hl, (unhide LX).hn, (unhide LX).hm, (unhide LX).hp, (unhide LMm).hb⟩ ⟨(unhide LY).hl, (unhide LY).hn, (unhide LAa).hb⟩)
      clear S0 ho ho2 hA1 hV1 zz vz hgb q1 q2 q3 q4 q5 q6
      go_wp2_with fail
      go_meet
      exact ⟨_, _, _, _, _, _, unhide FIN⟩
    · obtain ⟨mp', mc', _, _, dm2, _, _, fm, nm⟩ := S0.bx.mb.cells
      obtain ⟨xp', xc', _, _, dx2, _, _, fx, nx⟩ := S0.mx.cells
      by_cases hx0 : x.hs.length = 0
      · have FIN := hide S0
        have i2 : decide ((0 : Int) < (x.hs.length : Int)) = false := decide_eq_false (by omega)
        have i3 : decide (0 < x.hs.length) = false := decide_eq_false (by omega)
        clear S0 fm nm fx nx hgb q1 q2 q3 q4 q5 q6
        by_cases hm0 : m.hs.length = 0
        · have i1 : decide ((0 : Int) < (m.hs.length : Int)) = false := decide_eq_false (by omega)
          have i4 : decide (0 < m.hs.length) = false := decide_eq_false (by omega)
          clear hm0 hx0
          go_wp2_with fail
          go_meet
          exact ⟨_, _, _, _, _, _, unhide FIN⟩
        · have i1 : decide ((0 : Int) < (m.hs.length : Int)) = true := decide_eq_true (by omega)
          have i4 : decide (0 < m.hs.length) = true := decide_eq_true (by omega)
          clear hm0 hx0
          go_wp2_with fail
          go_meet
          exact ⟨_, _, _, _, _, _, unhide FIN⟩
      · have hxl := unhide HXL
        have i1 : decide ((0 : Int) < (m.hs.length : Int)) = true := decide_eq_true (by omega)
        have i2 : decide ((0 : Int) < (x.hs.length : Int)) = true := decide_eq_true (by omega)
        have i3 : decide (0 < x.hs.length) = true := decide_eq_true (by omega)
        have i4 : decide (0 < m.hs.length) = true := decide_eq_true (by omega)
        have HP3 := hide (fun W => pick_any wh x.hs.length W (by omega) (by have := (unhide LX).hn; omega) a1 a2)
        have hk := pkv_lt wh x.hs.length (by omega)
        generalize pkv wh x.hs.length = kk at *
        have HF := hide (And.intro fx (And.intro nx (And.intro fm nm)))
        have HS := hide S0
        have HQ := hide (And.intro hgb (And.intro q1 (And.intro q2 (And.intro q3 (And.intro q4 (And.intro q5 q6))))))
        have HKX := hide (And.intro hk (And.intro hxl hx0))
        have hxn : x.hs.length ≤ 100000000000 := (unhide LX).hn
        clear S0 fx nx fm nm hgb q1 q2 q3 q4 q5 q6 hk hxl hx0
        go_wp2_with fail
        refine (unhide HP3 w12).mono ?_
        rintro e w13 ⟨rfl, hw13⟩
        rw [hw13]
        clear hw13 HP3
        have hxp : 0 < x.hs.length := by have := unhide HKX; omega
        have HXP := hide hxp
        clear hxp
        go_wp2_with (at_builtin; refine wp_appN rfl (.const (.slice none 0 0)) (.tmp 102) rfl (by rfl) (by rfl) (unhide HF).1 (unhide HF).2.1.1 (by omega) (unhide HXP) ?_; intro G cap w14 ho14 b14 hG; have HO14 := hide (And.intro ho14 (And.intro b14 hG)); obtain ⟨zp, zc, z0, z1, z2, z3, zz, _, _⟩ := ((unhide HS).mz.below b14).cells; have hz2 := zz 2; clear ho14 b14 hG zz z0 z1 z3)
        obtain ⟨ho14, b14, hG⟩ := unhide HO14
        have Z14 := (unhide HS).mz.below b14
        obtain ⟨hgb, q1, q2, q3, q4, q5, q6⟩ := unhide HQ
        obtain ⟨hk, hxl, hx0⟩ := unhide HKX
        obtain ⟨zp2, zc2, zx, _⟩ := Z14
        have on15 : Only (fun k => k = X14) w12 (w14.setCell ⟨X14, 2, none⟩ (.slice (some ⟨G, 0, none⟩) x.hs.length cap)) := (Only.of_below b14).trans (Only.setCell w14 ⟨X14, 2, none⟩ (.slice (some ⟨G, 0, none⟩) x.hs.length cap)) (fun _ _ q => q)
        have ho15 := owns_same (w' := w14.setCell ⟨X14, 2, none⟩ (.slice (some ⟨G, 0, none⟩) x.hs.length cap)) ho14 (fun k hk => heap_setCell_other w14 _ _ _ (own_ne zx ho14 (by decide) k hk))
        have zx15 : (w14.setCell ⟨X14, 2, none⟩ (.slice (some ⟨G, 0, none⟩) x.hs.length cap)).heap[X14]? = some (.cells #[S x.m, S x.p, .slice (some ⟨G, 0, none⟩) x.hs.length cap, S x.b] 24 (0, 0)) := heap_setCell_same w14 X14 2 _ 24 (.slice (some ⟨G, 0, none⟩) x.hs.length cap) zx
        generalize w14.setCell ⟨X14, 2, none⟩ (.slice (some ⟨G, 0, none⟩) x.hs.length cap) = w15 at *
        clear z2 hz2 ho14 HO14
        have S0 := unhide HS
        have hXG : G ≠ X14 := own_ne zx15 ho15 (by decide) G rfl
        obtain ⟨rp, ro, rfl, _, r0, r1⟩ := (unhide HF).2.2.1.at (show kk < m.hs.length by omega)
        have hrp := (unhide HF).2.2.2.2 rp ro rfl (by omega)
        obtain ⟨⟨cs, hcs, hct⟩, ho16⟩ := owns_set2 (w := w15.drew) (F := x.hs) ho15 kk hk (m.hs.getD kk fl0)
        have on15d : Only (fun k => k = X14) w12 w15.drew := on15.trans (Only.drew (fun k => k = X14) w15) (fun _ _ q => q)
        have zxd : w15.drew.heap[X14]? = _ := zx15
        have hlf := (unhide LMm).hl kk
        have on16 : Only (fun k => k = G) w15.drew ((w15.drew.setCell ⟨G, kk * 2, none⟩ (S (m.hs.getD kk fl0).1)).setCell ⟨G, kk * 2 + 1, none⟩ (S (m.hs.getD kk fl0).2)) := (Only.setCell w15.drew ⟨G, kk * 2, none⟩ _).trans (Only.setCell _ ⟨G, kk * 2 + 1, none⟩ _) (fun _ _ q => q)
        generalize hw16 : w15.drew = w16 at *
        generalize hw17 : (w16.setCell ⟨G, kk * 2, none⟩ (S (m.hs.getD kk fl0).1)).setCell ⟨G, kk * 2 + 1, none⟩ (S (m.hs.getD kk fl0).2) = w17 at *
        have sz16 := on15d.size
        have hon : ∀ (L : Nat → Bool) (W : World), (W = if L 9 = true then w17 else w16) → Only (fun k => k = G) w16 W := fun L W h => by
          rw [h]
          split
          · exact on16
          · exact Only.refl _ _
        have hrow : ∀ (L : Nat → Bool) (W : World), (W = if L 9 = true then w17 else w16) → W.heap[rp]? = w12.heap[rp]? := fun L W h => ((hon L W h).block rp (by omega) (by omega)).trans (on15d.block rp (by omega) (by omega))
        have hcell : ∀ (L : Nat → Bool) (W : World), (W = if L 9 = true then w17 else w16) → ∀ j v, w12.cell? ⟨rp, j, none⟩ = some v → W.cell? ⟨rp, j, none⟩ = some v := fun L W h j v hv => by
          have hb := hrow L W h
          simp only [World.cell?] at hv ⊢
          rw [hb]
          exact hv
        have hmc : ∀ (L : Nat → Bool) (W : World), (W = if L 9 = true then w17 else w16) → W.cell? ⟨w.heap.size, 0 + 2, none⟩ = some (.slice (some ⟨rp, ro, none⟩) m.hs.length mc') := fun L W h => by
          have h4 : w.heap.size < w12.heap.size := S0.bx.mb.lt
          have hb : W.heap[w.heap.size]? = w12.heap[w.heap.size]? := ((hon L W h).block _ (by omega) (by omega)).trans (on15d.block _ (by omega) (by omega))
          have := dm2
          simp only [World.cell?] at this ⊢
          rw [hb]
          exact this
        refine rw24 X14 w.heap.size G x.hs.length cap rp ro m.hs.length mc' kk (m.hs.getD kk fl0).1 (m.hs.getD kk fl0).2 cs rfl rfl rfl _ _ (show 114 ≤ 222 from by decide) rfl rfl rfl (fun L W => W = if L 9 = true then w17 else w16) (by rw [hw16]; rfl) ?_ ?_ hmc (by omega) hk ?_ ?_ ?_
        · intro i hi L W h
          rw [upd_ne (show 9 ≠ i from fun e => by subst e; simp at hi)]
          exact h
        · intro L W h
          exact cell_of_row W _ 2 _ 24 (0, 0) (((hon L W h).block X14 (lt_of_row zxd) (fun e => hXG e.symm)).trans zxd)
        · exact fun L W h => ⟨hcell L W h _ _ r0, hcell L W h _ _ r1⟩
        · intro L W h h9 _ _
          rw [h9] at h
          simp only [Bool.false_eq_true, if_false] at h
          subst h
          refine ⟨?_, hcs, by omega⟩
          rw [upd_eq, if_pos rfl, ← hw17, Nat.zero_add]
        intro L W hall hW
        rw [hall 9 (by decide), if_pos rfl] at hW
        subst hW
        have on17 : Only (fun k => k = X14) w12 W := on15d.trans on16 (fun k _ e => by omega)
        have hbz : W.heap[X14]? = _ := (on16.block X14 (lt_of_row zxd) (fun e => hXG e.symm)).trans zxd
        have hc17 := owns_cases ho16
        have FIN := hide (S0.mk' (w' := W) (z' := { x with hs := x.hs.set kk (m.hs.getD kk fl0) }) (vs' := (yn : Nat)) (vh' := yh) (vb' := yb) (Bz' := W.heap.size) (Bv' := X12) (on17.mono (fun k _ e => .inl e)) ⟨some ⟨G, 0, none⟩, cap, by rw [List.length_set]; exact hbz, owns_fls (n := (x.hs.set kk (m.hs.getD kk fl0)).length) (c := cap) (by have q := ho16; rw [List.length_set] at q ⊢; exact q) rfl, (fun h => nomatch h), fls_own (n := (x.hs.set kk (m.hs.getD kk fl0)).length) (c := cap) (by have q := ho16; rw [List.length_set] at q ⊢; exact q)⟩ (S0.av.only on17 (by intro e; omega) (fun k e => by omega)) ⟨lens_set (unhide LX).hl kk _ hlf, by rw [List.length_set]; exact hxn, (unhide LX).hm, (unhide LX).hp, (unhide LX).hb⟩ (unhide LY))
        clear S0 hon hrow hcell hmc on15 on15d on16 on17 ho15 ho16 zx15 zxd hbz hc17 hcs hct r0 r1 hrp hlf sz16 hw17 hw16 hgb q1 q2 q3 q4 q5 q6 hk hxl hx0 zx b14 hG hXG hall
        simp only [Act.put, List.setIfInBounds_toArray, List.set_cons_succ, List.set_cons_zero]
        go_wp2_with fail
        go_meet
        exact ⟨_, _, _, _, _, _, unhide FIN⟩
    · obtain ⟨xp', xc', _, _, dx2, _, _, fx, nx⟩ := S0.mx.cells
      obtain ⟨yp', yc', _, dy1, _, _, fy, ny⟩ := S0.ax.cells
      obtain ⟨zp, zc, zx, _⟩ := S0.mz
      have HS := hide S0
      have HF := hide (And.intro (And.intro fx nx) (And.intro (And.intro fy ny) (And.intro zx (And.intro dx2 (And.intro dy1 (And.intro hgb (And.intro q1 (And.intro q2 (And.intro q3 (And.intro q4 (And.intro q5 q6)))))))))))
      clear S0 fx nx fy ny zx dx2 dy1 hgb q1 q2 q3 q4 q5 q6
      go_wp2_with fail
      obtain ⟨⟨fx, nx⟩, ⟨fy, ny⟩, zx, dx2, dy1, hgb, q1, q2, q3, q4, q5, q6⟩ := unhide HF
      have S0 := unhide HS
      have hxn := (unhide LX).hn
      have hyn2 := (unhide LY).hn
      have hX14 : X14 < w12.heap.size := lt_of_row zx
      have hold : ∀ {c L W}, W11 w12 X14 x (.slice zp x.hs.length zc) x.hs yh c L W → ∀ P j v, P < X14 → w12.cell? ⟨P, j, none⟩ = some v → W.cell? ⟨P, j, none⟩ = some v := fun {c L W} h P j v hP hv => by
        have hb := h.only.block P (by omega) (by omega)
        simp only [World.cell?] at hv ⊢
        rw [hb]
        exact hv
      refine rw11 X11 X12 X14 (.slice xp' x.hs.length xc') (.slice yp' yh.length yc') rfl rfl rfl _ _ (show 63 ≤ 222 from by decide) rfl rfl rfl (W11 w12 X14 x (.slice zp x.hs.length zc) x.hs yh) ⟨(undef, undef), Only.drew _ _, (fun q => nomatch q), (fun q => nomatch q), (fun q => nomatch q), (fun q => nomatch q), fun _ => zx, (fun q => nomatch q)⟩ ?_ (fun c L W h => hold h X11 2 _ q3 dx2) (fun c L W h => hold h X12 1 _ q4 dy1) ?_ ?_ (fun c L W h h7 h5 _ => h.laid7 h5 h7) ?_
      · intro i hi c L W h
        simp at hi
        exact h.pure i (by omega) (by omega) (by omega)
      · intro tt c L W h h2 _
        obtain ⟨V', W', r, o1, o2, o3⟩ := appG_run tt (owns_nil W) (fx.only nx.2 h.only (fun k e => by omega)) nx.1 (by simp; omega)
        rw [List.nil_append] at o1
        refine ⟨(V', c.2), W', fun j hj => ?_, r, h.one h2 o1 ⟨o2.os, o2.tape, o2.output, o2.size, fun k hk => o2.block k hk (fun e => by cases e)⟩ (by rcases o3 with e | e; exact .inl e; exact .inr e) hX14⟩
        have : j ≠ 2 := fun e => by subst e; rw [h2] at hj; cases hj
        unfold v11
        split <;> first | rfl | (exact absurd rfl this)
      · intro tt c L W h h5 h2 _
        obtain ⟨V', W', r, o1, o2, o3⟩ := appG_run tt (h.r1 h2 h5).1 (fy.only ny.2 h.only (fun k e => by omega)) ny.1 (by omega)
        refine ⟨(c.1, V'), W', fun j hj => ?_, r, h.two h2 h5 o1 o2 hX14⟩
        have : j ≠ 5 := fun e => by subst e; rw [h5] at hj; cases hj
        unfold v11
        split <;> first | rfl | (exact absurd rfl this)
      intro c L W hall hW
      have FIN := hide (S0.mk' (w' := W) (z' := { x with hs := x.hs ++ yh }) (vs' := (yn : Nat)) (vh' := yh) (vb' := yb) (Bz' := W.heap.size) (Bv' := X12) (hW.only.mono (fun k _ e => .inl e)) (hW.mb (hall 5 (by decide)) (hall 7 (by decide))) (S0.av.only hW.only (by intro e; omega) (fun k e => by omega)) ⟨lens_app (unhide LX).hl (unhide LY).hl, by rw [List.length_append]; have := unhide HFEW; omega, (unhide LX).hm, (unhide LX).hp, (unhide LX).hb⟩ (unhide LY))
      clear S0 hold hW hall zx dx2 dy1 fx nx fy ny hgb q1 q2 q3 q4 q5 q6 hX14 HF
      simp only [Act.put, List.setIfInBounds_toArray, List.set_cons_succ, List.set_cons_zero]
      go_wp2_with fail
      go_meet
      exact ⟨_, _, _, _, _, _, unhide FIN⟩
  case rest =>
    obtain ⟨z, vs, vh, vb, Bz, Bv, S1⟩ := hcut
    clear SW HGB HXL HFEW HFX hyn
    have HS1 := hide S1
    clear S1
    obtain ⟨p1, c1, k1, l1, d0, d1, d2, d3, e0, e1, e2, -, H1, -⟩ := mprints ((unhide HS1).bx.env (unhide HE')) (unhide HS1).mz (unhide HS1).av (unhide HS1).lz (unhide HS1).lv
    have H1' := hide H1
    clear H1
    go_wp2_with fail
    refine (unhide H1').mono ?_
    rintro e v1 ⟨rfl, b1⟩
    have HS2 := hide ((unhide HS1).below b1)
    clear b1 HS1 H1' d0 d1 d2 d3 e0 e1 e2
    obtain ⟨p2, c2, k2, l2, d0, d1, d2, d3, e0, e1, e2, -, -, H1⟩ := mprints ((unhide HS2).bx.env (unhide HE')) (unhide HS2).mx (unhide HS2).ax (unhide LX) (unhide LY)
    have H1' := hide H1
    clear H1
    go_wp2_with fail
    refine (unhide H1').mono ?_
    rintro e v2 ⟨rfl, b1⟩
    have HS3 := hide ((unhide HS2).bx.below b1)
    clear b1 HS2 H1' d0 d1 d2 d3 e0 e1 e2
    obtain ⟨p3, c3, k3, l3, d0, d1, d2, d3, e0, e1, e2, -, -, H1⟩ := mprints ((unhide HS3).env (unhide HE')) (unhide HS3).mb (unhide HS3).ab (unhide LMm) (unhide LAa)
    have H1' := hide H1
    clear H1
    go_wp2_with fail
    refine (unhide H1').mono ?_
    rintro e v3 ⟨rfl, b1⟩
    have HS4 := hide ((unhide HS3).below b1)
    clear b1 HS3 H1' d0 d1 d2 d3 e0 e1 e2
    have hmn := (unhide LMm).hn
    obtain ⟨p4', c4', _, _, d2, _, _, fm, _⟩ := (unhide HS4).mb.cells
    have H1 := hide (all_any p4' m.hs.length c4' m.hs name v3 fm (unhide LMm).hl (by omega))
    clear fm
    go_wp2_with fail
    refine (unhide H1).mono ?_
    rintro e v4 ⟨V1, rfl, o1⟩
    have HO1 := hide o1
    have HS5 := hide ((unhide HS4).below o1.bel)
    clear o1 H1 d2
    obtain ⟨p5', c5', _, _, d2, _, _, fm, _⟩ := (unhide HS5).mb.cells
    have H1 := hide (all_any p5' m.hs.length c5' m.hs name v4 fm (unhide LMm).hl (by omega))
    clear fm
    go_wp2_with fail
    refine (unhide H1).mono ?_
    rintro e v5 ⟨V2, rfl, o2⟩
    have HO2 := hide o2
    have HS6 := hide ((unhide HS5).below o2.bel)
    clear o2 H1 d2
    obtain ⟨p6', c6', _, _, d2, _, _, fm, _⟩ := (unhide HS6).mb.cells
    have H1 := hide (rAll_any p6' m.hs.length c6' m.hs name v5 fm (unhide LMm).hl (by omega) hname)
    clear fm
    go_wp2_with fail
    refine (unhide H1).mono ?_
    rintro e v6 ⟨V3, rfl, o3⟩
    have TR := hide (tri_of (unhide HS4).bel (unhide HO1) (unhide HO2) o3)
    have hal : (allv m.hs name).length ≤ 100000000000 := by
      have := allv_len m.hs name m.hs.length
      rw [List.take_length] at this
      omega
    clear o3 H1 d2 HO1 HO2 HS4 HS5 HS6 hmn
    generalize allv m.hs name = ls at *
    obtain ⟨s1', t1', rfl⟩ := owns_form (unhide TR).r1
    obtain ⟨s2', t2', rfl⟩ := owns_form (unhide TR).r2
    obtain ⟨s3', t3', rfl⟩ := owns_form (unhide TR).r3
    go_wp2
    go_loopw [23] (fun i wr => ∃ k : Nat, k ≤ ls.length ∧ i = .int .i64 k ∧ Tri w (.slice s1' ls.length t1') (.slice s2' ls.length t2') (.slice s3' ls.length t3') (mkd ls k) ls wr) (fun i _ => ls.length - (Go.RowKit.intOf i).toNat)
    case atStart => exact ⟨0, by omega, rfl, unhide TR⟩
    case round =>
      obtain ⟨k, hk, rfl, hT⟩ := hrel
      clear TR
      have HT := hide hT
      by_cases hlt : k < ls.length
      · have hkl : (k : Int) < (ls.length : Int) := by omega
        obtain ⟨g1, cp1, e1, r1, f1, _⟩ := row_pos hT.r1 (by rw [mkd_len _ _ hk]; omega)
        obtain ⟨g2, cp2, e2, r2, _, _⟩ := row_pos hT.r2 (by omega)
        obtain ⟨g3, cp3, e3, r3, _, _⟩ := row_pos hT.r3 (by omega)
        simp only [Value.slice.injEq] at e1 e2 e3
        obtain ⟨rfl, _, rfl⟩ := e1
        obtain ⟨rfl, _, rfl⟩ := e2
        obtain ⟨rfl, _, rfl⟩ := e3
        have c1 := r1 k (by rw [mkd_len _ _ hk]; omega)
        have c2 := r2 k hlt
        have c3 := r3 k hlt
        rw [mkd_at] at c1
        have hz := f1 k
        clear hT r1 r2 r3 f1
        generalize ls.getD k [] = X at *
        go_wp2_with fail
        go_quiet (fail)
        have hT2 := (unhide HT).below (below_dN (Below.refl _ _) nq)
        clear c1 c2 c3 hz HT
        generalize wr.drewN nq = wv at *
        obtain ⟨g', cp', e', r', f', _⟩ := row_pos hT2.r1 (by rw [mkd_len _ _ hk]; omega)
        simp only [Value.slice.injEq, Option.some.injEq, Addr.mk.injEq, and_true] at e'
        obtain ⟨rfl, _⟩ := e'
        have c1 := r' k (by rw [mkd_len _ _ hk]; omega)
        have hz := f' k
        have hS := hT2.set k [109, 97, 114, 107]
        rw [mkd_set ls k hlt] at hS
        have HS := hide hS
        clear hS hT2 r' f'
        generalize (mkd ls k).getD k [] = O at *
        go_wp2
        refine ⟨⟨k + 1, by omega, by go_num, unhide HS⟩, ?_⟩
        simp [Go.RowKit.intOf]; omega
      · have hd : decide ((k : Int) < (ls.length : Int)) = false := decide_eq_false (by omega)
        have hkl : ¬ (k : Int) < (ls.length : Int) := by omega
        have HML := hide (mkd_len ls k hk)
        clear hT
        obtain ⟨W9, hW9⟩ : ∃ W9, W9 = wr := ⟨_, rfl⟩
        subst hW9
        go_wp2
        go_loopw [20, 24] (fun V i wq => ∃ (j : Nat) (q : List Bs), j ≤ 9 ∧ i = .int .i64 j ∧ q.length = ls.length + j ∧ Tri w V (.slice s2' ls.length t2') (.slice s3' ls.length t3') q ls wq) (fun _ i _ => 9 - (Go.RowKit.intOf i).toNat)
        case atStart => exact ⟨0, mkd ls k, by omega, rfl, by rw [unhide HML]; rfl, unhide HT⟩
        case round =>
          obtain ⟨j, q, hj, rfl, hql, hT⟩ := hrel
          clear HT HML
          obtain ⟨pv, cv, rfl⟩ := owns_form hT.r1
          have HT := hide hT
          have HQL := hide hql
          clear hT hql
          by_cases hlt9 : j < 9
          · have hj9 : (j : Int) < 9 := by omega
            go_wp2_with (at_builtin; refine push_own 36 9 _ 1 16 Tryz.underlying36 info9 rfl (by decide) rfl (.tmp 204) (.tmp 205) rfl (.slice pv q.length cv) q.length (q.map S) (by rfl) wr (unhide HT).r1 [S [109, 97, 114, 107]] rfl (by intro u hu; obtain rfl := List.mem_singleton.1 hu; rfl) (by rfl) (by have := unhide HQL; omega) (by have := unhide HQL; omega) ?_; intro pp cap w' r1 r2 r3; have HT2 := hide ((unhide HT).push r1 r2 r3); clear r1 r2 r3)
            refine ⟨⟨j + 1, q ++ [[109, 97, 114, 107]], by omega, by go_num, by rw [List.length_append, unhide HQL]; rfl, unhide HT2⟩, ?_⟩
            simp [Go.RowKit.intOf]; omega
          · have hd9 : decide ((j : Int) < 9) = false := decide_eq_false (by omega)
            have hj9 : ¬ (j : Int) < 9 := by omega
            obtain ⟨W8, hW8⟩ : ∃ W8, W8 = wr := ⟨_, rfl⟩
            subst hW8
            go_wp2
            go_loopw [25] (fun i wz => ∃ k : Nat, k ≤ ls.length ∧ i = .int .i64 k ∧ Tri w (.slice pv q.length cv) (.slice s2' ls.length t2') (.slice s3' ls.length t3') q ls wz) (fun i _ => ls.length - (Go.RowKit.intOf i).toNat)
            case atStart => exact ⟨0, by omega, rfl, unhide HT⟩
            case round =>
              obtain ⟨k', hk', rfl, hT⟩ := hrel
              clear HT
              have HT := hide hT
              by_cases hlt' : k' < ls.length
              · have hkl' : (k' : Int) < (ls.length : Int) := by omega
                obtain ⟨g2, cp2, e2, r2, _, _⟩ := row_pos hT.r2 (by omega)
                obtain ⟨g3, cp3, e3, r3, _, _⟩ := row_pos hT.r3 (by omega)
                simp only [Value.slice.injEq] at e2 e3
                obtain ⟨rfl, _, rfl⟩ := e2
                obtain ⟨rfl, _, rfl⟩ := e3
                have c2 := r2 k' hlt'
                have c3 := r3 k' hlt'
                clear hT r2 r3
                generalize ls.getD k' [] = X at *
                go_wp2_with fail
                go_quiet (fail)
                have HT2 := hide ((unhide HT).below (below_dN (Below.refl _ _) nq))
                clear c2 c3 HT
                generalize wr.drewN nq = wv at *
                go_wp2
                refine ⟨⟨k' + 1, by omega, by go_num, unhide HT2⟩, ?_⟩
                simp [Go.RowKit.intOf]; omega
              · have hd' : decide ((k' : Int) < (ls.length : Int)) = false := decide_eq_false (by omega)
                have hkl' : ¬ (k' : Int) < (ls.length : Int) := by omega
                clear hT
                go_wp2
                go_ret
                exact ⟨rfl, (unhide HT).bel⟩
end Go.Proofs.YthlacailhfhjnaaGreatDoor
