import Derived.Test.YthlacailhfhjnaaGreatDoorZzbk
import Derived.Test.YthlacailhfhjnaaGreatDoorWdl
import Derived.Deep.CutRange
import Derived.Test.YthlacailhfhjnaaGreatDoorZzat
import Derived.Test.YthlacailhfhjnaaGreatDoorZzbd
import Derived.Test.YthlacailhfhjnaaGreatDoorWcp
namespace Go.Proofs.YthlacailhfhjnaaGreatDoor
open Go.RowKit Go.Lib
set_option maxHeartbeats 8000000 in
set_option maxRecDepth 8000 in
theorem prints_any {B : Nat} (m : Ms) (pm : Option Addr) (cm : Nat) (st : Int) (fa : List Fl) (ba : Bs) (pa : Option Addr) (ca : Nat) (w : World) (hE : Env B w)
    (hM : Fls w pm m.hs.length m.hs) (hMn : pm = none → cm = 0) (hLm : Lens m.hs) (hnm : m.hs.length ≤ 100000000000) (h1 : m.m.length ≤ 140737488351232) (h2 : m.p.length ≤ 140737488351232) (h3 : m.b.length ≤ 140737488351232)
    (hA : Fls w pa fa.length fa) (hAn : pa = none → ca = 0) (hLa : Lens fa) (hna : fa.length ≤ 100000000000) (h4 : ba.length ≤ 140737488351232) :
    Calls Tryz.prog 12 #[.agg #[S m.m, S m.p, .slice pm m.hs.length cm, S m.b], .agg #[.int .i64 st, .slice pa fa.length ca, S ba]] w fun e w' => e = .returned (.bool true) ∧ Below w.heap.size w w' := by
  obtain ⟨mm, mp, hs, mb⟩ := m
  simp only at hM hLm hnm h1 h2 h3 ⊢
  have b1 := (Below.refl w.heap.size w).alloc (Nat.le_refl _) (.cells #[S mm, S mp, .slice pm hs.length cm, S mb] 24)
  have x1 := heap_alloc_new w (.cells #[S mm, S mp, .slice pm hs.length cm, S mb] 24)
  obtain ⟨W1, hW1⟩ : ∃ W1, W1 = w.alloc (.cells #[S mm, S mp, .slice pm hs.length cm, S mb] 24) := ⟨_, rfl⟩
  have z1 : W1.heap.size = w.heap.size + 1 := by subst hW1; simp
  rw [← hW1] at b1 x1
  have b2 := b1.alloc (by omega) (.cells #[.int .i64 st, .slice pa fa.length ca, S ba] 26)
  have x2 := heap_alloc_new W1 (.cells #[.int .i64 st, .slice pa fa.length ca, S ba] 26)
  have y1 := (heap_alloc_old W1 (.cells #[.int .i64 st, .slice pa fa.length ca, S ba] 26) (r := w.heap.size) (by omega)).trans x1
  rw [z1] at x2
  have X2 := hide (And.intro b2 (And.intro y1 x2))
  have HE := hide (And.intro hE (And.intro (And.intro hM hMn) (And.intro hA hAn)))
  clear b1 b2 x1 x2 y1 hE hM hMn hA hAn
  go_enter Tryz.func12, Tryz.ntmps12
  go_wp2_with fail
  subst hW1
  generalize (w.alloc (.cells #[S mm, S mp, .slice pm hs.length cm, S mb] 24)).alloc (.cells #[.int .i64 st, .slice pa fa.length ca, S ba] 26) = W2 at *
  have H1 := hide (lent_any pm hs.length cm hs W2 ((unhide HE).2.1.1.below (unhide X2).1) (unhide HE).2.1.2 hnm)
  refine (unhide H1).mono ?_
  rintro e W3 ⟨rfl, hb3, b3⟩
  clear H1
  obtain ⟨b2, y1, x2⟩ := unhide X2
  have X3 := hide (And.intro (b2.trans (b3.mono b2.size)) (And.intro ((b3.block _ (lt_of_row y1)).trans y1) (And.intro ((b3.block _ (lt_of_row x2)).trans x2) (And.intro hb3 b2.size))))
  have x3 := (b3.block _ (lt_of_row x2)).trans x2
  have d1 : W3.cell? ⟨w.heap.size + 1, 1, none⟩ = some (.slice pa fa.length ca) := cell_of_row W3 _ 1 _ 26 (0, 0) x3
  have hlt3 := hb3.lt
  clear b2 y1 x2 hb3 b3 X2 x3
  go_wp2_with fail
  have H2 := hide (lent_any pa fa.length ca fa W3 ((unhide HE).2.2.1.below (unhide X3).1) (unhide HE).2.2.2 hna)
  refine (unhide H2).mono ?_
  rintro e W4 ⟨rfl, hb4, b4⟩
  clear H2 d1
  obtain ⟨b3, y1, x2, hb3, hle⟩ := unhide X3
  rw [mid_sp] at hb3 hb4
  have HP : Hid (Prt w w.heap.size (w.heap.size + 1) W2.heap.size W3.heap.size mm mp mb st ba hs fa W4) := hide ⟨⟨pm, cm, (b4.block _ (lt_of_row y1)).trans y1⟩, ⟨pa, ca, (b4.block _ (lt_of_row x2)).trans x2⟩, hb3.keep b4, hb4, by omega, ⟨by omega, by omega, hle, b3.size⟩, b3.trans (b4.mono b3.size)⟩
  clear b3 y1 x2 hb3 hle hb4 b4 X3 hlt3
  generalize w.heap.size + 1 = P3 at *
  generalize W2.heap.size = g1 at *
  generalize W3.heap.size = g2 at *
  go_wp2_with fail
  go_loopw [7] (fun i wr => ∃ (t : Nat) (lm la : List Fl), t ≤ 2 ∧ i = .int .i64 t ∧ lm.length = hs.length ∧ la.length = fa.length ∧ Lens lm ∧ Lens la ∧ Prt w w.heap.size P3 g1 g2 mm mp mb st ba lm la wr) (fun i _ => 2 - (Go.RowKit.intOf i).toNat)
  case atStart => exact ⟨0, hs, fa, by omega, rfl, rfl, rfl, hLm, hLa, unhide HP⟩
  case round =>
    obtain ⟨t, lm, la, ht, rfl, e1, e2, l1, l2, hp⟩ := hrel
    rw [← e1] at hnm
    rw [← e2] at hna
    clear HP
    by_cases htl : t < 2
    · have htl' : (t : Int) < 2 := by omega
      obtain ⟨a2, c2, x2⟩ := hp.x2
      obtain ⟨a3, c3, x3⟩ := hp.x3
      have d0 : wr.cell? ⟨w.heap.size, 0, none⟩ = some (S mm) := cell_of_row wr _ 0 _ 24 (0, 0) x2
      have d1 : wr.cell? ⟨w.heap.size, 1, none⟩ = some (S mp) := cell_of_row wr _ 1 _ 24 (0, 0) x2
      have d2 : wr.cell? ⟨w.heap.size, 2, none⟩ = some (.slice a2 lm.length c2) := cell_of_row wr _ 2 _ 24 (0, 0) x2
      have d3 : wr.cell? ⟨w.heap.size, 3, none⟩ = some (S mb) := cell_of_row wr _ 3 _ 24 (0, 0) x2
      have HP0 := hide hp
      have b5 := (Below.refl wr.heap.size wr).alloc (Nat.le_refl _) (.cells #[S mm, S mp, .slice a2 hs.length c2, S mb] 24)
      have x5 := heap_alloc_new wr (.cells #[S mm, S mp, .slice a2 hs.length c2, S mb] 24)
      have HP5 := hide (And.intro (hp.below b5) (And.intro x5 b5))
      rw [e1] at d2
      clear hp b5 x5
      go_upto_region 7 with fail
      change Code.wp _ _ _ _ (wr.alloc (.cells #[S mm, S mp, .slice a2 hs.length c2, S mb] 24))
      generalize hX5 : wr.heap.size = X5 at *
      generalize wr.alloc (.cells #[S mm, S mp, .slice a2 hs.length c2, S mb] 24) = w5 at *
      obtain ⟨a5, c5, y5⟩ := (unhide HP5).1.x2
      rw [e1] at y5
      clear d0 d1 d2 d3 x2 x3
      have d2 : w5.cell? ⟨w.heap.size, 2, none⟩ = some (.slice a5 hs.length c5) := cell_of_row w5 _ 2 _ 24 (0, 0) y5
      have hf5 := (unhide HP5).1.y1.front
      rw [e1] at hf5
      have HF5 := hide hf5
      have i1 : (hs.length : Int) ≤ (hs.length : Int) + 4 := by omega
      clear y5 hf5
      go_upto_region 8 with (first | (at_builtin; refine wp_appF rfl (.const (.slice none 0 0)) (.tmp 35) rfl (by rfl) g1 hs.length (hs.length + 4) lm (by rfl) (unhide HF5) (by omega) ?_; intro p6 c6 w6 ho6 hb6 hn6; have x6 := (hb6.block _ (lt_of_row (unhide HP5).2.1)).trans (unhide HP5).2.1; have k6 : w6.cell? ⟨X5, 2, none⟩ = some (.slice a2 hs.length c2) := cell_of_row w6 _ 2 _ 24 (0, 0) x6; have z6 : w6.frozen? ⟨X5, 2, none⟩ = false := frozen_of_row w6 _ 2 _ 24 x6) | fail)
      have b7 : Below X5 wr (w6.setCell ⟨X5, 2, none⟩ (.slice p6 hs.length c6)) := (((unhide HP5).2.2).trans (hb6.mono (by rw [← hX5]; exact (unhide HP5).2.2.size))).setCell (Nat.le_refl _) _
      have x7 := heap_setCell_same w6 X5 2 _ 24 (.slice p6 hs.length c6) x6
      have o7 : (w6.setCell ⟨X5, 2, none⟩ (.slice p6 hs.length c6)).ownsRow 0 35 2 (.slice p6 hs.length c6) hs.length (cellsF lm) := owns_same ho6 (fun k hk => heap_setCell_other w6 ⟨X5, 2, none⟩ k _ (fun q => by
        obtain ⟨cs, r⟩ := owns_lt ho6 k hk
        subst q
        have := x6.symm.trans r
        simp at this))
      change Code.wp _ _ _ _ (w6.setCell ⟨X5, 2, none⟩ (.slice p6 hs.length c6))
      generalize w6.setCell ⟨X5, 2, none⟩ (.slice p6 hs.length c6) = w7 at *
      have hv1 : (Value.slice p6 hs.length c6).ownBlock ≠ some g1 ∧ (Value.slice p6 hs.length c6).ownBlock ≠ some g2 := ⟨fun e => by have := hn6 g1 e; have := (unhide HP5).1.y1.lt; omega, fun e => by have := hn6 g2 e; have := (unhide HP5).1.y2.lt; omega⟩
      have HX7 := hide (And.intro b7 (And.intro x7 o7))
      have hp7 := (unhide HP0).below (by rw [hX5]; exact b7)
      obtain ⟨a8, c8, y8⟩ := hp7.x3
      rw [e2] at y8
      have d0 : w7.cell? ⟨P3, 0, none⟩ = some (.int .i64 st) := cell_of_row w7 _ 0 _ 26 (0, 0) y8
      have d1 : w7.cell? ⟨P3, 1, none⟩ = some (.slice a8 fa.length c8) := cell_of_row w7 _ 1 _ 26 (0, 0) y8
      have d3 : w7.cell? ⟨P3, 2, none⟩ = some (S ba) := cell_of_row w7 _ 2 _ 26 (0, 0) y8
      have b8 := (Below.refl w7.heap.size w7).alloc (Nat.le_refl _) (.cells #[.int .i64 st, .slice a8 fa.length c8, S ba] 26)
      have x8 := heap_alloc_new w7 (.cells #[.int .i64 st, .slice a8 fa.length c8, S ba] 26)
      have HP8 := hide (And.intro (hp7.below b8) (And.intro x8 b8))
      clear b7 x7 o7 x6 k6 z6 ho6 hb6 hn6 HF5 d2 HP5 hp7 y8 b8 x8
      go_upto_region 9 with fail
      change Code.wp _ _ _ _ (w7.alloc (.cells #[.int .i64 st, .slice a8 fa.length c8, S ba] 26))
      generalize hX8 : w7.heap.size = X8 at *
      generalize w7.alloc (.cells #[.int .i64 st, .slice a8 fa.length c8, S ba] 26) = w8 at *
      obtain ⟨a9, c9, y9⟩ := (unhide HP8).1.x3
      rw [e2] at y9
      clear d0 d1 d3
      have d1 : w8.cell? ⟨P3, 1, none⟩ = some (.slice a9 fa.length c9) := cell_of_row w8 _ 1 _ 26 (0, 0) y9
      have hf8 := (unhide HP8).1.y2.front
      rw [e2] at hf8
      have HF8 := hide hf8
      have i2 : (fa.length : Int) ≤ (fa.length : Int) + 4 := by omega
      clear y9 hf8
      go_upto_region 10 with (first | (at_builtin; refine wp_appF rfl (.const (.slice none 0 0)) (.tmp 43) rfl (by rfl) g2 fa.length (fa.length + 4) la (by rfl) (unhide HF8) (by omega) ?_; intro p9 c9' w9 ho9 hb9 hn9; have x9 := (hb9.block _ (lt_of_row (unhide HP8).2.1)).trans (unhide HP8).2.1; have k9 : w9.cell? ⟨X8, 1, none⟩ = some (.slice a8 fa.length c8) := cell_of_row w9 _ 1 _ 26 (0, 0) x9; have z9 : w9.frozen? ⟨X8, 1, none⟩ = false := frozen_of_row w9 _ 1 _ 26 x9) | fail)
      have b10 : Below X8 w7 (w9.setCell ⟨X8, 1, none⟩ (.slice p9 fa.length c9')) := (((unhide HP8).2.2).trans (hb9.mono (by rw [← hX8]; exact (unhide HP8).2.2.size))).setCell (Nat.le_refl _) _
      have x10 := heap_setCell_same w9 X8 1 _ 26 (.slice p9 fa.length c9') x9
      have o10 : (w9.setCell ⟨X8, 1, none⟩ (.slice p9 fa.length c9')).ownsRow 0 35 2 (.slice p9 fa.length c9') fa.length (cellsF la) := owns_same ho9 (fun k hk => heap_setCell_other w9 ⟨X8, 1, none⟩ k _ (fun q => by
        obtain ⟨cs, r⟩ := owns_lt ho9 k hk
        subst q
        have := x9.symm.trans r
        simp at this))
      change Code.wp _ _ _ _ (w9.setCell ⟨X8, 1, none⟩ (.slice p9 fa.length c9'))
      generalize w9.setCell ⟨X8, 1, none⟩ (.slice p9 fa.length c9') = w10 at *
      have hv2 : (Value.slice p9 fa.length c9').ownBlock ≠ some g1 ∧ (Value.slice p9 fa.length c9').ownBlock ≠ some g2 := ⟨fun e => by have := hn9 g1 e; have := (unhide HP8).1.y1.lt; omega, fun e => by have := hn9 g2 e; have := (unhide HP8).1.y2.lt; omega⟩
      rw [← hX8] at b10
      have hb10 : Below X5 wr w10 := (unhide HX7).1.trans (b10.mono (by rw [← hX5]; exact (unhide HX7).1.size))
      have x7' := (b10.block _ (lt_of_row (unhide HX7).2.1)).trans (unhide HX7).2.1
      have o7' := owns_same (unhide HX7).2.2 (fun k hk => by
        obtain ⟨cs, q⟩ := owns_lt (unhide HX7).2.2 k hk
        exact b10.block k (lt_of_row q))
      have hX58 : X5 < X8 := by rw [← hX8]; exact lt_of_row (unhide HX7).2.1
      have hp10 := (unhide HP0).below (by rw [hX5]; exact hb10)
      obtain ⟨a10, c10, q2⟩ := hp10.x2
      obtain ⟨a11, c11, q3⟩ := hp10.x3
      have hP2 : w.heap.size ≠ X5 := by
        obtain ⟨_, _, r⟩ := (unhide HP0).x2
        have := lt_of_row r
        omega
      have hP3 : P3 ≠ X8 := by
        obtain ⟨_, _, r⟩ := (unhide HP0).x3
        have := lt_of_row r
        omega
      rw [e1] at q2
      rw [e2] at q3
      rw [← e1] at o7'
      rw [← e2] at o10
      have hpal : Pal w w.heap.size P3 g1 g2 X5 X8 mm mp mb st ba lm la lm la (.slice a10 hs.length c10) (.slice a11 fa.length c11) (.slice p6 lm.length c6) (.slice p9 la.length c9') w10 := ⟨q2, q3, by rw [e1]; exact x7', by rw [e2]; exact x10, hp10.y1, hp10.y2, o7', o10, hp10.ne, hP2, hP3, by rw [e1, e2]; exact ⟨hv1.1, hv1.2, hv2.1, hv2.2⟩, hp10.ge, hp10.bel⟩
      have H10 := hide hpal
      have d2 : w10.cell? ⟨w.heap.size, 2, none⟩ = some (.slice a10 hs.length c10) := cell_of_row w10 _ 2 _ 24 (0, 0) q2
      have z2 : w10.frozen? ⟨w.heap.size, 2, none⟩ = false := frozen_of_row w10 _ 2 _ 24 q2
      clear b10 x10 o10 hb10 x7' o7' hp10 HX7 x9 k9 z9 ho9 hb9 hn9 HF8 d1 HP8 hv1 hv2 q2 q3 hpal hP2 hP3
      go_upto_region 11 with fail
      have hpal := (unhide H10).set2 (.slice (some ⟨g1, 0, none⟩) hs.length (hs.length + 4))
      change Code.wp _ _ _ _ (w10.setCell ⟨w.heap.size, 2, none⟩ (.slice (some ⟨g1, 0, none⟩) hs.length (hs.length + 4)))
      generalize w10.setCell ⟨w.heap.size, 2, none⟩ (.slice (some ⟨g1, 0, none⟩) hs.length (hs.length + 4)) = w11 at *
      have H11 := hide hpal
      clear d2 z2 H10
      have d2 : w11.cell? ⟨P3, 1, none⟩ = some (.slice a11 fa.length c11) := cell_of_row w11 _ 1 _ 26 (0, 0) hpal.x3
      have z2 : w11.frozen? ⟨P3, 1, none⟩ = false := frozen_of_row w11 _ 1 _ 26 hpal.x3
      clear hpal
      go_upto_region 12 with fail
      have hpal := (unhide H11).set3 (.slice (some ⟨g2, 0, none⟩) fa.length (fa.length + 4))
      change Code.wp _ _ _ _ (w11.setCell ⟨P3, 1, none⟩ (.slice (some ⟨g2, 0, none⟩) fa.length (fa.length + 4)))
      generalize w11.setCell ⟨P3, 1, none⟩ (.slice (some ⟨g2, 0, none⟩) fa.length (fa.length + 4)) = w12 at *
      have H12 := hide hpal
      clear d2 z2 H11
      have hf1 : ∀ W, Below w12.heap.size w12 W → Fls W (some ⟨g1, 0, none⟩) hs.length lm := fun W hb => by have := (hpal.below hb).y1.front; rwa [e1] at this
      have hf2 : ∀ W, Below w12.heap.size w12 W → Fls W (some ⟨g2, 0, none⟩) fa.length la := fun W hb => by have := (hpal.below hb).y2.front; rwa [e2] at this
      have hEW : ∀ W, Below w12.heap.size w12 W → Env B W := fun W hb => (unhide HE).1.below ((hpal.below hb).bel.mono (unhide HE).1.le)
      have L1 := hide (fun W hb => printMessage_any ⟨mm, mp, lm, mb⟩ (some ⟨g1, 0, none⟩) hs.length (hs.length + 4) W (hf1 W hb) (hEW W hb) l1 h1 h2 h3 (by omega))
      have L2 := hide (fun W (hb : Below w12.heap.size w12 W) => rPrintMessage_any ⟨mm, mp, lm, mb⟩ p6 hs.length c6 W (by have := owns_fls (hpal.below hb).o1 rfl; rwa [e1] at this) l1 h1 h2 h3 (by omega))
      have L3 := hide (fun W hb => printAnswer_any st la ba (some ⟨g2, 0, none⟩) fa.length (fa.length + 4) W (hf2 W hb) (hEW W hb) l2 h4 (by omega))
      have L4 := hide (fun W (hb : Below w12.heap.size w12 W) => rPrintAnswer_any st la ba p9 fa.length c9' W (by have := owns_fls (hpal.below hb).o2 rfl; rwa [e2] at this) l2 h4 (by omega))
      generalize pmsg ⟨mm, mp, lm, mb⟩ = R1 at *
      generalize pans st la ba = R2 at *
      obtain ⟨r1, r1'⟩ := R1
      obtain ⟨r2, r2'⟩ := R2
      have d0 : w12.cell? ⟨w.heap.size, 0, none⟩ = some (S mm) := cell_of_row w12 _ 0 _ 24 (0, 0) hpal.x2
      have d1 : w12.cell? ⟨w.heap.size, 1, none⟩ = some (S mp) := cell_of_row w12 _ 1 _ 24 (0, 0) hpal.x2
      have d2 : w12.cell? ⟨w.heap.size, 2, none⟩ = some (.slice (some ⟨g1, 0, none⟩) hs.length (hs.length + 4)) := cell_of_row w12 _ 2 _ 24 (0, 0) hpal.x2
      have d3 : w12.cell? ⟨w.heap.size, 3, none⟩ = some (S mb) := cell_of_row w12 _ 3 _ 24 (0, 0) hpal.x2
      clear hpal hf1 hf2 hEW
      go_wp2_with fail
      refine (unhide L1 w12 (Below.refl _ _)).mono ?_
      rintro e w13 ⟨rfl, b13⟩
      have p13 := (unhide H12).below b13
      have y13 := p13.x5
      rw [e1] at y13
      have H13 := hide (And.intro p13 b13)
      clear d0 d1 d2 d3 b13 p13 L1
      have d0 : w13.cell? ⟨X5, 0, none⟩ = some (S mm) := cell_of_row w13 _ 0 _ 24 (0, 0) y13
      have d1 : w13.cell? ⟨X5, 1, none⟩ = some (S mp) := cell_of_row w13 _ 1 _ 24 (0, 0) y13
      have d2 : w13.cell? ⟨X5, 2, none⟩ = some (.slice p6 hs.length c6) := cell_of_row w13 _ 2 _ 24 (0, 0) y13
      have d3 : w13.cell? ⟨X5, 3, none⟩ = some (S mb) := cell_of_row w13 _ 3 _ 24 (0, 0) y13
      clear y13
      go_wp2_with fail
      refine (unhide L2 w13 (unhide H13).2).mono ?_
      rintro e w14 ⟨rfl, b14⟩
      have p14 := (unhide H13).1.below b14
      have H14 := hide (And.intro p14 ((unhide H13).2.trans (b14.mono (unhide H13).2.size)))
      clear d0 d1 d2 d3 b14 L2 H13
      have d0 : w14.cell? ⟨P3, 0, none⟩ = some (.int .i64 st) := cell_of_row w14 _ 0 _ 26 (0, 0) p14.x3
      have d1 : w14.cell? ⟨P3, 1, none⟩ = some (.slice (some ⟨g2, 0, none⟩) fa.length (fa.length + 4)) := cell_of_row w14 _ 1 _ 26 (0, 0) p14.x3
      have d2 : w14.cell? ⟨P3, 2, none⟩ = some (S ba) := cell_of_row w14 _ 2 _ 26 (0, 0) p14.x3
      clear p14
      go_wp2_with fail
      refine (unhide L3 w14 (unhide H14).2).mono ?_
      rintro e w15 ⟨rfl, b15⟩
      have p15 := (unhide H14).1.below b15
      have y15 := p15.x8
      rw [e2] at y15
      have H15 := hide (And.intro p15 ((unhide H14).2.trans (b15.mono (unhide H14).2.size)))
      clear d0 d1 d2 b15 L3 H14 p15
      have d0 : w15.cell? ⟨X8, 0, none⟩ = some (.int .i64 st) := cell_of_row w15 _ 0 _ 26 (0, 0) y15
      have d1 : w15.cell? ⟨X8, 1, none⟩ = some (.slice p9 fa.length c9') := cell_of_row w15 _ 1 _ 26 (0, 0) y15
      have d2 : w15.cell? ⟨X8, 2, none⟩ = some (S ba) := cell_of_row w15 _ 2 _ 26 (0, 0) y15
      clear y15
      go_wp2_with fail
      refine (unhide L4 w15 (unhide H15).2).mono ?_
      rintro e w16 ⟨rfl, b16⟩
      have H16 := hide ((unhide H15).1.below b16)
      clear d0 d1 d2 b16 L4 H15 H12
      go_wp2_with fail
      go_loopw [18] (fun i wq => ∃ k : Nat, k ≤ hs.length ∧ i = .int .i64 k ∧ Pal w w.heap.size P3 g1 g2 X5 X8 mm mp mb st ba lm la (rvd lm k) la (.slice (some ⟨g1, 0, none⟩) hs.length (hs.length + 4)) (.slice (some ⟨g2, 0, none⟩) fa.length (fa.length + 4)) (.slice p6 lm.length c6) (.slice p9 la.length c9') wq) (fun i _ => hs.length - (Go.RowKit.intOf i).toNat)
      case atStart => exact ⟨0, by omega, rfl, by rw [rvd_zero]; exact unhide H16⟩
      case round =>
        obtain ⟨k, hk, rfl, hq⟩ := hrel
        have y5 := hq.x5
        rw [e1] at y5
        have v5 : wr.cell? ⟨X5, 2, none⟩ = some (.slice p6 hs.length c6) := cell_of_row wr _ 2 _ 24 (0, 0) y5
        by_cases hlt : k < hs.length
        · have hlt' : (k : Int) < (hs.length : Int) := by omega
          have hlt4 : (k : Int) < (hs.length : Int) + 4 := by omega
          have hrl := rvd_len lm k (by omega)
          have hfo : Fls wr p6 hs.length lm := by have := owns_fls hq.o1 rfl; rwa [e1] at this
          obtain ⟨J, hJ⟩ : ∃ J, J = hs.length - 1 - k := ⟨_, rfl⟩
          have hJ2 : (hs.length : Int) - 1 - (k : Int) = (J : Int) := by omega
          have hJ3 : (J : Int) < (hs.length : Int) := by omega
          obtain ⟨ps, os, rfl, _, f0, f1⟩ := hfo.at (j := J) (by omega)
          obtain ⟨pg, og, eg, _, c0, c1⟩ := hq.y1.fls.at (j := k) (by simp; omega)
          simp only [Option.some.injEq, Addr.mk.injEq, and_true] at eg
          obtain ⟨rfl, rfl⟩ := eg
          rw [Nat.zero_add] at c0 c1
          have z0 : ∀ i, wr.frozen? ⟨g1, i, none⟩ = false := fun i => frozen_of_heap hq.y1 i
          have hpt := hq.put1 k (by omega) (lm.getD J fl0)
          have hset : (rvd lm k).set k (lm.getD J fl0) = rvd lm (k + 1) := by have := rvd_set lm k (by omega); rw [e1, ← hJ] at this; exact this
          rw [hset] at hpt
          clear hset
          have HPT := hide hpt
          generalize lm.getD J fl0 = F at *
          obtain ⟨fn, fv⟩ := F
          generalize (rvd lm k ++ sp4).getD k fl0 = G at *
          simp only at f0 f1
          clear hq hpt y5 hfo hJ
          go_wp2
          exact ⟨⟨k + 1, by omega, by go_num, unhide HPT⟩, by simp [Go.RowKit.intOf]; omega⟩
        · have hd : decide ((k : Int) < (hs.length : Int)) = false := by simp; omega
          have hrv : rvd lm k = lm.reverse := by rw [show k = lm.length by omega, rvd_all]
          rw [hrv] at hq
          have HQ := hide hq
          clear hq y5 H16
          go_wp2_with fail
          go_loopw [19] (fun i wq => ∃ k : Nat, k ≤ fa.length ∧ i = .int .i64 k ∧ Pal w w.heap.size P3 g1 g2 X5 X8 mm mp mb st ba lm la lm.reverse (rvd la k) (.slice (some ⟨g1, 0, none⟩) hs.length (hs.length + 4)) (.slice (some ⟨g2, 0, none⟩) fa.length (fa.length + 4)) (.slice p6 lm.length c6) (.slice p9 la.length c9') wq) (fun i _ => fa.length - (Go.RowKit.intOf i).toNat)
          case atStart => exact ⟨0, by omega, rfl, by rw [rvd_zero]; exact unhide HQ⟩
          case round =>
            obtain ⟨k2, hk2, rfl, hq⟩ := hrel
            clear HQ v5
            have y8 := hq.x8
            rw [e2] at y8
            have v8 : wr.cell? ⟨X8, 1, none⟩ = some (.slice p9 fa.length c9') := cell_of_row wr _ 1 _ 26 (0, 0) y8
            by_cases hlt2 : k2 < fa.length
            · have hlt' : (k2 : Int) < (fa.length : Int) := by omega
              have hlt4 : (k2 : Int) < (fa.length : Int) + 4 := by omega
              have hrl := rvd_len la k2 (by omega)
              have hfo : Fls wr p9 fa.length la := by have := owns_fls hq.o2 rfl; rwa [e2] at this
              obtain ⟨J, hJ⟩ : ∃ J, J = fa.length - 1 - k2 := ⟨_, rfl⟩
              have hJ2 : (fa.length : Int) - 1 - (k2 : Int) = (J : Int) := by omega
              have hJ3 : (J : Int) < (fa.length : Int) := by omega
              obtain ⟨ps, os, rfl, _, f0, f1⟩ := hfo.at (j := J) (by omega)
              obtain ⟨pg, og, eg, _, c0, c1⟩ := hq.y2.fls.at (j := k2) (by simp; omega)
              simp only [Option.some.injEq, Addr.mk.injEq, and_true] at eg
              obtain ⟨rfl, rfl⟩ := eg
              rw [Nat.zero_add] at c0 c1
              have z0 : ∀ i, wr.frozen? ⟨g2, i, none⟩ = false := fun i => frozen_of_heap hq.y2 i
              have hpt := hq.put2 k2 (by omega) (la.getD J fl0)
              have hset : (rvd la k2).set k2 (la.getD J fl0) = rvd la (k2 + 1) := by have := rvd_set la k2 (by omega); rw [e2, ← hJ] at this; exact this
              rw [hset] at hpt
              clear hset
              have HPT := hide hpt
              generalize la.getD J fl0 = F at *
              obtain ⟨fn, fv⟩ := F
              generalize (rvd la k2 ++ sp4).getD k2 fl0 = G at *
              simp only at f0 f1
              clear hq hpt y8 hfo hJ
              go_wp2
              exact ⟨⟨k2 + 1, by omega, by go_num, unhide HPT⟩, by simp [Go.RowKit.intOf]; omega⟩
            · have hd2 : decide ((k2 : Int) < (fa.length : Int)) = false := by simp; omega
              have hrv2 : rvd la k2 = la.reverse := by rw [show k2 = la.length by omega, rvd_all]
              rw [hrv2] at hq
              have HR : Hid (Prt w w.heap.size P3 g1 g2 mm mp mb st ba lm.reverse la.reverse wr) := hide ⟨⟨_, _, by rw [List.length_reverse, e1]; exact hq.x2⟩, ⟨_, _, by rw [List.length_reverse, e2]; exact hq.x3⟩, hq.y1, hq.y2, hq.n1, hq.ge, hq.bel⟩
              clear hq y8
              go_wp2
              exact ⟨⟨t + 1, lm.reverse, la.reverse, by omega, by go_num, by simp [e1], by simp [e2], rvd_lens l1, rvd_lens l2, unhide HR⟩, by simp [Go.RowKit.intOf]; omega⟩
    · have hd : decide ((t : Int) < 2) = false := by simp; omega
      have HB := hide hp.bel
      clear hp
      go_wp2
      go_ret
      exact ⟨rfl, unhide HB⟩
end Go.Proofs.YthlacailhfhjnaaGreatDoor
namespace Go.Proofs.YthlacailhfhjnaaGreatDoor
open Go.RowKit Go.Lib
theorem feed_st {B R : Nat} {p : Ps} {O : Nat → Prop} {w0 W : World} (hE : Env B w0) (hb : Below w0.heap.size w0 W) (hr : Rdr R p O W) (hO : ∀ k, O k → w0.heap.size ≤ k) (s : Bs) (hs : s.length ≤ 1000000000000) (hrd : p.rd + s.length ≤ 4000000000000000000) :
    Calls Tryz.prog 21 #[ptr R, S s] W fun e w' => ∃ a c O', e = .returned (.tuple #[.slice a (feed p s).2.1.length c, .int .i64 (feed p s).2.2]) ∧ Below w0.heap.size w0 w' ∧ Rdr R (feed p s).1 O' w' ∧ (∀ k, O' k → w0.heap.size ≤ k) ∧ Mls w' a (feed p s).2.1.length (feed p s).2.1 := by
  refine (feed_any hr (hE.below (hb.mono hE.le)) (fun k hk => Nat.le_trans hE.le (hO k hk)) s hs hrd).mono ?_
  rintro e w' ⟨V, rfl, hF⟩
  obtain ⟨l, O', M, e1, hm, hr', s1, s2, s3⟩ := hF.ex
  obtain ⟨a, c, rfl, hl⟩ := hm.mls
  rw [← e1] at hl ⊢
  exact ⟨a, c, O', rfl, hF.only.below hb hb.size hO, hr', fun k hk => by
    rcases s1 k hk with q | q
    · exact hO k q
    · exact Nat.le_trans hb.size q, hl⟩
/-- A row of one message. -/
theorem mls_one {w : World} {g : Nat} {T : TypeId} {z : Ms} {a : Option Addr} {k : Nat} (h : w.heap[g]? = some (.cells #[S z.m, S z.p, .slice a z.hs.length k, S z.b] T (0, 0))) (hf : Fls w a z.hs.length z.hs) : Mls w (some ⟨g, 0, none⟩) 1 [z] := by
  refine ⟨rfl, fun _ => ⟨g, 0, rfl, fun j hj => ?_⟩⟩
  obtain rfl : j = 0 := by omega
  exact ⟨a, k, cell_of_row w g 0 _ T (0, 0) h, cell_of_row w g 1 _ T (0, 0) h, cell_of_row w g 2 _ T (0, 0) h, cell_of_row w g 3 _ T (0, 0) h, hf⟩
def mAw : Ms := ⟨[80, 79, 83, 84], [47, 116, 111, 107, 101, 110], [([72, 111, 115, 116], [97, 46, 101, 120, 97, 109, 112, 108, 101])], [120, 61, 49]⟩
theorem dec0 : decDigits 0 = [48] := by rw [decDigits, dif_pos (by decide)]; rfl
theorem dec3 : decDigits 3 = [51] := by rw [decDigits, dif_pos (by decide)]; rfl
theorem dec404 : decDigits 404 = [52, 48, 52] := by
  rw [decDigits, dif_neg (by decide), decDigits, dif_neg (by decide), decDigits, dif_pos (by decide)]; rfl
def tAw : Bs := [80, 79, 83, 84, 32, 47, 116, 111, 107, 101, 110, 32, 72, 84, 84, 80, 47, 49, 46, 49, 13, 10, 72, 111, 115, 116, 58, 32, 97, 46, 101, 120, 97, 109, 112, 108, 101, 13, 10, 67, 111, 110, 116, 101, 110, 116, 45, 76, 101, 110, 103, 116, 104, 58, 32, 51, 13, 10, 13, 10, 120, 61, 49]
theorem may_aw : may mAw = true := by decide +kernel
theorem lay_aw : lay (mline mAw.m mAw.p) mAw.hs mAw.b = tAw := by
  have : decDigits mAw.b.length = [51] := dec3
  unfold lay
  rw [this]
  decide +kernel
theorem pmsg_aw : pmsg mAw = (tAw, 0) := by
  unfold pmsg
  rw [if_pos may_aw, lay_aw]
theorem pans_aw : pans 404 [] [] = ([72, 84, 84, 80, 47, 49, 46, 49, 32, 52, 48, 52, 32, 78, 111, 116, 32, 70, 111, 117, 110, 100, 13, 10, 67, 111, 110, 116, 101, 110, 116, 45, 76, 101, 110, 103, 116, 104, 58, 32, 48, 13, 10, 13, 10], 0) := by
  unfold pans
  rw [if_pos (by decide +kernel)]
  have h1 : decDigits (([] : Bs).length) = [48] := dec0
  have h2 : decDigits (404 : Int).toNat = [52, 48, 52] := dec404
  unfold lay aline
  rw [h1, h2]
  decide +kernel
theorem feed_aw : ∃ r, feed p0 (tAw.take 60) = (r, [], 0) ∧ r.rd = 60 ∧ feed r (tAw.drop 60) = (p0, [mAw], 0) := by
  have := feed_begin may_aw 60 (by rw [lay_aw]; decide)
  rw [lay_aw] at this
  obtain ⟨r, h1, h2, _, h4⟩ := this
  exact ⟨r, h1, h2, h4⟩
theorem feed_aw2 : feed p0 [120, 10] = (pov, [], 50) := by kernel_rfl
theorem feed_aw3 : feed pov [] = (pov, [], 54) := rfl
end Go.Proofs.YthlacailhfhjnaaGreatDoor
