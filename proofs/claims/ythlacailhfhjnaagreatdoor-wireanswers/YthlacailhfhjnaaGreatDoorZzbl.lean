import Derived.Test.YthlacailhfhjnaaGreatDoorZzbk
import Derived.Test.YthlacailhfhjnaaGreatDoorRgh
import Derived.Test.YthlacailhfhjnaaGreatDoorZzao
import Derived.Test.YthlacailhfhjnaaGreatDoorWdi
namespace Go.Proofs.YthlacailhfhjnaaGreatDoor
open Go.RowKit Go.Lib
/-- The two boxes, and the two lent blocks, as they were made. -/
structure Hdd (w : World) (P2 P3 g1 g2 : Nat) (mm mp mb : Bs) (st : Int) (ba : Bs) (lm la : List Fl) (pm pa : Option Addr) (cm ca : Nat) (wr : World) : Prop where
  x2 : wr.heap[P2]? = some (.cells #[S mm, S mp, .slice pm lm.length cm, S mb] 24 (0, 0))
  x3 : wr.heap[P3]? = some (.cells #[.int .i64 st, .slice pa la.length ca, S ba] 26 (0, 0))
  y1 : Blk g1 (mid lm 4) wr
  y2 : Blk g2 (mid la 4) wr
  ne : g1 ≠ g2
  ge : w.heap.size ≤ P2 ∧ w.heap.size ≤ P3 ∧ w.heap.size ≤ g1 ∧ w.heap.size ≤ g2
  bel : Below w.heap.size w wr
variable {w wr w' : World} {P2 P3 g1 g2 : Nat} {mm mp mb ba : Bs} {st : Int} {lm la : List Fl} {pm pa : Option Addr} {cm ca : Nat}
theorem Hdd.below (h : Hdd w P2 P3 g1 g2 mm mp mb st ba lm la pm pa cm ca wr) (hb : Below wr.heap.size wr w') : Hdd w P2 P3 g1 g2 mm mp mb st ba lm la pm pa cm ca w' :=
  ⟨(hb.block _ (lt_of_row h.x2)).trans h.x2, (hb.block _ (lt_of_row h.x3)).trans h.x3, h.y1.keep hb, h.y2.keep hb, h.ne, h.ge, h.bel.trans (hb.mono h.bel.size)⟩
theorem Hdd.c2 (h : Hdd w P2 P3 g1 g2 mm mp mb st ba lm la pm pa cm ca wr) : wr.cell? ⟨P2, 0 + 0, none⟩ = some (S mm) ∧ wr.cell? ⟨P2, 0 + 1, none⟩ = some (S mp) ∧ wr.cell? ⟨P2, 0 + 2, none⟩ = some (.slice pm lm.length cm) ∧ wr.cell? ⟨P2, 0 + 3, none⟩ = some (S mb) :=
  ⟨cell_of_row wr _ 0 _ 24 (0, 0) h.x2, cell_of_row wr _ 1 _ 24 (0, 0) h.x2, cell_of_row wr _ 2 _ 24 (0, 0) h.x2, cell_of_row wr _ 3 _ 24 (0, 0) h.x2⟩
theorem Hdd.c3 (h : Hdd w P2 P3 g1 g2 mm mp mb st ba lm la pm pa cm ca wr) : wr.cell? ⟨P3, 0 + 0, none⟩ = some (.int .i64 st) ∧ wr.cell? ⟨P3, 0 + 1, none⟩ = some (.slice pa la.length ca) ∧ wr.cell? ⟨P3, 0 + 2, none⟩ = some (S ba) :=
  ⟨cell_of_row wr _ 0 _ 26 (0, 0) h.x3, cell_of_row wr _ 1 _ 26 (0, 0) h.x3, cell_of_row wr _ 2 _ 26 (0, 0) h.x3⟩
theorem Hdd.f1 (h : Hdd w P2 P3 g1 g2 mm mp mb st ba lm la pm pa cm ca wr) : Fls wr (some ⟨g1, 0, none⟩) lm.length lm := by
  have := h.y1
  rw [mid_sp] at this
  exact this.front
theorem Hdd.f2 (h : Hdd w P2 P3 g1 g2 mm mp mb st ba lm la pm pa cm ca wr) : Fls wr (some ⟨g2, 0, none⟩) la.length la := by
  have := h.y2
  rw [mid_sp] at this
  exact this.front
set_option maxHeartbeats 8000000 in
set_option maxRecDepth 8000 in
theorem held_any {B : Nat} (m : Ms) (pm : Option Addr) (cm : Nat) (st : Int) (fa : List Fl) (ba : Bs) (pa : Option Addr) (ca : Nat) (w : World) (hE : Env B w)
    (hM : Fls w pm m.hs.length m.hs) (hMn : pm = none → cm = 0) (hLm : Lens m.hs) (hnm : m.hs.length ≤ 100000000000) (h1 : m.m.length ≤ 140737488351232) (h2 : m.p.length ≤ 140737488351232) (h3 : m.b.length ≤ 140737488351232)
    (hA : Fls w pa fa.length fa) (hAn : pa = none → ca = 0) (hLa : Lens fa) (hna : fa.length ≤ 100000000000) (h4 : ba.length ≤ 140737488351232) :
    Calls Tryz.prog 16 #[.agg #[S m.m, S m.p, .slice pm m.hs.length cm, S m.b], .agg #[.int .i64 st, .slice pa fa.length ca, S ba]] w fun e w' => e = .returned (.bool true) ∧ Below w.heap.size w w' := by
  obtain ⟨mm, mp, hs, mb⟩ := m
  simp only at hM hLm hnm h1 h2 h3 ⊢
  have b1 := (Below.refl w.heap.size w).alloc (Nat.le_refl _) (.cells #[S mm, S mp, .slice pm hs.length cm, S mb] 24)
  have x1 := heap_alloc_new w (.cells #[S mm, S mp, .slice pm hs.length cm, S mb] 24)
  obtain ⟨W1, hW1⟩ : ∃ W1, W1 = w.alloc (.cells #[S mm, S mp, .slice pm hs.length cm, S mb] 24) := ⟨_, rfl⟩
  have z1 : W1.heap.size = w.heap.size + 1 := by subst hW1; simp
  rw [← hW1] at b1 x1
  have b2 := b1.alloc (by omega) (.cells #[.int .i64 st, .slice pa fa.length ca, S ba] 26)
  have x2 := heap_alloc_new W1 (.cells #[.int .i64 st, .slice pa fa.length ca, S ba] 26)
  have y1 := (heap_alloc_old W1 (.cells #[.int .i64 st, .slice pa fa.length ca, S ba] 26) (r := w.heap.size) (by omega)).trans x1
  rw [z1] at x2
  have X2 := hide (And.intro b2 (And.intro y1 x2))
  have HE := hide (And.intro hE (And.intro (And.intro hM hMn) (And.intro hA hAn)))
  clear b1 b2 x1 x2 y1 hE hM hMn hA hAn
  go_enter Tryz.func16, Tryz.ntmps16
  go_wp2_with fail
  subst hW1
  generalize (w.alloc (.cells #[S mm, S mp, .slice pm hs.length cm, S mb] 24)).alloc (.cells #[.int .i64 st, .slice pa fa.length ca, S ba] 26) = W2 at *
  have H1 := hide (lent_any pm hs.length cm hs W2 ((unhide HE).2.1.1.below (unhide X2).1) (unhide HE).2.1.2 hnm)
  refine (unhide H1).mono ?_
  rintro e W3 ⟨rfl, hb3, b3⟩
  clear H1
  obtain ⟨b2, y1, x2⟩ := unhide X2
  have X3 := hide (And.intro (b2.trans (b3.mono b2.size)) (And.intro ((b3.block _ (lt_of_row y1)).trans y1) (And.intro ((b3.block _ (lt_of_row x2)).trans x2) (And.intro hb3 b2.size))))
  have x3 := (b3.block _ (lt_of_row x2)).trans x2
  have d1 : W3.cell? ⟨w.heap.size + 1, 1, none⟩ = some (.slice pa fa.length ca) := cell_of_row W3 _ 1 _ 26 (0, 0) x3
  have hlt3 := hb3.lt
  clear b2 y1 x2 hb3 b3 X2 x3
  go_wp2_with fail
  have H2 := hide (lent_any pa fa.length ca fa W3 ((unhide HE).2.2.1.below (unhide X3).1) (unhide HE).2.2.2 hna)
  refine (unhide H2).mono ?_
  rintro e W4 ⟨rfl, hb4, b4⟩
  clear H2 d1
  obtain ⟨b3, y1, x2, hb3, hle⟩ := unhide X3
  have HP : Hid (Hdd w w.heap.size (w.heap.size + 1) W2.heap.size W3.heap.size mm mp mb st ba hs fa pm pa cm ca W4) := hide ⟨(b4.block _ (lt_of_row y1)).trans y1, (b4.block _ (lt_of_row x2)).trans x2, hb3.keep b4, hb4, by omega, ⟨by omega, by omega, hle, b3.size⟩, b3.trans (b4.mono b3.size)⟩
  clear b3 y1 x2 hb3 hle hb4 b4 X3 hlt3
  generalize w.heap.size + 1 = P3 at *
  generalize W2.heap.size = g1 at *
  generalize W3.heap.size = g2 at *
  go_wp2_with fail
  have P0 := unhide HP
  have E0 := (unhide HE).1
  refine rh3 w.heap.size g1 hs.length (hs.length + 4) cm pm mm mp mb (.tuple #[S (pmsg ⟨mm, mp, hs, mb⟩).1, .int .i64 (pmsg ⟨mm, mp, hs, mb⟩).2]) rfl rfl rfl _ _ (show 28 ≤ 59 from by decide) rfl rfl (fun _ W => Below W4.heap.size W4 W) ((Below.refl _ _).drew) (fun _ _ _ _ h => h) ?_ ?_ ?_ ?_ ?_ ?_ ?_
  · exact fun L W h => (P0.below h).c2.1
  · exact fun L W h => (P0.below h).c2.2.1
  · exact fun L W h => (P0.below h).c2.2.2.1
  · omega
  · exact fun L W h => (P0.below h).c2.2.2.2
  · intro L W h _
    refine (printMessage_any (B := B) ⟨mm, mp, hs, mb⟩ (some ⟨g1, 0, none⟩) hs.length (hs.length + 4) W (P0.below h).f1 (E0.below ((P0.below h).bel.mono E0.le)) hLm h1 h2 h3 (by omega)).mono ?_
    rintro e w' ⟨rfl, hb⟩
    exact ⟨rfl, h.trans (hb.mono h.size)⟩
  intro L W5 _ b5
  have HP5 := hide (P0.below b5)
  clear P0 E0 HP b5
  simp only [Act.put, List.setIfInBounds_toArray, List.set_cons_succ, List.set_cons_zero]
  generalize (Value.tuple #[S (pmsg ⟨mm, mp, hs, mb⟩).1, .int .i64 (pmsg ⟨mm, mp, hs, mb⟩).2]) = R3
  go_wp2_with fail
  have P0 := unhide HP5
  have E0 := (unhide HE).1
  refine rh4 P3 g2 fa.length (fa.length + 4) ca pa st ba (.tuple #[S (pans st fa ba).1, .int .i64 (pans st fa ba).2]) rfl rfl rfl _ _ (show 39 ≤ 59 from by decide) rfl rfl (fun _ W => Below W5.heap.size W5 W) ((Below.refl _ _).drew) (fun _ _ _ _ h => h) ?_ ?_ ?_ ?_ ?_ ?_
  · exact fun L W h => (P0.below h).c3.1
  · exact fun L W h => (P0.below h).c3.2.1
  · omega
  · exact fun L W h => (P0.below h).c3.2.2
  · intro L W h _
    refine (printAnswer_any (B := B) st fa ba (some ⟨g2, 0, none⟩) fa.length (fa.length + 4) W (P0.below h).f2 (E0.below ((P0.below h).bel.mono E0.le)) hLa h4 (by omega)).mono ?_
    rintro e w' ⟨rfl, hb⟩
    exact ⟨rfl, h.trans (hb.mono h.size)⟩
  intro L W6 _ b6
  have HP6 := hide (P0.below b6)
  clear P0 E0 HP5 b6
  simp only [Act.put, List.setIfInBounds_toArray, List.set_cons_succ, List.set_cons_zero]
  generalize (Value.tuple #[S (pans st fa ba).1, .int .i64 (pans st fa ba).2]) = R4
  go_wp2_with fail
  have P0 := unhide HP6
  refine rh5 w.heap.size P3 g1 hs.length (hs.length + 4) cm pm ba rfl rfl rfl _ _ (show 47 ≤ 59 from by decide) rfl rfl rfl (fun _ _ W => Below W6.heap.size W6 W) ⟨undef, (Below.refl _ _).drew⟩ (fun _ _ _ _ _ h => h) ?_ ?_ ?_ ?_ ?_
  · exact fun c L W h => (P0.below h).c2.2.2.1
  · omega
  · exact fun c L W h => (P0.below h).c3.2.2
  · intro c L W h hL
    refine (all_any (some ⟨g1, 0, none⟩) hs.length (hs.length + 4) hs ba W (P0.below h).f1 hLm (by omega)).mono ?_
    rintro e w' ⟨V, rfl, hV⟩
    refine ⟨V, fun j hj => ?_, rfl, h.trans (hV.bel.mono h.size)⟩
    have : j ≠ 7 := fun e => by subst e; rw [hL] at hj; cases hj
    unfold vh5
    split <;> first | rfl | (exact absurd rfl this)
  intro R5 L W7 _ b7
  have HP7 := hide (P0.below b7)
  have hc := (unhide HP7).c2.2.2.1
  rw [Nat.zero_add] at hc
  clear P0 HP6 b7
  simp only [Act.put, List.setIfInBounds_toArray, List.set_cons_succ, List.set_cons_zero]
  go_wp2_with fail
  refine (kept_any g1 pm cm hs w W7 (unhide HP7).y1 (unhide HE).2.1.1 (unhide HP7).bel (unhide HP7).ge.2.2.1 hnm).mono ?_
  rintro e W8 ⟨rfl, o8⟩
  have P7 := unhide HP7
  have x3 := (o8.block P3 (lt_of_row P7.x3) (fun e => blk_ne P7.x3 P7.y1 (by decide) e)).trans P7.x3
  have y2 : Blk g2 (mid fa 4) W8 := (o8.block g2 P7.y2.lt (fun e => P7.ne e.symm)).trans P7.y2
  have B8 := hide (o8.below P7.bel P7.bel.size (fun k e => by have := P7.ge.2.2.1; omega))
  have hc : W8.cell? ⟨P3, 1, none⟩ = some (.slice pa fa.length ca) := cell_of_row W8 _ 1 _ 26 (0, 0) x3
  have Y2 := hide y2
  have G2 := hide P7.ge.2.2.2
  clear x3 y2 P7 o8 HP7
  go_wp2_with fail
  refine (kept_any g2 pa ca fa w W8 (unhide Y2) (unhide HE).2.2.1 (unhide B8) (unhide G2) hna).mono ?_
  rintro e W9 ⟨rfl, o9⟩
  have B9 := hide (o9.below (unhide B8) (unhide B8).size (fun k e => by have := unhide G2; omega))
  clear o9 hc
  go_wp2
  go_ret
  exact ⟨rfl, unhide B9⟩
end Go.Proofs.YthlacailhfhjnaaGreatDoor
namespace Go.Proofs.YthlacailhfhjnaaGreatDoor
open Go.RowKit Go.Lib
/-- Headers in new memory. -/
structure Hds (v : Value) (hs : List Fl) (w w' : World) : Prop where
  row : w'.ownsRow 0 35 2 v hs.length (cellsF hs)
  new : ∀ k, v.ownBlock = some k → w.heap.size ≤ k
  bel : Below w.heap.size w w'
  few : hs.length ≤ 32
  all : hs.all hdr = true
set_option maxHeartbeats 8000000 in
set_option maxRecDepth 8000 in
theorem headers_any (a : Option Addr) (n cap : Nat) (fs : List Fl) (w : World) (hp : Fls w a n fs) (hL : Lens fs) (hn : n ≤ 140737488351232) :
    Calls Tryz.prog 40 #[.slice a n cap] w fun e w' => ∃ v hs, e = .returned v ∧ Hds v hs w w' := by
  have HP := hide hp
  clear hp
  go_enter Tryz.func40, Tryz.ntmps40
  go_wp2
  go_loopw [3, 4] (fun v i wr => ∃ (k : Nat) (hs : List Fl), k ≤ n ∧ k ≤ 32 ∧ i = .int .i64 k ∧ hs.length = k ∧ Hds v hs w wr) (fun _ i _ => n - (Go.RowKit.intOf i).toNat)
  case atStart => exact ⟨0, [], by omega, by omega, rfl, rfl, ⟨⟨rfl, .inl ⟨rfl, rfl⟩⟩, (fun k h => nomatch h), Below.refl _ _, by decide, rfl⟩⟩
  case round =>
    obtain ⟨k, hs, hk, hk32, rfl, hl, hh⟩ := hrel
    by_cases hlt : k < n ∧ k < 32
    · obtain ⟨hlt, hlt2⟩ := hlt
      obtain ⟨p, o, rfl, hpl, hc0, hc1⟩ := ((unhide HP).below hh.bel).at hlt
      have hLk := hL k
      generalize fs.getD k fl0 = F at *
      obtain ⟨fn, fv⟩ := F
      simp only at hc0 hc1 hLk
      have hlt' : (k : Int) < (n : Int) := by omega
      have hlt2' : (k : Int) < 32 := by omega
      have HC := hide (header_any fn fv wr hLk.1 hLk.2)
      obtain ⟨pv, cv, hpv⟩ := owns_form hh.row
      subst hpv
      have HH := hide hh
      have HL := hide hl
      clear hh hl
      go_wp2_with fail
      refine (unhide HC).mono ?_
      rintro e w2 ⟨⟨f, rfl, hf⟩, b2⟩
      obtain ⟨g1, g2⟩ := f
      have HF := hide hf
      have HR2 := hide (show w2.ownsRow 0 35 2 _ hs.length (cellsF hs) from owns_same (unhide HH).row (fun j hj => by
        obtain ⟨cs, q⟩ := owns_lt (unhide HH).row j hj
        exact b2.block j (lt_of_row q)))
      have HB2 := hide b2
      clear b2 hf HC
      go_wp2_with (first | (at_builtin; refine push_own 22 35 _ 2 32 Tryz.underlying22 info35 rfl (by decide) rfl (.tmp 15) (.tmp 21) rfl (.slice pv hs.length cv) hs.length (cellsF hs) (by rfl) w2 (unhide HR2) [S g1, S g2] (by rfl) (by intro u hu; simp at hu; rcases hu with rfl | rfl <;> rfl) (by rfl) (by have := unhide HL; omega) (by have := unhide HL; omega) ?_; intro pb cb W5 ho5 hw5 hn5))
      refine ⟨⟨k + 1, hs ++ [(g1, g2)], by omega, by omega, by go_num, by rw [List.length_append, unhide HL]; rfl, ⟨?_, ?_, ?_, ?_, ?_⟩⟩, ?_⟩
      · rw [List.length_append, cellsF_append]; exact ho5
      · intro j hj
        rcases hn5 j hj with q | q
        · exact (unhide HH).new j q
        · exact Nat.le_trans (unhide HH).bel.size (Nat.le_trans (unhide HB2).size q)
      · exact hw5.below ((unhide HH).bel.trans ((unhide HB2).mono (unhide HH).bel.size)) (Nat.le_trans (unhide HH).bel.size (unhide HB2).size) (fun j hj => (unhide HH).new j hj)
      · rw [List.length_append, unhide HL]; show k + 1 ≤ 32; omega
      · rw [List.all_append, (unhide HH).all]
        simp [unhide HF]
      · simp [Go.RowKit.intOf]; omega
    · have HH := hide hh
      have hd : decide (k < n) = false ∨ ((k : Int) < (n : Int) ∧ decide (k < 32) = false) := by
        by_cases q : k < n
        · right; exact ⟨by omega, by simp; omega⟩
        · left; simp; omega
      clear hh hl
      rcases hd with hd | ⟨hd0, hd⟩
      · go_wp2
        go_ret
        first | exact ⟨_, hs, rfl, unhide HH⟩ | exact ⟨_, rfl, hs, unhide HH⟩
      · have hd2 : ¬ (k : Int) < 32 := by simp at hd; omega
        have hd3 : decide ((k : Int) < 32) = false := by simpa using hd2
        go_wp2
        go_ret
        first | exact ⟨_, hs, rfl, unhide HH⟩ | exact ⟨_, rfl, hs, unhide HH⟩
end Go.Proofs.YthlacailhfhjnaaGreatDoor
