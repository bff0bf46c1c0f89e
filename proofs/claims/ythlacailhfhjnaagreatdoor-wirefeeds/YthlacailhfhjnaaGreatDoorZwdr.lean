import Derived.Test.YthlacailhfhjnaaGreatDoorZwdd
import Derived.Test.YthlacailhfhjnaaGreatDoorZwdo
import Derived.Test.YthlacailhfhjnaaGreatDoorWcp
namespace Go.Proofs.YthlacailhfhjnaaGreatDoor
open Go.RowKit Go.Lib
theorem feed_st {B R : Nat} {p : Ps} {O : Nat → Prop} {w0 W : World} (hE : Env B w0) (hb : Below w0.heap.size w0 W) (hr : Rdr R p O W) (hO : ∀ k, O k → w0.heap.size ≤ k) (s : Bs) (hs : s.length ≤ 1000000000000) (hrd : p.rd + s.length ≤ 4000000000000000000) :
    Calls Tryz.prog 21 #[ptr R, S s] W fun e w' => ∃ a c O', e = .returned (.tuple #[.slice a (feed p s).2.1.length c, .int .i64 (feed p s).2.2]) ∧ Below w0.heap.size w0 w' ∧ Rdr R (feed p s).1 O' w' ∧ (∀ k, O' k → w0.heap.size ≤ k) ∧ Mls w' a (feed p s).2.1.length (feed p s).2.1 := by
  refine (feed_any hr (hE.below (hb.mono hE.le)) (fun k hk => Nat.le_trans hE.le (hO k hk)) s hs hrd).mono ?_
  rintro e w' ⟨V, rfl, hF⟩
  obtain ⟨l, O', M, e1, hm, hr', s1, s2, s3⟩ := hF.ex
  obtain ⟨a, c, rfl, hl⟩ := hm.mls
  rw [← e1] at hl ⊢
  exact ⟨a, c, O', rfl, hF.only.below hb hb.size hO, hr', fun k hk => by
    rcases s1 k hk with q | q
    · exact hO k q
    · exact Nat.le_trans hb.size q, hl⟩
/-- A row of one message. -/
theorem mls_one {w : World} {g : Nat} {T : TypeId} {z : Ms} {a : Option Addr} {k : Nat} (h : w.heap[g]? = some (.cells #[S z.m, S z.p, .slice a z.hs.length k, S z.b] T (0, 0))) (hf : Fls w a z.hs.length z.hs) : Mls w (some ⟨g, 0, none⟩) 1 [z] := by
  refine ⟨rfl, fun _ => ⟨g, 0, rfl, fun j hj => ?_⟩⟩
  obtain rfl : j = 0 := by omega
  exact ⟨a, k, cell_of_row w g 0 _ T (0, 0) h, cell_of_row w g 1 _ T (0, 0) h, cell_of_row w g 2 _ T (0, 0) h, cell_of_row w g 3 _ T (0, 0) h, hf⟩
def mAw : Ms := ⟨[80, 79, 83, 84], [47, 116, 111, 107, 101, 110], [([72, 111, 115, 116], [97, 46, 101, 120, 97, 109, 112, 108, 101])], [120, 61, 49]⟩
theorem dec0 : decDigits 0 = [48] := by rw [decDigits, dif_pos (by decide)]; rfl
theorem dec3 : decDigits 3 = [51] := by rw [decDigits, dif_pos (by decide)]; rfl
theorem dec404 : decDigits 404 = [52, 48, 52] := by
  rw [decDigits, dif_neg (by decide), decDigits, dif_neg (by decide), decDigits, dif_pos (by decide)]; rfl
def tAw : Bs := [80, 79, 83, 84, 32, 47, 116, 111, 107, 101, 110, 32, 72, 84, 84, 80, 47, 49, 46, 49, 13, 10, 72, 111, 115, 116, 58, 32, 97, 46, 101, 120, 97, 109, 112, 108, 101, 13, 10, 67, 111, 110, 116, 101, 110, 116, 45, 76, 101, 110, 103, 116, 104, 58, 32, 51, 13, 10, 13, 10, 120, 61, 49]
theorem may_aw : may mAw = true := by decide +kernel
theorem lay_aw : lay (mline mAw.m mAw.p) mAw.hs mAw.b = tAw := by
  have : decDigits mAw.b.length = [51] := dec3
  unfold lay
  rw [this]
  decide +kernel
theorem pmsg_aw : pmsg mAw = (tAw, 0) := by
  unfold pmsg
  rw [if_pos may_aw, lay_aw]
theorem pans_aw : pans 404 [] [] = ([72, 84, 84, 80, 47, 49, 46, 49, 32, 52, 48, 52, 32, 78, 111, 116, 32, 70, 111, 117, 110, 100, 13, 10, 67, 111, 110, 116, 101, 110, 116, 45, 76, 101, 110, 103, 116, 104, 58, 32, 48, 13, 10, 13, 10], 0) := by
  unfold pans
  rw [if_pos (by decide +kernel)]
  have h1 : decDigits (([] : Bs).length) = [48] := dec0
  have h2 : decDigits (404 : Int).toNat = [52, 48, 52] := dec404
  unfold lay aline
  rw [h1, h2]
  decide +kernel
theorem feed_aw : ∃ r, feed p0 (tAw.take 60) = (r, [], 0) ∧ r.rd = 60 ∧ feed r (tAw.drop 60) = (p0, [mAw], 0) := by
  have := feed_begin may_aw 60 (by rw [lay_aw]; decide)
  rw [lay_aw] at this
  obtain ⟨r, h1, h2, _, h4⟩ := this
  exact ⟨r, h1, h2, h4⟩
theorem feed_aw2 : feed p0 [120, 10] = (pov, [], 50) := by kernel_rfl
theorem feed_aw3 : feed pov [] = (pov, [], 54) := rfl
end Go.Proofs.YthlacailhfhjnaaGreatDoor
namespace Go.Proofs.YthlacailhfhjnaaGreatDoor
open Go.RowKit Go.Lib
theorem fls_one {w : World} {g : Nat} {T : TypeId} {a b : Bs} (h : w.heap[g]? = some (.cells #[S a, S b] T (0, 0))) : Fls w (some ⟨g, 0, none⟩) 1 [(a, b)] := by
  refine ⟨rfl, fun _ => ⟨g, 0, rfl, fun j hj => ?_⟩⟩
  obtain rfl : j = 0 := by omega
  exact ⟨cell_of_row w g 0 _ T (0, 0) h, cell_of_row w g 1 _ T (0, 0) h⟩
set_option maxHeartbeats 8000000 in
set_option maxRecDepth 8000 in
theorem awake_any {B : Nat} (w : World) (hE : Env B w) :
    Calls Tryz.prog 11 #[] w fun e w' => e = .returned (.bool true) ∧ Below w.heap.size w w' := by
  have b1 := (Below.refl w.heap.size w).alloc (Nat.le_refl _) (.cells #[S [72, 111, 115, 116], S [97, 46, 101, 120, 97, 109, 112, 108, 101]] 35)
  have x1 : (w.alloc (.cells #[S [72, 111, 115, 116], S [97, 46, 101, 120, 97, 109, 112, 108, 101]] 35)).heap[w.heap.size]? = some (.cells #[S [72, 111, 115, 116], S [97, 46, 101, 120, 97, 109, 112, 108, 101]] 35 (0, 0)) := heap_alloc_new _ _
  obtain ⟨W1, hW1⟩ : ∃ W1, W1 = w.alloc (.cells #[S [72, 111, 115, 116], S [97, 46, 101, 120, 97, 109, 112, 108, 101]] 35) := ⟨_, rfl⟩
  have z1 : W1.heap.size = w.heap.size + 1 := by subst hW1; simp
  rw [← hW1] at b1 x1
  have b2 := b1.alloc (by omega) (.cells #[S mAw.m, S mAw.p, .slice (some ⟨w.heap.size, 0, none⟩) 1 1, S mAw.b] 24)
  have x2 := heap_alloc_new W1 (.cells #[S mAw.m, S mAw.p, .slice (some ⟨w.heap.size, 0, none⟩) 1 1, S mAw.b] 24)
  have y1 := (heap_alloc_old W1 (.cells #[S mAw.m, S mAw.p, .slice (some ⟨w.heap.size, 0, none⟩) 1 1, S mAw.b] 24) (r := w.heap.size) (by omega)).trans x1
  rw [z1] at x2
  have E2 := hE.below (b2.mono hE.le)
  have H1 := hide (printMessage_any mAw (some ⟨w.heap.size, 0, none⟩) 1 1 _ (fls_one y1) E2 (by intro j; match j with | 0 => decide | j + 1 => exact ⟨Nat.zero_le _, Nat.zero_le _⟩) (by decide) (by decide) (by decide) (by decide))
  rw [pmsg_aw] at H1
  have X2 := hide (And.intro b2 (And.intro y1 (And.intro x2 E2)))
  clear E2 b1 b2 x1 x2 y1 hE
  go_enter Tryz.func11, Tryz.ntmps11
  go_wp2_with fail
  subst hW1
  change Calls Tryz.prog 31 _ ((w.alloc (.cells #[S [72, 111, 115, 116], S [97, 46, 101, 120, 97, 109, 112, 108, 101]] 35)).alloc (.cells #[S mAw.m, S mAw.p, .slice (some ⟨w.heap.size, 0, none⟩) 1 1, S mAw.b] 24)) _
  generalize (w.alloc (.cells #[S [72, 111, 115, 116], S [97, 46, 101, 120, 97, 109, 112, 108, 101]] 35)).alloc (.cells #[S mAw.m, S mAw.p, .slice (some ⟨w.heap.size, 0, none⟩) 1 1, S mAw.b] 24) = W2 at *
  refine (unhide H1).mono ?_
  rintro e w3 ⟨rfl, b3⟩
  obtain ⟨b2, y1, x2, E2⟩ := unhide X2
  have H2 := hide (newReader_any w3)
  have X3 := hide (And.intro (b2.trans (b3.mono b2.size)) (And.intro ((b3.block _ (lt_of_row y1)).trans y1) (And.intro ((b3.block _ (lt_of_row x2)).trans x2) (E2.below (b3.mono E2.le)))))
  clear b2 y1 x2 E2 b3 X2 H1 z1
  go_wp2_with fail
  refine (unhide H2).mono ?_
  rintro e w4 ⟨R, O, rfl, hr, hO, b4⟩
  have X4 := hide (And.intro b4 (And.intro hr hO))
  clear b4 hr hO H2
  go_wp2_with fail
  obtain ⟨r, f1, f2, f3⟩ := feed_aw
  have F := hide (And.intro f2 f3)
  obtain ⟨b4, hr, hO⟩ := unhide X4
  obtain ⟨b3, y1, x2, E3⟩ := unhide X3
  have H3 := hide (feed_st E3 b4 hr hO (tAw.take 60) (by decide) (by decide))
  rw [f1] at H3
  rw [show ({ data := List.toArray tAw } : ByteArray).extract 0 60 = ⟨(tAw.take 60).toArray⟩ by rw [extract_eq]; simp]
  clear f1 f2 f3 b4 hr hO b3 y1 x2 E3 X4
  refine (unhide H3).mono ?_
  rintro e w5 ⟨a5, c5, O5, rfl, b5, r5, hO5, -⟩
  have H4 := hide (waiting_any r5)
  rw [(unhide F).1] at H4
  have X5 := hide (And.intro b5 (And.intro r5 hO5))
  clear b5 r5 hO5 H3
  dsimp only [List.length_nil]
  go_wp2_with fail
  refine (unhide H4).mono ?_
  rintro e w5' ⟨rfl, hw5⟩
  rw [hw5]
  clear hw5 w5' H4
  go_wp2_with fail
  obtain ⟨b5, r5, hO5⟩ := unhide X5
  obtain ⟨b3, y1, x2, E3⟩ := unhide X3
  have H5 := hide (feed_st E3 b5 r5 hO5 (tAw.drop 60) (by decide) (by rw [(unhide F).1]; decide))
  rw [(unhide F).2] at H5
  rw [show ({ data := List.toArray tAw } : ByteArray).extract 60 (List.length tAw) = ⟨(tAw.drop 60).toArray⟩ by rw [extract_eq]; simp; exact List.take_of_length_le (by simp)]
  clear b5 r5 hO5 b3 y1 x2 E3 X5
  refine (unhide H5).mono ?_
  rintro e w6 ⟨a6, c6, O6, rfl, b6, r6, hO6, m6⟩
  obtain ⟨b3, y1, x2, E3⟩ := unhide X3
  have y6 := (b6.block _ (lt_of_row y1)).trans y1
  have x6 := (b6.block _ (lt_of_row x2)).trans x2
  have d0 : w6.cell? ⟨w.heap.size + 1, 0, none⟩ = some (S mAw.m) := cell_of_row w6 _ 0 _ 24 (0, 0) x6
  have d1 : w6.cell? ⟨w.heap.size + 1, 1, none⟩ = some (S mAw.p) := cell_of_row w6 _ 1 _ 24 (0, 0) x6
  have d2 : w6.cell? ⟨w.heap.size + 1, 2, none⟩ = some (.slice (some ⟨w.heap.size, 0, none⟩) 1 1) := cell_of_row w6 _ 2 _ 24 (0, 0) x6
  have d3 : w6.cell? ⟨w.heap.size + 1, 3, none⟩ = some (S mAw.b) := cell_of_row w6 _ 3 _ 24 (0, 0) x6
  have b7 := (Below.refl w6.heap.size w6).alloc (Nat.le_refl _) (.cells #[S mAw.m, S mAw.p, .slice (some ⟨w.heap.size, 0, none⟩) 1 1, S mAw.b] 24)
  have x7 := heap_alloc_new w6 (.cells #[S mAw.m, S mAw.p, .slice (some ⟨w.heap.size, 0, none⟩) 1 1, S mAw.b] 24)
  have f7 := (fls_one y6).below b7
  have H6 := hide (messages_eq a6 (some ⟨w6.heap.size, 0, none⟩) 1 c6 1 [mAw] _ (m6.below b7) (mls_one (z := mAw) x7 f7) (by decide) (by intro j; match j with | 0 => decide | j + 1 => exact Nat.zero_le _))
  have X7 := hide (And.intro (b6.trans (b7.mono b6.size)) (And.intro (r6.below b7) hO6))
  clear b6 r6 hO6 m6 b3 y1 x2 E3 y6 x6 b7 x7 f7 H5 F
  dsimp only [List.length_singleton, List.length_cons, List.length_nil]
  go_wp2_with fail
  generalize w6.alloc (.cells #[S mAw.m, S mAw.p, .slice (some ⟨w.heap.size, 0, none⟩) 1 1, S mAw.b] 24) = w7 at *
  refine (unhide H6).mono ?_
  rintro e w8 ⟨rfl, b8⟩
  obtain ⟨b7, r7, hO7⟩ := unhide X7
  obtain ⟨b3, y1, x2, E3⟩ := unhide X3
  have H7 := hide (feed_st E3 (b7.trans (b8.mono b7.size)) (r7.below b8) hO7 [120, 10] (by decide) (by decide))
  rw [feed_aw2] at H7
  clear b8 b7 r7 hO7 b3 y1 x2 E3 d0 d1 d2 d3 H6 X7
  go_wp2_with fail
  refine (unhide H7).mono ?_
  rintro e w9 ⟨a9, c9, O9, rfl, b9, r9, hO9, -⟩
  obtain ⟨b3, y1, x2, E3⟩ := unhide X3
  have H8 := hide (feed_st E3 b9 r9 hO9 [] (by decide) (by decide))
  rw [feed_aw3] at H8
  clear b9 r9 hO9 b3 y1 x2 E3 H7
  go_wp2_with fail
  refine (unhide H8).mono ?_
  rintro e w10 ⟨a10, c10, O10, rfl, b10, r10, hO10, -⟩
  obtain ⟨b3, y1, x2, E3⟩ := unhide X3
  have H9 := hide (printAnswer_any 404 [] [] none 0 0 w10 (Fls.nil _ _) (E3.below (b10.mono E3.le)) (by intro j; exact ⟨Nat.zero_le _, Nat.zero_le _⟩) (by decide) (by decide))
  rw [pans_aw] at H9
  have X10 := hide (b3.trans (b10.mono b3.size))
  clear b10 r10 hO10 b3 y1 x2 E3 H8 X3
  go_wp2_with fail
  refine (unhide H9).mono ?_
  rintro e w11 ⟨rfl, b11⟩
  have X11 := hide ((unhide X10).trans (b11.mono (unhide X10).size))
  clear b11 X10 H9
  dsimp only [List.length_nil]
  go_wp2
  go_ret
  exact ⟨rfl, unhide X11⟩
end Go.Proofs.YthlacailhfhjnaaGreatDoor
