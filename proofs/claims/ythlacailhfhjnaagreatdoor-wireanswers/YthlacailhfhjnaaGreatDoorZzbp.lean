import Derived.Test.YthlacailhfhjnaaGreatDoorZzbo
import Derived.Test.YthlacailhfhjnaaGreatDoorZzap
import Derived.Deep.QuietTactic
import Derived.BigQuiet
namespace Go.Proofs.YthlacailhfhjnaaGreatDoor
open Go.RowKit Go.Lib
theorem fls_one {w : World} {g : Nat} {T : TypeId} {a b : Bs} (h : w.heap[g]? = some (.cells #[S a, S b] T (0, 0))) : Fls w (some ⟨g, 0, none⟩) 1 [(a, b)] := by
  refine ⟨rfl, fun _ => ⟨g, 0, rfl, fun j hj => ?_⟩⟩
  obtain rfl : j = 0 := by omega
  exact ⟨cell_of_row w g 0 _ T (0, 0) h, cell_of_row w g 1 _ T (0, 0) h⟩
set_option maxHeartbeats 8000000 in
set_option maxRecDepth 8000 in
theorem awake_any {B : Nat} (w : World) (hE : Env B w) :
    Calls Tryz.prog 11 #[] w fun e w' => e = .returned (.bool true) ∧ Below w.heap.size w w' := by
  have b1 := (Below.refl w.heap.size w).alloc (Nat.le_refl _) (.cells #[S [72, 111, 115, 116], S [97, 46, 101, 120, 97, 109, 112, 108, 101]] 35)
  have x1 : (w.alloc (.cells #[S [72, 111, 115, 116], S [97, 46, 101, 120, 97, 109, 112, 108, 101]] 35)).heap[w.heap.size]? = some (.cells #[S [72, 111, 115, 116], S [97, 46, 101, 120, 97, 109, 112, 108, 101]] 35 (0, 0)) := heap_alloc_new _ _
  obtain ⟨W1, hW1⟩ : ∃ W1, W1 = w.alloc (.cells #[S [72, 111, 115, 116], S [97, 46, 101, 120, 97, 109, 112, 108, 101]] 35) := ⟨_, rfl⟩
  have z1 : W1.heap.size = w.heap.size + 1 := by subst hW1; simp
  rw [← hW1] at b1 x1
  have b2 := b1.alloc (by omega) (.cells #[S mAw.m, S mAw.p, .slice (some ⟨w.heap.size, 0, none⟩) 1 1, S mAw.b] 24)
  have x2 := heap_alloc_new W1 (.cells #[S mAw.m, S mAw.p, .slice (some ⟨w.heap.size, 0, none⟩) 1 1, S mAw.b] 24)
  have y1 := (heap_alloc_old W1 (.cells #[S mAw.m, S mAw.p, .slice (some ⟨w.heap.size, 0, none⟩) 1 1, S mAw.b] 24) (r := w.heap.size) (by omega)).trans x1
  rw [z1] at x2
  have E2 := hE.below (b2.mono hE.le)
  have H1 := hide (printMessage_any mAw (some ⟨w.heap.size, 0, none⟩) 1 1 _ (fls_one y1) E2 (by intro j; match j with | 0 => decide | j + 1 => exact ⟨Nat.zero_le _, Nat.zero_le _⟩) (by decide) (by decide) (by decide) (by decide))
  rw [pmsg_aw] at H1
  have X2 := hide (And.intro b2 (And.intro y1 (And.intro x2 E2)))
  clear E2 b1 b2 x1 x2 y1 hE
  go_enter Tryz.func11, Tryz.ntmps11
  go_wp2_with fail
  subst hW1
  change Calls Tryz.prog 31 _ ((w.alloc (.cells #[S [72, 111, 115, 116], S [97, 46, 101, 120, 97, 109, 112, 108, 101]] 35)).alloc (.cells #[S mAw.m, S mAw.p, .slice (some ⟨w.heap.size, 0, none⟩) 1 1, S mAw.b] 24)) _
  generalize (w.alloc (.cells #[S [72, 111, 115, 116], S [97, 46, 101, 120, 97, 109, 112, 108, 101]] 35)).alloc (.cells #[S mAw.m, S mAw.p, .slice (some ⟨w.heap.size, 0, none⟩) 1 1, S mAw.b] 24) = W2 at *
  refine (unhide H1).mono ?_
  rintro e w3 ⟨rfl, b3⟩
  obtain ⟨b2, y1, x2, E2⟩ := unhide X2
  have H2 := hide (newReader_any w3)
  have X3 := hide (And.intro (b2.trans (b3.mono b2.size)) (And.intro ((b3.block _ (lt_of_row y1)).trans y1) (And.intro ((b3.block _ (lt_of_row x2)).trans x2) (E2.below (b3.mono E2.le)))))
  clear b2 y1 x2 E2 b3 X2 H1 z1
  go_wp2_with fail
  refine (unhide H2).mono ?_
  rintro e w4 ⟨R, O, rfl, hr, hO, b4⟩
  have X4 := hide (And.intro b4 (And.intro hr hO))
  clear b4 hr hO H2
  go_wp2_with fail
  obtain ⟨r, f1, f2, f3⟩ := feed_aw
  have F := hide (And.intro f2 f3)
  obtain ⟨b4, hr, hO⟩ := unhide X4
  obtain ⟨b3, y1, x2, E3⟩ := unhide X3
  have H3 := hide (feed_st E3 b4 hr hO (tAw.take 60) (by decide) (by decide))
  rw [f1] at H3
  rw [show ({ data := List.toArray tAw } : ByteArray).extract 0 60 = ⟨(tAw.take 60).toArray⟩ by rw [extract_eq]; simp]
  clear f1 f2 f3 b4 hr hO b3 y1 x2 E3 X4
  refine (unhide H3).mono ?_
  rintro e w5 ⟨a5, c5, O5, rfl, b5, r5, hO5, -⟩
  have H4 := hide (waiting_any r5)
  rw [(unhide F).1] at H4
  have X5 := hide (And.intro b5 (And.intro r5 hO5))
  clear b5 r5 hO5 H3
  dsimp only [List.length_nil]
  go_wp2_with fail
  refine (unhide H4).mono ?_
  rintro e w5' ⟨rfl, hw5⟩
  rw [hw5]
  clear hw5 w5' H4
  go_wp2_with fail
  obtain ⟨b5, r5, hO5⟩ := unhide X5
  obtain ⟨b3, y1, x2, E3⟩ := unhide X3
  have H5 := hide (feed_st E3 b5 r5 hO5 (tAw.drop 60) (by decide) (by rw [(unhide F).1]; decide))
  rw [(unhide F).2] at H5
  rw [show ({ data := List.toArray tAw } : ByteArray).extract 60 (List.length tAw) = ⟨(tAw.drop 60).toArray⟩ by rw [extract_eq]; simp; exact List.take_of_length_le (by simp)]
  clear b5 r5 hO5 b3 y1 x2 E3 X5
  refine (unhide H5).mono ?_
  rintro e w6 ⟨a6, c6, O6, rfl, b6, r6, hO6, m6⟩
  obtain ⟨b3, y1, x2, E3⟩ := unhide X3
  have y6 := (b6.block _ (lt_of_row y1)).trans y1
  have x6 := (b6.block _ (lt_of_row x2)).trans x2
  have d0 : w6.cell? ⟨w.heap.size + 1, 0, none⟩ = some (S mAw.m) := cell_of_row w6 _ 0 _ 24 (0, 0) x6
  have d1 : w6.cell? ⟨w.heap.size + 1, 1, none⟩ = some (S mAw.p) := cell_of_row w6 _ 1 _ 24 (0, 0) x6
  have d2 : w6.cell? ⟨w.heap.size + 1, 2, none⟩ = some (.slice (some ⟨w.heap.size, 0, none⟩) 1 1) := cell_of_row w6 _ 2 _ 24 (0, 0) x6
  have d3 : w6.cell? ⟨w.heap.size + 1, 3, none⟩ = some (S mAw.b) := cell_of_row w6 _ 3 _ 24 (0, 0) x6
  have b7 := (Below.refl w6.heap.size w6).alloc (Nat.le_refl _) (.cells #[S mAw.m, S mAw.p, .slice (some ⟨w.heap.size, 0, none⟩) 1 1, S mAw.b] 24)
  have x7 := heap_alloc_new w6 (.cells #[S mAw.m, S mAw.p, .slice (some ⟨w.heap.size, 0, none⟩) 1 1, S mAw.b] 24)
  have f7 := (fls_one y6).below b7
  have H6 := hide (messages_eq a6 (some ⟨w6.heap.size, 0, none⟩) 1 c6 1 [mAw] _ (m6.below b7) (mls_one (z := mAw) x7 f7) (by decide) (by intro j; match j with | 0 => decide | j + 1 => exact Nat.zero_le _))
  have X7 := hide (And.intro (b6.trans (b7.mono b6.size)) (And.intro (r6.below b7) hO6))
  clear b6 r6 hO6 m6 b3 y1 x2 E3 y6 x6 b7 x7 f7 H5 F
  dsimp only [List.length_singleton, List.length_cons, List.length_nil]
  go_wp2_with fail
  generalize w6.alloc (.cells #[S mAw.m, S mAw.p, .slice (some ⟨w.heap.size, 0, none⟩) 1 1, S mAw.b] 24) = w7 at *
  refine (unhide H6).mono ?_
  rintro e w8 ⟨rfl, b8⟩
  obtain ⟨b7, r7, hO7⟩ := unhide X7
  obtain ⟨b3, y1, x2, E3⟩ := unhide X3
  have H7 := hide (feed_st E3 (b7.trans (b8.mono b7.size)) (r7.below b8) hO7 [120, 10] (by decide) (by decide))
  rw [feed_aw2] at H7
  clear b8 b7 r7 hO7 b3 y1 x2 E3 d0 d1 d2 d3 H6 X7
  go_wp2_with fail
  refine (unhide H7).mono ?_
  rintro e w9 ⟨a9, c9, O9, rfl, b9, r9, hO9, -⟩
  obtain ⟨b3, y1, x2, E3⟩ := unhide X3
  have H8 := hide (feed_st E3 b9 r9 hO9 [] (by decide) (by decide))
  rw [feed_aw3] at H8
  clear b9 r9 hO9 b3 y1 x2 E3 H7
  go_wp2_with fail
  refine (unhide H8).mono ?_
  rintro e w10 ⟨a10, c10, O10, rfl, b10, r10, hO10, -⟩
  obtain ⟨b3, y1, x2, E3⟩ := unhide X3
  have H9 := hide (printAnswer_any 404 [] [] none 0 0 w10 (Fls.nil _ _) (E3.below (b10.mono E3.le)) (by intro j; exact ⟨Nat.zero_le _, Nat.zero_le _⟩) (by decide) (by decide))
  rw [pans_aw] at H9
  have X10 := hide (b3.trans (b10.mono b3.size))
  clear b10 r10 hO10 b3 y1 x2 E3 H8 X3
  go_wp2_with fail
  refine (unhide H9).mono ?_
  rintro e w11 ⟨rfl, b11⟩
  have X11 := hide ((unhide X10).trans (b11.mono (unhide X10).size))
  clear b11 X10 H9
  dsimp only [List.length_nil]
  go_wp2
  go_ret
  exact ⟨rfl, unhide X11⟩
end Go.Proofs.YthlacailhfhjnaaGreatDoor
namespace Go.Proofs.YthlacailhfhjnaaGreatDoor
open Go.RowKit Go.Lib
theorem addv_bd2 {n m : Int} (h0 : 0 ≤ n) (h1 : 0 ≤ m) : 0 ≤ addv n m ∧ addv n m ≤ 2147483648 := by
  unfold addv
  split <;> omega
set_option maxHeartbeats 2000000 in
theorem add2_any (n m : Int) (w : World) (h0 : 0 ≤ n) (h1 : 0 ≤ m) (h2 : n ≤ 9000000000000000000) (h3 : m ≤ 9000000000000000000) : Calls Tryz.prog 8 #[.int .i64 n, .int .i64 m] w fun e w' => e = .returned (.int .i64 (addv n m)) ∧ w' = w := by
  unfold addv
  by_cases h : 2147483647 - n < m
  · rw [if_pos h]
    go_enter Tryz.func8, Tryz.ntmps8
    go_wp2
    go_ret
    exact ⟨rfl, rfl⟩
  · rw [if_neg h]
    go_enter Tryz.func8, Tryz.ntmps8
    go_wp2
    go_ret
    exact ⟨rfl, rfl⟩
def wgm (f : Fl) : Int := addv (addv f.1.length f.2.length) 50
theorem wgm_bd (f : Fl) : 0 ≤ wgm f ∧ wgm f ≤ 2147483648 := addv_bd2 (addv_bd2 (by omega) (by omega)).1 (by omega)
def wst (n : Int) (f : Fl) : Int := addv n (addv (wgm f) (wgm f))
theorem wst_bd {n : Int} (f : Fl) (h : 0 ≤ n) : 0 ≤ wst n f ∧ wst n f ≤ 2147483648 := addv_bd2 h (addv_bd2 (wgm_bd f).1 (wgm_bd f).1).1
/-- How much fields weigh. -/
def wgt (fs : List Fl) : Int := fs.foldl wst 0
theorem wgt_next (fs : List Fl) (k : Nat) (h : k < fs.length) : wgt (fs.take (k + 1)) = wst (wgt (fs.take k)) (fs.getD k fl0) := by
  have e : fs.take (k + 1) = fs.take k ++ [fs.getD k fl0] := by
    rw [List.take_succ_eq_append_getElem h]
    simp [h]
  unfold wgt
  rw [e, List.foldl_append]
  rfl
theorem wgt_bd (fs : List Fl) : 0 ≤ wgt fs ∧ wgt fs ≤ 2147483648 := by
  suffices ∀ (l : List Fl) (n : Int), 0 ≤ n ∧ n ≤ 2147483648 → 0 ≤ l.foldl wst n ∧ l.foldl wst n ≤ 2147483648 from this fs 0 (by omega)
  intro l
  induction l with
  | nil => exact fun n h => h
  | cons x l ih => exact fun n h => ih _ (wst_bd x h.1)
theorem wgt_stay (l : List Fl) : l.foldl wst 2147483648 = 2147483648 := by
  induction l with
  | nil => rfl
  | cons x l ih =>
    have : wst 2147483648 x = 2147483648 := by
      have := (addv_bd2 (wgm_bd x).1 (wgm_bd x).1).1
      unfold wst
      generalize addv (wgm x) (wgm x) = A at *
      unfold addv
      rw [if_pos (by omega)]
    rw [List.foldl_cons, this]
    exact ih
theorem wgt_top (fs : List Fl) (k : Nat) (h : ¬ wgt (fs.take k) ≤ 2147483647) : wgt fs = 2147483648 := by
  have h2 := (wgt_bd (fs.take k)).2
  have e : wgt (fs.take k) = 2147483648 := by omega
  have : wgt fs = (fs.drop k).foldl wst (wgt (fs.take k)) := by
    unfold wgt
    rw [← List.foldl_append, List.take_append_drop]
  rw [this, e]
  exact wgt_stay _
set_option maxHeartbeats 4000000 in
set_option maxRecDepth 8000 in
theorem weight_any (a : Option Addr) (n cap : Nat) (fs : List Fl) (w : World) (hp : Fls w a n fs) (hn : n ≤ 140737488351232) (hL : Lens fs) :
    Calls Tryz.prog 35 #[.slice a n cap] w fun e w' => e = .returned (.int .i64 (wgt fs)) ∧ ∃ q, w' = w.drewN q := by
  have HP := hide hp
  clear hp
  go_enter Tryz.func35, Tryz.ntmps35
  go_wp2
  go_loopw [3, 4] (fun c i wr => ∃ k : Nat, k ≤ n ∧ i = .int .i64 k ∧ c = .int .i64 (wgt (fs.take k)) ∧ ∃ q, wr = w.drewN q) (fun _ i _ => n - (Go.RowKit.intOf i).toNat)
  case atStart => exact ⟨0, by omega, rfl, by simp [wgt], 0, rfl⟩
  case round =>
    obtain ⟨k, hkn, rfl, rfl, hq⟩ := hrel
    have HQ := hide hq
    have HR : Hid (Fls wr a n fs) := hide (by obtain ⟨Q, rfl⟩ := hq; exact (unhide HP).below (below_dN (Below.refl _ _) Q))
    clear hq
    have hle := wgt_bd (fs.take k)
    by_cases hlt : k < n
    · by_cases hm : wgt (fs.take k) ≤ 2147483647
      · obtain ⟨p, o, rfl, hpl, hc0, hc1⟩ := (unhide HR).at hlt
        have hnx := hide (wgt_next fs k (by have := (unhide HP).1; omega))
        have hX := hL k
        generalize fs.getD k fl0 = X at *
        obtain ⟨fn, fv⟩ := X
        simp only at hc0 hc1 hX
        generalize wgt (fs.take k) = C at *
        have A1 := hide (fun W => add2_any fn.length fv.length W (by omega) (by omega) (by omega) (by omega))
        have hb1 := addv_bd2 (show (0 : Int) ≤ fn.length by omega) (show (0 : Int) ≤ fv.length by omega)
        have A2 := hide (fun W => add2_any (addv fn.length fv.length) 50 W (by omega) (by omega) (by omega) (by omega))
        have hb2 := wgm_bd (fn, fv)
        have A3 := hide (fun W => add2_any (wgm (fn, fv)) (wgm (fn, fv)) W (by omega) (by omega) (by omega) (by omega))
        have hb3 := addv_bd2 hb2.1 hb2.1
        have A4 := hide (fun W => add2_any C (addv (wgm (fn, fv)) (wgm (fn, fv))) W (by omega) (by omega) (by omega) (by omega))
        have e2 : addv (addv fn.length fv.length) 50 = wgm (fn, fv) := rfl
        rw [e2] at A2
        clear e2
        unfold wst at hnx
        generalize addv C (addv (wgm (fn, fv)) (wgm (fn, fv))) = G at *
        generalize addv (wgm (fn, fv)) (wgm (fn, fv)) = H at *
        generalize wgm (fn, fv) = M at *
        generalize addv fn.length fv.length = D at *
        have hlt' : (k : Int) < (n : Int) := by omega
        clear hX hL hb1 hb2 hb3
        go_wp2_with fail
        have B1 := hide (fun m : Nat => Calls.mono (unhide A1 (wr.drewN m)) (fun e w'' h => (⟨h.1, m, h.2⟩ : e = Ending.returned (Value.int IntKind.i64 D) ∧ ∃ n, w'' = wr.drewN n)))
        have B2 := hide (fun m : Nat => Calls.mono (unhide A2 (wr.drewN m)) (fun e w'' h => (⟨h.1, m, h.2⟩ : e = Ending.returned (Value.int IntKind.i64 M) ∧ ∃ n, w'' = wr.drewN n)))
        clear A1 A2
        go_quiet ((go_at_call 8; with_reducible first | exact unhide B1 _ | exact unhide B2 _))
        have HW : Hid (∃ q, wr.drewN nq = w.drewN q) := hide (by obtain ⟨Q, rfl⟩ := unhide HQ; exact ⟨Q + nq, by simp⟩)
        generalize wr.drewN nq = wv at *
        go_wp2_with fail
        refine (unhide A3 _).mono ?_
        rintro e3 w3 ⟨rfl, hw3⟩
        rw [hw3]
        go_wp2_with fail
        refine (unhide A4 _).mono ?_
        rintro e4 w4 ⟨rfl, hw4⟩
        rw [hw4]
        go_wp2
        refine ⟨⟨k + 1, by omega, by go_num, by rw [unhide hnx], unhide HW⟩, ?_⟩
        simp [Go.RowKit.intOf]; omega
      · have e := wgt_top fs k hm
        have e2 : wgt (fs.take k) = 2147483648 := by omega
        rw [e2]
        clear hm e2 hle
        have he := hide e
        clear e
        go_wp2
        go_ret
        exact ⟨by rw [unhide he]; rfl, unhide HQ⟩
    · have hkn' : k = n := by omega
      have e : fs.take k = fs := List.take_of_length_le (by have := (unhide HP).1; omega)
      rw [e] at hle ⊢
      have hd : decide (k < n) = false := by simp; omega
      generalize hC : wgt fs = C at *
      clear hlt hkn'
      go_wp2
      go_ret
      exact ⟨by rw [hC]; rfl, unhide HQ⟩
theorem fls_dN {w : World} {a : Option Addr} {n : Nat} {fs : List Fl} (h : Fls w a n fs) (q : Nat) : Fls (w.drewN q) a n fs := h.below (below_dN (Below.refl _ _) q)
/-- How much an answer and a message weigh. -/
def tld (hs : List Fl) (b : Bs) : Int := addv (wgt hs) (addv b.length 100)
def siz (m : Ms) : Int := addv (addv m.m.length m.p.length) (addv (wgt m.hs) (addv m.b.length 100))
set_option maxHeartbeats 4000000 in
set_option maxRecDepth 8000 in
theorem told_any (st : Int) (a : Option Addr) (n cap : Nat) (fs : List Fl) (b : Bs) (w : World) (hp : Fls w a n fs) (hn : n ≤ 140737488351232) (hL : Lens fs) (hb : b.length ≤ 140737488351232) :
    Calls Tryz.prog 10 #[.agg #[.int .i64 st, .slice a n cap, S b]] w fun e w' => e = .returned (.int .i64 (tld fs b)) ∧ Below w.heap.size w w' := by
  have b0 := (Below.refl w.heap.size w).alloc (Nat.le_refl _) (.cells #[.int .i64 st, .slice a n cap, S b] 26)
  have x0 : (w.alloc (.cells #[.int .i64 st, .slice a n cap, S b] 26)).heap[w.heap.size]? = some (.cells #[.int .i64 st, .slice a n cap, S b] 26 (0, 0)) := heap_alloc_new _ _
  have HF := hide (fun m => weight_any a n cap fs _ (fls_dN (hp.below b0) m) hn hL)
  have A1 := hide (fun W => add2_any b.length 100 W (by omega) (by omega) (by omega) (by omega))
  have hb1 := addv_bd2 (show (0 : Int) ≤ b.length by omega) (show (0 : Int) ≤ 100 by omega)
  have hb2 := wgt_bd fs
  have A2 := hide (fun W => add2_any (wgt fs) (addv b.length 100) W (by omega) (by omega) (by omega) (by omega))
  have HB := hide b0
  unfold tld
  clear b0 hp hL
  generalize addv (wgt fs) (addv b.length 100) = G at *
  generalize addv b.length 100 = D at *
  generalize wgt fs = H at *
  go_enter Tryz.func10, Tryz.ntmps10
  go_wp2_with fail
  generalize w.alloc (.cells #[.int .i64 st, .slice a n cap, S b] 26) = W1 at *
  have d1 : W1.cell? ⟨w.heap.size, 1, none⟩ = some (.slice a n cap) := cell_of_row W1 _ 1 _ 26 (0, 0) x0
  have d2 : W1.cell? ⟨w.heap.size, 2, none⟩ = some (S b) := cell_of_row W1 _ 2 _ 26 (0, 0) x0
  clear x0
  have B0 := hide (fun m : Nat => Calls.mono (unhide HF m) (fun e w'' h => (⟨h.1, by obtain ⟨q, hq⟩ := h.2; exact ⟨m + q, by rw [hq]; simp⟩⟩ : e = Ending.returned (Value.int IntKind.i64 H) ∧ ∃ n, w'' = W1.drewN n)))
  have B1 := hide (fun m : Nat => Calls.mono (unhide A1 (W1.drewN m)) (fun e w'' h => (⟨h.1, m, h.2⟩ : e = Ending.returned (Value.int IntKind.i64 D) ∧ ∃ n, w'' = W1.drewN n)))
  have B2 := hide (fun m : Nat => Calls.mono (unhide A2 (W1.drewN m)) (fun e w'' h => (⟨h.1, m, h.2⟩ : e = Ending.returned (Value.int IntKind.i64 G) ∧ ∃ n, w'' = W1.drewN n)))
  clear A1 A2 HF
  go_quiet (first | (go_at_call 8; with_reducible first | exact unhide B1 _ | exact unhide B2 _) | (go_at_call 35; with_reducible exact unhide B0 _))
  have HW := hide (below_dN (unhide HB) nq)
  generalize W1.drewN nq = wv at *
  go_wp2
  go_ret
  exact ⟨rfl, unhide HW⟩
set_option maxHeartbeats 4000000 in
set_option maxRecDepth 8000 in
theorem size_any (m : Ms) (a : Option Addr) (n cap : Nat) (w : World) (hp : Fls w a n m.hs) (hn : n ≤ 140737488351232) (hL : Lens m.hs) (h1 : m.m.length ≤ 140737488351232) (h2 : m.p.length ≤ 140737488351232) (hb : m.b.length ≤ 140737488351232) :
    Calls Tryz.prog 9 #[.agg #[S m.m, S m.p, .slice a n cap, S m.b]] w fun e w' => e = .returned (.int .i64 (siz m)) ∧ Below w.heap.size w w' := by
  obtain ⟨mm, mp, fs, b⟩ := m
  simp only at hp hL h1 h2 hb ⊢
  have b0 := (Below.refl w.heap.size w).alloc (Nat.le_refl _) (.cells #[S mm, S mp, .slice a n cap, S b] 24)
  have x0 : (w.alloc (.cells #[S mm, S mp, .slice a n cap, S b] 24)).heap[w.heap.size]? = some (.cells #[S mm, S mp, .slice a n cap, S b] 24 (0, 0)) := heap_alloc_new _ _
  have HF := hide (fun m => weight_any a n cap fs _ (fls_dN (hp.below b0) m) hn hL)
  have A1 := hide (fun W => add2_any b.length 100 W (by omega) (by omega) (by omega) (by omega))
  have hb1 := addv_bd2 (show (0 : Int) ≤ b.length by omega) (show (0 : Int) ≤ 100 by omega)
  have hb2 := wgt_bd fs
  have A2 := hide (fun W => add2_any (wgt fs) (addv b.length 100) W (by omega) (by omega) (by omega) (by omega))
  have hb3 := addv_bd2 hb2.1 hb1.1
  have A3 := hide (fun W => add2_any mm.length mp.length W (by omega) (by omega) (by omega) (by omega))
  have hb4 := addv_bd2 (show (0 : Int) ≤ mm.length by omega) (show (0 : Int) ≤ mp.length by omega)
  have A4 := hide (fun W => add2_any (addv mm.length mp.length) (addv (wgt fs) (addv b.length 100)) W (by omega) (by omega) (by omega) (by omega))
  have HB := hide b0
  unfold siz
  simp only
  clear b0 hp hL
  generalize addv (addv mm.length mp.length) (addv (wgt fs) (addv b.length 100)) = K at *
  generalize addv mm.length mp.length = J at *
  generalize addv (wgt fs) (addv b.length 100) = G at *
  generalize addv b.length 100 = D at *
  generalize wgt fs = H at *
  go_enter Tryz.func9, Tryz.ntmps9
  go_wp2_with fail
  generalize w.alloc (.cells #[S mm, S mp, .slice a n cap, S b] 24) = W1 at *
  have d0 : W1.cell? ⟨w.heap.size, 0, none⟩ = some (S mm) := cell_of_row W1 _ 0 _ 24 (0, 0) x0
  have d1 : W1.cell? ⟨w.heap.size, 1, none⟩ = some (S mp) := cell_of_row W1 _ 1 _ 24 (0, 0) x0
  have d2 : W1.cell? ⟨w.heap.size, 2, none⟩ = some (.slice a n cap) := cell_of_row W1 _ 2 _ 24 (0, 0) x0
  have d3 : W1.cell? ⟨w.heap.size, 3, none⟩ = some (S b) := cell_of_row W1 _ 3 _ 24 (0, 0) x0
  clear x0
  have B0 := hide (fun m : Nat => Calls.mono (unhide HF m) (fun e w'' h => (⟨h.1, by obtain ⟨q, hq⟩ := h.2; exact ⟨m + q, by rw [hq]; simp⟩⟩ : e = Ending.returned (Value.int IntKind.i64 H) ∧ ∃ n, w'' = W1.drewN n)))
  have B1 := hide (fun m : Nat => Calls.mono (unhide A1 (W1.drewN m)) (fun e w'' h => (⟨h.1, m, h.2⟩ : e = Ending.returned (Value.int IntKind.i64 D) ∧ ∃ n, w'' = W1.drewN n)))
  have B2 := hide (fun m : Nat => Calls.mono (unhide A2 (W1.drewN m)) (fun e w'' h => (⟨h.1, m, h.2⟩ : e = Ending.returned (Value.int IntKind.i64 G) ∧ ∃ n, w'' = W1.drewN n)))
  have B3 := hide (fun m : Nat => Calls.mono (unhide A3 (W1.drewN m)) (fun e w'' h => (⟨h.1, m, h.2⟩ : e = Ending.returned (Value.int IntKind.i64 J) ∧ ∃ n, w'' = W1.drewN n)))
  have B4 := hide (fun m : Nat => Calls.mono (unhide A4 (W1.drewN m)) (fun e w'' h => (⟨h.1, m, h.2⟩ : e = Ending.returned (Value.int IntKind.i64 K) ∧ ∃ n, w'' = W1.drewN n)))
  clear A1 A2 A3 A4 HF
  go_quiet (first | (go_at_call 8; with_reducible first | exact unhide B1 _ | exact unhide B2 _ | exact unhide B3 _ | exact unhide B4 _) | (go_at_call 35; with_reducible exact unhide B0 _))
  have HW := hide (below_dN (unhide HB) nq)
  generalize W1.drewN nq = wv at *
  go_wp2
  go_ret
  exact ⟨rfl, unhide HW⟩
end Go.Proofs.YthlacailhfhjnaaGreatDoor
