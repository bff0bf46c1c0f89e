import Derived.Test.YthlacailhfhjnaaGreatDoorWhl
import Derived.Test.YthlacailhfhjnaaGreatDoorWea
import Derived.Test.YthlacailhfhjnaaGreatDoorZwdo
import Derived.Test.YthlacailhfhjnaaGreatDoorWcp
import Derived.BigRegion
namespace Go.Proofs.YthlacailhfhjnaaGreatDoor
open Go.RowKit Go.Lib
theorem fd_sc_err {p : Ps} {s : Bs} {e : Nat} (l : List Ms) (h : sc opM p s = some (.error e)) : fd p s l = (pov, l, e) := by
  induction s generalizing p with
  | nil => cases h
  | cons b s ih =>
    simp only [sc] at h
    simp only [fd]
    split at h
    · rename_i h1
      simp only [Option.some.injEq, Except.error.injEq] at h
      rw [if_pos h1, step_err opM p b h1, h]
    · rename_i h1
      rw [if_neg h1]
      split at h
      · cases h
      · rename_i h2
        rw [if_neg h2]
        exact ih h
theorem fd_sc_ok {p q : Ps} {s t : Bs} (l : List Ms) (h : sc opM p s = some (.ok (q, t))) : fd p s l = fd p0 t (l ++ [q.ms]) := by
  induction s generalizing p with
  | nil => cases h
  | cons b s ih =>
    simp only [sc] at h
    simp only [fd]
    split at h
    · cases h
    · rename_i h1
      rw [if_neg h1]
      split at h
      · rename_i h2
        simp only [Option.some.injEq, Except.ok.injEq, Prod.mk.injEq] at h
        obtain ⟨rfl, rfl⟩ := h
        rw [if_pos h2]
      · rename_i h2
        rw [if_neg h2]
        exact ih h
theorem fd_sc_none {p q : Ps} {s : Bs} (l : List Ms) (h : run opM p s = some q) : fd p s l = (q, l, 0) := by
  have := fd_run h [] l
  rw [List.append_nil] at this
  rw [this]
  rfl
theorem sc_lt {op : Bs → Option Fst} {p q : Ps} {s t : Bs} (h : sc op p s = some (.ok (q, t))) : t.length < s.length := by
  induction s generalizing p with
  | nil => cases h
  | cons b s ih =>
    simp only [sc] at h
    split at h
    · cases h
    · split at h
      · simp only [Option.some.injEq, Except.ok.injEq, Prod.mk.injEq] at h
        obtain ⟨rfl, rfl⟩ := h
        simp
      · have := ih h
        simp
        omega
/-- The document's reader in its box. -/
def RfB (Y : Nat) (T : Bs) (ov : Bool) (w : World) : Prop := w.heap[Y]? = some (.cells #[S T, .bool ov] 86 (0, 0))
/-- It has read what the other one has. -/
def Lk (p : Ps) (T : Bs) (ov : Bool) : Prop := (ov = false ∧ run opM p0 T = some p) ∨ (ov = true ∧ p = pov ∧ T = [])
theorem Lk.rd {p : Ps} {T : Bs} {ov : Bool} (h : Lk p T ov) : p.rd = T.length := by
  rcases h with ⟨_, h⟩ | ⟨_, rfl, rfl⟩
  · have := (run_rd h (by decide)).1
    rw [this]
    show 0 + T.length = _
    omega
  · rfl
theorem box93b (W : World) (cs : Array Value) : ((W.alloc (.cells (gz 0) 93)).setRow W.heap.size cs).heap[W.heap.size]? = some (.cells cs 93 (0, 0)) ∧ Below W.heap.size W ((W.alloc (.cells (gz 0) 93)).setRow W.heap.size cs) := by
  have g := heap_alloc_new W (.cells (gz 0) 93)
  have b := (Below.refl W.heap.size W).alloc (Nat.le_refl _) (.cells (gz 0) 93)
  have b2 : Below W.heap.size W ((W.alloc (.cells (gz 0) 93)).setRow W.heap.size cs) := b.trans ⟨rfl, rfl, rfl, by simp [World.setRow], fun k hk => setRow_other _ W.heap.size k cs (by omega)⟩
  exact ⟨setRow_heap _ W.heap.size _ _ 93 _ g, b2⟩
/-- Between two messages. -/
structure RfS (Y : Nat) (D U : Bs) (L : List (Ms × Value)) (M : Nat → Prop) (V : Value) (w wr : World) : Prop where
  eq : fd p0 D [] = fd p0 U (L.map (·.1))
  le : L.length + U.length ≤ D.length
  mat : MAt V L M wr
  new : ∀ k, M k → w.heap.size ≤ k
  box : RfB Y U false wr
  low : Y < w.heap.size
  only : Only (fun k => k = Y) w wr
theorem RfS.below {Y : Nat} {D U : Bs} {L : List (Ms × Value)} {M : Nat → Prop} {V : Value} {w wr w' : World} (h : RfS Y D U L M V w wr) (hb : Below wr.heap.size wr w') : RfS Y D U L M V w w' :=
  ⟨h.eq, h.le, h.mat.keep (Only.of_below (P := fun _ => False) hb) (fun _ _ q => q), h.new, (hb.block _ (lt_of_row h.box)).trans h.box, h.low, h.only.trans (Only.of_below (P := fun _ => False) hb) (fun _ _ q => q.elim)⟩
/-- The document's reader is written over. -/
theorem RfS.set {Y : Nat} {D U : Bs} {L : List (Ms × Value)} {M : Nat → Prop} {V : Value} {w wr : World} (h : RfS Y D U L M V w wr) {w' : World} (ho : Only (fun k => k = Y) wr w') : MAt V L M w' ∧ Only (fun k => k = Y) w w' :=
  ⟨h.mat.keep ho (fun k hk e => by have := h.new k hk; have := h.low; omega), h.only.trans ho (fun _ _ q => q)⟩
/-- What is said. -/
structure RfT (Y : Nat) (p : Ps) (s : Bs) (n : Nat) (V : Value) (w w' : World) : Prop where
  mat : ∃ L M, (feed p s).2.1 = L.map (·.1) ∧ MAt V L M w' ∧ ∀ k, M k → w.heap.size ≤ k
  box : ∃ T ov, RfB Y T ov w' ∧ Lk (feed p s).1 T ov ∧ T.length ≤ n
  only : Only (fun k => k = Y) w w'
def szS (Y : Nat) (w : World) : Nat := match w.cell? ⟨Y, 0, none⟩ with
  | some (.string b) => b.size
  | _ => 0
theorem szS_of {Y : Nat} {T : Bs} {ov : Bool} {w : World} (h : RfB Y T ov w) : szS Y w = T.length := by
  have : w.cell? ⟨Y, 0, none⟩ = some (S T) := cell_of_row w Y 0 _ 86 (0, 0) h
  simp [szS, this, S, ByteArray.size]
set_option maxHeartbeats 16000000 in
set_option maxRecDepth 8000 in
theorem refFeed_any (Y : Nat) (p : Ps) (T s : Bs) (ov : Bool) (w : World) (h : RfB Y T ov w) (hl : Lk p T ov) (hs : T.length + s.length ≤ 1000000000000) :
    Calls Tryz.prog 22 #[ptr Y, S s] w fun e w' => ∃ V, e = .returned (.tuple #[V, .int .i64 (feed p s).2.2]) ∧ RfT Y p s (T.length + s.length) V w w' := by
  have c0 : w.cell? ⟨Y, 0, none⟩ = some (S T) := cell_of_row w Y 0 _ 86 (0, 0) h
  have c1 : w.cell? ⟨Y, 1, none⟩ = some (.bool ov) := cell_of_row w Y 1 _ 86 (0, 0) h
  have hY := lt_of_row h
  rcases hl with ⟨rfl, hl⟩ | ⟨rfl, rfl, rfl⟩
  · have e0 : feed p s = fd p0 (T ++ s) [] := by
      unfold feed
      rw [if_neg (by have := (run_rd hl (by decide)).2; omega), fd_run hl]
    have f0 : w.frozen? ⟨Y, 0, none⟩ = false := frozen_of_heap h 0
    have hst := heap_setCell_same w Y 0 _ 86 (S (T ++ s)) h
    have HS0 := hide (show RfS Y (T ++ s) (T ++ s) [] (fun _ => False) (.slice none 0 0) w (w.setCell ⟨Y, 0, none⟩ (S (T ++ s))) from ⟨rfl, by simp, MAt.nil _, fun _ q => q.elim, hst, hY, (Only.refl _ w).put _ _ (.inl rfl)⟩)
    have hD : (T ++ s).length ≤ 1000000000000 := by simp; omega
    have hDn : (T ++ s).length = T.length + s.length := by simp
    have HE := hide (And.intro e0 (And.intro h hDn))
    have happ := ba_append T s
    have hTs : T.length ≤ 1000000000000 := by omega
    have hss : s.length ≤ 1000000000000 := by omega
    clear h hst hl e0 hDn
    go_enter Tryz.func22, Tryz.ntmps22
    go_wp2
    clear c0 c1 f0 happ hY hs hTs hss
    generalize T ++ s = D at *
    go_loopw [6] (fun V wr => ∃ U L M, RfS Y D U L M V w wr) (fun _ wr => szS Y wr)
    case atStart => exact ⟨_, _, _, unhide HS0⟩
    case round =>
    clear HS0
    obtain ⟨U, L, M, hi⟩ := hrel
    have d0 : wr.cell? ⟨Y, 0, none⟩ = some (S U) := cell_of_row wr Y 0 _ 86 (0, 0) hi.box
    have HR := hide (rread_any U false wr (by have := hi.le; omega))
    have HI := hide hi
    clear hi
    go_wp2_with fail
    refine (unhide HR).mono ?_
    rintro r W2 ⟨hr, b2⟩
    have hr0 : RdR (sc opM p0 U) U wr r W2 := hr
    clear hr HR d0
    have HI2 := hide ((unhide HI).below b2)
    have HZ := hide b2.size
    clear b2
    cases hsc : sc opM p0 U with
    | none =>
      rw [hsc] at hr0
      have hr' : r = .returned (.agg (gz 0)) := hr0
      subst hr'
      obtain ⟨q, hq⟩ := sc_none hsc
      obtain ⟨g3, B3⟩ := box93b W2 (gz 0)
      have HI3 := hide ((unhide HI2).below B3)
      have HQ := hide hq
      clear hr0 hsc B3 hq HI2 HI
      go_upto_region 6 with (refine wp_st93 rfl (.tmp 7) (.tmp 25) rfl W2.heap.size (by rfl) [] [] 0 none 0 0 [] 0 false 0 (by rfl) (heap_alloc_new W2 (.cells (gz 0) 93)) ?_)
      change Code.wp _ _ _ _ ((W2.alloc (.cells (gz 0) 93)).setRow W2.heap.size (gz 0))
      generalize (W2.alloc (.cells (gz 0) 93)).setRow W2.heap.size (gz 0) = W3 at *
      obtain ⟨r0, r1, r2, r3, r4, r5, r6, r7⟩ := row8 g3
      clear g3
      go_wp2
      go_ret2
      obtain ⟨e0, hbox, hDn⟩ := unhide HE
      have hi := unhide HI3
      have hfd : feed p s = (q, L.map (·.1), 0) := by rw [e0, hi.eq, fd_sc_none _ (unhide HQ)]
      rw [hfd]
      exact ⟨_, rfl, ⟨L, M, by rw [hfd], hi.mat, hi.new⟩, ⟨U, false, hi.box, by rw [hfd]; exact .inl ⟨rfl, unhide HQ⟩, by have := hi.le; omega⟩, hi.only⟩
    | some o =>
      cases o with
      | error e =>
        rw [hsc] at hr0
        have hr' : r = .returned (.agg (gz (e : Nat))) := hr0
        subst hr'
        have he := sc_err hsc
        have hei : (((e : Nat) : Int) != 0) = true := by rw [bne_iff_ne]; omega
        have HQ := hide hsc
        obtain ⟨g3, B3⟩ := box93b W2 (gz (e : Nat))
        have HI3 := hide ((unhide HI2).below B3)
        clear hr0 hsc B3 HI2 HI
        go_upto_region 6 with (refine wp_st93 rfl (.tmp 7) (.tmp 25) rfl W2.heap.size (by rfl) [] [] 0 none 0 0 [] 0 false (e : Nat) (by rfl) (heap_alloc_new W2 (.cells (gz 0) 93)) ?_)
        change Code.wp _ _ _ _ ((W2.alloc (.cells (gz 0) 93)).setRow W2.heap.size (gz (e : Nat)))
        generalize (W2.alloc (.cells (gz 0) 93)).setRow W2.heap.size (gz (e : Nat)) = W3 at *
        obtain ⟨r0, r1, r2, r3, r4, r5, r6, r7⟩ := row8 g3
        have hY3 := (unhide HI3).box
        have y0 : W3.cell? ⟨Y, 0, none⟩ = some (S U) := cell_of_row W3 Y 0 _ 86 (0, 0) hY3
        have y1 : W3.cell? ⟨Y, 1, none⟩ = some (.bool false) := cell_of_row W3 Y 1 _ 86 (0, 0) hY3
        have q0 : W3.frozen? ⟨Y, 0, none⟩ = false := frozen_of_heap hY3 0
        have q1 : W3.frozen? ⟨Y, 1, none⟩ = false := frozen_of_heap hY3 1
        have h4 := heap_setCell_same W3 Y 1 _ 86 (.bool true) hY3
        have h5 := heap_setCell_same _ Y 0 _ 86 (S []) h4
        have HF := hide (show RfB Y [] true ((W3.setCell ⟨Y, 1, none⟩ (.bool true)).setCell ⟨Y, 0, none⟩ (.string ⟨#[]⟩)) from h5)
        have HO := hide (show Only (fun k => k = Y) W3 ((W3.setCell ⟨Y, 1, none⟩ (.bool true)).setCell ⟨Y, 0, none⟩ (.string ⟨#[]⟩)) from ((Only.refl (fun k => k = Y) W3).put ⟨Y, 1, none⟩ _ (.inl rfl)).put ⟨Y, 0, none⟩ _ (.inl rfl))
        have hne : Y ≠ W2.heap.size := by have := (unhide HI3).low; have := (unhide HI3).only.size; intro q; rw [q] at hY3; rw [hY3] at g3; cases g3
        clear g3 hY3 h4 h5
        go_wp2_with fail
        go_region
        go_wp2
        go_ret2
        obtain ⟨e0, hbox, hDn⟩ := unhide HE
        have hi := unhide HI3
        have hfd : feed p s = (pov, L.map (·.1), e) := by rw [e0, hi.eq, fd_sc_err _ (unhide HQ)]
        rw [hfd]
        have hO := hi.set (unhide HO)
        exact ⟨_, rfl, ⟨L, M, by rw [hfd], hO.1.keep (Only.drew (fun _ => False) _) (fun _ _ q => q), hi.new⟩, ⟨[], true, unhide HF, by rw [hfd]; exact .inr ⟨rfl, rfl, rfl⟩, by simp⟩, hO.2.trans (Only.drew (fun _ => False) _) (fun _ _ q => q.elim)⟩
      | ok qt =>
        obtain ⟨q, t⟩ := qt
        rw [hsc] at hr0
        obtain ⟨hv, hr', hrow, hnew, ht⟩ := (show ∃ hv, r = .returned (.agg (gcs q.fs.m q.fs.p (q.fs.s : Nat) hv q.bd (q.rd : Nat) true 0)) ∧ W2.ownsRow 0 35 2 hv q.hs.length (cellsF q.hs) ∧ (∀ k, hv.ownBlock = some k → wr.heap.size ≤ k) ∧ t = U.drop q.rd from hr0)
        subst hr'
        have hrd : q.rd ≤ U.length := by
          have := sc_rd (by decide) hsc
          have e0 : p0.rd = 0 := rfl
          omega
        have hlt := sc_lt hsc
        have heq := fd_sc_ok (L.map (·.1)) hsc
        obtain ⟨hq, hc, hvE⟩ := owns_form hrow
        subst hvE
        obtain ⟨g3, B3⟩ := box93b W2 (gcs q.fs.m q.fs.p (q.fs.s : Nat) (.slice hq q.hs.length hc) q.bd (q.rd : Nat) true 0)
        have row3 := owns_same (w' := (W2.alloc (.cells (gz 0) 93)).setRow W2.heap.size (gcs q.fs.m q.fs.p (q.fs.s : Nat) (.slice hq q.hs.length hc) q.bd (q.rd : Nat) true 0)) hrow (fun k hk => by
          obtain ⟨cs, e⟩ := owns_lt hrow k hk
          exact B3.block k (lt_of_row e))
        have HI3 := hide ((unhide HI2).below B3)
        have HQ := hide (And.intro heq (And.intro hlt (And.intro hnew ht)))
        clear hr0 hsc B3 HI2 heq hlt hnew ht hrow
        go_upto_region 6 with (refine wp_st93 rfl (.tmp 7) (.tmp 25) rfl W2.heap.size (by rfl) q.fs.m q.fs.p (q.fs.s : Nat) hq q.hs.length hc q.bd (q.rd : Nat) true 0 (by rfl) (heap_alloc_new W2 (.cells (gz 0) 93)) ?_)
        change Code.wp _ _ _ _ ((W2.alloc (.cells (gz 0) 93)).setRow W2.heap.size (gcs q.fs.m q.fs.p (q.fs.s : Nat) (.slice hq q.hs.length hc) q.bd (q.rd : Nat) true 0))
        generalize (W2.alloc (.cells (gz 0) 93)).setRow W2.heap.size (gcs q.fs.m q.fs.p (q.fs.s : Nat) (.slice hq q.hs.length hc) q.bd (q.rd : Nat) true 0) = W3 at *
        obtain ⟨r0, r1, r2, r3, r4, r5, r6, r7⟩ := row8 g3
        have hY3 := (unhide HI3).box
        have y0 : W3.cell? ⟨Y, 0, none⟩ = some (S U) := cell_of_row W3 Y 0 _ 86 (0, 0) hY3
        have q0 : W3.frozen? ⟨Y, 0, none⟩ = false := frozen_of_heap hY3 0
        have hne : Y ≠ W2.heap.size := by intro q; rw [q] at hY3; rw [hY3] at g3; cases g3
        have hX : (ByteArray.mk U.toArray).extract q.rd U.length = ⟨(U.drop q.rd).toArray⟩ := by rw [extract_eq, List.take_of_length_le (by simp)]
        have hle : ((q.rd : Nat) : Int) ≤ (U.length : Int) := by omega
        have hst := heap_setCell_same W3 Y 0 _ 86 (S (U.drop q.rd)) hY3
        have HST := hide hst
        have H3 := hide (And.intro row3 hY3)
        clear hY3 hst row3 g3
        go_wp2_with fail
        go_region
        obtain ⟨W4, hW4⟩ : ∃ W4, W4 = (W3.setCell ⟨Y, 0, none⟩ (.string ⟨(List.drop q.rd U).toArray⟩)).drew := ⟨_, rfl⟩
        have hO4 : Only (fun k => k = Y) W3 W4 := by rw [hW4]; exact ((Only.refl (fun k => k = Y) W3).put ⟨Y, 0, none⟩ _ (.inl rfl)).trans (Only.drew (fun _ => False) _) (fun _ _ q => q.elim)
        have b4 : RfB Y (U.drop q.rd) false W4 := by rw [hW4]; exact unhide HST
        have c4' : ∀ j, W4.cell? ⟨W2.heap.size, j, none⟩ = W3.cell? ⟨W2.heap.size, j, none⟩ := fun j => World.cell?_of_block (hO4.block _ (by exact blk_lt r0) (Ne.symm hne))
        have row4 := owns_same (w' := W4) (unhide H3).1 (fun k hk => by
          obtain ⟨cs, e⟩ := owns_lt (unhide H3).1 k hk
          exact hO4.block k (lt_of_row e) (fun q => by subst q; rw [(unhide H3).2] at e; cases e))
        have hi4 := (unhide HI3).set hO4
        have x0 := (c4' 0).trans r0
        have x1 := (c4' 1).trans r1
        have x3 := (c4' 3).trans r3
        have x4 := (c4' 4).trans r4
        rw [← hW4]
        have HK := hide (And.intro hi4 (And.intro b4 row4))
        have hM4 := hide (And.intro hO4.size (unhide HZ))
        clear hi4 b4 row4 hO4 c4' hW4 r0 r1 r2 r3 r4 r5 r6 r7 y0 q0 HST H3
        have hln : L.length + 1 ≤ 1000000000000 := by have := (unhide HI3).le; have := (unhide HQ).2.1; omega
        go_wp2_with (at_builtin; refine wp_appM rfl (.tmp 52) (.tmp 62) rfl (by rfl) (by rfl) ((unhide HK).1.1.keep (Only.of_below (P := fun _ => False) ((Below.refl _ W4).alloc (Nat.le_refl _) _)) (fun _ _ q => q)) (mat_one (z := q.ms) (unhide HK).2.2) ?_ (by simp; omega) ?_)
        · intro k hk
          have h1 := (unhide HI).mat.lt k hk
          rintro (rfl | q)
          · exact Nat.lt_irrefl _ ((unhide HK).1.1.lt _ hk)
          · have := (unhide HQ).2.2.1 k q
            omega
        · intro V5 M5 w5 m1 m2 m3
          have hi := unhide HI
          obtain ⟨heq, hlt, hnew, ht⟩ := unhide HQ
          obtain ⟨⟨k1, k2⟩, k3, k4⟩ := unhide HK
          have hwW : w.heap.size ≤ W4.heap.size := k2.size
          have hlow : Y < w.heap.size := hi.low
          have hY4 : Y < W4.heap.size := by omega
          have hMY : ¬ M Y := fun q => by have := hi.new Y q; omega
          have hmw := hi.only.size
          have box5 : RfB Y t false w5 := by
            rw [ht]
            exact (m2.block Y (by simp; omega) hMY).trans ((heap_alloc_old W4 _ hY4).trans k3)
          have on5 : Only (fun k => k = Y) w w5 := (k2.trans (Only.of_below (P := fun _ => False) ((Below.refl _ W4).alloc (Nat.le_refl _) _)) (fun _ _ q => q.elim)).trans m2 (fun k hk q => by have := hi.new k q; omega)
          have HR := hide (show RfS Y D t (L ++ [(q.ms, .slice hq q.ms.hs.length hc)]) M5 V5 w w5 from ⟨by rw [hi.eq, heq]; simp, by have := hi.le; simp; omega, m1, fun k hk => by
            rcases m3 k hk with q | (q | q) | q
            · exact hi.new k q
            · omega
            · have := hnew k q; omega
            · have q2 : W4.heap.size + 1 ≤ k := by simpa using q
              omega, box5, hlow, on5⟩)
          have HS := hide (show szS Y w5 < szS Y wr by rw [szS_of box5, szS_of hi.box]; exact hlt)
          clear m1 m2 m3 hi heq hlt hnew ht k1 k2 k3 k4 hwW hlow hY4 hMY box5 on5 hmw HK HI HQ HI3
          go_wp2
          exact ⟨⟨_, _, _, unhide HR⟩, unhide HS⟩
  · have e0 : feed pov s = (pov, [], 54) := rfl
    rw [e0]
    have HH := hide h
    clear h c0
    go_enter Tryz.func22, Tryz.ntmps22
    go_wp2
    go_ret2
    exact ⟨_, rfl, ⟨[], fun _ => False, rfl, MAt.nil _, fun _ q => q.elim⟩, ⟨[], true, unhide HH, .inr ⟨rfl, rfl, rfl⟩, by simp⟩, Only.refl _ _⟩
end Go.Proofs.YthlacailhfhjnaaGreatDoor
