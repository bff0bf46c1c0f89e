import Derived.Test.YthddilflldkmfaaDoorRda
import Derived.Test.YthddilflldkmfaaDoorItma
namespace Go.Proofs.YthddilflldkmfaaDoor
open Go.RowKit Go.Lib
structure Ro.Fit (x : Ro) : Prop where
  b0 : i64 x.kd
  b1 : i64 x.on
  b2 : i64 x.sz
  b3 : i64 x.nn
/-- Between two steps. -/
structure Lp (w : World) (B G Y : Nat → Nat) (gr gy : Nat) (R : Nat → List UInt8) (E : Nat → Nat) (W : World) : Prop where
  two : Two B G Y gr gy R E W
  len : ∀ k, k < 2 → (R k).length ≤ 9223372036854775807
  lay : Lay W
  from_ : Below w.heap.size w W
theorem Lp.below {w W W' : World} {B G Y : Nat → Nat} {gr gy : Nat} {R : Nat → List UInt8} {E : Nat → Nat} (h : Lp w B G Y gr gy R E W) (hb : Below W.heap.size W W') : Lp w B G Y gr gy R E W' :=
  ⟨h.two.below hb, h.len, h.lay.below hb, h.from_.trans (hb.mono h.from_.size)⟩
theorem Lp.step {w W W' : World} {B G Y : Nat → Nat} {gr gy : Nat} {R : Nat → List UInt8} {E : Nat → Nat} (h : Lp w B G Y gr gy R E W) (ap : Apt B G Y gr gy) (hpos : 0 < w.heap.size) (hhi : ∀ k, k < 2 → w.heap.size ≤ B k ∧ w.heap.size ≤ Y k) (k : Nat) (hk : k < 2) {R' : List UInt8} {E' : Nat} (hl : R'.length ≤ (R k).length)
    (hr : ∃ off cap, RAt (B k) (G k) off cap R' E' W') (hy : YAt (Y k) R' E' W') (ho : Only (fun x => x = B k ∨ x = Y k) W W') : Lp w B G Y gr gy (put1 R k R') (put1 E k E') W' := by
  have h1 := hhi k hk
  refine ⟨h.two.step ap k hk hr hy ho, fun i hi => ?_, h.lay.keep ho (by omega), ho.below h.from_ h.from_.size (by rintro x (q | q) <;> omega)⟩
  unfold put1
  split
  · have := h.len k hk
    omega
  · exact h.len i hi
set_option maxHeartbeats 4000000 in
set_option maxRecDepth 8000 in
theorem reads_walk (s t : List UInt8) (a : Option Addr) (n cap : Nat) (os : List Ro) (w : World) (hp : Ros w a n os) (hn : n ≤ 140737488351232) (hps : ∀ j, (os.getD j ro0).s.length ≤ 140737488351232) (hF : ∀ j, (os.getD j ro0).Fit) (hg : Lay w) (hs : s.length ≤ 9223372036854775807) (ht : t.length ≤ 9223372036854775807) :
    Calls Tryd.prog 4 #[.string ⟨s.toArray⟩, .string ⟨t.toArray⟩, .slice a n cap] w fun e w' => e = .returned (.bool true) ∧ Below w.heap.size w w' := by
  have HP := hide hp
  have HZ := hide (size_any a n cap os w hp hn hps)
  have HF := hide hF
  have HG := hide hg
  have z1 := szo_le os
  have z2 := addN_bd s.length t.length
  have HA1 := hide (fun W => add_any s.length t.length W (by omega) (by omega))
  have HA2 := hide (fun W => add_any (szo os) (addN s.length t.length) W (by omega) (by omega))
  clear hp hF hg hps
  generalize addN (szo os) (addN s.length t.length) = A at *
  generalize addN s.length t.length = A1 at *
  generalize szo os = A0 at *
  by_cases hA : 2147483647 < A
  · have hA' : (2147483647 : Int) < (A : Int) := by omega
    go_enter Tryd.func4, Tryd.ntmps4
    go_wp2_with fail
    refine (unhide HZ).mono ?_
    rintro e w1 ⟨rfl, hb1⟩
    have HB1 := hide hb1
    clear hb1
    go_wp2_with fail
    refine (unhide HA1 _).mono ?_
    rintro e w1' ⟨rfl, rfl⟩
    go_wp2_with fail
    refine (unhide HA2 _).mono ?_
    rintro e w1' ⟨rfl, rfl⟩
    go_wp2
    go_ret
    exact ⟨rfl, unhide HB1⟩
  · have hA' : ¬ (2147483647 : Int) < (A : Int) := by omega
    go_enter Tryd.func4, Tryd.ntmps4
    go_wp2_with fail
    refine (unhide HZ).mono ?_
    rintro e w1 ⟨rfl, hb1⟩
    have HB1 := hide hb1
    clear hb1
    go_wp2_with fail
    refine (unhide HA1 _).mono ?_
    rintro e w1' ⟨rfl, rfl⟩
    go_wp2_with fail
    refine (unhide HA2 _).mono ?_
    rintro e w1' ⟨rfl, rfl⟩
    clear HZ HA1 HA2 z1 z2
    go_wp2_with fail
    refine (awake_any _).mono ?_
    rintro e w2 ⟨rfl, hb2⟩
    have HB2 := hide ((unhide HB1).trans (hb2.mono (unhide HB1).size))
    clear HB1 hb2
    go_wp2_with fail
    refine (newreader_any s w2).mono ?_
    rintro e w3 ⟨b0, g0, c0, rfl, h1, _, r0, k3⟩
    have R0 := hide (And.intro h1 (And.intro r0 k3))
    clear h1 r0 k3
    go_wp2_with fail
    refine (newreader_any t w3).mono ?_
    rintro e w4 ⟨b1, g1, c1, rfl, h3, h4, r1, k4⟩
    have R1 := hide (And.intro h3 (And.intro h4 (And.intro r1 k4)))
    clear h3 h4 r1 k4
    go_wp2_with fail
    refine (ynew_any s _).mono ?_
    rintro e w6 ⟨rfl, q0, k6⟩
    have R2 := hide (And.intro q0 k6)
    clear q0 k6
    go_wp2_with fail
    refine (ynew_any t w6).mono ?_
    rintro e w7 ⟨rfl, q1, k7⟩
    have ht8 := (two_new (unhide R0).1 (unhide R0).2.1 (unhide R0).2.2 (unhide R1).1 (unhide R1).2.1 (unhide R1).2.2.1 (unhide R1).2.2.2 (unhide R2).1 (unhide R2).2 q1 k7)
    rw [show (w4.alloc (.cells #[.pointer (some ⟨b0, 0, none⟩), .pointer (some ⟨b1, 0, none⟩)] 43)).heap.size = w4.heap.size + 1 from by simp] at ht8
    have c0 : (w7.alloc (.cells #[.pointer (some ⟨w4.heap.size + 1, 0, none⟩), .pointer (some ⟨w6.heap.size, 0, none⟩)] 46)).cell? ⟨w4.heap.size, 0, none⟩ = some (.pointer (some ⟨b0, 0, none⟩)) := ht8.2.1.cr 0 (by decide)
    have c1 : (w7.alloc (.cells #[.pointer (some ⟨w4.heap.size + 1, 0, none⟩), .pointer (some ⟨w6.heap.size, 0, none⟩)] 46)).cell? ⟨w4.heap.size, 1, none⟩ = some (.pointer (some ⟨b1, 0, none⟩)) := ht8.2.1.cr 1 (by decide)
    have HT := hide ht8
    clear q1 k7 R0 R1 R2 ht8
    go_wp2
    obtain ⟨ap, tw, hi, hb8⟩ := unhide HT
    clear c0 c1 HT
    generalize w7.alloc (.cells #[.pointer (some ⟨w4.heap.size + 1, 0, none⟩), .pointer (some ⟨w6.heap.size, 0, none⟩)] 46) = w8 at *
    generalize w4.heap.size = gr at *
    generalize w7.heap.size = gy at *
    have hbw := (unhide HB2).trans (hb8.mono (unhide HB2).size)
    have hhi : ∀ k, k < 2 → w.heap.size ≤ duo b0 b1 k ∧ w.heap.size ≤ duo (gr + 1) w6.heap.size k := fun k hk => by
      have h1 := hi k hk
      have h2 := (unhide HB2).size
      omega
    clear hi hb8 HB2
    obtain ⟨B, hB⟩ : ∃ B, duo b0 b1 = B := ⟨_, rfl⟩
    obtain ⟨G, hG⟩ : ∃ G, duo g0 g1 = G := ⟨_, rfl⟩
    obtain ⟨Y, hY⟩ : ∃ Y, duo (gr + 1) w6.heap.size = Y := ⟨_, rfl⟩
    have eB0 : B 0 = b0 := by rw [← hB]; rfl
    have eB1 : B 1 = b1 := by rw [← hB]; rfl
    rw [hB, hG, hY] at ap tw
    rw [hB, hY] at hhi
    have HLP := hide (show Lp w B G Y gr gy (duo s t) (fun _ => 0) w8 from ⟨tw, fun k _ => by unfold duo; split <;> assumption, (unhide HG).below hbw, hbw⟩)
    have AP := hide ap
    have HH := hide hhi
    have HPOS := hide (unhide HG).pos
    clear ap tw hhi hbw hB hG hY HG
    go_loopw [10] (fun i wr => ∃ (j : Nat) (R : Nat → List UInt8) (E : Nat → Nat), j ≤ n ∧ i = .int .i64 j ∧ Lp w B G Y gr gy R E wr) (fun i _ => n - (Go.RowKit.intOf i).toNat)
    case atStart => exact ⟨0, _, _, by omega, rfl, unhide HLP⟩
    case round =>
      clear HLP
      obtain ⟨j, R, E, hj, rfl, hlp⟩ := hrel
      by_cases hlt : j < n
      · have hlt' : (j : Int) < (n : Int) := by omega
        obtain ⟨p, o, rfl, hpl, hro⟩ := ((unhide HP).below hlp.from_).at hlt
        have hfit := unhide HF j
        obtain ⟨x, hx⟩ : ∃ x, os.getD j ro0 = x := ⟨_, rfl⟩
        rw [hx] at hro hfit
        have HLP := hide hlp
        have d0 := hro.c0
        have d1 := hro.c1
        have d2 := hro.c2
        have d3 := hro.c3
        have d4 := hro.c4
        have d5 := hro.c5
        clear hlp hro hx
        go_wp2_with fail
        refine (pick_any x.on 2 _ hfit.b1.1 hfit.b1.2 (by decide) (by decide)).mono ?_
        rintro e w9 ⟨rfl, rfl⟩
        have hk := pk_lt x.on 2 (by decide)
        generalize pk x.on 2 = k at *
        have hb9 : Below wr.heap.size wr (wr.alloc (.cells #[.int .i64 x.kd, .int .i64 x.on, .int .i64 x.sz, .int .i64 x.nn, .string ⟨x.s.toArray⟩, .slice x.lp x.ln x.lc] 33)) := (Below.refl _ _).alloc (Nat.le_refl _) _
        have hc9 : (wr.alloc (.cells #[.int .i64 x.kd, .int .i64 x.on, .int .i64 x.sz, .int .i64 x.nn, .string ⟨x.s.toArray⟩, .slice x.lp x.ln x.lc] 33)).heap[wr.heap.size]? = some (.cells #[.int .i64 x.kd, .int .i64 x.on, .int .i64 x.sz, .int .i64 x.nn, .string ⟨x.s.toArray⟩, .slice x.lp x.ln x.lc] 33 (0, 0)) := by
          show (wr.heap.push _)[wr.heap.size]? = _
          simp
        have HLP9 := hide ((unhide HLP).below hb9)
        have hub := (unhide HLP).two.ltb k hk
        have huy := (unhide HLP).two.ltY k hk
        clear HLP hb9 d0 d1 d2 d3 d4 d5
        generalize wr.alloc (.cells #[.int .i64 x.kd, .int .i64 x.on, .int .i64 x.sz, .int .i64 x.nn, .string ⟨x.s.toArray⟩, .slice x.lp x.ln x.lc] 33) = w9 at *
        generalize wr.heap.size = u at *
        have HLP := HLP9
        clear HLP9
        have hru : RoAt w9 u 0 x := ⟨by rw [cell_of_row _ _ _ _ _ _ hc9]; rfl, by rw [cell_of_row _ _ _ _ _ _ hc9]; rfl, by rw [cell_of_row _ _ _ _ _ _ hc9]; rfl, by rw [cell_of_row _ _ _ _ _ _ hc9]; rfl, by rw [cell_of_row _ _ _ _ _ _ hc9]; rfl, by rw [cell_of_row _ _ _ _ _ _ hc9]; rfl⟩
        have d0 := hru.c0
        have HU := hide (And.intro (lt_of_row hc9) (And.intro (show u ≠ B k by omega) (And.intro (show u ≠ Y k by omega) hru)))
        clear hc9 hru hub huy
        by_cases e1 : x.kd = 1
        · rw [e1] at d0
          go_wp2_with fail
          have HX1 := hide (fun (W : World) (off cp : Nat) (h : RAt (B k) (G k) off cp (R k) (E k) W) => rnum_any (B k) (G k) off cp (R k) (E k) x.sz W h (by have := (unhide HLP).len k hk; omega))
          have HX2 := hide (fun (W : World) (h : YAt (Y k) (R k) (E k) W) => ynum_any (Y k) (R k) (E k) x.sz W h)
          have hle := rGo_len (R k) (E k) (rNumE x.sz (R k)) (x.sz.toNat)
          generalize (rGo (R k) (E k) (rNumE x.sz (R k)) (x.sz.toNat)).1 = R' at *
          generalize (rGo (R k) (E k) (rNumE x.sz (R k)) (x.sz.toNat)).2 = E' at *
          generalize (if fine (E k) (rNumE x.sz (R k)) then (nat ((R k).take x.sz.toNat) : Int) else 0) = v at *
          refine rgn gr gy k u (B k) (Y k) x.sz v rfl rfl rfl _ _ (show 80 ≤ 184 from by decide) rfl rfl rfl rfl (WdD (B k) (G k) (Y k) (R k) R' (E k) E' w9) ?h0 ?hp hk hk ?l3 ?l10 ?l5 ?l12 ?c6 ?c13 ?_
          case h0 => exact ⟨by obtain ⟨o, c, q⟩ := (unhide HLP).two.rd k hk; exact ⟨o, c, q.keep (P := fun _ => False) (Only.drew _ _) (fun q => q) (fun q => q)⟩, ((unhide HLP).two.yd k hk).keep (P := fun _ => False) (Only.drew _ _) (fun q => q), Only.drew _ _⟩
          case hp => exact fun i hi L W hW => hW.pure i (by intro e; subst e; simp at hi) (by intro e; subst e; simp at hi)
          case l3 =>
            intro L W hW
            rw [hW.cell (unhide HLP).two.ltr (Ne.symm ((unhide AP).br k hk).1) (Ne.symm ((unhide AP).yr k hk).1), Nat.zero_add]
            exact (unhide HLP).two.cr k hk
          case l10 =>
            intro L W hW
            rw [hW.cell (unhide HLP).two.lty (Ne.symm ((unhide AP).br k hk).2) (Ne.symm ((unhide AP).yr k hk).2), Nat.zero_add]
            exact (unhide HLP).two.cy k hk
          case l5 =>
            intro L W hW
            rw [hW.cell (unhide HU).1 (unhide HU).2.1 (unhide HU).2.2.1]
            exact (unhide HU).2.2.2.c2
          case l12 =>
            intro L W hW
            rw [hW.cell (unhide HU).1 (unhide HU).2.1 (unhide HU).2.2.1]
            exact (unhide HU).2.2.2.c2
          case c6 =>
            intro L W hW h6
            obtain ⟨off, cp, q⟩ := hW.1
            rw [h6] at q
            exact (unhide HX1 W off cp q).mono (fun e w' h => ⟨h.1, hW.call1 ((unhide AP).bY k k hk hk) h.2⟩)
          case c13 =>
            intro L W hW h13
            have q := hW.2.1
            rw [h13] at q
            exact (unhide HX2 W q).mono (fun e w' h => ⟨h.1, hW.call2 ((unhide AP).bY k k hk hk) ((unhide AP).yg k k hk hk) h.2⟩)
          intro L W hall hW
          have h6 := hall 6 (by decide)
          have h13 := hall 13 (by decide)
          unfold WdD at hW
          rw [h6, h13] at hW
          have HLQ := hide ((unhide HLP).step (unhide AP) (unhide HPOS) (unhide HH) k hk hle hW.1 hW.2.1 hW.2.2)
          clear hW HX1 HX2 h6 h13 hall
          simp only [put_list, List.set_cons_succ, List.set_cons_zero]
          go_wp2
          refine ⟨⟨j + 1, _, _, by omega, by go_num, unhide HLQ⟩, ?_⟩
          simp [Go.RowKit.intOf]; omega
        by_cases e2 : x.kd = 2
        · rw [e2] at d0
          go_wp2_with fail
          have HX1 := hide (fun (W : World) (off cp : Nat) (h : RAt (B k) (G k) off cp (R k) (E k) W) => rtext_any (B k) (G k) off cp (R k) (E k) x.nn W h (by have := (unhide HLP).len k hk; omega))
          have HX2 := hide (fun (W : World) (h : YAt (Y k) (R k) (E k) W) => ytext_any (Y k) (R k) (E k) x.nn W h (by have := (unhide HLP).len k hk; omega))
          have hle := rGo_len (R k) (E k) (rTextE x.nn (R k)) (rTextK x.nn (R k))
          generalize (rGo (R k) (E k) (rTextE x.nn (R k)) (rTextK x.nn (R k))).1 = R' at *
          generalize (rGo (R k) (E k) (rTextE x.nn (R k)) (rTextK x.nn (R k))).2 = E' at *
          generalize (if fine (E k) (rTextE x.nn (R k)) then rTextS x.nn (R k) else []) = v at *
          refine rgt gr gy k u (B k) (Y k) x.nn v rfl rfl rfl _ _ (show 97 ≤ 184 from by decide) rfl rfl rfl rfl (WdD (B k) (G k) (Y k) (R k) R' (E k) E' w9) ?h0 ?hp hk hk ?l3 ?l10 ?l5 ?l12 ?c6 ?c13 ?_
          case h0 => exact ⟨by obtain ⟨o, c, q⟩ := (unhide HLP).two.rd k hk; exact ⟨o, c, q.keep (P := fun _ => False) (Only.drew _ _) (fun q => q) (fun q => q)⟩, ((unhide HLP).two.yd k hk).keep (P := fun _ => False) (Only.drew _ _) (fun q => q), Only.drew _ _⟩
          case hp => exact fun i hi L W hW => hW.pure i (by intro e; subst e; simp at hi) (by intro e; subst e; simp at hi)
          case l3 =>
            intro L W hW
            rw [hW.cell (unhide HLP).two.ltr (Ne.symm ((unhide AP).br k hk).1) (Ne.symm ((unhide AP).yr k hk).1), Nat.zero_add]
            exact (unhide HLP).two.cr k hk
          case l10 =>
            intro L W hW
            rw [hW.cell (unhide HLP).two.lty (Ne.symm ((unhide AP).br k hk).2) (Ne.symm ((unhide AP).yr k hk).2), Nat.zero_add]
            exact (unhide HLP).two.cy k hk
          case l5 =>
            intro L W hW
            rw [hW.cell (unhide HU).1 (unhide HU).2.1 (unhide HU).2.2.1]
            exact (unhide HU).2.2.2.c3
          case l12 =>
            intro L W hW
            rw [hW.cell (unhide HU).1 (unhide HU).2.1 (unhide HU).2.2.1]
            exact (unhide HU).2.2.2.c3
          case c6 =>
            intro L W hW h6
            obtain ⟨off, cp, q⟩ := hW.1
            rw [h6] at q
            exact (unhide HX1 W off cp q).mono (fun e w' h => ⟨h.1, hW.call1 ((unhide AP).bY k k hk hk) h.2⟩)
          case c13 =>
            intro L W hW h13
            have q := hW.2.1
            rw [h13] at q
            exact (unhide HX2 W q).mono (fun e w' h => ⟨h.1, hW.call2 ((unhide AP).bY k k hk hk) ((unhide AP).yg k k hk hk) h.2⟩)
          intro L W hall hW
          have h6 := hall 6 (by decide)
          have h13 := hall 13 (by decide)
          unfold WdD at hW
          rw [h6, h13] at hW
          have HLQ := hide ((unhide HLP).step (unhide AP) (unhide HPOS) (unhide HH) k hk hle hW.1 hW.2.1 hW.2.2)
          clear hW HX1 HX2 h6 h13 hall
          simp only [put_list, List.set_cons_succ, List.set_cons_zero]
          go_wp2
          refine ⟨⟨j + 1, _, _, by omega, by go_num, unhide HLQ⟩, ?_⟩
          simp [Go.RowKit.intOf]; omega
        by_cases e3 : x.kd = 3
        · rw [e3] at d0
          go_wp2_with fail
          have HX1 := hide (fun (W : World) (off cp : Nat) (h : RAt (B k) (G k) off cp (R k) (E k) W) => rraw_any (B k) (G k) off cp (R k) (E k) x.nn W h (by have := (unhide HLP).len k hk; omega))
          have HX2 := hide (fun (W : World) (h : YAt (Y k) (R k) (E k) W) => yraw_any (Y k) (R k) (E k) x.nn W h)
          have hle := rGo_len (R k) (E k) (rRawE x.nn (R k)) (x.nn.toNat)
          generalize (rGo (R k) (E k) (rRawE x.nn (R k)) (x.nn.toNat)).1 = R' at *
          generalize (rGo (R k) (E k) (rRawE x.nn (R k)) (x.nn.toNat)).2 = E' at *
          generalize (if fine (E k) (rRawE x.nn (R k)) then (R k).take x.nn.toNat else []) = v at *
          refine rgx gr gy k u (B k) (Y k) x.nn v rfl rfl rfl _ _ (show 114 ≤ 184 from by decide) rfl rfl rfl rfl (WdD (B k) (G k) (Y k) (R k) R' (E k) E' w9) ?h0 ?hp hk hk ?l3 ?l10 ?l5 ?l12 ?c6 ?c13 ?_
          case h0 => exact ⟨by obtain ⟨o, c, q⟩ := (unhide HLP).two.rd k hk; exact ⟨o, c, q.keep (P := fun _ => False) (Only.drew _ _) (fun q => q) (fun q => q)⟩, ((unhide HLP).two.yd k hk).keep (P := fun _ => False) (Only.drew _ _) (fun q => q), Only.drew _ _⟩
          case hp => exact fun i hi L W hW => hW.pure i (by intro e; subst e; simp at hi) (by intro e; subst e; simp at hi)
          case l3 =>
            intro L W hW
            rw [hW.cell (unhide HLP).two.ltr (Ne.symm ((unhide AP).br k hk).1) (Ne.symm ((unhide AP).yr k hk).1), Nat.zero_add]
            exact (unhide HLP).two.cr k hk
          case l10 =>
            intro L W hW
            rw [hW.cell (unhide HLP).two.lty (Ne.symm ((unhide AP).br k hk).2) (Ne.symm ((unhide AP).yr k hk).2), Nat.zero_add]
            exact (unhide HLP).two.cy k hk
          case l5 =>
            intro L W hW
            rw [hW.cell (unhide HU).1 (unhide HU).2.1 (unhide HU).2.2.1]
            exact (unhide HU).2.2.2.c3
          case l12 =>
            intro L W hW
            rw [hW.cell (unhide HU).1 (unhide HU).2.1 (unhide HU).2.2.1]
            exact (unhide HU).2.2.2.c3
          case c6 =>
            intro L W hW h6
            obtain ⟨off, cp, q⟩ := hW.1
            rw [h6] at q
            exact (unhide HX1 W off cp q).mono (fun e w' h => ⟨h.1, hW.call1 ((unhide AP).bY k k hk hk) h.2⟩)
          case c13 =>
            intro L W hW h13
            have q := hW.2.1
            rw [h13] at q
            exact (unhide HX2 W q).mono (fun e w' h => ⟨h.1, hW.call2 ((unhide AP).bY k k hk hk) ((unhide AP).yg k k hk hk) h.2⟩)
          intro L W hall hW
          have h6 := hall 6 (by decide)
          have h13 := hall 13 (by decide)
          unfold WdD at hW
          rw [h6, h13] at hW
          have HLQ := hide ((unhide HLP).step (unhide AP) (unhide HPOS) (unhide HH) k hk hle hW.1 hW.2.1 hW.2.2)
          clear hW HX1 HX2 h6 h13 hall
          simp only [put_list, List.set_cons_succ, List.set_cons_zero]
          go_wp2
          refine ⟨⟨j + 1, _, _, by omega, by go_num, unhide HLQ⟩, ?_⟩
          simp [Go.RowKit.intOf]; omega
        by_cases e4 : x.kd = 4
        · rw [e4] at d0
          go_wp2_with fail
          refine rgd gr gy k (B k) (Y k) (rDone (R k) (E k)) ((R k).length : Int) rfl rfl rfl _ _ (show 140 ≤ 184 from by decide) rfl rfl rfl (fun _ W => Below w9.heap.size w9 W) ?h0 ?hp hk hk hk hk ?l3 ?l8 ?l15 ?l20 ?c4 ?c9 ?c16 ?c21 ?_
          case h0 => exact (Below.refl _ _).drew
          case hp => exact fun _ _ _ _ hW => hW
          case l3 => exact fun L W hW => by rw [Nat.zero_add]; exact (World.cell?_of_block (hW.block gr (unhide HLP).two.ltr)).trans ((unhide HLP).two.cr k hk)
          case l8 => exact fun L W hW => by rw [Nat.zero_add]; exact (World.cell?_of_block (hW.block gy (unhide HLP).two.lty)).trans ((unhide HLP).two.cy k hk)
          case l15 => exact fun L W hW => by rw [Nat.zero_add]; exact (World.cell?_of_block (hW.block gr (unhide HLP).two.ltr)).trans ((unhide HLP).two.cr k hk)
          case l20 => exact fun L W hW => by rw [Nat.zero_add]; exact (World.cell?_of_block (hW.block gy (unhide HLP).two.lty)).trans ((unhide HLP).two.cy k hk)
          case c4 => exact fun L W hW _ => (by obtain ⟨off, cp, q⟩ := ((unhide HLP).below hW).two.rd k hk; exact (rdone_any (B k) (G k) off cp (R k) (E k) W q ((unhide HLP).below hW).lay).mono (fun e w' h => ⟨h.1, hW.trans (h.2.mono hW.size)⟩))
          case c9 => exact fun L W hW _ => (ydone_any (Y k) (R k) (E k) W (((unhide HLP).below hW).two.yd k hk)).mono (fun e w' h => ⟨h.1, by rw [h.2]; exact hW⟩)
          case c16 => exact fun L W hW _ => (by obtain ⟨off, cp, q⟩ := ((unhide HLP).below hW).two.rd k hk; exact (rleft_any (B k) (G k) off cp (R k) (E k) W q).mono (fun e w' h => ⟨h.1, by rw [h.2]; exact hW⟩))
          case c21 => exact fun L W hW _ => (yleft_any (Y k) (R k) (E k) W (((unhide HLP).below hW).two.yd k hk)).mono (fun e w' h => ⟨h.1, by rw [h.2]; exact hW⟩)
          intro L W _ hW
          have HLQ := hide ((unhide HLP).below hW)
          clear hW
          simp only [put_list, List.set_cons_succ, List.set_cons_zero]
          go_wp2
          refine ⟨⟨j + 1, _, _, by omega, by go_num, unhide HLQ⟩, ?_⟩
          simp [Go.RowKit.intOf]; omega
        have e1' : (x.kd == 1) = false := by simpa using e1
        have e2' : (x.kd == 2) = false := by simpa using e2
        have e3' : (x.kd == 3) = false := by simpa using e3
        have e4' : (x.kd == 4) = false := by simpa using e4
        go_wp2
        refine ⟨⟨j + 1, _, _, by omega, by go_num, unhide HLP⟩, ?_⟩
        simp [Go.RowKit.intOf]; omega
      · have hlt' : ¬ (j : Int) < (n : Int) := by omega
        have hd : decide (j < n) = false := by simp; omega
        have HLP := hide hlp
        clear hlp
        go_wp2_with fail
        refine rge gr gy (B 0) (B 1) (Y 0) (Y 1) ((R 0).length : Int) ((R 1).length : Int) (rDone (R 0) (E 0)) (rDone (R 1) (E 1)) rfl rfl rfl _ _ (show 184 ≤ 184 from by decide) rfl rfl (fun _ W => Below wr.heap.size wr W) ?h0 ?hp ?l2 ?l6 ?c3 ?c7 ?l12 ?l16 ?c13 ?c17 ?l23 ?l27 ?c24 ?c28 ?l34 ?l38 ?c35 ?c39 ?_
        case h0 => exact (Below.refl _ _).drew
        case hp => exact fun _ _ _ _ hW => hW
        case l2 => exact fun L W hW => (World.cell?_of_block (hW.block gr (unhide HLP).two.ltr)).trans ((unhide HLP).two.cr 0 (by decide))
        case l6 => exact fun L W hW => (World.cell?_of_block (hW.block gy (unhide HLP).two.lty)).trans ((unhide HLP).two.cy 0 (by decide))
        case c3 => exact fun L W hW _ => (by obtain ⟨off, cp, q⟩ := ((unhide HLP).below hW).two.rd 0 (by decide); exact (rleft_any (B 0) (G 0) off cp (R 0) (E 0) W q).mono (fun e w' h => ⟨h.1, by rw [h.2]; exact hW⟩))
        case c7 => exact fun L W hW _ => (yleft_any (Y 0) (R 0) (E 0) W (((unhide HLP).below hW).two.yd 0 (by decide))).mono (fun e w' h => ⟨h.1, by rw [h.2]; exact hW⟩)
        case l12 => exact fun L W hW => (World.cell?_of_block (hW.block gr (unhide HLP).two.ltr)).trans ((unhide HLP).two.cr 1 (by decide))
        case l16 => exact fun L W hW => (World.cell?_of_block (hW.block gy (unhide HLP).two.lty)).trans ((unhide HLP).two.cy 1 (by decide))
        case c13 => exact fun L W hW _ => (by obtain ⟨off, cp, q⟩ := ((unhide HLP).below hW).two.rd 1 (by decide); exact (rleft_any (B 1) (G 1) off cp (R 1) (E 1) W q).mono (fun e w' h => ⟨h.1, by rw [h.2]; exact hW⟩))
        case c17 => exact fun L W hW _ => (yleft_any (Y 1) (R 1) (E 1) W (((unhide HLP).below hW).two.yd 1 (by decide))).mono (fun e w' h => ⟨h.1, by rw [h.2]; exact hW⟩)
        case l23 => exact fun L W hW => (World.cell?_of_block (hW.block gr (unhide HLP).two.ltr)).trans ((unhide HLP).two.cr 0 (by decide))
        case l27 => exact fun L W hW => (World.cell?_of_block (hW.block gy (unhide HLP).two.lty)).trans ((unhide HLP).two.cy 0 (by decide))
        case c24 => exact fun L W hW _ => (by obtain ⟨off, cp, q⟩ := ((unhide HLP).below hW).two.rd 0 (by decide); exact (rdone_any (B 0) (G 0) off cp (R 0) (E 0) W q ((unhide HLP).below hW).lay).mono (fun e w' h => ⟨h.1, hW.trans (h.2.mono hW.size)⟩))
        case c28 => exact fun L W hW _ => (ydone_any (Y 0) (R 0) (E 0) W (((unhide HLP).below hW).two.yd 0 (by decide))).mono (fun e w' h => ⟨h.1, by rw [h.2]; exact hW⟩)
        case l34 => exact fun L W hW => (World.cell?_of_block (hW.block gr (unhide HLP).two.ltr)).trans ((unhide HLP).two.cr 1 (by decide))
        case l38 => exact fun L W hW => (World.cell?_of_block (hW.block gy (unhide HLP).two.lty)).trans ((unhide HLP).two.cy 1 (by decide))
        case c35 => exact fun L W hW _ => (by obtain ⟨off, cp, q⟩ := ((unhide HLP).below hW).two.rd 1 (by decide); exact (rdone_any (B 1) (G 1) off cp (R 1) (E 1) W q ((unhide HLP).below hW).lay).mono (fun e w' h => ⟨h.1, hW.trans (h.2.mono hW.size)⟩))
        case c39 => exact fun L W hW _ => (ydone_any (Y 1) (R 1) (E 1) W (((unhide HLP).below hW).two.yd 1 (by decide))).mono (fun e w' h => ⟨h.1, by rw [h.2]; exact hW⟩)
        intro L W _ hW
        have HB := hide ((unhide HLP).below hW).from_
        clear hW
        simp only [put_list, List.set_cons_succ, List.set_cons_zero]
        go_wp2
        go_ret
        exact ⟨rfl, unhide HB⟩
end Go.Proofs.YthddilflldkmfaaDoor
