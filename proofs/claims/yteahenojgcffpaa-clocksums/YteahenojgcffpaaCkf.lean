import Derived.Test.YteahenojgcffpaaCke
import Derived.Deep.RegionWith
namespace Go.Proofs.Yteahenojgcffpaa
open Go.RowKit
set_option maxHeartbeats 4000000
set_option maxRecDepth 8000
structure Tk where
  o : Bool
  a : Bool
  r : Int
def tk0 : Tk := ⟨false, false, 0⟩
/-- Steps in memory. -/
def Tks (w : World) (a : Option Addr) (n : Nat) (l : List Tk) : Prop :=
  n = l.length ∧ (0 < n → ∃ p o, a = some ⟨p, o, none⟩ ∧ ∀ j, j < n → w.cell? ⟨p, o + j * 3, none⟩ = some (.bool (l.getD j tk0).o) ∧ w.cell? ⟨p, o + j * 3 + 1, none⟩ = some (.bool (l.getD j tk0).a) ∧ w.cell? ⟨p, o + j * 3 + 2, none⟩ = some (I (l.getD j tk0).r))
theorem Tks.at {w : World} {a : Option Addr} {n : Nat} {l : List Tk} (h : Tks w a n l) {j : Nat} (hj : j < n) : ∃ p o, a = some ⟨p, o, none⟩ ∧ p < w.heap.size ∧ w.cell? ⟨p, o + j * 3, none⟩ = some (.bool (l.getD j tk0).o) ∧ w.cell? ⟨p, o + j * 3 + 1, none⟩ = some (.bool (l.getD j tk0).a) ∧ w.cell? ⟨p, o + j * 3 + 2, none⟩ = some (I (l.getD j tk0).r) := by
  obtain ⟨p, o, e, hc⟩ := h.2 (by omega)
  exact ⟨p, o, e, blk_lt (hc j hj).1, hc j hj⟩
theorem Tks.below {w w' : World} {a : Option Addr} {n : Nat} {l : List Tk} (h : Tks w a n l) (hb : Below w.heap.size w w') : Tks w' a n l := by
  refine ⟨h.1, fun hn => ?_⟩
  obtain ⟨p, o, e, hc⟩ := h.2 hn
  exact ⟨p, o, e, fun j hj => ⟨(hb.cell (by exact blk_lt (hc j hj).1)).trans (hc j hj).1, (hb.cell (by exact blk_lt (hc j hj).2.1)).trans (hc j hj).2.1, (hb.cell (by exact blk_lt (hc j hj).2.2)).trans (hc j hj).2.2⟩⟩
/-- Two clocks, and the document's two. -/
structure Two (B : Nat) (w0 : World) (A C X Y : Nat) (t u tx uy : Int) (w : World) : Prop where
  a : CAt 43 A t w
  c : CAt 43 C u w
  x : CAt 45 X tx w
  y : CAt 45 Y uy w
  ac : A ≠ C
  xy : X ≠ Y
  ax : A ≠ X
  ay : A ≠ Y
  cx : C ≠ X
  cy : C ≠ Y
  gA : B ≤ A
  gC : B ≤ C
  gX : B ≤ X
  gY : B ≤ Y
  b : Below B w0 w
theorem CAt.ne {ty ty' p q : Nat} {t u : Int} {w : World} (h : CAt ty p t w) (h' : CAt ty' q u w) (hn : ty ≠ ty') : p ≠ q := by
  intro e
  subst e
  have := h.symm.trans h'
  simp at this
  exact hn this.2
theorem Two.drew {B : Nat} {w0 w : World} {A C X Y : Nat} {t u tx uy : Int} (h : Two B w0 A C X Y t u tx uy w) : Two B w0 A C X Y t u tx uy w.drew :=
  ⟨h.a, h.c, h.x, h.y, h.ac, h.xy, h.ax, h.ay, h.cx, h.cy, h.gA, h.gC, h.gX, h.gY, h.b.drew⟩
theorem Two.seeA {B : Nat} {w0 w : World} {A C X Y : Nat} {t u tx uy : Int} (h : Two B w0 A C X Y t u tx uy w) (hB : B ≤ w.heap.size) (r : Int) : Calls Try.prog 12 #[ptr A, I r] w fun e w' => e = .returned (I (mx t r)) ∧ Two B w0 A C X Y (mx t r) u tx uy w' := by
  refine (see_any A t r w h.a).mono ?_
  rintro e w' ⟨rfl, c, o⟩
  exact ⟨rfl, c, h.c.only o h.ac.symm, h.x.only o h.ax.symm, h.y.only o h.ay.symm, h.ac, h.xy, h.ax, h.ay, h.cx, h.cy, h.gA, h.gC, h.gX, h.gY, o.below h.b hB (fun k e => by have := h.gA; omega)⟩
theorem Two.seeC {B : Nat} {w0 w : World} {A C X Y : Nat} {t u tx uy : Int} (h : Two B w0 A C X Y t u tx uy w) (hB : B ≤ w.heap.size) (r : Int) : Calls Try.prog 12 #[ptr C, I r] w fun e w' => e = .returned (I (mx u r)) ∧ Two B w0 A C X Y t (mx u r) tx uy w' := by
  refine (see_any C u r w h.c).mono ?_
  rintro e w' ⟨rfl, c, o⟩
  exact ⟨rfl, h.a.only o h.ac, c, h.x.only o h.cx.symm, h.y.only o h.cy.symm, h.ac, h.xy, h.ax, h.ay, h.cx, h.cy, h.gA, h.gC, h.gX, h.gY, o.below h.b hB (fun k e => by have := h.gC; omega)⟩
theorem Two.seeX {B : Nat} {w0 w : World} {A C X Y : Nat} {t u tx uy : Int} (h : Two B w0 A C X Y t u tx uy w) (hB : B ≤ w.heap.size) (r : Int) : Calls Try.prog 13 #[ptr X, I r] w fun e w' => e = .returned (I (mx tx r)) ∧ Two B w0 A C X Y t u (mx tx r) uy w' := by
  refine (refSee_any X tx r w h.x).mono ?_
  rintro e w' ⟨rfl, c, o⟩
  exact ⟨rfl, h.a.only o h.ax, h.c.only o h.cx, c, h.y.only o h.xy.symm, h.ac, h.xy, h.ax, h.ay, h.cx, h.cy, h.gA, h.gC, h.gX, h.gY, o.below h.b hB (fun k e => by have := h.gX; omega)⟩
theorem Two.seeY {B : Nat} {w0 w : World} {A C X Y : Nat} {t u tx uy : Int} (h : Two B w0 A C X Y t u tx uy w) (hB : B ≤ w.heap.size) (r : Int) : Calls Try.prog 13 #[ptr Y, I r] w fun e w' => e = .returned (I (mx uy r)) ∧ Two B w0 A C X Y t u tx (mx uy r) w' := by
  refine (refSee_any Y uy r w h.y).mono ?_
  rintro e w' ⟨rfl, c, o⟩
  exact ⟨rfl, h.a.only o h.ay, h.c.only o h.cy, h.x.only o h.xy, c, h.ac, h.xy, h.ax, h.ay, h.cx, h.cy, h.gA, h.gC, h.gX, h.gY, o.below h.b hB (fun k e => by have := h.gY; omega)⟩
theorem Two.le {w0 w : World} {A C X Y : Nat} {t u tx uy : Int} (h : Two w0.heap.size w0 A C X Y t u tx uy w) : w0.heap.size ≤ w.heap.size := h.b.size
theorem plays_any (f g : Int) (a : Option Addr) (n cap : Nat) (l : List Tk) (w : World) (hp : Tks w a n l) (hn : n ≤ 9223372036854775806) : Calls Try.prog 3 #[I f, I g, .slice a n cap] w fun e w' => e = .returned (.bool true) ∧ Below w.heap.size w w' := by
  have HP := hide hp
  have HN := hide hp.1
  clear hp
  go_enter Try.func3, Try.ntmps3
  go_wp2_with fail
  refine (awake_any _).mono ?_
  rintro e w1 ⟨rfl, b1⟩
  have B1 := hide b1
  clear b1
  go_wp2_with fail
  refine (new_any f _).mono ?_
  rintro e w2 ⟨rfl, c2, b2⟩
  have B2 := hide ((unhide B1).trans (b2.mono (unhide B1).size))
  have HG := hide (unhide B1).size
  obtain ⟨A, hA⟩ : ∃ A, A = w1.heap.size := ⟨_, rfl⟩
  rw [← hA] at c2 HG ⊢
  have C2 := hide c2
  clear c2 b2 B1 hA
  go_wp2_with fail
  refine (new_any g _).mono ?_
  rintro e w3 ⟨rfl, c3, b3⟩
  have B3 := hide ((unhide B2).trans (b3.mono (unhide B2).size))
  have C2' := hide ((unhide C2).below b3)
  have hAC := hide (unhide C2).lt
  have HGC := hide (unhide B2).size
  obtain ⟨C, hC⟩ : ∃ C, C = w2.heap.size := ⟨_, rfl⟩
  rw [← hC] at c3 HGC hAC ⊢
  have C3 := hide c3
  clear c3 b3 B2 hC C2
  go_wp2_with fail
  refine (refNew_any f _).mono ?_
  rintro e w4 ⟨rfl, c4, b4⟩
  have B4 := hide ((unhide B3).trans (b4.mono (unhide B3).size))
  have CA4 := hide ((unhide C2').below b4)
  have CC4 := hide ((unhide C3).below b4)
  have HGX := hide (unhide B3).size
  obtain ⟨X, hX⟩ : ∃ X, X = w3.heap.size := ⟨_, rfl⟩
  rw [← hX] at c4 HGX ⊢
  have C4 := hide c4
  clear c4 b4 B3 hX C2' C3
  go_wp2_with fail
  refine (refNew_any g _).mono ?_
  rintro e w5 ⟨rfl, c5, b5⟩
  have B5 := hide ((unhide B4).trans (b5.mono (unhide B4).size))
  have CA5 := hide ((unhide CA4).below b5)
  have CC5 := hide ((unhide CC4).below b5)
  have CX5 := hide ((unhide C4).below b5)
  have hXY := hide (unhide C4).lt
  have HGY := hide (unhide B4).size
  obtain ⟨Y, hY⟩ : ∃ Y, Y = w4.heap.size := ⟨_, rfl⟩
  rw [← hY] at c5 HGY hXY ⊢
  have T0 : Hid (Two w.heap.size w A C X Y (nr f) (nr g) (nr f) (nr g) w5) := hide ⟨unhide CA5, unhide CC5, unhide CX5, c5, by have := unhide hAC; omega, by have := unhide hXY; omega, (unhide CA5).ne (unhide CX5) (by decide), (unhide CA5).ne c5 (by decide), (unhide CC5).ne (unhide CX5) (by decide), (unhide CC5).ne c5 (by decide), unhide HG, unhide HGC, unhide HGX, unhide HGY, unhide B5⟩
  clear c5 b5 B4 hY CA4 CC4 C4 CA5 CC5 CX5 hXY HGY HGX HGC HG hAC B5
  generalize nr f = t0 at *
  generalize nr g = u0 at *
  go_wp2
  go_loopw [12] (fun i wr => ∃ k : Nat, k ≤ n ∧ i = .int .i64 k ∧ ∃ t u : Int, Two w.heap.size w A C X Y t u t u wr) (fun i _ => n - (intOf i).toNat)
  case atStart => exact ⟨0, by omega, rfl, t0, u0, unhide T0⟩
  case round =>
    obtain ⟨k, hkn, rfl, t, u, hT⟩ := hrel
    clear T0
    have HT := hide hT
    by_cases hlt : k < n
    · obtain ⟨p, o, rfl, hpl, hc1, hc2, hc3⟩ := ((unhide HP).below hT.b).at hlt
      have HCell := hide (show ∀ W, Below w.heap.size w W → W.cell? ⟨p, o + k * 3 + 2, none⟩ = some (I (l.getD k tk0).r) from fun W hW => by
        obtain ⟨p', o', e', _, _, _, h3⟩ := ((unhide HP).below hW).at hlt
        cases e'
        exact h3)
      clear hT
      generalize l.getD k tk0 = q at *
      obtain ⟨qo, qa, qr⟩ := q
      simp only at hc1 hc2 hc3 HCell
      cases qo <;> cases qa
      · have S1 := hide ((unhide HT).drew.seeA (unhide HT).drew.le qr)
        go_wp2_with fail
        go_region_with (first | (go_at_call 12; refine (unhide S1).mono ?_; rintro e w2 ⟨rfl, q2⟩; have c2 := unhide HCell w2 q2.b; have S2 := hide (q2.seeX q2.le qr); clear q2) | (go_at_call 13; refine (unhide S2).mono ?_; rintro e w3 ⟨rfl, q3⟩; have Q3 := hide q3; clear q3))
        all_goals
          go_wp2
          refine ⟨?_, ?_⟩
          · exact ⟨k + 1, by omega, by go_num, _, _, unhide Q3⟩
          · simp [intOf]; omega
      · go_wp2_with fail
        refine (now_any A t _ (unhide HT).a).mono ?_
        rintro e w6 ⟨rfl, rfl⟩
        go_wp2_with fail
        refine (refNow_any X t _ (unhide HT).x).mono ?_
        rintro e w6 ⟨rfl, rfl⟩
        go_wp2
        go_roundw
        case rel => exact ⟨k + 1, by omega, by go_num, t, u, unhide HT⟩
        case measure => simp [intOf]; omega
      · have S1 := hide ((unhide HT).drew.seeC (unhide HT).drew.le qr)
        go_wp2_with fail
        go_region_with (first | (go_at_call 12; refine (unhide S1).mono ?_; rintro e w2 ⟨rfl, q2⟩; have c2 := unhide HCell w2 q2.b; have S2 := hide (q2.seeY q2.le qr); clear q2) | (go_at_call 13; refine (unhide S2).mono ?_; rintro e w3 ⟨rfl, q3⟩; have Q3 := hide q3; clear q3))
        all_goals
          go_wp2
          refine ⟨?_, ?_⟩
          · exact ⟨k + 1, by omega, by go_num, _, _, unhide Q3⟩
          · simp [intOf]; omega
      · go_wp2_with fail
        refine (now_any C u _ (unhide HT).c).mono ?_
        rintro e w6 ⟨rfl, rfl⟩
        go_wp2_with fail
        refine (refNow_any Y u _ (unhide HT).y).mono ?_
        rintro e w6 ⟨rfl, rfl⟩
        go_wp2
        go_roundw
        case rel => exact ⟨k + 1, by omega, by go_num, t, u, unhide HT⟩
        case measure => simp [intOf]; omega
    · have hklt : ¬ (k : Int) < (n : Int) := by omega
      clear hT
      go_wp2_with fail
      refine (now_any A t _ (unhide HT).a).mono ?_
      rintro e w6 ⟨rfl, rfl⟩
      go_wp2_with fail
      refine (refNow_any X t _ (unhide HT).x).mono ?_
      rintro e w6 ⟨rfl, rfl⟩
      go_wp2_with fail
      refine (now_any C u _ (unhide HT).c).mono ?_
      rintro e w6 ⟨rfl, rfl⟩
      go_wp2_with fail
      refine (refNow_any Y u _ (unhide HT).y).mono ?_
      rintro e w6 ⟨rfl, rfl⟩
      go_wp2
      go_ret
      exact ⟨rfl, (unhide HT).b⟩
end Go.Proofs.Yteahenojgcffpaa
