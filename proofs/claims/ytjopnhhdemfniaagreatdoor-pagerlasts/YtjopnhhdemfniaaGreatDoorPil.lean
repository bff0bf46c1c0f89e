import Derived.Test.YtjopnhhdemfniaaGreatDoorZpic
import Derived.Test.YtjopnhhdemfniaaGreatDoorZphe
namespace Go.Proofs.YtjopnhhdemfniaaGreatDoor
open Go.RowKit
set_option maxHeartbeats 8000000
set_option maxRecDepth 8000
/-- A page as it is written in a generation. -/
def Pg.born (x : Pg) (gen : Int) : Pg := { x with birth := gen }
/-- Pages are written, one by one, and made to last. -/
def wps (gen : Int) (d : Ds) : List Pg → Int × Ds
  | [] => (syncv d, d.sync)
  | x :: l => if writev d x.number (x.born gen).blk ≠ 0 then (writev d x.number (x.born gen).blk, d.write x.number (x.born gen).blk) else wps gen (d.write x.number (x.born gen).blk) l
theorem drop_at (l : List Pg) (k : Nat) (hk : k < l.length) : l.drop k = l.getD k noPg :: l.drop (k + 1) := by
  rw [List.drop_eq_getElem_cons hk]
  simp [hk]
theorem DTo.refl {D : Nat} {d : Ds} {vw vl : Value} {w : World} (h : DAt D d vw vl w) : DTo D vw vl d w w := DTo.below h (Below.refl _ _)
theorem DTo.out {D : Nat} {vw vl : Value} {d1 : Ds} {w w1 : World} (h : DTo D vw vl d1 w w1) : Only (Of D vw vl) w w1 := by
  obtain ⟨vw1, a, o, n⟩ := h
  exact o
theorem writePages_any {D : Nat} {d : Ds} {vw vl : Value} {w : World} (h : DAt D d vw vl w) (ho : Ok d) (a : Option Addr) (n cap : Nat) (l : List Pg) (gen : Int) (hg : isGn gen = true) (hst : ∀ W, Only (Of D vw vl) w W → Pgs W a n l) (hfr : ∀ x ∈ l, x.fresh = true) (ha : 0 ≤ d.acts ∧ d.acts + n ≤ 999999999999999999) (hn : n ≤ 1000000) :
    Calls Tryz.prog 194 #[ptr D, .slice a n cap, I gen] w fun e w' => e = .returned (I (wps gen d l).1) ∧ DTo D vw vl (wps gen d l).2 w w' := by
  have hN := (hst w (Only.refl _ _)).1
  subst hN
  have HST := hide hst
  have HFR := hide hfr
  have HG := hide hg
  have HD0 := hide (DTo.refl h)
  have HO := hide ho
  have HOld := hide h.old
  clear h hst hfr hg
  obtain ⟨ha0, ha1⟩ := ha
  have HAc := hide (And.intro ha0 ha1)
  clear ha0 ha1
  have HOk := hide ho
  clear ho
  obtain ⟨RS, hRS⟩ : ∃ RS, RS = wps gen d l := ⟨_, rfl⟩
  rw [← hRS]
  have HRS := hide hRS
  clear hRS
  go_enter Tryz.func194, Tryz.ntmps194
  go_wp2
  go_loopw [14] (fun i wr => ∃ k : Nat, k ≤ l.length ∧ i = .int .i64 k ∧ ∃ dk, RS = wps gen dk (l.drop k) ∧ Ok dk ∧ (0 ≤ dk.acts ∧ dk.acts ≤ d.acts + k) ∧ DTo D vw vl dk w wr) (fun i _ => l.length - (Go.RowKit.intOf i).toNat)
  case atStart => exact ⟨0, by omega, rfl, d, unhide HRS, unhide HOk, ⟨(unhide HAc).1, by simp⟩, unhide HD0⟩
  case round =>
    clear HD0 HRS
    obtain ⟨k, hk, rfl, dk, hrs, hok, hac, hto⟩ := hrel
    have hacb := (unhide HAc).2
    by_cases hlt : k < l.length
    · have hlt' : (k : Int) < (l.length : Int) := by omega
      rw [drop_at l k hlt] at hrs
      have hP := unhide HST wr hto.out
      obtain ⟨g, o, q, c, rfl, hgl, c0, c1, c2, c3, c4, hi⟩ := hP.at hlt
      have hfx := unhide HFR _ (mem_getD (z := noPg) hlt)
      generalize l.getD k noPg = x at *
      have hbm : (x.born gen).may = true := by
        unfold Pg.may
        rw [show (x.born gen).birth = gen from rfl, unhide HG]
        exact hfx
      have hroom := Pg.fresh_room hfx
      have bA := (Below.refl wr.heap.size wr).alloc (Nat.le_refl _) (.cells (pgc (x.born gen) q c) 24)
      have HA := hide bA
      have H1 := hide (printPage_any (x.born gen) q c _ (hi.below bA) (show x.links.length ≤ 1000000000000 by omega) (show x.body.length ≤ 1000000000000 by omega))
      have hpr : prn (x.born gen) = ((x.born gen).blk, 0) := by unfold prn; rw [if_pos hbm]
      rw [hpr] at H1
      have HBox := hide (heap_alloc_new wr (.cells (pgc (x.born gen) q c) 24))
      have HWr := hide (fun W (b : Below wr.heap.size wr W) vw1 (q : DAt D dk vw1 vl wr) => writeD (q.below b) hok ⟨hac.1, by omega⟩ x.number (x.born gen).blk)
      have hwa := write_acts dk x.number (x.born gen).blk
      have HOW := hide (hok.write x.number (x.born gen).blk)
      have HRS := hide hrs
      simp only [wps] at hrs
      have HRS2 := hide hrs
      have HTO := hide hto
      clear hrs hto hok hP hi bA hpr hbm hfx hroom HRS
      generalize hkb : (x.born gen).blk = KB at *
      clear hkb
      generalize dk.write x.number KB = d2 at *
      generalize writev dk x.number KB = wv at *
      have HACC := hide (show 0 ≤ d2.acts ∧ d2.acts ≤ d.acts + ((k + 1 : Nat) : Int) by omega)
      clear hwa hac hacb
      unfold pga pgc at H1
      unfold pgc at HBox HA
      obtain ⟨xk, xn, xb, xl, xs⟩ := x
      simp only [Pg.born] at c0 c1 c2 c3 c4 H1 HBox HA HWr HRS2
      generalize xl.length = m at *
      generalize hrest : l.drop (k + 1) = rest at *
      have HRest := hide hrest
      clear hrest
      go_wp2_with fail
      refine (unhide H1).mono ?_
      rintro e w1 ⟨rfl, b1⟩
      obtain ⟨d0, d1, d2', d3, d4⟩ := box5 (unhide HBox) b1 (lt_of_row (unhide HBox))
      have B1 := hide ((unhide HA).trans (b1.mono (unhide HA).size))
      obtain ⟨vw1, q1, q2, q3⟩ := unhide HTO
      have H2 := hide (unhide HWr w1 (unhide B1) vw1 q1)
      have HQ := hide (And.intro q1 (And.intro q2 q3))
      clear b1 q1 q2 q3
      go_wp2_with fail
      refine (unhide H2).mono ?_
      rintro e w2 ⟨rfl, h2⟩
      have HT2 := hide (DTo.trans (unhide HQ).2.1 (unhide HQ).2.2 (DTo.trans (Only.of_below (unhide B1)) (fun _ q => .inl q) h2))
      clear h2 d0 d1 d2' d3 d4
      by_cases hw : wv = 0
      · subst hw
        have HR3 := hide (show RS = wps gen d2 rest by have := unhide HRS2; simpa using this)
        go_wp2
        go_roundw
        case rel => exact ⟨k + 1, by omega, by go_num, d2, by rw [unhide HRest]; exact unhide HR3, unhide HOW, unhide HACC, unhide HT2⟩
        case measure => simp [Go.RowKit.intOf]; omega
      · have HR3 := hide (show RS = (wv, d2) by have := unhide HRS2; rw [if_pos hw] at this; exact this)
        go_wp2
        go_ret
        rw [unhide HR3]
        exact ⟨rfl, unhide HT2⟩
    · have hlt' : ¬ (k : Int) < (l.length : Int) := by omega
      rw [List.drop_of_length_le (by omega)] at hrs
      obtain ⟨vw1, q1, q2, q3⟩ := hto
      have H2 := hide (syncD q1 hok ⟨hac.1, by omega⟩)
      have HQ := hide (And.intro q2 q3)
      have HR3 := hide (show RS = (syncv dk, dk.sync) from hrs)
      clear hrs q1 q2 q3 hok hac hacb
      go_wp2_with fail
      refine (unhide H2).mono ?_
      rintro e w2 ⟨rfl, h2⟩
      have HT2 := hide (DTo.trans (unhide HQ).1 (unhide HQ).2 h2)
      clear h2
      go_wp2
      go_ret
      rw [unhide HR3]
      exact ⟨rfl, unhide HT2⟩
end Go.Proofs.YtjopnhhdemfniaaGreatDoor
