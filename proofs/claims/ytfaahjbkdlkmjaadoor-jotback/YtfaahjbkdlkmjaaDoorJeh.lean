import Derived.Test.YtfaahjbkdlkmjaaDoorJeg
/- Jot: a letter. -/
namespace Go.Proofs.YtfaahjbkdlkmjaaDoor
open Go Go.RowKit Go.Lib
set_option linter.unusedVariables false
set_option linter.unusedSimpArgs false
theorem s_to (X : Bs) (b : Nat) (W : World) (hb : b ≤ X.length) : (Instr.slice 9 (S X) none (some (I b)) none).run Tryd.prog W = .ok (S (X.take b)) W := by
  have := run_slice_string_h (P := Tryd.prog) (w := W) (t := 9) (s := ⟨X.toArray⟩) Tryd.underlying9 .i64 (b : Int) (by omega) (by rw [ba_len]; omega)
  rw [Int.toNat_natCast, ext_mid X 0 b hb] at this
  simpa using this
/-- a piece of text, and what is left -/
abbrev okS (b : Nat) (s : Bs) (x : Bs × Bs) (e : Ending) (w' : World) : Prop := e = .returned (S x.1) ∧ RAt b s x.2 w'
theorem half_step (l : Bs) (f n : Nat) : half l (f + 1) n = if n + 1 ≤ l.length ∧ full (l.take (n + 1)) = false then half l f (n + 1) else n := by rw [half]
set_option maxHeartbeats 8000000 in
set_option maxRecDepth 20000 in
theorem letter_any (b : Nat) (s r : Bs) (w : World) (h : RAt b s r w) (hE : Env w) (hb3 : 3 ≤ b) :
    Calls Tryd.prog 52 #[.pointer (some ⟨b, 0, none⟩)] w (PO b s w (lett r) (okS b s)) := by
  have HL := hide (look_any b s r w h)
  have H := hide h
  have HE := hide hE
  obtain ⟨c, hc⟩ : ∃ c, r.headD 0 = c := ⟨_, rfl⟩
  rw [hc] at HL
  have HLt := hide (show lett r = if c < 32 then .error (40, r.length)
    else if (decodeL r).1 = 65533 ∧ (decodeL r).2 = 1 then .error (40, r.length - half r r.length 0)
    else .ok (r.take (decodeL r).2, r.drop (decodeL r).2) by unfold lett; rw [hc])
  have HC := hide hc
  clear h hE hc
  go_enter Tryd.func52, Tryd.ntmps52
  go_wp2_with fail
  refine (unhide HL).mono ?_
  rintro e w1 ⟨rfl, q, rfl⟩
  have H1 := hide ((unhide H).drewN q)
  have O1 := hide (Onl.drewN b w q)
  generalize w.drewN q = w1 at *
  clear HL H
  by_cases h32 : c < 32
  · have HX := hide (show lett r = .error (40, r.length) by rw [unhide HLt, if_pos h32])
    have h32i : (c.toNat : Int) < 32 := by have : c.toNat < 32 := h32; omega
    have HF := hide (fail_any 40 b s r w1 (unhide H1))
    clear h32 HLt HC
    generalize c.toNat = cn at *
    go_wp2_with fail
    refine (unhide HF).mono ?_
    rintro e w2 ⟨rfl, rfl⟩
    go_wp2_with fail
    exact ⟨rfl, PO.bad (unhide HX) (unhide O1) rfl⟩
  · have HX0 := hide (show lett r = if (decodeL r).1 = 65533 ∧ (decodeL r).2 = 1 then .error (40, r.length - half r r.length 0)
      else .ok (r.take (decodeL r).2, r.drop (decodeL r).2) by rw [unhide HLt, if_neg h32])
    have h32i : decide ((c.toNat : Int) < 32) = false := decide_eq_false (by have : ¬ c.toNat < 32 := h32; omega)
    have hr0 : r ≠ [] := by
      intro q
      have := unhide HC
      rw [q] at this
      rw [← this] at h32
      exact h32 (by decide)
    clear h32 HLt HC
    generalize c.toNat = cn at *
    obtain ⟨p, hrow, hp, hd⟩ := (unhide H1).row
    have hle := (unhide H1).le
    have d0 : w1.cell? ⟨b, 0, none⟩ = some (S s) := by rw [Lib.cell_of_heap hrow]; rfl
    have d1 : w1.cell? ⟨b, 1, none⟩ = some (.int .i64 p) := by rw [Lib.cell_of_heap hrow]; rfl
    have hsl := fun W => s_from s p W hp
    rw [hd] at hsl
    have hlen : r.length = s.length - p := by rw [← hd]; simp
    have hl0 := List.length_pos_iff.2 hr0
    have HR0 := hide hr0
    have HRow := hide hrow
    have HD := hide hd
    clear hrow hd hr0
    go_upto_region 3 with fail
    go_quiet (fail)
    have H2 := hide ((unhide H1).drewN nq)
    have O2 := hide ((unhide O1).trans (Onl.drewN b w1 nq))
    have HROW2 := hide (show (w1.drewN nq).heap[b]? = _ from (below_drewNq (Below.refl w1.heap.size w1) nq).block b (unhide H1).lt ▸ unhide HRow)
    generalize w1.drewN nq = w2 at *
    clear H1 O1 HRow d0 d1 hsl
    have hE2 := (unhide O2).env (unhide HE) hb3
    have HDe := hide (Tryd.utf8_DecodeRuneInString ⟨r.toArray⟩ w2 hE2.u8)
    rw [show decodeGo ⟨r.toArray⟩ = decodeL r by unfold decodeGo decodeL; rw [if_neg (by rw [ba_len]; omega)]] at HDe
    have HE2 := hide hE2
    clear hE2
    have hdl := decodeL_le r (unhide HR0)
    have hyw := decodeL_width r
    obtain ⟨z, hz⟩ : ∃ z, (decodeL r).1 = z := ⟨_, rfl⟩
    obtain ⟨y, hy⟩ : ∃ y, (decodeL r).2 = y := ⟨_, rfl⟩
    rw [hz, hy] at HDe HX0
    rw [hy] at hdl hyw
    clear hz hy
    go_wp2_with fail
    refine (unhide HDe).mono ?_
    rintro e w3 ⟨rfl, h3⟩
    have H3 := hide ((unhide H2).keep h3)
    have O3 := hide ((unhide O2).trans (Onl.of_below h3))
    have hrow := (h3.block b (unhide H2).lt).trans (unhide HROW2)
    have HE3 := hide ((unhide HE2).below h3)
    clear h3 HDe H2 O2 HROW2 HE2
    by_cases hz5 : z = 65533
    · by_cases hy1 : y = 1
      · subst hz5 hy1
        have HX := hide (show lett r = .error (40, r.length - half r r.length 0) by rw [unhide HX0, if_pos ⟨rfl, rfl⟩])
        clear HX0
        have HRow3 := hide hrow
        clear hrow
        go_wp2_with fail
        go_loopw [6] (fun i9 wr => ∃ m : Nat, i9 = .int .i64 ((m : Int) + 1) ∧ m ≤ r.length ∧ half r r.length 0 = half r (r.length - m) m ∧ RAt b s (r.drop m) wr ∧ Onl b w wr) (fun i9 _ => r.length + 1 - (Go.RowKit.intOf i9).toNat)
        case atStart => exact ⟨0, rfl, by omega, rfl, by simpa using unhide H3, unhide O3⟩
        case round =>
          obtain ⟨m, rfl, hm, hhf, hR, hO⟩ := hrel
          have HHF := hide hhf
          have HR := hide hR
          have HO := hide hO
          clear hhf hR hO
          by_cases hlt : m < r.length
          · have hlt' : (m : Int) + 1 ≤ (r.length : Int) := by omega
            have hst := fun W => s_to r (m + 1) W (by omega)
            have hst2 : ∀ W, (Instr.slice 9 (S r) none (some (.int .i64 ((m : Int) + 1))) none).run Tryd.prog W = .ok (S (r.take (m + 1))) W := fun W => by
              have := hst W
              push_cast at this
              exact this
            have HFl := hide (full_any (r.take (m + 1)) (by simp; omega) wr ((unhide HO).env (unhide HE) hb3))
            have HSt := hide (half_step r (r.length - m - 1) m)
            clear hst
            go_wp2_with fail
            refine (unhide HFl).mono ?_
            rintro e w4 ⟨rfl, h4⟩
            have HR4 := hide ((unhide HR).keep h4)
            have HO4 := hide ((unhide HO).trans (Onl.of_below h4))
            clear h4 HFl
            cases hfu : full (r.take (m + 1)) with
            | true =>
              have HX2 := hide (show lett r = .error (40, (r.drop m).length) by
                rw [unhide HX, unhide HHF, show r.length - m = (r.length - m - 1) + 1 by omega, unhide HSt, if_neg (by rw [hfu]; simp), List.length_drop])
              have HF := hide (fail_any 40 b s (r.drop m) w4 (unhide HR4))
              clear hfu hst2
              go_wp2_with fail
              refine (unhide HF).mono ?_
              rintro e w5 ⟨rfl, rfl⟩
              go_wp2_with fail
              exact ⟨rfl, PO.bad (unhide HX2) (unhide HO4) (by rw [List.length_drop, hlen])⟩
            | false =>
              have HH2 := hide (show half r r.length 0 = half r (r.length - (m + 1)) (m + 1) by
                rw [unhide HHF, show r.length - m = (r.length - m - 1) + 1 by omega, unhide HSt, if_pos ⟨by omega, hfu⟩]
                congr 1)
              obtain ⟨q, hrow, hq, hdq⟩ := (unhide HR4).row
              have hln : (r.drop m).length = s.length - q := by rw [← hdq]; simp
              rw [List.length_drop] at hln
              have d1 : w4.cell? ⟨b, 1, none⟩ = some (.int .i64 q) := by rw [Lib.cell_of_heap hrow]; rfl
              have z1 : w4.frozen? ⟨b, 1, none⟩ = false := Lib.frozen_of_heap hrow 1
              have HRw := hide hrow
              have HDq := hide hdq
              clear hrow hdq hfu hst2
              go_wp2_with fail
              go_roundw
              case rel =>
                refine ⟨m + 1, by go_num, by omega, unhide HH2, ⟨⟨q + 1, ?_, by omega, ?_⟩, hle⟩, (unhide HO4).trans (Onl.setCell b 1 _ w4)⟩
                · have := heap_setCell_same w4 b 1 _ 50 (.int .i64 ((q : Int) + 1)) (unhide HRw)
                  rw [this]
                  rfl
                · rw [show s.drop (q + 1) = (s.drop q).tail by rw [List.tail_drop], unhide HDq, List.tail_drop]
              case measure => simp [Go.RowKit.intOf] <;> omega
          · have hme : m = r.length := by omega
            have hlt' : ¬ ((m : Int) + 1 ≤ (r.length : Int)) := by omega
            have HX2 := hide (show lett r = .error (40, (r.drop m).length) by
              rw [unhide HX, unhide HHF, hme, Nat.sub_self, half, List.length_drop])
            have HF := hide (fail_any 40 b s (r.drop m) wr (unhide HR))
            clear hme hlt
            go_wp2_with fail
            refine (unhide HF).mono ?_
            rintro e w5 ⟨rfl, rfl⟩
            go_wp2_with fail
            exact ⟨rfl, PO.bad (unhide HX2) (unhide HO) (by rw [List.length_drop, hlen])⟩
      have hy2 : (1 : Int) < (y : Int) := by omega
      have HX := hide (show lett r = .ok (r.take y, r.drop y) by rw [unhide HX0, if_neg (fun q => hy1 q.2)])
      subst hz5
      clear HX0 hy1
      have HR := hide hrow
      have d1 : w3.cell? ⟨b, 1, none⟩ = some (.int .i64 p) := by rw [Lib.cell_of_heap hrow]; rfl
      have z1 : w3.frozen? ⟨b, 1, none⟩ = false := Lib.frozen_of_heap hrow 1
      have hst := fun W => s_to r y W hdl
      clear hrow
      go_wp2_with fail
      go_ret
      refine PO.ok (a := (r.take y, r.drop y)) (unhide HX) ((unhide O3).trans (Onl.setCell b 1 _ w3)) ⟨rfl, ⟨⟨p + y, ?_, by omega, ?_⟩, hle⟩⟩
      · have := heap_setCell_same w3 b 1 _ 50 (.int .i64 ((p : Int) + (y : Int))) (unhide HR)
        rw [this]
        show some (Obj.cells #[S s, .int .i64 ((p : Int) + (y : Int))] 50 (0, 0)) = _
        congr 4
      · rw [← unhide HD, List.drop_drop]
    · have hz6 : ((z : Int) != 65533) = true := by simp; omega
      have HX := hide (show lett r = .ok (r.take y, r.drop y) by rw [unhide HX0, if_neg (fun q => hz5 q.1)])
      clear HX0 hz5
      have HR := hide hrow
      have d1 : w3.cell? ⟨b, 1, none⟩ = some (.int .i64 p) := by rw [Lib.cell_of_heap hrow]; rfl
      have z1 : w3.frozen? ⟨b, 1, none⟩ = false := Lib.frozen_of_heap hrow 1
      have hst := fun W => s_to r y W hdl
      clear hrow
      go_wp2_with fail
      go_ret
      refine PO.ok (a := (r.take y, r.drop y)) (unhide HX) ((unhide O3).trans (Onl.setCell b 1 _ w3)) ⟨rfl, ⟨⟨p + y, ?_, by omega, ?_⟩, hle⟩⟩
      · have := heap_setCell_same w3 b 1 _ 50 (.int .i64 ((p : Int) + (y : Int))) (unhide HR)
        rw [this]
        show some (Obj.cells #[S s, .int .i64 ((p : Int) + (y : Int))] 50 (0, 0)) = _
        congr 4
      · rw [← unhide HD, List.drop_drop]
end Go.Proofs.YtfaahjbkdlkmjaaDoor
