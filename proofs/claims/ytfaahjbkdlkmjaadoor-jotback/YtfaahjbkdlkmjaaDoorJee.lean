import Derived.Test.YtfaahjbkdlkmjaaDoorJed
/- Jot: four digits. -/
namespace Go.Proofs.YtfaahjbkdlkmjaaDoor
open Go Go.RowKit Go.Lib
set_option linter.unusedVariables false
set_option linter.unusedSimpArgs false
theorem four_eq (lw : Bool) (p a : Nat) (r : Bs) (hp : p < 4) (d : Nat) (hd : wth (r.headD 0) = (d : Int)) : four lw p a r =
    if p = 0 ∧ lw = true ∧ a * 16 + d ≠ 13 then .error (40, r.length)
    else if p = 1 ∧ lw ≠ decide (220 ≤ a * 16 + d ∧ a * 16 + d < 224) then .error (40, r.length)
    else four lw (p + 1) (a * 16 + d) r.tail := by
  rw [four]
  · rw [dif_neg (by omega)]
    simp only [hd, Int.toNat_natCast]
    rw [if_neg (by omega)]
  · omega
theorem four_neg (lw : Bool) (p a : Nat) (r : Bs) (hp : p < 4) (hd : wth (r.headD 0) < 0) : four lw p a r = .error (40, r.length) := by
  rw [four]
  · rw [dif_neg (by omega)]
    simp only
    rw [if_pos hd]
  · omega
/-- a letter's number, and what is left -/
abbrev okC (b : Nat) (s : Bs) (x : Nat × Bs) (e : Ending) (w' : World) : Prop := e = .returned (.int .i32 (x.1 : Int)) ∧ RAt b s x.2 w'
theorem wth_le : ∀ c : UInt8, wth c ≤ 15 := all_u8 (by decide +kernel)
set_option maxHeartbeats 16000000 in
set_option maxRecDepth 20000 in
theorem four_any (lw : Bool) (b : Nat) (s r : Bs) (w : World) (h : RAt b s r w) :
    Calls Tryd.prog 80 #[.pointer (some ⟨b, 0, none⟩), .bool lw] w (PO b s w (four lw 0 0 r) (okC b s)) := by
  have H := hide h
  clear h
  go_enter Tryd.func80, Tryd.ntmps80
  go_wp2_with fail
  go_loopw [5, 8] (fun a9 i9 wr => ∃ (p a : Nat) (r' : Bs), i9 = .int .i64 p ∧ a9 = .int .i32 a ∧ p ≤ 4 ∧ a < 16 ^ p ∧ RAt b s r' wr ∧ four lw 0 0 r = four lw p a r' ∧ Onl b w wr) (fun _ i9 _ => 4 - (Go.RowKit.intOf i9).toNat)
  case atStart => exact ⟨0, 0, r, rfl, rfl, by omega, by omega, unhide H, rfl, Onl.refl _ _⟩
  case round =>
    clear H
    obtain ⟨p, a, r', rfl, rfl, hp, ha, h, hfo, ho⟩ := hrel
    have HFO := hide hfo
    by_cases hlt : p < 4
    · have hlt' : (p : Int) < 4 := by omega
      have ha2 : a < 4096 := Nat.lt_of_lt_of_le ha (Nat.pow_le_pow_right (by decide) (by omega : p ≤ 3))
      obtain ⟨c, hc⟩ : ∃ c, r'.headD 0 = c := ⟨_, rfl⟩
      have HL := hide (look_any b s r' wr h)
      rw [hc] at HL
      have HW := hide (fun W => worth_any c W)
      have H := hide h
      have HO := hide ho
      have HC := hide hc
      have HA := hide ha
      have hw15 := wth_le c
      clear h hfo ho hc ha
      go_wp2_with fail
      refine (unhide HL).mono ?_
      rintro e w1 ⟨rfl, q, rfl⟩
      have H1 := hide ((unhide H).drewN q)
      have O1 := hide ((unhide HO).trans (Onl.drewN b wr q))
      generalize wr.drewN q = w1 at *
      clear HL H HO
      go_wp2_with fail
      refine (unhide HW w1).mono ?_
      rintro e w9 ⟨rfl, hw9⟩
      rw [hw9]
      clear hw9 w9 HW
      by_cases hneg : wth c < 0
      · have HX := hide (show four lw 0 0 r = .error (40, r'.length) by rw [unhide HFO, four_neg lw p a r' hlt (by rw [unhide HC]; exact hneg)])
        have HF := hide (fail_any 40 b s r' w1 (unhide H1))
        clear HFO HC
        go_wp2_with fail
        refine (unhide HF).mono ?_
        rintro e w2 ⟨rfl, rfl⟩
        go_wp2_with fail
        exact ⟨rfl, PO.bad (unhide HX) (unhide O1) rfl⟩
      obtain ⟨d, hd⟩ : ∃ d : Nat, wth c = (d : Int) := ⟨(wth c).toNat, by omega⟩
      have hd15 : d < 16 := by omega
      have HE := hide (four_eq lw p a r' hlt d (by rw [unhide HC]; exact hd))
      have hr0 : r' ≠ [] := by
        intro q
        have := unhide HC
        rw [q] at this
        rw [← this] at hneg
        exact hneg (by decide)
      have hl0 := List.length_pos_iff.2 hr0
      rw [hd]
      clear hneg hw15 HC hd hr0
      have hbo : bits .or .i32 ((a : Int) * 16) (d : Int) = ((a * 16 + d : Nat) : Int) := by
        have := or16 a d (by omega) hd15
        push_cast at this ⊢
        exact this
      have ha3 : a * 16 + d < 65536 := by omega
      have hap : a * 16 + d < 16 ^ (p + 1) := by have := unhide HA; rw [Nat.pow_succ]; omega
      have HAP := hide hap
      clear hap HA
      obtain ⟨v, hv⟩ : ∃ v : Nat, a * 16 + d = v := ⟨_, rfl⟩
      rw [hv] at hbo HE HAP ha3
      clear hv
      by_cases p0 : p = 0
      · subst p0
        cases lw with
        | false =>
          have HX := hide (show four false 0 0 r = four false (0 + 1) v r'.tail by rw [unhide HFO, unhide HE, if_neg (by simp), if_neg (by simp)])
          obtain ⟨q, hr, hq, hdq⟩ := (unhide H1).row
          have hle := (unhide H1).le
          have hlen : r'.length = s.length - q := by rw [← hdq]; simp
          have d1 : w1.cell? ⟨b, 1, none⟩ = some (.int .i64 q) := by rw [Lib.cell_of_heap hr]; rfl
          have z1 : w1.frozen? ⟨b, 1, none⟩ = false := Lib.frozen_of_heap hr 1
          have HR := hide hr
          have HQ := hide hdq
          clear hr hdq HFO HE
          go_wp2_with fail
          go_roundw
          case rel =>
            refine ⟨0 + 1, v, r'.tail, by go_num, rfl, by omega, unhide HAP, ⟨⟨q + 1, ?_, by omega, ?_⟩, hle⟩, unhide HX, (unhide O1).trans (Onl.setCell b 1 _ w1)⟩
            · have := heap_setCell_same w1 b 1 _ 50 (.int .i64 ((q : Int) + 1)) (unhide HR)
              rw [this]
              rfl
            · rw [← unhide HQ, List.tail_drop]
          case measure => simp [Go.RowKit.intOf] <;> omega
        | true =>
          by_cases v13 : v = 13
          · subst v13
            have hbo2 : bits .or .i32 ((a : Int) * 16) (d : Int) = (13 : Int) := hbo
            have HX := hide (show four true 0 0 r = four true (0 + 1) 13 r'.tail by rw [unhide HFO, unhide HE, if_neg (by simp), if_neg (by simp)])
            obtain ⟨q, hr, hq, hdq⟩ := (unhide H1).row
            have hle := (unhide H1).le
            have hlen : r'.length = s.length - q := by rw [← hdq]; simp
            have d1 : w1.cell? ⟨b, 1, none⟩ = some (.int .i64 q) := by rw [Lib.cell_of_heap hr]; rfl
            have z1 : w1.frozen? ⟨b, 1, none⟩ = false := Lib.frozen_of_heap hr 1
            have HR := hide hr
            have HQ := hide hdq
            clear hr hdq HFO HE
            clear hbo
            go_wp2_with fail
            go_roundw
            case rel =>
              refine ⟨0 + 1, 13, r'.tail, by go_num, rfl, by omega, unhide HAP, ⟨⟨q + 1, ?_, by omega, ?_⟩, hle⟩, unhide HX, (unhide O1).trans (Onl.setCell b 1 _ w1)⟩
              · have := heap_setCell_same w1 b 1 _ 50 (.int .i64 ((q : Int) + 1)) (unhide HR)
                rw [this]
                rfl
              · rw [← unhide HQ, List.tail_drop]
            case measure => simp [Go.RowKit.intOf] <;> omega
          · have v13b : ((v : Int) != 13) = true := by simp; omega
            have HX := hide (show four true 0 0 r = .error (40, r'.length) by rw [unhide HFO, unhide HE, if_pos ⟨rfl, rfl, v13⟩])
            have HF := hide (fail_any 40 b s r' w1 (unhide H1))
            clear HFO HE
            go_wp2_with fail
            refine (unhide HF).mono ?_
            rintro e w2 ⟨rfl, rfl⟩
            go_wp2_with fail
            exact ⟨rfl, PO.bad (unhide HX) (unhide O1) rfl⟩
      have p0b : ((p : Int) == 0) = false := by rw [beq_eq_false_iff_ne]; omega
      by_cases p1 : p = 1
      · subst p1
        clear p0 p0b
        by_cases g1 : 220 ≤ v
        · have g1b : (220 : Int) ≤ (v : Int) := by omega
          by_cases g2 : v < 224
          · have g2b : (v : Int) < 224 := by omega
            have HDc := hide (decide_eq_true (p := 220 ≤ v ∧ v < 224) ⟨g1, g2⟩)
            cases lw with
            | true =>
              have HX := hide (show four true 0 0 r = four true (1 + 1) v r'.tail by rw [unhide HFO, unhide HE, if_neg (by simp), if_neg (by rw [unhide HDc]; simp)])
              obtain ⟨q, hr, hq, hdq⟩ := (unhide H1).row
              have hle := (unhide H1).le
              have hlen : r'.length = s.length - q := by rw [← hdq]; simp
              have d1 : w1.cell? ⟨b, 1, none⟩ = some (.int .i64 q) := by rw [Lib.cell_of_heap hr]; rfl
              have z1 : w1.frozen? ⟨b, 1, none⟩ = false := Lib.frozen_of_heap hr 1
              have HR := hide hr
              have HQ := hide hdq
              clear hr hdq HFO HE
              clear g1 g2
              go_wp2_with fail
              go_roundw
              case rel =>
                refine ⟨1 + 1, v, r'.tail, by go_num, rfl, by omega, unhide HAP, ⟨⟨q + 1, ?_, by omega, ?_⟩, hle⟩, unhide HX, (unhide O1).trans (Onl.setCell b 1 _ w1)⟩
                · have := heap_setCell_same w1 b 1 _ 50 (.int .i64 ((q : Int) + 1)) (unhide HR)
                  rw [this]
                  rfl
                · rw [← unhide HQ, List.tail_drop]
              case measure => simp [Go.RowKit.intOf] <;> omega
            | false =>
              have HX := hide (show four false 0 0 r = .error (40, r'.length) by rw [unhide HFO, unhide HE, if_neg (by simp), if_pos ⟨rfl, by rw [unhide HDc]; simp⟩])
              have HF := hide (fail_any 40 b s r' w1 (unhide H1))
              clear g1 g2
              clear HFO HE
              go_wp2_with fail
              refine (unhide HF).mono ?_
              rintro e w2 ⟨rfl, rfl⟩
              go_wp2_with fail
              exact ⟨rfl, PO.bad (unhide HX) (unhide O1) rfl⟩
          · have g2b : decide ((v : Int) < 224) = false := decide_eq_false (by omega)
            have HDc := hide (decide_eq_false (p := 220 ≤ v ∧ v < 224) (fun q => g2 q.2))
            cases lw with
            | false =>
              have HX := hide (show four false 0 0 r = four false (1 + 1) v r'.tail by rw [unhide HFO, unhide HE, if_neg (by simp), if_neg (by rw [unhide HDc]; simp)])
              obtain ⟨q, hr, hq, hdq⟩ := (unhide H1).row
              have hle := (unhide H1).le
              have hlen : r'.length = s.length - q := by rw [← hdq]; simp
              have d1 : w1.cell? ⟨b, 1, none⟩ = some (.int .i64 q) := by rw [Lib.cell_of_heap hr]; rfl
              have z1 : w1.frozen? ⟨b, 1, none⟩ = false := Lib.frozen_of_heap hr 1
              have HR := hide hr
              have HQ := hide hdq
              clear hr hdq HFO HE
              clear g1 g2
              go_wp2_with fail
              go_roundw
              case rel =>
                refine ⟨1 + 1, v, r'.tail, by go_num, rfl, by omega, unhide HAP, ⟨⟨q + 1, ?_, by omega, ?_⟩, hle⟩, unhide HX, (unhide O1).trans (Onl.setCell b 1 _ w1)⟩
                · have := heap_setCell_same w1 b 1 _ 50 (.int .i64 ((q : Int) + 1)) (unhide HR)
                  rw [this]
                  rfl
                · rw [← unhide HQ, List.tail_drop]
              case measure => simp [Go.RowKit.intOf] <;> omega
            | true =>
              have HX := hide (show four true 0 0 r = .error (40, r'.length) by rw [unhide HFO, unhide HE, if_neg (by simp), if_pos ⟨rfl, by rw [unhide HDc]; simp⟩])
              have HF := hide (fail_any 40 b s r' w1 (unhide H1))
              clear g1 g2
              clear HFO HE
              go_wp2_with fail
              refine (unhide HF).mono ?_
              rintro e w2 ⟨rfl, rfl⟩
              go_wp2_with fail
              exact ⟨rfl, PO.bad (unhide HX) (unhide O1) rfl⟩
        · have g1b : ¬ (220 : Int) ≤ (v : Int) := by omega
          have HDc := hide (decide_eq_false (p := 220 ≤ v ∧ v < 224) (fun q => g1 q.1))
          cases lw with
          | false =>
            have HX := hide (show four false 0 0 r = four false (1 + 1) v r'.tail by rw [unhide HFO, unhide HE, if_neg (by simp), if_neg (by rw [unhide HDc]; simp)])
            obtain ⟨q, hr, hq, hdq⟩ := (unhide H1).row
            have hle := (unhide H1).le
            have hlen : r'.length = s.length - q := by rw [← hdq]; simp
            have d1 : w1.cell? ⟨b, 1, none⟩ = some (.int .i64 q) := by rw [Lib.cell_of_heap hr]; rfl
            have z1 : w1.frozen? ⟨b, 1, none⟩ = false := Lib.frozen_of_heap hr 1
            have HR := hide hr
            have HQ := hide hdq
            clear hr hdq HFO HE
            clear g1
            go_wp2_with fail
            go_roundw
            case rel =>
              refine ⟨1 + 1, v, r'.tail, by go_num, rfl, by omega, unhide HAP, ⟨⟨q + 1, ?_, by omega, ?_⟩, hle⟩, unhide HX, (unhide O1).trans (Onl.setCell b 1 _ w1)⟩
              · have := heap_setCell_same w1 b 1 _ 50 (.int .i64 ((q : Int) + 1)) (unhide HR)
                rw [this]
                rfl
              · rw [← unhide HQ, List.tail_drop]
            case measure => simp [Go.RowKit.intOf] <;> omega
          | true =>
            have HX := hide (show four true 0 0 r = .error (40, r'.length) by rw [unhide HFO, unhide HE, if_neg (by simp), if_pos ⟨rfl, by rw [unhide HDc]; simp⟩])
            have HF := hide (fail_any 40 b s r' w1 (unhide H1))
            clear g1
            clear HFO HE
            go_wp2_with fail
            refine (unhide HF).mono ?_
            rintro e w2 ⟨rfl, rfl⟩
            go_wp2_with fail
            exact ⟨rfl, PO.bad (unhide HX) (unhide O1) rfl⟩
      have p1b : ((p : Int) == 1) = false := by rw [beq_eq_false_iff_ne]; omega
      have HX := hide (show four lw 0 0 r = four lw (p + 1) v r'.tail by rw [unhide HFO, unhide HE, if_neg (fun q => p0 q.1), if_neg (fun q => p1 q.1)])
      obtain ⟨q, hr, hq, hdq⟩ := (unhide H1).row
      have hle := (unhide H1).le
      have hlen : r'.length = s.length - q := by rw [← hdq]; simp
      have d1 : w1.cell? ⟨b, 1, none⟩ = some (.int .i64 q) := by rw [Lib.cell_of_heap hr]; rfl
      have z1 : w1.frozen? ⟨b, 1, none⟩ = false := Lib.frozen_of_heap hr 1
      have HR := hide hr
      have HQ := hide hdq
      clear hr hdq HFO HE
      clear p0 p1
      go_wp2_with fail
      go_roundw
      case rel =>
        refine ⟨p + 1, v, r'.tail, by go_num, rfl, by omega, unhide HAP, ⟨⟨q + 1, ?_, by omega, ?_⟩, hle⟩, unhide HX, (unhide O1).trans (Onl.setCell b 1 _ w1)⟩
        · have := heap_setCell_same w1 b 1 _ 50 (.int .i64 ((q : Int) + 1)) (unhide HR)
          rw [this]
          rfl
        · rw [← unhide HQ, List.tail_drop]
      case measure => simp [Go.RowKit.intOf] <;> omega
    · have hke : p = 4 := by omega
      subst hke
      have H3 := hide h
      have HO := hide ho
      clear h ho hfo
      go_wp2_with fail
      go_ret
      refine PO.ok (a := (a, r')) ?_ (unhide HO) ⟨rfl, unhide H3⟩
      rw [unhide HFO, four]
end Go.Proofs.YtfaahjbkdlkmjaaDoor
