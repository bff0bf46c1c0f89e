import Derived.Test.YtjopnhhdemfniaaGreatDoorPij
namespace Go.Proofs.YtjopnhhdemfniaaGreatDoor
open Go.RowKit
set_option maxHeartbeats 8000000
set_option maxRecDepth 8000
theorem allH_next (u : Us) (l : List Int) (k : Nat) (hk : k < l.length) : (l.take (k + 1)).all (hasv u · 1) = ((l.take k).all (hasv u · 1) && hasv u (l.getD k 0) 1) := by
  rw [List.take_succ_eq_append_getElem hk, List.all_append]
  simp [hk]
theorem allH_bad (u : Us) (l : List Int) (k : Nat) (hk : k < l.length) (h : hasv u (l.getD k 0) 1 = false) : l.all (hasv u · 1) = false := by
  rw [Bool.eq_false_iff]
  intro q
  have := List.all_eq_true.1 q (l.getD k 0) (mem_getD hk)
  rw [h] at this
  cases this
/-- Numbers that are numbers of the machine. -/
def Mch (l : List Int) : Prop := ∀ z ∈ l, z ≤ 9223372036854775807
section
variable {P D : Nat} {d : Ds} {p : Pr} {vw vl vu : Value} {w w' : World}
theorem reachesAll_any (h : PD P D d p vw vl vu w) (a : Option Addr) (n cap : Nat) (l : List Int) (hp : Ins w a n l) (hm : Mch l) (hn : n ≤ 1000000000000) :
    Calls Tryz.prog 127 #[ptr P, .slice a n cap] w fun e w' => e = .returned (.bool (l.all (hasv p.use · 1))) ∧ w' = w := by
  have hN := hp.1
  subst hN
  obtain ⟨c0, c1, c2, c3, c4, c5, c6, c7⟩ := h.c
  have hlt := h.lt
  have HU := hide h.us
  obtain ⟨q, cap2, hv⟩ := owns_form h.us
  have HH := hide (fun z (hz : z ≤ 9223372036854775807) => has_any h.us z 1 hz)
  rw [hv] at c5 HH
  have HP := hide hp
  have HMc := hide hm
  clear h hp hm c0 c1 c2 c3 c4 c6 c7 hv
  generalize p.use = u at *
  generalize u.length = ul at *
  go_enter Tryz.func127, Tryz.ntmps127
  go_wp2
  go_loopw [9] (fun i wr => ∃ k : Nat, k ≤ l.length ∧ i = .int .i64 k ∧ (l.take k).all (hasv u · 1) = true ∧ wr = w) (fun i _ => l.length - (Go.RowKit.intOf i).toNat)
  case atStart => exact ⟨0, by omega, rfl, rfl, rfl⟩
  case round =>
    obtain ⟨k, hk, rfl, ha, rfl⟩ := hrel
    by_cases hlt' : k < l.length
    · have hlt2 : (k : Int) < (l.length : Int) := by omega
      obtain ⟨p2, o, rfl, hpl, hc0⟩ := (unhide HP).at hlt'
      have HN := hide (allH_next u l k hlt')
      have HW := hide (allH_bad u l k hlt')
      have H1 := hide (unhide HH (l.getD k 0) (unhide HMc _ (mem_getD hlt')))
      unfold B at H1
      change Hid (Calls Tryz.prog 132 #[.slice q ul cap2, I (l.getD k 0), .int .u8 1] wr _) at H1
      have HA := hide ha
      clear ha
      generalize l.getD k 0 = x at *
      cases hx : hasv u x 1
      · rw [hx] at H1
        have HW2 := hide (unhide HW hx)
        clear hx
        go_wp2_with fail
        refine (unhide H1).mono ?_
        rintro e w2 ⟨rfl, hw⟩
        rw [hw]
        clear hw w2
        go_wp2
        go_ret
        exact ⟨ret_bool (by rw [unhide HW2]), rfl⟩
      · rw [hx] at H1
        have HA2 := hide (show (l.take (k + 1)).all (hasv u · 1) = true by rw [unhide HN, unhide HA, hx]; rfl)
        clear hx
        go_wp2_with fail
        refine (unhide H1).mono ?_
        rintro e w2 ⟨rfl, hw⟩
        rw [hw]
        clear hw w2
        go_wp2
        go_round
        case measure => simp [Go.RowKit.intOf]; omega
        case rel => exact ⟨k + 1, by omega, by simp, unhide HA2, by first | trivial | rfl⟩
    · have hlt2 : ¬ (k : Int) < (l.length : Int) := by omega
      rw [List.take_of_length_le (by omega)] at ha
      have HA := hide ha
      clear ha
      go_wp2
      go_ret
      exact ⟨ret_bool (by rw [unhide HA]), rfl⟩
end
/-- Do the links of pages name only what is reached? -/
def lkb (u : Us) (x : Pg) : Bool := x.links.all (hasv u · 1)
def clo (u : Us) (l : List Pg) (root : Int) : Bool := (decide (root = 0) || hasv u root 1) && l.all (lkb u)
theorem allL_next (u : Us) (l : List Pg) (k : Nat) (hk : k < l.length) : (l.take (k + 1)).all (lkb u) = ((l.take k).all (lkb u) && lkb u (l.getD k noPg)) := by
  rw [List.take_succ_eq_append_getElem hk, List.all_append]
  simp [hk]
theorem allL_bad (u : Us) (l : List Pg) (k : Nat) (hk : k < l.length) (h : lkb u (l.getD k noPg) = false) : l.all (lkb u) = false := by
  rw [Bool.eq_false_iff]
  intro q
  have := List.all_eq_true.1 q (l.getD k noPg) (mem_getD hk)
  rw [h] at this
  cases this
theorem closed_any {v : Value} {u : Us} {w : World} (h : Uls w v u) (a : Option Addr) (n cap : Nat) (l : List Pg) (hp : Pgs w a n l) (root : Int) (hr : root ≤ 9223372036854775807) (hm : ∀ x ∈ l, Mch x.links ∧ x.links.length ≤ 1000000000000) (hn : n ≤ 1000000000000) :
    Calls Tryz.prog 129 #[v, .slice a n cap, I root] w fun e w' => e = .returned (.bool (clo u l root)) ∧ Below w.heap.size w w' := by
  have hN := hp.1
  subst hN
  obtain ⟨q, cap2, hv⟩ := owns_form h
  have HH := hide (fun W (b : Below w.heap.size w W) z (hz : z ≤ 9223372036854775807) => has_any (show Uls W v u from owns_below h b) z 1 hz)
  subst hv
  unfold B at HH
  change Hid (∀ W, Below w.heap.size w W → ∀ z, z ≤ 9223372036854775807 → Calls Tryz.prog 132 #[.slice q u.length cap2, I z, .int .u8 1] W fun e w' => e = .returned (.bool (hasv u z 1)) ∧ w' = W) at HH
  have HP := hide hp
  have HMc := hide hm
  have HE := hide (show clo u l root = ((decide (root = 0) || hasv u root 1) && l.all (lkb u)) from rfl)
  generalize clo u l root = R at *
  generalize u.length = ul at *
  clear h hp hm
  by_cases hroot : (decide (root = 0) || hasv u root 1) = true
  · have HE2 := hide (show R = l.all (lkb u) by rw [unhide HE, hroot]; rfl)
    have HC : root = 0 ∨ (root ≠ 0 ∧ hasv u root 1 = true) := by
      by_cases h0 : root = 0
      · exact .inl h0
      · exact .inr ⟨h0, by simpa [h0] using hroot⟩
    have H1 := hide (unhide HH w (Below.refl _ _) root hr)
    clear hroot HE
    rcases HC with h0 | ⟨h0, h1⟩
    · subst h0
      go_enter Tryz.func129, Tryz.ntmps129
      go_wp2
      go_loopw [21] (fun i wr => ∃ k : Nat, k ≤ l.length ∧ i = .int .i64 k ∧ (l.take k).all (lkb u) = true ∧ Below w.heap.size w wr) (fun i _ => l.length - (Go.RowKit.intOf i).toNat)
      case atStart => exact ⟨0, by omega, rfl, rfl, Below.refl _ _⟩
      case round =>
        obtain ⟨k, hk, rfl, ha, hb⟩ := hrel
        by_cases hlt : k < l.length
        · have hlt' : (k : Int) < (l.length : Int) := by omega
          obtain ⟨g, o, q3, c, rfl, hg, c0, c1, c2, c3, c4, hi⟩ := ((unhide HP).below hb).at hlt
          have hmx := unhide HMc _ (mem_getD (z := noPg) hlt)
          have HN := hide (allL_next u l k hlt)
          have HW := hide (allL_bad u l k hlt)
          have HLK := hide (show lkb u (l.getD k noPg) = (l.getD k noPg).links.all (hasv u · 1) from rfl)
          generalize lkb u (l.getD k noPg) = LK at *
          generalize l.getD k noPg = x at *
          obtain ⟨xk, xn, xb, xl, xs⟩ := x
          simp only at c0 c1 c2 c3 c4 hi hmx HLK
          have bA := (Below.refl wr.heap.size wr).alloc (Nat.le_refl _) (.cells #[I xk, I xn, I xb, .slice q3 xl.length c, S xs] 24)
          have HB := hide (hb.trans (bA.mono hb.size))
          have HI := hide (hi.below bA)
          have HMX := hide hmx.1
          have hxl := hmx.2
          have HA := hide ha
          clear ha hb bA hi hmx
          go_wp2
          generalize hW1 : wr.alloc (.cells #[I xk, I xn, I xb, .slice q3 xl.length c, S xs] 24) = W1 at *
          go_loopw [28] (fun i wq => ∃ m : Nat, m ≤ xl.length ∧ i = .int .i64 m ∧ (xl.take m).all (hasv u · 1) = true ∧ wq = W1) (fun i _ => xl.length - (Go.RowKit.intOf i).toNat)
          case atStart => exact ⟨0, by omega, rfl, rfl, rfl⟩
          case round =>
            obtain ⟨m, hm, rfl, hma, hwq⟩ := hrel
            subst hwq
            by_cases hmlt : m < xl.length
            · have hmlt' : (m : Int) < (xl.length : Int) := by omega
              obtain ⟨p2, o2, rfl, hpl2, hcm⟩ := (unhide HI).at hmlt
              have HN2 := hide (allH_next u xl m hmlt)
              have HW2 := hide (allH_bad u xl m hmlt)
              have H2 := hide (unhide HH _ (unhide HB) (xl.getD m 0) (unhide HMX _ (mem_getD hmlt)))
              have HMA := hide hma
              clear hma
              generalize xl.getD m 0 = z at *
              cases hz : hasv u z 1
              · rw [hz] at H2
                have HW3 := hide (show R = false by rw [unhide HE2]; exact unhide HW (by rw [unhide HLK]; exact unhide HW2 hz))
                clear hz
                go_wp2_with fail
                refine (unhide H2).mono ?_
                rintro e w2 ⟨rfl, hw⟩
                rw [hw]
                clear hw w2
                go_wp2
                go_ret
                exact ⟨ret_bool (by rw [unhide HW3]), unhide HB⟩
              · rw [hz] at H2
                have HA3 := hide (show (xl.take (m + 1)).all (hasv u · 1) = true by rw [unhide HN2, unhide HMA, hz]; rfl)
                clear hz
                go_wp2_with fail
                refine (unhide H2).mono ?_
                rintro e w2 ⟨rfl, hw⟩
                rw [hw]
                clear hw w2
                go_wp2
                go_round
                case measure => simp [Go.RowKit.intOf]; omega
                case rel => exact ⟨m + 1, by omega, by simp, unhide HA3, by first | trivial | rfl⟩
            · have hmlt' : ¬ (m : Int) < (xl.length : Int) := by omega
              rw [List.take_of_length_le (by omega)] at hma
              have HA3 := hide (show (l.take (k + 1)).all (lkb u) = true by rw [unhide HN, unhide HA, unhide HLK, hma]; rfl)
              clear hma
              go_wp2
              go_round
              case measure => simp [Go.RowKit.intOf]; omega
              case rel => exact ⟨k + 1, by omega, by simp, unhide HA3, unhide HB⟩
        · have hlt' : ¬ (k : Int) < (l.length : Int) := by omega
          rw [List.take_of_length_le (by omega)] at ha
          have HA := hide ha
          have HB := hide hb
          clear ha hb
          go_wp2
          go_ret
          exact ⟨ret_bool (by rw [unhide HE2, unhide HA]), unhide HB⟩
    · rw [h1] at H1
      have h0' : (root != 0) = true := by rw [bne_iff_ne]; exact h0
      clear h0 h1
      go_enter Tryz.func129, Tryz.ntmps129
      go_wp2_with (go_at_call 132; refine (unhide H1).mono ?_; rintro e w2 ⟨rfl, hw⟩; rw [hw]; clear hw w2)
      go_loopw [21] (fun i wr => ∃ k : Nat, k ≤ l.length ∧ i = .int .i64 k ∧ (l.take k).all (lkb u) = true ∧ Below w.heap.size w wr) (fun i _ => l.length - (Go.RowKit.intOf i).toNat)
      case atStart => exact ⟨0, by omega, rfl, rfl, Below.refl _ _⟩
      case round =>
        obtain ⟨k, hk, rfl, ha, hb⟩ := hrel
        by_cases hlt : k < l.length
        · have hlt' : (k : Int) < (l.length : Int) := by omega
          obtain ⟨g, o, q3, c, rfl, hg, c0, c1, c2, c3, c4, hi⟩ := ((unhide HP).below hb).at hlt
          have hmx := unhide HMc _ (mem_getD (z := noPg) hlt)
          have HN := hide (allL_next u l k hlt)
          have HW := hide (allL_bad u l k hlt)
          have HLK := hide (show lkb u (l.getD k noPg) = (l.getD k noPg).links.all (hasv u · 1) from rfl)
          generalize lkb u (l.getD k noPg) = LK at *
          generalize l.getD k noPg = x at *
          obtain ⟨xk, xn, xb, xl, xs⟩ := x
          simp only at c0 c1 c2 c3 c4 hi hmx HLK
          have bA := (Below.refl wr.heap.size wr).alloc (Nat.le_refl _) (.cells #[I xk, I xn, I xb, .slice q3 xl.length c, S xs] 24)
          have HB := hide (hb.trans (bA.mono hb.size))
          have HI := hide (hi.below bA)
          have HMX := hide hmx.1
          have hxl := hmx.2
          have HA := hide ha
          clear ha hb bA hi hmx
          go_wp2
          generalize hW1 : wr.alloc (.cells #[I xk, I xn, I xb, .slice q3 xl.length c, S xs] 24) = W1 at *
          go_loopw [28] (fun i wq => ∃ m : Nat, m ≤ xl.length ∧ i = .int .i64 m ∧ (xl.take m).all (hasv u · 1) = true ∧ wq = W1) (fun i _ => xl.length - (Go.RowKit.intOf i).toNat)
          case atStart => exact ⟨0, by omega, rfl, rfl, rfl⟩
          case round =>
            obtain ⟨m, hm, rfl, hma, hwq⟩ := hrel
            subst hwq
            by_cases hmlt : m < xl.length
            · have hmlt' : (m : Int) < (xl.length : Int) := by omega
              obtain ⟨p2, o2, rfl, hpl2, hcm⟩ := (unhide HI).at hmlt
              have HN2 := hide (allH_next u xl m hmlt)
              have HW2 := hide (allH_bad u xl m hmlt)
              have H2 := hide (unhide HH _ (unhide HB) (xl.getD m 0) (unhide HMX _ (mem_getD hmlt)))
              have HMA := hide hma
              clear hma
              generalize xl.getD m 0 = z at *
              cases hz : hasv u z 1
              · rw [hz] at H2
                have HW3 := hide (show R = false by rw [unhide HE2]; exact unhide HW (by rw [unhide HLK]; exact unhide HW2 hz))
                clear hz
                go_wp2_with fail
                refine (unhide H2).mono ?_
                rintro e w2 ⟨rfl, hw⟩
                rw [hw]
                clear hw w2
                go_wp2
                go_ret
                exact ⟨ret_bool (by rw [unhide HW3]), unhide HB⟩
              · rw [hz] at H2
                have HA3 := hide (show (xl.take (m + 1)).all (hasv u · 1) = true by rw [unhide HN2, unhide HMA, hz]; rfl)
                clear hz
                go_wp2_with fail
                refine (unhide H2).mono ?_
                rintro e w2 ⟨rfl, hw⟩
                rw [hw]
                clear hw w2
                go_wp2
                go_round
                case measure => simp [Go.RowKit.intOf]; omega
                case rel => exact ⟨m + 1, by omega, by simp, unhide HA3, by first | trivial | rfl⟩
            · have hmlt' : ¬ (m : Int) < (xl.length : Int) := by omega
              rw [List.take_of_length_le (by omega)] at hma
              have HA3 := hide (show (l.take (k + 1)).all (lkb u) = true by rw [unhide HN, unhide HA, unhide HLK, hma]; rfl)
              clear hma
              go_wp2
              go_round
              case measure => simp [Go.RowKit.intOf]; omega
              case rel => exact ⟨k + 1, by omega, by simp, unhide HA3, unhide HB⟩
        · have hlt' : ¬ (k : Int) < (l.length : Int) := by omega
          rw [List.take_of_length_le (by omega)] at ha
          have HA := hide ha
          have HB := hide hb
          clear ha hb
          go_wp2
          go_ret
          exact ⟨ret_bool (by rw [unhide HE2, unhide HA]), unhide HB⟩
  · have hroot' : (decide (root = 0) || hasv u root 1) = false := by simpa using hroot
    have hR : R = false := by rw [unhide HE, hroot']; rfl
    subst hR
    have h0 : root ≠ 0 ∧ hasv u root 1 = false := by
      constructor
      · intro e; simp [e] at hroot'
      · simp only [Bool.or_eq_false_iff] at hroot'; exact hroot'.2
    have H1 := hide (unhide HH w (Below.refl _ _) root hr)
    rw [h0.2] at H1
    have h0' : (root != 0) = true := by rw [bne_iff_ne]; exact h0.1
    clear h0 hroot hroot' HE
    go_enter Tryz.func129, Tryz.ntmps129
    go_wp2_with (go_at_call 132; refine (unhide H1).mono ?_; rintro e w2 ⟨rfl, hw⟩; rw [hw]; clear hw w2)
    go_ret
    exact ⟨rfl, Below.refl _ _⟩
end Go.Proofs.YtjopnhhdemfniaaGreatDoor
