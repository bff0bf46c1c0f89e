import Derived.Test.YtpidmpefodnffaaGreatDoorReda
namespace Go.Proofs.YtpidmpefodnffaaGreatDoor
open Go.RowKit Go.Lib
/-- What is wrong with Num of a Reader, with Text, with Raw. -/
def rNumE (size : Int) (R : List UInt8) : Nat := if 1 ≤ size ∧ size ≤ 8 then (if (R.length : Int) < size then 22 else if size = 8 ∧ 128 ≤ (R.getD 0 0).toNat then 20 else 0) else 1
def rRawE (n : Int) (R : List UInt8) : Nat := if n < 0 then 1 else if (R.length : Int) < n then 22 else 0
/-- A Reader behind a call that takes k bytes. -/
def rGo (R : List UInt8) (E e k : Nat) : List UInt8 × Nat := if E ≠ 0 then (R, E) else if e ≠ 0 then (R, e) else (R.drop k, 0)
theorem rGo_old {R : List UInt8} {E e k : Nat} (h : E ≠ 0) : rGo R E e k = (R, E) := by simp [rGo, h]
theorem rGo_bad {R : List UInt8} {e k : Nat} (h : e ≠ 0) : rGo R 0 e k = (R, e) := by simp [rGo, h]
theorem rGo_ok {R : List UInt8} {k : Nat} : rGo R 0 0 k = (R.drop k, 0) := by simp [rGo]
/-- Is nothing wrong? -/
def fine (E e : Nat) : Bool := E == 0 && e == 0
theorem fine_old {E e : Nat} (h : E ≠ 0) : fine E e = false := by simp [fine, h]
theorem fine_bad {e : Nat} (h : e ≠ 0) : fine 0 e = false := by simp [fine, h]
theorem fine_ok : fine 0 0 = true := rfl
set_option maxHeartbeats 1000000 in
set_option maxRecDepth 8000 in
theorem rleft_any (b g off cap : Nat) (R : List UInt8) (E : Nat) (w : World) (h : RAt b g off cap R E w) :
    Calls Tryz.prog 134 #[.pointer (some ⟨b, 0, none⟩)] w fun e w' => e = .returned (.int .i64 R.length) ∧ w' = w := by
  have c0 := h.c0
  clear h
  go_enter Tryz.func134, Tryz.ntmps134
  go_wp2
  go_ret
  exact ⟨rfl, rfl⟩
set_option maxHeartbeats 1000000 in
set_option maxRecDepth 8000 in
theorem rraw_any (b g off cap : Nat) (R : List UInt8) (E : Nat) (n : Int) (w : World) (h : RAt b g off cap R E w) (hR : R.length ≤ 9223372036854775807) :
    Calls Tryz.prog 133 #[.pointer (some ⟨b, 0, none⟩), .int .i64 n] w fun e w' => e = .returned (.string ⟨(if fine E (rRawE n R) then R.take n.toNat else []).toArray⟩) ∧ RTo b g (rGo R E (rRawE n R) n.toNat).1 (rGo R E (rRawE n R) n.toNat).2 w w' := by
  have c0 := h.c0
  have c1 := h.c1
  have f1 := h.fz 1
  by_cases hE : E = 0
  · subst hE
    rw [errV_0] at c1
    by_cases hn : n < 0
    · have he : rRawE n R = 1 := by simp [rRawE, hn]
      rw [he, rGo_bad (by decide), fine_bad (by decide)]
      have H := hide h
      clear h he
      go_enter Tryz.func133, Tryz.ntmps133
      go_wp2
      go_ret
      exact ⟨rfl, RTo.err (E' := 1) (unhide H)⟩
    · obtain ⟨k, hk⟩ : ∃ k : Nat, n = (k : Int) := ⟨n.toNat, by omega⟩
      subst hk
      by_cases hl : R.length < k
      · have he : rRawE k R = 22 := by unfold rRawE; rw [if_neg (by omega), if_pos (by omega)]
        rw [he, rGo_bad (by decide), fine_bad (by decide)]
        have H := hide h
        clear h he
        go_enter Tryz.func133, Tryz.ntmps133
        go_wp2
        go_ret
        exact ⟨rfl, RTo.err (E' := 22) (unhide H)⟩
      · have he : rRawE k R = 0 := by unfold rRawE; rw [if_neg (by omega), if_neg (by omega)]
        rw [he, rGo_ok, fine_ok]
        have H := hide h
        have hlk : k ≤ R.length := by omega
        clear h he hl
        go_enter Tryz.func133, Tryz.ntmps133
        go_wp2_with fail
        refine (take_any b g off cap R 0 k w (unhide H) hlk hR).mono ?_
        rintro e w1 ⟨rfl, hto⟩
        have hx := ((unhide H).bys.keep hto.2 (unhide H).ne).text k hlk cap
        have HX := hide hx
        clear hx
        go_wp2_with (refine wpList_conv rfl 105 9 (.tmp 7) rfl _ _ (by rfl) (unhide HX) ?_)
        go_ret
        exact ⟨rfl, hto⟩
  · rw [rGo_old hE, fine_old hE]
    rw [errV_ne hE] at c1
    have H := hide h
    clear h
    go_enter Tryz.func133, Tryz.ntmps133
    go_wp2
    go_ret
    exact ⟨rfl, RTo.same (unhide H)⟩
theorem getD_take (R : List UInt8) (k : Nat) (hk : 0 < k) : (R.take k).getD 0 0 = R.getD 0 0 := by
  cases R with
  | nil => simp
  | cons c R => cases k with
    | zero => omega
    | succ k => simp
theorem nat_first (l : List UInt8) (h : l.length = 8) : nat l < 9223372036854775808 ↔ (l.getD 0 0).toNat < 128 := by
  match l, h with
  | [a, b, c, d, e, f, g, i], _ =>
    have h1 := a.toNat_lt
    have h2 := b.toNat_lt
    have h3 := c.toNat_lt
    have h4 := d.toNat_lt
    have h5 := e.toNat_lt
    have h6 := f.toNat_lt
    have h7 := g.toNat_lt
    have h8 := i.toNat_lt
    simp only [nat, List.foldl_cons, List.foldl_nil, List.getD_cons_zero]
    omega
theorem nat_small (l : List UInt8) (k : Nat) (hk : k ≤ 7) (h : l.length = k) : nat l < 9223372036854775808 := by
  have := nat_lt l
  have h2 : 256 ^ l.length ≤ 256 ^ 7 := Nat.pow_le_pow_right (by omega) (by omega)
  have h3 : 256 ^ 7 = 72057594037927936 := by decide
  omega
set_option maxHeartbeats 1000000 in
set_option maxRecDepth 8000 in
theorem rnum_any (b g off cap : Nat) (R : List UInt8) (E : Nat) (size : Int) (w : World) (h : RAt b g off cap R E w) (hR : R.length ≤ 9223372036854775807) :
    Calls Tryz.prog 136 #[.pointer (some ⟨b, 0, none⟩), .int .i64 size] w fun e w' => e = .returned (.int .i64 (if fine E (rNumE size R) then (nat (R.take size.toNat) : Int) else 0)) ∧ RTo b g (rGo R E (rNumE size R) size.toNat).1 (rGo R E (rNumE size R) size.toNat).2 w w' := by
  have c0 := h.c0
  have c1 := h.c1
  have f1 := h.fz 1
  by_cases hE : E = 0
  · subst hE
    rw [errV_0] at c1
    by_cases hs : 1 ≤ size ∧ size ≤ 8
    · obtain ⟨k, hk⟩ : ∃ k : Nat, size = (k : Int) := ⟨size.toNat, by omega⟩
      subst hk
      have hk1 : 1 ≤ k := by omega
      have hk8 : k ≤ 8 := by omega
      have hsd : decide (1 ≤ (k : Int) ∧ (k : Int) ≤ 8) = true := by simpa using hs
      by_cases hl : R.length < k
      · have he : rNumE k R = 22 := by unfold rNumE; rw [if_pos hs, if_pos (by omega)]
        rw [he, rGo_bad (by decide), fine_bad (by decide)]
        have H := hide h
        clear h he hs
        go_enter Tryz.func136, Tryz.ntmps136
        go_wp2_with fail
        refine (sized_any (k : Int) w).mono ?_
        rintro e w' ⟨rfl, rfl⟩
        rw [hsd]
        go_wp2
        go_ret
        exact ⟨rfl, RTo.err (E' := 22) (unhide H)⟩
      · have hlk : k ≤ R.length := by omega
        by_cases h8 : k = 8
        · have hcl := h.bys.cell 0 (by omega)
          rw [Nat.add_zero] at hcl
          have hcl2 := (R.getD 0 0).toNat_lt
          by_cases h128 : 128 ≤ (R.getD 0 0).toNat
          · have he : rNumE k R = 20 := by unfold rNumE; rw [if_pos hs, if_neg (by omega), if_pos ⟨by omega, h128⟩]
            rw [he, rGo_bad (by decide), fine_bad (by decide)]
            have H := hide h
            generalize R.getD 0 0 = c at *
            subst h8
            clear h he hs hl
            go_enter Tryz.func136, Tryz.ntmps136
            go_wp2_with fail
            refine (sized_any ((8 : Nat) : Int) w).mono ?_
            rintro e w' ⟨rfl, rfl⟩
            rw [hsd]
            go_wp2
            go_ret
            exact ⟨rfl, RTo.err (E' := 20) (unhide H)⟩
          · have he : rNumE k R = 0 := by unfold rNumE; rw [if_pos hs, if_neg (by omega), if_neg (by omega)]
            have hnat : nat (R.take k) < 9223372036854775808 := by
              rw [nat_first _ (by rw [List.length_take]; omega), getD_take R k (by omega)]; omega
            rw [he, rGo_ok, fine_ok]
            have H := hide h
            generalize R.getD 0 0 = c at *
            subst h8
            clear h he hs hl
            go_enter Tryz.func136, Tryz.ntmps136
            go_wp2_with fail
            refine (sized_any ((8 : Nat) : Int) w).mono ?_
            rintro e w' ⟨rfl, rfl⟩
            rw [hsd]
            go_wp2_with fail
            refine (take_any b g off cap R 0 8 w' (unhide H) hlk hR).mono ?_
            rintro e w1 ⟨rfl, hto⟩
            have hby := take_drop_bys ((unhide H).bys.keep hto.2 (unhide H).ne) 8 hlk
            go_wp2_with fail
            refine (number_any g off cap 8 (R.take 8) w1 hby (by rw [List.length_take]; omega) (by omega) hnat).mono ?_
            rintro e w2 ⟨rfl, rfl⟩
            go_wp2
            go_ret
            exact ⟨rfl, hto⟩
        · have he : rNumE k R = 0 := by unfold rNumE; rw [if_pos hs, if_neg (by omega), if_neg (by omega)]
          have hnat : nat (R.take k) < 9223372036854775808 := nat_small _ k (by omega) (by rw [List.length_take]; omega)
          rw [he, rGo_ok, fine_ok]
          have hne : ((k : Int) == 8) = false := by simp; omega
          have H := hide h
          clear h he hs hl
          go_enter Tryz.func136, Tryz.ntmps136
          go_wp2_with fail
          refine (sized_any (k : Int) w).mono ?_
          rintro e w' ⟨rfl, rfl⟩
          rw [hsd]
          go_wp2_with fail
          refine (take_any b g off cap R 0 k w' (unhide H) hlk hR).mono ?_
          rintro e w1 ⟨rfl, hto⟩
          have hby := take_drop_bys ((unhide H).bys.keep hto.2 (unhide H).ne) k hlk
          go_wp2_with fail
          refine (number_any g off cap k (R.take k) w1 hby (by rw [List.length_take]; omega) (by omega) hnat).mono ?_
          rintro e w2 ⟨rfl, rfl⟩
          go_wp2
          go_ret
          exact ⟨rfl, hto⟩
    · have he : rNumE size R = 1 := by simp [rNumE, hs]
      have hsd : decide (1 ≤ size ∧ size ≤ 8) = false := by simpa using hs
      rw [he, rGo_bad (by decide), fine_bad (by decide)]
      have H := hide h
      clear hs he h
      go_enter Tryz.func136, Tryz.ntmps136
      go_wp2_with fail
      refine (sized_any size w).mono ?_
      rintro e w' ⟨rfl, rfl⟩
      rw [hsd]
      go_wp2
      go_ret
      exact ⟨rfl, RTo.err (E' := 1) (unhide H)⟩
  · rw [rGo_old hE, fine_old hE]
    rw [errV_ne hE] at c1
    have H := hide h
    clear h
    go_enter Tryz.func136, Tryz.ntmps136
    go_wp2
    go_ret
    exact ⟨rfl, RTo.same (unhide H)⟩
end Go.Proofs.YtpidmpefodnffaaGreatDoor
