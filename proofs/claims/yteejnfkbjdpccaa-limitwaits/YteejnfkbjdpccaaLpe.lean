import Derived.Test.YteejnfkbjdpccaaLca
namespace Go.Proofs.Yteejnfkbjdpccaa
open Go.RowKit Fl
theorem nok_nmv {c : Int} (h0 : 0 ≤ c) (h1 : c < 20) : nok (nmv c) = true := by
  have h : (UInt8.ofNat (97 + c.toNat)).toNat = 97 + c.toNat := by rw [UInt8.toNat_ofNat']; omega
  have e1 : isL (UInt8.ofNat (97 + c.toNat)) = true := by
    unfold isL
    rw [h]
    have a1 : decide (97 ≤ 97 + c.toNat) = true := by simp
    have a2 : decide (97 + c.toNat ≤ 122) = true := by simp; omega
    rw [a1, a2]
    rfl
  have e2 : isL 110 = true := by decide
  unfold nok nmv
  generalize UInt8.ofNat (97 + c.toNat) = a at *
  simp [e1, e2]
/-- All that is kept is no later than now. -/
def Pst (x : Li) (now : Int) : Prop := ∀ k ∈ x.ks, k.tm ≤ now
theorem Pst.mono {x : Li} {now n2 : Int} (h : Pst x now) (hn : now ≤ n2) : Pst x n2 := fun k hk => Int.le_trans (h k hk) hn
theorem nr_id {n : Int} (h0 : 0 ≤ n) (h1 : n ≤ 1099511627776) : nr n = n := by unfold nr; omega
theorem has_le {x : Li} {now : Int} (h : Pst x now) (h0 : 0 ≤ now) (s : Bs) : (has x.b x.ks s).tm ≤ now := by
  unfold has
  cases hf : fnd x.ks s with
  | none => simpa using h0
  | some k => exact h k (List.mem_of_find?_eq_some hf)
theorem level_is {x : Li} {s : Bs} {now : Int} (h0 : 0 ≤ now) (h1 : now ≤ 1099511627776) : x.level s now = lvl x.r x.b (has x.b x.ks s).lv (gon (has x.b x.ks s).tm now) := by
  unfold Li.level
  rw [nr_id h0 h1]
theorem no_law {s : Bs} (hs : nok s = true) {c : Nat} (hc : c < 2139095040) : Li.no s c = false := by
  unfold Li.no
  rw [hs, amt_am (Or.inl hc)]
  rfl
/-- Let in. -/
theorem let_in {x : Li} (hx : x.Ok) {now : Int} (h0 : 0 ≤ now) (h1 : now ≤ 1099511627776) (hp : Pst x now) {s : Bs} (hs : nok s = true) {c : Nat} (hc : c < 2139095040) (h : c ≤ x.level s now) :
    x.told s c now = (0, 0) ∧ (x.took s c now).level s now = sb (x.level s now) c ∧ Pst (x.took s c now) now ∧ (x.took s c now).r = x.r ∧ (x.took s c now).b = x.b := by
  have hno := no_law hs hc
  have hnz : nz c = c := nz_pos (by omega)
  have e1 : x.told s c now = (0, 0) := by unfold Li.told; rw [if_neg (by simp [hno]), if_neg (by omega)]
  have e2 : x.took s c now = ⟨x.r, x.b, keep x.ks ⟨s, sb (x.level s now) c, max (nr now) (has x.b x.ks s).tm⟩⟩ := by unfold Li.took; rw [if_neg (by simp [hno]), if_neg (by omega)]
  have ht := has_le hp h0 s
  have em : max (nr now) (has x.b x.ks s).tm = now := by rw [nr_id h0 h1]; omega
  have hl := level_le x s now
  have hb := hx.b1
  have hsb := sb_le (x := x.level s now) c (by omega)
  refine ⟨e1, ?_, ?_, ?_, ?_⟩
  · rw [e2, em, level_is h0 h1]
    have ef : has x.b (keep x.ks ⟨s, sb (x.level s now) c, now⟩) s = ⟨s, sb (x.level s now) c, now⟩ := by
      unfold has
      rw [show fnd (keep x.ks ⟨s, sb (x.level s now) c, now⟩) s = some ⟨s, sb (x.level s now) c, now⟩ from by unfold fnd keep; simp]
      rfl
    simp only
    rw [ef]
    have eg : gon now now = 0 := by unfold gon; omega
    simp only
    rw [eg]
    exact lvl_zero (by omega) hb
  · rw [e2, em]
    intro k hk
    unfold keep at hk
    rcases List.mem_cons.1 hk with e | e
    · rw [e]; exact Int.le_refl _
    · exact hp k (List.mem_filter.1 (List.mem_of_mem_take e)).1
  · rw [e2]
  · rw [e2]
/-- Told to wait. -/
theorem let_wait {x : Li} {now : Int} (h0 : 0 ≤ now) (h1 : now ≤ 549755813888) (hx : x.Ok) (hp : Pst x now) {s : Bs} (hs : nok s = true) {c : Nat} (hc : c < 2139095040) (h : x.level s now < c) :
    ∃ W : Nat, x.told s c now = ((W : Int), 241) ∧ x.took s c now = x ∧ 1 ≤ W ∧ W ≤ 1099511627776 ∧ (W = 1099511627776 → x.level s 1099511627776 < c) ∧ (∀ e : Int, 1 ≤ e → e < W → now + e ≤ 1099511627776 → x.level s (now + e) < c) ∧ (W < 1099511627776 → now + W ≤ 1099511627776 → c ≤ x.level s (now + W)) := by
  have hno := no_law hs hc
  have hnz : nz c = c := nz_pos (by omega)
  have ht := has_le hp h0 s
  have ht0 := (has_ok hx s).2.1
  have e1 : x.told s c now = (((wt x.r x.b (has x.b x.ks s).lv (gon (has x.b x.ks s).tm (nr now)) c : Nat) : Int), 241) := by unfold Li.told; rw [if_neg (by simp [hno]), if_pos (by omega)]
  have e2 : x.took s c now = x := by unfold Li.took; rw [if_neg (by simp [hno]), if_pos (by omega)]
  rw [nr_id h0 (by omega)] at e1
  obtain ⟨w1, w2, w3, w4⟩ := wt_spec x.r x.b (has x.b x.ks s).lv (gon (has x.b x.ks s).tm now) c
  rw [hnz] at w3 w4
  have hlev : ∀ n : Int, 0 ≤ n → n ≤ 1099511627776 → x.level s n = lvl x.r x.b (has x.b x.ks s).lv (gon (has x.b x.ks s).tm n) := fun n a b => level_is a b
  generalize has x.b x.ks s = k at *
  have hgo : ∀ e : Int, 0 ≤ e → gon k.tm (now + e) = gon k.tm now + e.toNat := by intro e he; unfold gon; omega
  refine ⟨wt x.r x.b k.lv (gon k.tm now) c, e1, e2, w1, w2, fun hw => ?_, fun e he1 he2 he3 => ?_, fun hw hn => ?_⟩
  · rw [hlev _ (by omega) (by omega)]
    rw [hw] at w3
    by_cases hz : now = 0
    · subst hz
      have hk0 : k.tm = 0 := by omega
      have eg : gon k.tm 1099511627776 = 1099511627776 := by rw [hk0]; decide
      have eg0 : gon k.tm 0 = 0 := by rw [hk0]; decide
      have := w3 1099511627775 (by omega) (by omega)
      rw [eg0, Nat.zero_add] at this
      rw [eg]
      have ec : lvl x.r x.b k.lv 1099511627776 = lvl x.r x.b k.lv 1099511627775 := by
        unfold lvl
        rw [show cv 1099511627776 = cv 1099511627775 by decide]
      rw [ec]
      exact this
    · have := hgo (1099511627776 - now) (by omega)
      rw [show now + (1099511627776 - now) = 1099511627776 by omega] at this
      rw [this]
      exact w3 _ (by omega) (by omega)
  · rw [hlev _ (by omega) he3, hgo e (by omega)]
    exact w3 _ (by omega) (by omega)
  · rw [hlev _ (by omega) hn, hgo _ (by omega)]
    have := w4 hw
    rw [show ((wt x.r x.b k.lv (gon k.tm now) c : Nat) : Int).toNat = wt x.r x.b k.lv (gon k.tm now) c by omega]
    exact this
end Go.Proofs.Yteejnfkbjdpccaa
