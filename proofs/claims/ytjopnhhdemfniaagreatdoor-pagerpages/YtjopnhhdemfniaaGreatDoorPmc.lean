import Derived.Test.YtjopnhhdemfniaaGreatDoorZpja
import Derived.Test.YtjopnhhdemfniaaGreatDoorZpgf
import Derived.Test.YtjopnhhdemfniaaGreatDoorZpjf
/- What the document reads of a page, of lists alone. -/
namespace Go.Proofs.YtjopnhhdemfniaaGreatDoor
theorem nmb_short (t : Bs) (h : t.length ≤ 4) : nmb t = (nat t : Int) := by
  rcases nmb_is t with q | ⟨_, q⟩
  · exact q
  · have h1 := nat_lt t
    have h2 : 256 ^ t.length ≤ 256 ^ 4 := Nat.pow_le_pow_right (by omega) h
    have h3 : (256 : Nat) ^ 4 = 4294967296 := by decide
    omega
/-- How long the body is, as the text says. -/
def gbd (s : Bs) : Nat := nat ((s.drop 16).take 2)
theorem gsn_le (s : Bs) : gsn s ≤ 255 := by
  have h := nat_lt ((s.drop 3).take 1)
  have h1 : ((s.drop 3).take 1).length ≤ 1 := by rw [List.length_take]; omega
  have h2 : (256 : Nat) ^ ((s.drop 3).take 1).length ≤ 256 ^ 1 := Nat.pow_le_pow_right (by omega) h1
  unfold gsn
  omega
theorem gbd_le (s : Bs) : gbd s ≤ 65535 := by
  have h := nat_lt ((s.drop 16).take 2)
  have h1 : ((s.drop 16).take 2).length ≤ 2 := by rw [List.length_take]; omega
  have h2 : (256 : Nat) ^ ((s.drop 16).take 2).length ≤ 256 ^ 2 := Nat.pow_le_pow_right (by omega) h1
  unfold gbd
  omega
def gD (s : Bs) : Pg := ⟨nmb ((s.drop 2).take 1), nmb ((s.drop 4).take 4), nmb ((s.drop 8).take 8), gsl s (gsn s), (s.drop (20 + 4 * gsn s)).take (gbd s)⟩
theorem gD_may (s : Bs) : (gD s).may = (gs s).may ∧ ((gD s).may = true → gD s = gs s) := by
  have e1 : nmb ((s.drop 2).take 1) = (nat ((s.drop 2).take 1) : Int) := nmb_short _ (by rw [List.length_take]; omega)
  have e2 : nmb ((s.drop 4).take 4) = (nat ((s.drop 4).take 4) : Int) := nmb_short _ (by rw [List.length_take]; omega)
  rcases nmb_is ((s.drop 8).take 8) with q | ⟨q, q2⟩
  · have e : gD s = gs s := by unfold gD gs gbd; rw [e1, e2, q]
    rw [e]
    exact ⟨rfl, fun _ => rfl⟩
  · have h1 : (gD s).may = false := by
      unfold gD Pg.may isGn
      rw [q]
      rfl
    have h2 : (gs s).may = false := by
      unfold gs Pg.may isGn
      simp only
      rw [show decide (((nat ((s.drop 8).take 8) : Nat) : Int) ≤ 4611686018427387904) = false by simp; omega]
      simp
    rw [h1, h2]
    exact ⟨rfl, fun q => nomatch q⟩
theorem prp_gD (s : Bs) : prp s = if (prn (gD s)).2 = 0 ∧ (prn (gD s)).1 = s then (gD s, 0) else (noPg, 94) := by
  obtain ⟨h1, h2⟩ := gD_may s
  have hp : prs s = if (gs s).may = true ∧ (gs s).blk = s then some (gs s) else none := rfl
  unfold prp
  by_cases hm : (gD s).may = true
  · have e := h2 hm
    have hn : prn (gD s) = ((gD s).blk, 0) := by unfold prn; rw [if_pos hm]
    rw [hn, e] at *
    by_cases hb : (gs s).blk = s
    · rw [hp, if_pos ⟨h1 ▸ hm, hb⟩, if_pos ⟨rfl, hb⟩]
    · rw [hp, if_neg (fun q => hb q.2), if_neg (fun q => hb q.2)]
  · have hn : prn (gD s) = ([], 94) := by unfold prn; rw [if_neg hm]
    rw [hn, hp, if_neg (fun q => hm (by rw [h1]; exact q.1)), if_neg (fun q => by cases q.1)]
theorem prp_long (s : Bs) (hs : s.length = 512) (h : 488 < 4 * gsn s + gbd s) : prp s = (noPg, 94) := by
  have hm : (gs s).may = false := by
    rw [← Bool.not_eq_true]
    intro q
    have hr := Pg.fresh_room (Pg.may_fresh q)
    have hl : (gs s).links.length = gsn s := by simp [gs, gsl]
    have hb : (gs s).body = (s.drop (20 + 4 * gsn s)).take (gbd s) := rfl
    rw [hl, hb, List.length_take, List.length_drop, hs] at hr
    have := gsn_le s
    omega
  have hp : prs s = if (gs s).may = true ∧ (gs s).blk = s then some (gs s) else none := rfl
  unfold prp
  rw [hp, hm, if_neg (by simp)]
theorem prp_short (s : Bs) (hs : s.length ≠ 512) : prp s = (noPg, 94) := by
  unfold prp
  cases h : prs s with
  | none => rfl
  | some p => exact absurd (prs_len h) hs
theorem gsl_len (s : Bs) (n : Nat) : (gsl s n).length = n := by simp [gsl]
theorem gsl_next (s : Bs) (k : Nat) : gsl s (k + 1) = gsl s k ++ [nmb ((s.drop (20 + 4 * k)).take 4)] := by
  unfold gsl
  rw [List.range_succ, List.map_append, nmb_short _ (by rw [List.length_take]; omega)]
  rfl
end Go.Proofs.YtjopnhhdemfniaaGreatDoor
