import Derived.Test.YteejnfkbjdpccaaLba
namespace Go.Proofs.Yteejnfkbjdpccaa
open Go.RowKit Fl
abbrev fl (n : Nat) : Value := .float .f32 n
/-- What is kept of a name. -/
structure Bk where
  nm : Bs
  lv : Nat
  tm : Int
abbrev bk0 : Bk := ⟨[], 0, 0⟩
def gon (t n : Int) : Nat := (n - t).toNat
def nr (n : Int) : Int := min (max n 0) 1099511627776
theorem nr_b (n : Int) : 0 ≤ nr n ∧ nr n ≤ 1099511627776 := by unfold nr; omega
theorem gon_le {t n : Int} (ht : 0 ≤ t) (hn : n ≤ 1099511627776) : gon t n ≤ 1099511627776 := by unfold gon; omega
/-- A level behind so many seconds. -/
def lvl (r b l d : Nat) : Nat := min b (ad l (ml (cv d) r))
theorem lvl_le (r b l d : Nat) : lvl r b l d ≤ b := Nat.min_le_left _ _
theorem lvl_zero {r b l : Nat} (hl : l ≤ b) (hb : b < 2139095040) : lvl r b l 0 = l := by
  unfold lvl
  rw [cv_zero, ad_nought (by omega) (ml_zero r)]
  omega
theorem lvl_full {r b : Nat} (d : Nat) (hb : b < 2139095040) : lvl r b b d = b := by
  unfold lvl
  have := le_ad (x := b) (ml (cv d) r) (by omega)
  omega
theorem lvl_mono {r b l d e : Nat} (h : d ≤ e) : lvl r b l d ≤ lvl r b l e := by
  unfold lvl
  have := ad_mono (x := l) (ml_le (cv d) r) (ml_le (cv e) r) (ml_mono (cv_mono h))
  omega
/-- Halving. -/
def bs (p : Nat → Bool) : Nat → Nat → Nat → Nat
  | 0, a, _ => a
  | f + 1, a, z => if a < z then (if p ((a + z) / 2) then bs p f a ((a + z) / 2) else bs p f ((a + z) / 2 + 1) z) else a
theorem bs_end {p : Nat → Bool} {f a z : Nat} (h : ¬ a < z) : bs p f a z = a := by
  cases f with
  | zero => rfl
  | succ f => unfold bs; rw [if_neg h]
theorem bs_lo {p : Nat → Bool} {f a z : Nat} (h : a < z) (hp : p ((a + z) / 2) = true) : bs p (f + 1) a z = bs p f a ((a + z) / 2) := by
  rw [bs, if_pos h, if_pos hp]
theorem bs_hi {p : Nat → Bool} {f a z : Nat} (h : a < z) (hp : ¬ p ((a + z) / 2) = true) : bs p (f + 1) a z = bs p f ((a + z) / 2 + 1) z := by
  rw [bs, if_pos h, if_neg hp]
theorem fuel_pos {f a z : Nat} (hf : z - a < 2 ^ f) (h : a < z) : ∃ g, f = g + 1 := by
  cases f with
  | zero => simp at hf; omega
  | succ g => exact ⟨g, rfl⟩
theorem bs_spec {p : Nat → Bool} (hp : ∀ i j, i ≤ j → p i = true → p j = true) (f : Nat) : ∀ {a z : Nat}, a ≤ z → z - a < 2 ^ f → (a ≤ bs p f a z ∧ bs p f a z ≤ z ∧ (∀ i, a ≤ i → i < bs p f a z → p i = false) ∧ (bs p f a z < z → p (bs p f a z) = true)) := by
  induction f with
  | zero =>
    intro a z h hf
    simp at hf
    have : a = z := by omega
    subst this
    exact ⟨Nat.le_refl _, Nat.le_refl _, fun i h1 h2 => by simp [bs] at h2; omega, fun h => by simp [bs] at h⟩
  | succ f ih =>
    intro a z h hf
    by_cases hlt : a < z
    · have e2 : 2 ^ (f + 1) = 2 * 2 ^ f := by rw [Nat.pow_succ, Nat.mul_comm]
      by_cases hm : p ((a + z) / 2) = true
      · rw [bs_lo hlt hm]
        obtain ⟨h1, h2, h3, h4⟩ := ih (a := a) (z := (a + z) / 2) (by omega) (by omega)
        refine ⟨h1, by omega, h3, fun _ => ?_⟩
        by_cases hq : bs p f a ((a + z) / 2) < (a + z) / 2
        · exact h4 hq
        · have : bs p f a ((a + z) / 2) = (a + z) / 2 := by omega
          rw [this]; exact hm
      · rw [bs_hi hlt hm]
        obtain ⟨h1, h2, h3, h4⟩ := ih (a := (a + z) / 2 + 1) (z := z) (by omega) (by omega)
        refine ⟨by omega, h2, fun i hi1 hi2 => ?_, h4⟩
        by_cases hq : (a + z) / 2 + 1 ≤ i
        · exact h3 i hq hi2
        · cases hpi : p i with
          | false => rfl
          | true => exact absurd (hp i _ (by omega) hpi) hm
    · have : a = z := by omega
      subst this
      rw [bs_end hlt]
      exact ⟨Nat.le_refl _, Nat.le_refl _, fun i h1 h2 => by omega, fun h => by omega⟩
/-- May so much be taken, so many seconds behind? -/
def may (r b l d c : Nat) (m : Nat) : Bool := decide (nz c ≤ lvl r b l (d + m))
theorem may_mono (r b l d c : Nat) (i j : Nat) (h : i ≤ j) (hp : may r b l d c i = true) : may r b l d c j = true := by
  unfold may at *
  simp only [decide_eq_true_eq] at *
  exact Nat.le_trans hp (lvl_mono (by omega))
def wt (r b l d c : Nat) : Nat := bs (may r b l d c) 40 1 1099511627776
theorem wt_spec (r b l d c : Nat) : 1 ≤ wt r b l d c ∧ wt r b l d c ≤ 1099511627776 ∧ (∀ i, 1 ≤ i → i < wt r b l d c → lvl r b l (d + i) < nz c) ∧ (wt r b l d c < 1099511627776 → nz c ≤ lvl r b l (d + wt r b l d c)) := by
  obtain ⟨h1, h2, h3, h4⟩ := bs_spec (may_mono r b l d c) 40 (a := 1) (z := 1099511627776) (by decide) (by decide)
  refine ⟨h1, h2, fun i hi1 hi2 => ?_, fun h => ?_⟩
  · have := h3 i hi1 hi2
    unfold may at this
    simp only [decide_eq_false_iff_not] at this
    omega
  · have := h4 h
    exact of_decide_eq_true this
/-- No seconds are enough for more than there may be. -/
theorem wt_full {r b d c : Nat} (hb : b < 2139095040) (h : b < nz c) : wt r b b d c = 1099511627776 := by
  obtain ⟨h1, h2, h3, h4⟩ := wt_spec r b b d c
  by_cases hq : wt r b b d c < 1099511627776
  · have := h4 hq
    rw [lvl_full _ hb] at this
    omega
  · omega
def isL (c : UInt8) : Bool := (decide (97 ≤ c.toNat) && decide (c.toNat ≤ 122)) || (decide (48 ≤ c.toNat) && decide (c.toNat ≤ 57)) || c == 45 || c == 95 || c == 46
/-- May a text be a name? -/
def nok (s : Bs) : Bool := decide (1 ≤ s.length) && decide (s.length ≤ 16) && s.all isL
/-- May a word be a rate, a burst or a cost? -/
def amt (x : Nat) : Bool := (F.order x 0 == some .gt || F.order x 0 == some .eq) && (F.order x 2139095039 == some .lt || F.order x 2139095039 == some .eq)
theorem amt_am {x : Nat} (h : Am x) : amt x = true := by
  have h0 : Am 0 := Or.inl (by decide)
  have hM : Am 2139095039 := Or.inl (by decide)
  unfold amt
  rw [ord_am h h0, ord_am h hM]
  have e0 : nz 0 = 0 := by decide
  have eM : nz 2139095039 = 2139095039 := by decide
  rw [e0, eM]
  have := h.nz
  have a1 : compare (nz x) 0 = .gt ∨ compare (nz x) 0 = .eq := by
    rcases Nat.lt_or_ge 0 (nz x) with q | q
    · left; exact Nat.compare_eq_gt.2 q
    · right; exact Nat.compare_eq_eq.2 (by omega)
  have a2 : compare (nz x) 2139095039 = .lt ∨ compare (nz x) 2139095039 = .eq := by
    rcases Nat.lt_or_ge (nz x) 2139095039 with q | q
    · left; exact Nat.compare_eq_lt.2 q
    · right; exact Nat.compare_eq_eq.2 (by omega)
  rcases a1 with a1 | a1 <;> rcases a2 with a2 | a2 <;> simp [a1, a2]
def fnd (L : List Bk) (s : Bs) : Option Bk := L.find? (fun k => k.nm == s)
/-- What a name has: of one that is not kept all. -/
def has (b : Nat) (L : List Bk) (s : Bs) : Bk := (fnd L s).getD ⟨s, b, 0⟩
def keep (L : List Bk) (k : Bk) : List Bk := k :: (L.filter (fun o => o.nm != k.nm)).take 15
/-- A limiter. -/
structure Li where
  r : Nat
  b : Nat
  ks : List Bk
structure Li.Ok (x : Li) : Prop where
  r : Am x.r
  b0 : 0 < x.b
  b1 : x.b < 2139095040
  few : x.ks.length ≤ 16
  k : ∀ k ∈ x.ks, k.lv ≤ x.b ∧ 0 ≤ k.tm ∧ k.tm ≤ 1099511627776 ∧ k.nm.length ≤ 16
def Li.level (x : Li) (s : Bs) (now : Int) : Nat := lvl x.r x.b (has x.b x.ks s).lv (gon (has x.b x.ks s).tm (nr now))
def Li.no (s : Bs) (c : Nat) : Bool := !(nok s && amt c)
/-- What Take answers. -/
def Li.told (x : Li) (s : Bs) (c : Nat) (now : Int) : Int × Int :=
  if Li.no s c then (0, 1) else if x.level s now < nz c then ((wt x.r x.b (has x.b x.ks s).lv (gon (has x.b x.ks s).tm (nr now)) c : Nat), 241) else (0, 0)
/-- What it leaves. -/
def Li.took (x : Li) (s : Bs) (c : Nat) (now : Int) : Li :=
  if Li.no s c then x else if x.level s now < nz c then x else ⟨x.r, x.b, keep x.ks ⟨s, sb (x.level s now) c, max (nr now) (has x.b x.ks s).tm⟩⟩
theorem has_ok {x : Li} (h : x.Ok) (s : Bs) : (has x.b x.ks s).lv ≤ x.b ∧ 0 ≤ (has x.b x.ks s).tm ∧ (has x.b x.ks s).tm ≤ 1099511627776 := by
  unfold has
  cases hf : fnd x.ks s with
  | none => simp
  | some k =>
    have := h.k k (List.mem_of_find?_eq_some hf)
    exact ⟨this.1, this.2.1, this.2.2.1⟩
theorem level_le (x : Li) (s : Bs) (now : Int) : x.level s now ≤ x.b := lvl_le _ _ _ _
theorem took_ok {x : Li} (h : x.Ok) (s : Bs) (c : Nat) (now : Int) : (x.took s c now).Ok := by
  unfold Li.took
  by_cases h1 : Li.no s c = true
  · rw [if_pos h1]; exact h
  rw [if_neg h1]
  by_cases h2 : x.level s now < nz c
  · rw [if_pos h2]; exact h
  rw [if_neg h2]
  have hno : nok s = true := by
    unfold Li.no at h1
    cases hn : nok s <;> simp_all
  have hlen : s.length ≤ 16 := by
    unfold nok at hno
    simp only [Bool.and_eq_true, decide_eq_true_eq] at hno
    exact hno.1.2
  have hb := level_le x s now
  have hh := has_ok h s
  have hnr := nr_b now
  have hsb := sb_le (x := x.level s now) c (by have := h.b1; omega)
  refine ⟨h.r, h.b0, h.b1, ?_, ?_⟩
  · unfold keep
    simp only [List.length_cons, List.length_take]
    omega
  · intro k hk
    unfold keep at hk
    rcases List.mem_cons.1 hk with e | e
    · subst e
      exact ⟨by show sb (x.level s now) c ≤ x.b; omega, by show 0 ≤ max (nr now) _; omega, by show max (nr now) _ ≤ _; omega, hlen⟩
    · exact h.k k (List.mem_filter.1 (List.mem_of_mem_take e)).1
end Go.Proofs.Yteejnfkbjdpccaa
