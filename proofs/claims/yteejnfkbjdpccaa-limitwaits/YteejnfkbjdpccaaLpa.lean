import Derived.Laws.FloatArith
namespace Go.Proofs.Yteejnfkbjdpccaa
namespace Fl
open Ieee

abbrev F : Format := Ieee.single

theorem F_least : F.leastPlace = (-149) := by decide
theorem F_binade : F.binade = 8388608 := by decide
theorem F_inf : F.infRung = 2139095040 := by decide
theorem F_sign : F.signWeight = 2147483648 := by decide
theorem F_frac : F.fractionBits = 23 := rfl

/-- A whole number, halved d times and rounded to the even one. -/
def rhe (n d : Nat) : Nat := n / 2 ^ d + if 2 ^ d < 2 * (n % 2 ^ d) ∨ (2 ^ d = 2 * (n % 2 ^ d) ∧ n / 2 ^ d % 2 = 1) then 1 else 0

theorem cut_even (neg : Bool) (n d : Nat) : Toward.even.cut neg n d = rhe n d := by
  unfold Toward.cut rhe
  have key : ∀ g : Nat, ∀ (low rest : Nat), (decide (g < 2 * rest) || (g == 2 * rest && low % 2 == 1)).toNat = (if g < 2 * rest ∨ (g = 2 * rest ∧ low % 2 = 1) then 1 else 0) := by
    intro g low rest
    by_cases a : g < 2 * rest <;> by_cases b : g = 2 * rest <;> by_cases c : low % 2 = 1 <;> simp [a, b, c]
  by_cases h : d ≤ n.log2 + 2
  · rw [Nat.min_eq_left h]
    simp only [Nat.shiftLeft_eq, Nat.one_mul]
    rw [key]
  · rw [Nat.min_eq_right (by omega)]
    simp only [Nat.shiftLeft_eq, Nat.one_mul]
    rw [key]
    have h1 : n < 2 ^ (n.log2 + 1) := Nat.lt_log2_self
    have h2 : 2 ^ (n.log2 + 2) = 2 * 2 ^ (n.log2 + 1) := by rw [Nat.pow_succ, Nat.mul_comm]
    have h3 : 2 ^ (n.log2 + 2) ≤ 2 ^ d := Nat.pow_le_pow_right (by decide) (by omega)
    have a1 : n / 2 ^ (n.log2 + 2) = 0 := Nat.div_eq_of_lt (by omega)
    have a2 : n % 2 ^ (n.log2 + 2) = n := Nat.mod_eq_of_lt (by omega)
    have b1 : n / 2 ^ d = 0 := Nat.div_eq_of_lt (by omega)
    have b2 : n % 2 ^ d = n := Nat.mod_eq_of_lt (by omega)
    rw [a1, a2, b1, b2]
    have e1 : ¬ (2 ^ (n.log2 + 2) < 2 * n ∨ (2 ^ (n.log2 + 2) = 2 * n ∧ 0 % 2 = 1)) := by omega
    have e2 : ¬ (2 ^ d < 2 * n ∨ (2 ^ d = 2 * n ∧ 0 % 2 = 1)) := by omega
    rw [if_neg e1, if_neg e2]

theorem rhe_zero (n : Nat) : rhe n 0 = n := by
  unfold rhe
  have : n % 2 ^ 0 = 0 := by simp [Nat.mod_one]
  rw [this]
  simp

theorem rhe_mul (n d k : Nat) : rhe (n * 2 ^ k) (d + k) = rhe n d := by
  unfold rhe
  rw [Nat.pow_add, Nat.mul_div_mul_right _ _ (Nat.two_pow_pos k), Nat.mul_mod_mul_right]
  have hp : 0 < 2 ^ k := Nat.two_pow_pos k
  have e1 : (2 ^ d * 2 ^ k < 2 * (n % 2 ^ d * 2 ^ k)) ↔ 2 ^ d < 2 * (n % 2 ^ d) := by
    rw [← Nat.mul_assoc]; exact Nat.mul_lt_mul_right hp
  have e2 : (2 ^ d * 2 ^ k = 2 * (n % 2 ^ d * 2 ^ k)) ↔ 2 ^ d = 2 * (n % 2 ^ d) := by
    rw [← Nat.mul_assoc]; exact Nat.mul_left_inj (by omega)
  simp only [e1, e2]

theorem rhe_le (n d : Nat) : rhe n d ≤ n / 2 ^ d + 1 := by unfold rhe; split <;> omega
theorem le_rhe (n d : Nat) : n / 2 ^ d ≤ rhe n d := by unfold rhe; omega

theorem rhe_mono {m n : Nat} (d : Nat) (h : m ≤ n) : rhe m d ≤ rhe n d := by
  have hq : m / 2 ^ d ≤ n / 2 ^ d := Nat.div_le_div_right h
  by_cases he : m / 2 ^ d = n / 2 ^ d
  · unfold rhe
    rw [← he]
    have h1 := Nat.div_add_mod m (2 ^ d)
    have h2 := Nat.div_add_mod n (2 ^ d)
    rw [← he] at h2
    have hr : m % 2 ^ d ≤ n % 2 ^ d := by omega
    split
    · rename_i hc
      rw [if_pos (by omega)]
      exact Nat.le_refl _
    · omega
  · have := rhe_le m d
    have := le_rhe n d
    omega

/-- The place of the last digit that is kept, from the least place on. -/
def lst (n : Nat) (p : Int) : Nat := (max (p + n.log2 - 23) (-149) - (-149)).toNat

/-- What is kept of a number's digits. -/
def kpt (n : Nat) (p : Int) : Nat := if (-149) + lst n p ≤ p then n * 2 ^ (p - ((-149) + lst n p)).toNat else rhe n (((-149) + lst n p) - p).toNat

theorem near_eq (neg : Bool) {n : Nat} (hn : n ≠ 0) (p : Int) : F.nearest neg n p = F.word neg (min (lst n p * 8388608 + kpt n p) 2139095040) := by
  unfold Format.nearest
  rw [if_neg hn]
  dsimp only
  rw [F_least, F_binade, F_inf, F_frac, cut_even]
  have e : max (p + ((Nat.log2 n : Nat) : Int) - ((23 : Nat) : Int)) (-149) = (-149) + lst n p := by unfold lst; omega
  rw [e]
  have e2 : ((-149) + (lst n p : Int) - (-149)).toNat = lst n p := by omega
  rw [e2]
  congr 3
  unfold kpt
  split
  · rename_i h
    have : (((-149) + lst n p) - p).toNat = 0 := by omega
    rw [this, rhe_zero, Nat.shiftLeft_eq]
  · rename_i h
    have : (p - ((-149) + lst n p)).toNat = 0 := by omega
    rw [this]; simp

theorem log2_mul_pow {n : Nat} (hn : n ≠ 0) (k : Nat) : (n * 2 ^ k).log2 = n.log2 + k := by
  have hp : 0 < 2 ^ k := Nat.two_pow_pos k
  have hne : n * 2 ^ k ≠ 0 := by
    intro h
    rcases Nat.mul_eq_zero.1 h with h | h <;> omega
  rw [Nat.log2_eq_iff hne]
  have h1 := Nat.log2_self_le hn
  have h2 : n < 2 ^ (n.log2 + 1) := Nat.lt_log2_self
  constructor
  · rw [Nat.pow_add]; exact Nat.mul_le_mul_right _ h1
  · have : n.log2 + k + 1 = (n.log2 + 1) + k := by omega
    rw [this, Nat.pow_add]
    exact Nat.mul_lt_mul_of_pos_right h2 hp

/-- Of a number told with a lesser place the word is the same. -/
theorem near_scale (neg : Bool) (n k : Nat) (p : Int) : F.nearest neg (n * 2 ^ k) (p - k) = F.nearest neg n p := by
  by_cases hn : n = 0
  · subst hn; simp [Format.nearest]
  have hp : 0 < 2 ^ k := Nat.two_pow_pos k
  have hne : n * 2 ^ k ≠ 0 := by
    intro h
    rcases Nat.mul_eq_zero.1 h with h | h <;> omega
  rw [near_eq neg hn, near_eq neg hne]
  have el : lst (n * 2 ^ k) (p - k) = lst n p := by
    unfold lst; rw [log2_mul_pow hn]; omega
  have ek : kpt (n * 2 ^ k) (p - k) = kpt n p := by
    unfold kpt
    rw [el]
    by_cases h : (-149) + (lst n p : Int) ≤ p
    · rw [if_pos h]
      by_cases h2 : (-149) + (lst n p : Int) ≤ p - k
      · rw [if_pos h2, Nat.mul_assoc, ← Nat.pow_add]
        congr 2; omega
      · rw [if_neg h2]
        have e1 : k = (p - ((-149) + lst n p)).toNat + (((-149) + lst n p) - (p - k)).toNat := by omega
        have e3 : n * 2 ^ k = n * 2 ^ (p - ((-149) + lst n p)).toNat * 2 ^ (((-149) + lst n p) - (p - k)).toNat := by
          rw [Nat.mul_assoc, ← Nat.pow_add, ← e1]
        rw [e3]
        have := rhe_mul (n * 2 ^ (p - ((-149) + lst n p)).toNat) 0 (((-149) + lst n p) - (p - k)).toNat
        rw [Nat.zero_add] at this
        rw [this, rhe_zero]
    · rw [if_neg h, if_neg (by omega)]
      have e1 : (((-149) + lst n p) - (p - k)).toNat = (((-149) + (lst n p : Int)) - p).toNat + k := by omega
      rw [e1, rhe_mul]
  rw [el, ek]

theorem kpt_le {n : Nat} (p : Int) : kpt n p ≤ 2 * 8388608 := by
  have h2 : n < 2 ^ (n.log2 + 1) := Nat.lt_log2_self
  have hB : 2 * 8388608 = 2 ^ 24 := by decide
  rw [hB]
  have hl : p + n.log2 - 23 ≤ (-149) + lst n p := by unfold lst; omega
  unfold kpt
  split
  · rename_i h
    have e : (2 : Nat) ^ (n.log2 + 1) * 2 ^ (p - ((-149) + lst n p)).toNat ≤ 2 ^ 24 := by
      rw [← Nat.pow_add]
      exact Nat.pow_le_pow_right (by decide) (by omega)
    exact Nat.le_trans (Nat.mul_le_mul_right _ (Nat.le_of_lt h2)) e
  · rename_i h
    refine Nat.le_trans (rhe_le _ _) ?_
    have : n / 2 ^ (((-149) + (lst n p : Int)) - p).toNat < 2 ^ 24 := by
      rw [Nat.div_lt_iff_lt_mul (Nat.two_pow_pos _), ← Nat.pow_add]
      exact Nat.lt_of_lt_of_le h2 (Nat.pow_le_pow_right (by decide) (by omega))
    omega

theorem le_kpt {n : Nat} (hn : n ≠ 0) (p : Int) (h0 : 0 < lst n p) : 8388608 ≤ kpt n p := by
  have h1 := Nat.log2_self_le hn
  have hB : 8388608 = 2 ^ 23 := by decide
  rw [hB]
  have hl : p + n.log2 - 23 = (-149) + lst n p := by unfold lst at *; omega
  unfold kpt
  split
  · rename_i h
    have e : (2 : Nat) ^ n.log2 * 2 ^ (p - ((-149) + lst n p)).toNat = 2 ^ 23 := by
      rw [← Nat.pow_add]
      congr 1; omega
    rw [← e]
    exact Nat.mul_le_mul_right _ h1
  · rename_i h
    refine Nat.le_trans ?_ (le_rhe _ _)
    rw [Nat.le_div_iff_mul_le (Nat.two_pow_pos _), ← Nat.pow_add]
    refine Nat.le_trans ?_ h1
    exact Nat.pow_le_pow_right (by decide) (by omega)

/-- The word of n times 2 ^ p. -/
def rn (n : Nat) (p : Int) : Nat := F.nearest false n p

theorem rn_zero (p : Int) : rn 0 p = 0 := by simp [rn, Format.nearest, Format.word]

theorem rn_eq {n : Nat} (hn : n ≠ 0) (p : Int) : rn n p = min (lst n p * 8388608 + kpt n p) 2139095040 := by
  unfold rn; rw [near_eq false hn]; simp [Format.word]

theorem rn_le (n : Nat) (p : Int) : rn n p ≤ 2139095040 := by
  by_cases hn : n = 0
  · subst hn; rw [rn_zero]; decide
  · rw [rn_eq hn]; omega

/-- A greater number has no lesser word. -/
theorem rn_mono {m n : Nat} (p : Int) (h : m ≤ n) : rn m p ≤ rn n p := by
  by_cases hm : m = 0
  · subst hm; rw [rn_zero]; omega
  have hn : n ≠ 0 := by omega
  rw [rn_eq hm, rn_eq hn]
  have hlog : m.log2 ≤ n.log2 := by
    rw [Nat.le_log2 hn]; exact Nat.le_trans (Nat.log2_self_le hm) h
  have hl : lst m p ≤ lst n p := by unfold lst; omega
  have hk1 := kpt_le (n := m) p
  by_cases he : lst m p = lst n p
  · have : kpt m p ≤ kpt n p := by
      unfold kpt
      rw [he]
      split
      · exact Nat.mul_le_mul_right _ h
      · exact rhe_mono _ h
    rw [he]; omega
  · have h0 : 0 < lst n p := by omega
    have hk2 := le_kpt hn p h0
    have h3 : (lst m p + 1) * 8388608 ≤ lst n p * 8388608 := Nat.mul_le_mul_right _ (by omega)
    rw [Nat.add_mul, Nat.one_mul] at h3
    omega

theorem rn_scale (n k : Nat) (p : Int) : rn (n * 2 ^ k) (p - k) = rn n p := near_scale false n k p

/-- The digits and the place of a word that is neither infinite nor below nought. -/
def mg (w : Nat) : Nat := if w < 8388608 then w else 8388608 + w % 8388608
def ex (w : Nat) : Nat := w / 8388608 - 1

theorem read_pos {w : Nat} (h : w < 2139095040) : F.read w = .number false (mg w) ((-149) + ex w) := by
  have hRS : 2139095040 < 2147483648 := by decide
  unfold Format.read
  rw [F_sign, F_binade, F_inf, F_least]
  dsimp only
  have h1 : w / 2147483648 = 0 := Nat.div_eq_of_lt (by omega)
  have h2 : w % 2147483648 = w := Nat.mod_eq_of_lt (by omega)
  rw [h1, h2]
  unfold mg ex
  by_cases hb : w < 8388608
  · rw [if_pos hb, if_pos hb]
    have : w / 8388608 = 0 := Nat.div_eq_of_lt hb
    rw [this]; rfl
  · rw [if_neg hb, if_neg hb, if_pos h]; rfl

theorem read_inf : F.read 2139095040 = .infinity false := by decide
theorem read_nz : F.read 2147483648 = .number true 0 (-149) := by decide

/-- What a word is worth, in units of the least place. -/
def vl (w : Nat) : Nat := mg w * 2 ^ ex w

theorem vl_mono {v w : Nat} (h : v ≤ w) : vl v ≤ vl w := by
  unfold vl mg ex
  have hB0 : 0 < 8388608 := by decide
  by_cases hv : v < 8388608
  · have e0 : v / 8388608 = 0 := Nat.div_eq_of_lt hv
    rw [if_pos hv, e0]
    by_cases hw : w < 8388608
    · have e1 : w / 8388608 = 0 := Nat.div_eq_of_lt hw
      rw [if_pos hw, e1]; simpa using h
    · rw [if_neg hw]
      have : 0 < 2 ^ (w / 8388608 - 1) := Nat.two_pow_pos _
      have h3 : (8388608 + w % 8388608) * 1 ≤ (8388608 + w % 8388608) * 2 ^ (w / 8388608 - 1) := Nat.mul_le_mul_left _ this
      simp only [Nat.zero_sub, Nat.pow_zero, Nat.mul_one] at *
      omega
  · have hw : ¬ w < 8388608 := by omega
    rw [if_neg hv, if_neg hw]
    have hq : v / 8388608 ≤ w / 8388608 := Nat.div_le_div_right h
    have hv1 : 1 ≤ v / 8388608 := by rw [Nat.le_div_iff_mul_le hB0]; omega
    by_cases he : v / 8388608 = w / 8388608
    · rw [he]
      have h1 := Nat.div_add_mod v 8388608
      have h2 := Nat.div_add_mod w 8388608
      rw [he] at h1
      exact Nat.mul_le_mul_right _ (by omega)
    · have e : w / 8388608 - 1 = (v / 8388608 - 1) + 1 + (w / 8388608 - v / 8388608 - 1) := by omega
      have hm : v % 8388608 < 8388608 := Nat.mod_lt _ hB0
      have h5 : 2 ^ (w / 8388608 - 1) = 2 * 2 ^ (v / 8388608 - 1) * 2 ^ (w / 8388608 - v / 8388608 - 1) := by
        rw [e, Nat.pow_add, Nat.pow_succ, Nat.mul_comm (2 ^ (v / 8388608 - 1)) 2]
      have h6 : 2 * 2 ^ (v / 8388608 - 1) ≤ 2 ^ (w / 8388608 - 1) := by
        rw [h5]; exact Nat.le_mul_of_pos_right _ (Nat.two_pow_pos _)
      calc (8388608 + v % 8388608) * 2 ^ (v / 8388608 - 1) ≤ (2 * 8388608) * 2 ^ (v / 8388608 - 1) := Nat.mul_le_mul_right _ (by omega)
        _ = 8388608 * (2 * 2 ^ (v / 8388608 - 1)) := by rw [Nat.mul_comm 2 8388608, Nat.mul_assoc]
        _ ≤ 8388608 * 2 ^ (w / 8388608 - 1) := Nat.mul_le_mul_left _ h6
        _ ≤ (8388608 + w % 8388608) * 2 ^ (w / 8388608 - 1) := Nat.mul_le_mul_right _ (by omega)

/-- A word is the word of what it is worth. -/
theorem rn_mg {w : Nat} (h : w < 2139095040) : rn (mg w) ((-149) + ex w) = w := by
  have hB0 : 0 < 8388608 := by decide
  by_cases h0 : w = 0
  · subst h0; decide
  by_cases hb : w < 8388608
  · have e0 : w / 8388608 = 0 := Nat.div_eq_of_lt hb
    have em : mg w = w := by unfold mg; rw [if_pos hb]
    have ee : ex w = 0 := by unfold ex; rw [e0]
    rw [em, ee, rn_eq h0]
    have hl : w.log2 < 23 := by rw [Nat.log2_lt h0]; exact hb
    have el : lst w ((-149) + (0 : Nat)) = 0 := by unfold lst; omega
    have ek : kpt w ((-149) + (0 : Nat)) = w := by
      unfold kpt; rw [el, if_pos (by omega)]
      have : (((-149) + ((0 : Nat) : Int)) - ((-149) + ((0 : Nat) : Int))).toNat = 0 := by omega
      rw [this]; simp
    rw [el, ek]; omega
  · have hm : w % 8388608 < 8388608 := Nat.mod_lt _ hB0
    have em : mg w = 8388608 + w % 8388608 := by unfold mg; rw [if_neg hb]
    have hv1 : 1 ≤ w / 8388608 := by rw [Nat.le_div_iff_mul_le hB0]; omega
    have hne : mg w ≠ 0 := by omega
    have hB : 8388608 = 2 ^ 23 := by decide
    have hB2 : 2 * 8388608 = 2 ^ 24 := by decide
    have hl : (mg w).log2 = 23 := by
      rw [Nat.log2_eq_iff hne, ← hB]
      have : (2 : Nat) ^ (23 + 1) = 2 * 8388608 := by decide
      rw [this]; omega
    rw [rn_eq hne]
    have el : lst (mg w) ((-149) + ex w) = ex w := by unfold lst; rw [hl]; omega
    have ek : kpt (mg w) ((-149) + ex w) = mg w := by
      unfold kpt; rw [el, if_pos (by omega)]
      have : (((-149) + (ex w : Int)) - ((-149) + (ex w : Int))).toNat = 0 := by omega
      rw [this]; simp
    rw [el, ek, em]
    have h1 := Nat.div_add_mod w 8388608
    have h2 : ex w * 8388608 + 8388608 = 8388608 * (w / 8388608) := by
      unfold ex
      have : w / 8388608 = (w / 8388608 - 1) + 1 := by omega
      rw [this, Nat.mul_add, Nat.mul_one, Nat.mul_comm]
      omega
    omega

theorem rn_vl {w : Nat} (h : w < 2139095040) : rn (vl w) (-149) = w := by
  have := rn_scale (mg w) (ex w) ((-149) + ex w)
  have e : (-149) + (ex w : Int) - (ex w : Int) = (-149) := by omega
  rw [e, rn_mg h] at this
  exact this

theorem vl_lt {v w : Nat} (hv : v < 2139095040) (hw : w < 2139095040) (h : v < w) : vl v < vl w := by
  rcases Nat.lt_or_ge (vl v) (vl w) with h1 | h1
  · exact h1
  · have h2 := rn_mono (-149) h1
    rw [rn_vl hv, rn_vl hw] at h2
    omega
/-- A nought below nought counts as nought. -/
def nz (x : Nat) : Nat := if x = 2147483648 then 0 else x

/-- What may be a rate, a burst or a cost. -/
def Am (x : Nat) : Prop := x < 2139095040 ∨ x = 2147483648

theorem nz_pos {x : Nat} (h : x ≤ 2139095040) : nz x = x := by unfold nz; rw [if_neg (by omega)]
theorem nz_nz : nz 2147483648 = 0 := by unfold nz; rw [if_pos rfl]
theorem Am.nz {x : Nat} (h : Am x) : Fl.nz x < 2139095040 := by
  rcases h with h | h
  · rw [nz_pos (by omega)]; exact h
  · subst h; rw [nz_nz]; decide
theorem vl_zero : vl 0 = 0 := by decide

theorem read_am {x : Nat} (h : Am x) : ∃ s, F.read x = .number s (mg (nz x)) ((-149) + ex (nz x)) ∧ (s = true → mg (nz x) = 0) ∧ s = decide (x = 2147483648) := by
  rcases h with h | h
  · refine ⟨false, ?_, by simp, ?_⟩
    · rw [nz_pos (by omega)]; exact read_pos h
    · simp; omega
  · subst h
    refine ⟨true, ?_, fun _ => by decide, by simp⟩
    rw [nz_nz, read_nz]; rfl

theorem shl_sub {m : Nat} {e : Nat} {b : Int} (h0 : (-149) ≤ b) (h : b ≤ (-149) + e) : (m <<< (((-149) + (e : Int)) - b).toNat) * 2 ^ (b - (-149)).toNat = m * 2 ^ e := by
  rw [Nat.shiftLeft_eq, Nat.mul_assoc, ← Nat.pow_add]
  congr 2; omega

/-- How two words stand to each other. -/
theorem ord_am {x y : Nat} (hx : Am x) (hy : Am y) : F.order x y = some (compare (nz x) (nz y)) := by
  obtain ⟨s, rx, zx, -⟩ := read_am hx
  obtain ⟨t, ry, zy, -⟩ := read_am hy
  have lx := hx.nz
  have ly := hy.nz
  unfold Format.order
  rw [rx, ry]
  simp only [Datum.order]
  generalize nz x = u at *
  generalize nz y = v at *
  have hb1 : (-149) ≤ min ((-149) + (ex u : Int)) ((-149) + (ex v : Int)) := by omega
  have hb2 : min ((-149) + (ex u : Int)) ((-149) + (ex v : Int)) ≤ (-149) + (ex u : Int) := by omega
  have hb3 : min ((-149) + (ex u : Int)) ((-149) + (ex v : Int)) ≤ (-149) + (ex v : Int) := by omega
  have e1 := shl_sub (m := mg u) hb1 hb2
  have e2 := shl_sub (m := mg v) hb1 hb3
  generalize min ((-149) + (ex u : Int)) ((-149) + (ex v : Int)) = b at *
  have s1 : signed s (mg u) (((-149) + (ex u : Int)) - b).toNat = ((mg u <<< (((-149) + (ex u : Int)) - b).toNat : Nat) : Int) := by
    unfold signed
    split
    · rename_i hs; rw [zx hs]; simp
    · rfl
  have s2 : signed t (mg v) (((-149) + (ex v : Int)) - b).toNat = ((mg v <<< (((-149) + (ex v : Int)) - b).toNat : Nat) : Int) := by
    unfold signed
    split
    · rename_i hs; rw [zy hs]; simp
    · rfl
  rw [s1, s2]
  generalize mg u <<< (((-149) + (ex u : Int)) - b).toNat = p at *
  generalize mg v <<< (((-149) + (ex v : Int)) - b).toNat = q at *
  have hp : 0 < 2 ^ (b - (-149)).toNat := Nat.two_pow_pos _
  have f1 : vl u = p * 2 ^ (b - (-149)).toNat := by rw [e1]; rfl
  have f2 : vl v = q * 2 ^ (b - (-149)).toNat := by rw [e2]; rfl
  congr 1
  rcases Nat.lt_trichotomy u v with h | h | h
  · have h1 := vl_lt lx ly h
    rw [f1, f2] at h1
    have h2 : p < q := Nat.lt_of_mul_lt_mul_right h1
    rw [Nat.compare_eq_lt.2 h]
    exact Int.compare_eq_lt.2 (by omega)
  · subst h
    rw [f1] at f2
    have h2 : p = q := Nat.eq_of_mul_eq_mul_right hp f2
    rw [h2, Nat.compare_eq_eq.2 rfl]
    exact Int.compare_eq_eq.2 rfl
  · have h1 := vl_lt ly lx h
    rw [f1, f2] at h1
    have h2 : q < p := Nat.lt_of_mul_lt_mul_right h1
    rw [Nat.compare_eq_gt.2 h]
    exact Int.compare_eq_gt.2 (by omega)

theorem ord_inf {y : Nat} (hy : Am y) : F.order 2139095040 y = some .gt := by
  obtain ⟨s, rx, -, -⟩ := read_am hy
  unfold Format.order; rw [read_inf, rx]; simp [Datum.order]

theorem ord_inf2 {y : Nat} (hy : Am y) : F.order y 2139095040 = some .lt := by
  obtain ⟨s, rx, -, -⟩ := read_am hy
  unfold Format.order; rw [read_inf, rx]; simp [Datum.order]

theorem ord_inf3 : F.order 2139095040 2139095040 = some .eq := by decide

theorem ord_pos {x y : Nat} (hx : x ≤ 2139095040) (hy : y ≤ 2139095040) : F.order x y = some (compare x y) := by
  by_cases h1 : x = 2139095040
  · subst h1
    by_cases h2 : y = 2139095040
    · subst h2; exact ord_inf3
    · rw [ord_inf (Or.inl (by omega)), Nat.compare_eq_gt.2 (by omega)]
  · by_cases h2 : y = 2139095040
    · subst h2; rw [ord_inf2 (Or.inl (by omega)), Nat.compare_eq_lt.2 (by omega)]
    · rw [ord_am (Or.inl (by omega)) (Or.inl (by omega)), nz_pos hx, nz_pos hy]

/-- The word of a sum. -/
def ad (x y : Nat) : Nat := if x = 2139095040 ∨ y = 2139095040 then 2139095040 else rn (vl x + vl (nz y)) (-149)

theorem write_num (n : Nat) (p : Int) : F.write (.number false n p) = rn n p := rfl

theorem sum_am {x y : Nat} (hx : x < 2139095040) (hy : Am y) : ((F.read x).sum (F.read y)).map F.write = some (rn (vl x + vl (nz y)) (-149)) := by
  have rx := read_pos hx
  obtain ⟨t, ry, zy, -⟩ := read_am hy
  rw [rx, ry]
  simp only [Datum.sum]
  generalize nz y = v at *
  have hb1 : (-149) ≤ min ((-149) + (ex x : Int)) ((-149) + (ex v : Int)) := by omega
  have hb2 : min ((-149) + (ex x : Int)) ((-149) + (ex v : Int)) ≤ (-149) + (ex x : Int) := by omega
  have hb3 : min ((-149) + (ex x : Int)) ((-149) + (ex v : Int)) ≤ (-149) + (ex v : Int) := by omega
  have e1 := shl_sub (m := mg x) hb1 hb2
  have e2 := shl_sub (m := mg v) hb1 hb3
  generalize min ((-149) + (ex x : Int)) ((-149) + (ex v : Int)) = b at *
  have s1 : signed false (mg x) (((-149) + (ex x : Int)) - b).toNat = ((mg x <<< (((-149) + (ex x : Int)) - b).toNat : Nat) : Int) := by
    simp [signed]
  have s2 : signed t (mg v) (((-149) + (ex v : Int)) - b).toNat = ((mg v <<< (((-149) + (ex v : Int)) - b).toNat : Nat) : Int) := by
    unfold signed
    split
    · rename_i hs; rw [zy hs]; simp
    · rfl
  rw [s1, s2]
  generalize mg x <<< (((-149) + (ex x : Int)) - b).toNat = p at *
  generalize mg v <<< (((-149) + (ex v : Int)) - b).toNat = q at *
  have e3 : (if (p : Int) + q = 0 then false && t else decide ((p : Int) + q < 0)) = false := by
    split
    · simp
    · simp; omega
  rw [e3]
  have e4 : ((p : Int) + q).natAbs = p + q := by omega
  rw [e4]
  show some (rn (p + q) b) = _
  congr 1
  have := rn_scale (p + q) (b - (-149)).toNat b
  have e5 : b - ((b - (-149)).toNat : Int) = (-149) := by omega
  rw [e5, Nat.add_mul, e1, e2] at this
  exact this.symm

theorem add_am {x y : Nat} (hx : x ≤ 2139095040) (hy : y ≤ 2139095040 ∨ y = 2147483648) : F.add x y = some (ad x y) := by
  unfold ad
  by_cases h1 : x = 2139095040
  · subst h1
    rw [if_pos (Or.inl rfl)]
    by_cases h2 : y = 2139095040
    · subst h2; decide
    · obtain ⟨s, rx, -, -⟩ := read_am (x := y) (by rcases hy with h | h; · left; omega
                                                   · exact Or.inr h)
      unfold Format.add
      rw [read_inf, rx]
      simp [Datum.sum, Format.write, Format.word, F_inf]
  · by_cases h2 : y = 2139095040
    · subst h2
      rw [if_pos (Or.inr rfl)]
      have rx := read_pos (w := x) (by omega)
      unfold Format.add
      rw [read_inf, rx]
      simp [Datum.sum, Format.write, Format.word, F_inf]
    · rw [if_neg (by omega)]
      exact sum_am (by omega) (by rcases hy with h | h; · left; omega
                                  · exact Or.inr h)

theorem ad_le (x y : Nat) : ad x y ≤ 2139095040 := by
  unfold ad; split
  · exact Nat.le_refl _
  · exact rn_le _ _

theorem ad_mono {x y z : Nat} (hy : y ≤ 2139095040 ∨ y = 2147483648) (hz : z ≤ 2139095040 ∨ z = 2147483648) (h : nz y ≤ nz z) : ad x y ≤ ad x z := by
  have hs : nz 2147483648 = 0 := nz_nz
  by_cases h1 : x = 2139095040 ∨ z = 2139095040
  · have : ad x z = 2139095040 := by unfold ad; rw [if_pos h1]
    rw [this]; exact ad_le _ _
  · have h2 : ¬ (x = 2139095040 ∨ y = 2139095040) := by
      intro h3
      rcases h3 with h3 | h3
      · exact h1 (Or.inl h3)
      · apply h1; right
        subst h3
        rw [nz_pos (Nat.le_refl _)] at h
        rcases hz with hz | hz
        · rw [nz_pos hz] at h; omega
        · subst hz; rw [hs] at h; omega
    unfold ad
    rw [if_neg h1, if_neg h2]
    exact rn_mono _ (Nat.add_le_add_left (vl_mono h) _)

theorem le_ad {x : Nat} (y : Nat) (hx : x ≤ 2139095040) : x ≤ ad x y := by
  unfold ad
  split
  · exact hx
  · have h := rn_vl (w := x) (by omega)
    have h2 := rn_mono (m := vl x) (n := vl x + vl (nz y)) (-149) (by omega)
    omega

theorem ad_nought {x y : Nat} (hx : x ≤ 2139095040) (hy : nz y = 0) : ad x y = x := by
  unfold ad
  split
  · rename_i h
    rcases h with h | h
    · exact h.symm
    · subst h; rw [nz_pos (Nat.le_refl _)] at hy; omega
  · rw [hy, vl_zero, Nat.add_zero, rn_vl (by omega)]

/-- The word of a product. -/
def ml (x y : Nat) : Nat := if y = 2147483648 then 2147483648 else rn (vl x * vl y) (-298)

theorem mul_am {x y : Nat} (hx : x < 2139095040) (hy : Am y) : F.mul x y = some (ml x y) := by
  have rx := read_pos hx
  unfold Format.mul ml
  rcases hy with hy | hy
  · rw [if_neg (by omega), rx, read_pos hy]
    simp only [Datum.product, Option.map_some, Bool.xor_false]
    rw [write_num]
    congr 1
    have := rn_scale (mg x * mg y) (ex x + ex y) ((-149) + (ex x : Int) + ((-149) + (ex y : Int)))
    have e1 : (-149) + (ex x : Int) + ((-149) + (ex y : Int)) - ((ex x + ex y : Nat) : Int) = -298 := by omega
    have e2 : mg x * mg y * 2 ^ (ex x + ex y) = vl x * vl y := by
      unfold vl
      rw [Nat.pow_add]
      exact Nat.mul_mul_mul_comm _ _ _ _
    rw [e1, e2] at this
    exact this.symm
  · subst hy
    rw [if_pos rfl, rx, read_nz]
    simp [Datum.product, Format.write, Format.nearest, Format.word, F_sign]

theorem ml_le (x y : Nat) : ml x y ≤ 2139095040 ∨ ml x y = 2147483648 := by
  unfold ml; split
  · exact Or.inr rfl
  · exact Or.inl (rn_le _ _)

theorem ml_mono {x z y : Nat} (h : x ≤ z) : nz (ml x y) ≤ nz (ml z y) := by
  unfold ml
  split
  · exact Nat.le_refl _
  · rw [nz_pos (rn_le _ _), nz_pos (rn_le _ _)]
    exact rn_mono _ (Nat.mul_le_mul_right _ (vl_mono h))

theorem ml_zero (y : Nat) : nz (ml 0 y) = 0 := by
  unfold ml
  split
  · exact nz_nz
  · rw [vl_zero, Nat.zero_mul, rn_zero]; rfl

/-- The word of a difference that is not below nought. -/
def sb (x y : Nat) : Nat := rn (vl x - vl (nz y)) (-149)

theorem sub_am {x y : Nat} (hx : x < 2139095040) (hy : Am y) (h : nz y ≤ x) : F.sub x y = some (sb x y) := by
  have rx := read_pos hx
  unfold Format.sub sb
  rw [rx]
  have hv := vl_mono h
  obtain ⟨t, ry, zy, -⟩ := read_am hy
  rw [ry]
  simp only [Datum.opposite, Datum.sum]
  generalize nz y = v at *
  have hb1 : (-149) ≤ min ((-149) + (ex x : Int)) ((-149) + (ex v : Int)) := by omega
  have hb2 : min ((-149) + (ex x : Int)) ((-149) + (ex v : Int)) ≤ (-149) + (ex x : Int) := by omega
  have hb3 : min ((-149) + (ex x : Int)) ((-149) + (ex v : Int)) ≤ (-149) + (ex v : Int) := by omega
  have e1 := shl_sub (m := mg x) hb1 hb2
  have e2 := shl_sub (m := mg v) hb1 hb3
  generalize min ((-149) + (ex x : Int)) ((-149) + (ex v : Int)) = b at *
  have s1 : signed false (mg x) (((-149) + (ex x : Int)) - b).toNat = ((mg x <<< (((-149) + (ex x : Int)) - b).toNat : Nat) : Int) := by
    simp [signed]
  have s2 : signed (!t) (mg v) (((-149) + (ex v : Int)) - b).toNat = -((mg v <<< (((-149) + (ex v : Int)) - b).toNat : Nat) : Int) := by
    unfold signed
    cases t with
    | true => rw [zy rfl]; simp
    | false => rfl
  rw [s1, s2]
  generalize mg x <<< (((-149) + (ex x : Int)) - b).toNat = p at *
  generalize mg v <<< (((-149) + (ex v : Int)) - b).toNat = q at *
  have hp : 0 < 2 ^ (b - (-149)).toNat := Nat.two_pow_pos _
  have f1 : vl x = p * 2 ^ (b - (-149)).toNat := by rw [e1]; rfl
  have f2 : vl v = q * 2 ^ (b - (-149)).toNat := by rw [e2]; rfl
  rw [f1, f2] at hv
  have hqp : q ≤ p := Nat.le_of_mul_le_mul_right hv hp
  have e3 : (if (p : Int) + -(q : Int) = 0 then false && !t else decide ((p : Int) + -(q : Int) < 0)) = false := by
    split
    · simp
    · simp; omega
  rw [e3]
  have e4 : ((p : Int) + -(q : Int)).natAbs = p - q := by omega
  rw [e4]
  show some (rn (p - q) b) = _
  congr 1
  have := rn_scale (p - q) (b - (-149)).toNat b
  have e5 : b - ((b - (-149)).toNat : Int) = (-149) := by omega
  rw [e5, Nat.sub_mul, ← f1, ← f2] at this
  exact this.symm

theorem sb_le {x : Nat} (y : Nat) (hx : x < 2139095040) : sb x y ≤ x := by
  unfold sb
  have h := rn_vl hx
  have h2 := rn_mono (m := vl x - vl (nz y)) (n := vl x) (-149) (by omega)
  omega

/-- The word of a whole number that is not below nought. -/
def cv (n : Nat) : Nat := rn n 0

theorem conv_eq (n : Nat) : floatOfInt .f32 (n : Int) = cv n := by
  have h : ¬ ((n : Int) < 0) := by omega
  show F.write (.number (decide ((n : Int) < 0)) (n : Int).natAbs 0) = _
  rw [decide_eq_false h]
  rfl

theorem cv_mono {m n : Nat} (h : m ≤ n) : cv m ≤ cv n := rn_mono 0 h
theorem cv_lt {n : Nat} (h : n ≤ 2 ^ 63) : cv n < 2139095040 := Nat.lt_of_le_of_lt (cv_mono h) (by decide)
theorem cv_zero : cv 0 = 0 := rn_zero 0

end Fl
end Go.Proofs.Yteejnfkbjdpccaa
