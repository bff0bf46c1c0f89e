import Derived.Test.YtllialbdofklgaaGreatDoorZnff
import Derived.Test.YtllialbdofklgaaGreatDoorZnfi
namespace Go.Proofs.YtllialbdofklgaaGreatDoor
open Go.RowKit
/-! ### A node that is parted -/
def lft (n : Nd) (i : Nat) : Nd := if n.leaf then ⟨true, n.keys.take i, n.vals.take i, []⟩ else ⟨false, n.keys.take i, [], n.kids.take (i + 1)⟩
def rgt (n : Nd) (i : Nat) : Nd := if n.leaf then ⟨true, n.keys.drop i, n.vals.drop i, []⟩ else ⟨false, n.keys.drop (i + 1), [], n.kids.drop (i + 1)⟩
def gre (n : Nd) (i : Nat) : Nat := max (lft n i).siz (rgt n i).siz
def las (n : Nd) : Nat := if n.leaf then n.keys.length - 1 else n.keys.length - 2
def kbt (n : Nd) (i : Nat) : Bs := if n.leaf then btw (n.keys.getD (i - 1) []) (n.keys.getD i []) else n.keys.getD i []
/-- Where it is parted. -/
structure Plc (n : Nd) (i : Nat) : Prop where
  lo : 1 ≤ i
  hi : i ≤ las n
  mn : ∀ j, 1 ≤ j → j ≤ las n → gre n i ≤ gre n j
  fs : ∀ j, 1 ≤ j → j < i → gre n i < gre n j
theorem tot_split (l : List Bs) (i : Nat) : tot l = tot (l.take i) + tot (l.drop i) := by
  rw [← tot_app, List.take_append_drop]
theorem cross (P : Nat → Nat) (B : Nat) : ∀ n, P 0 ≤ B → B < P n → ∃ i, i < n ∧ P i ≤ B ∧ B < P (i + 1)
  | 0, h0, hn => by omega
  | n + 1, h0, hn => by
    by_cases h : B < P n
    · obtain ⟨i, h1, h2, h3⟩ := cross P B n h0 h
      exact ⟨i, by omega, h2, h3⟩
    · exact ⟨n, by omega, by omega, hn⟩
/-- A node that may be parted. -/
structure Grt (n : Nd) : Prop where
  ag : agv n = true
  ko : kok n.keys = true
  lo : 480 < n.siz
  hi : n.siz ≤ 718
  nd : n.kids.Nodup
theorem Grt.key {n : Nd} (h : Grt n) (i : Nat) (hi : i < n.keys.length) : 1 ≤ (n.keys.getD i []).length ∧ (n.keys.getD i []).length ≤ 36 := by
  have := h.ko
  unfold kok at this
  rw [Bool.and_eq_true] at this
  obtain ⟨h1, h2⟩ := this
  rw [List.getD_eq_getElem?_getD, List.getElem?_eq_getElem hi]
  have h3 := List.all_eq_true.1 h1 _ (List.getElem_mem hi)
  unfold noKey at h3
  simp only [Bool.not_eq_true', Bool.or_eq_false_iff, decide_eq_false_iff_not] at h3
  simp only [Option.getD_some]
  omega
theorem Grt.rs {n : Nd} (h : Grt n) : Rs n.keys := by
  have := h.ko
  unfold kok at this
  rw [Bool.and_eq_true] at this
  exact (up_iff _).1 this.2
theorem Grt.lists {n : Nd} (h : Grt n) : (n.leaf = true → n.vals.length = n.keys.length ∧ n.kids = [] ∧ ∀ i, (n.vals.getD i []).length ≤ 200) ∧ (n.leaf = false → n.kids.length = n.keys.length + 1 ∧ n.vals = [] ∧ anyI n.kids = false ∧ unl n.kids = true) := by
  have := h.ag
  unfold agv at this
  refine ⟨fun hl => ?_, fun hl => ?_⟩
  · rw [if_pos hl] at this
    unfold agl at this
    simp only [Bool.and_eq_true, decide_eq_true_eq, Bool.not_eq_true'] at this
    refine ⟨this.1.1, List.eq_nil_of_length_eq_zero this.1.2, fun i => ?_⟩
    have q := this.2
    unfold anyB at q
    rw [List.any_eq_false] at q
    rw [List.getD_eq_getElem?_getD]
    by_cases hi : i < n.vals.length
    · rw [List.getElem?_eq_getElem hi]
      have := q _ (List.getElem_mem hi)
      unfold lng at this
      simp only [decide_eq_true_eq] at this
      simp only [Option.getD_some]
      omega
    · rw [List.getElem?_eq_none (by omega)]
      simp
  · rw [if_neg (by rw [hl]; simp)] at this
    unfold agi at this
    simp only [Bool.and_eq_true, decide_eq_true_eq, Bool.not_eq_true'] at this
    exact ⟨this.1.1.1, List.eq_nil_of_length_eq_zero this.1.1.2, this.1.2, this.2⟩
/-- Both parts are great enough, and not too great. -/
theorem fit {n : Nd} {i : Nat} (h : Grt n) (hp : Plc n i) : 120 ≤ (lft n i).siz ∧ (lft n i).siz ≤ 480 ∧ 120 ≤ (rgt n i).siz ∧ (rgt n i).siz ≤ 480 := by
  obtain ⟨hv, hk⟩ := h.lists
  have hlo := h.lo
  have hhi := h.hi
  have hm := hp.mn
  have h1 := hp.lo
  have h2 := hp.hi
  unfold gre at hm
  cases hl : n.leaf
  · obtain ⟨k1, k2, -, -⟩ := hk hl
    have hS : n.siz = 4 * n.kids.length + n.keys.length + tot n.keys := by unfold Nd.siz; rw [hl]; simp
    have hla : las n = n.keys.length - 2 := by unfold las; rw [hl]; simp
    rw [hla] at hm h2
    have hL : ∀ j, j ≤ n.keys.length → (lft n j).siz = 4 + 5 * j + tot (n.keys.take j) := fun j hj => by
      unfold lft Nd.siz
      rw [hl]
      simp only [Bool.false_eq_true, if_false, List.length_take]
      omega
    have hR : ∀ j, j + 1 ≤ n.keys.length → (rgt n j).siz + (4 + 5 * (j + 1) + tot (n.keys.take (j + 1))) = n.siz + 4 := fun j hj => by
      have := tot_split n.keys (j + 1)
      unfold rgt Nd.siz
      rw [hl]
      simp only [Bool.false_eq_true, if_false, List.length_drop]
      omega
    have hP : ∀ j, j < n.keys.length → tot (n.keys.take (j + 1)) ≤ tot (n.keys.take j) + 36 := fun j hj => by
      rw [tot_next _ _ hj]
      have := h.key j hj
      omega
    have hN : tot (n.keys.take n.keys.length) = tot n.keys := by rw [List.take_length]
    have h0 : tot (n.keys.take 0) = 0 := rfl
    obtain ⟨a, ha, hb, hc⟩ := cross (fun j => 4 + 5 * j + tot (n.keys.take j)) (n.siz / 2 + 2) n.keys.length (by simp only [h0]; omega) (by simp only [hN]; omega)
    have ha1 : 1 ≤ a := by
      rcases Nat.eq_zero_or_pos a with rfl | q
      · have := hP 0 (by omega); omega
      · exact q
    have ha2 : a ≤ n.keys.length - 2 := by
      rcases Nat.lt_or_ge a (n.keys.length - 1) with q | q
      · omega
      · obtain e : a + 1 = n.keys.length := by omega
        have := hP a ha
        rw [e, hN] at this
        omega
    have hm2 := hm a ha1 ha2
    rw [hL i (by omega), hL a (by omega)] at hm2
    rw [hL i (by omega)]
    have r1 := hR i (by omega)
    have r2 := hR a (by omega)
    have p1 := hP i (by omega)
    generalize (rgt n i).siz = x at *
    generalize (rgt n a).siz = y at *
    omega
  · obtain ⟨k1, k2, k3⟩ := hv hl
    have hS : n.siz = 2 * n.keys.length + tot n.keys + tot n.vals := by unfold Nd.siz; rw [hl, k1]; simp
    have hla : las n = n.keys.length - 1 := by unfold las; rw [hl]; simp
    rw [hla] at hm h2
    have hL : ∀ j, j ≤ n.keys.length → (lft n j).siz = 2 * j + tot (n.keys.take j) + tot (n.vals.take j) := fun j hj => by
      unfold lft Nd.siz
      rw [hl]
      simp only [if_true, List.length_take, k1]
      omega
    have hR : ∀ j, j ≤ n.keys.length → (rgt n j).siz + (2 * j + tot (n.keys.take j) + tot (n.vals.take j)) = n.siz := fun j hj => by
      have := tot_split n.keys j
      have := tot_split n.vals j
      rw [hS]
      unfold rgt Nd.siz
      rw [hl]
      simp only [if_true, List.length_drop, k1]
      omega
    have hP : ∀ j, j < n.keys.length → tot (n.keys.take (j + 1)) ≤ tot (n.keys.take j) + 36 ∧ tot (n.vals.take (j + 1)) ≤ tot (n.vals.take j) + 200 := fun j hj => by
      rw [tot_next _ _ hj, tot_next _ _ (by omega)]
      have := h.key j hj
      have := k3 j
      omega
    have hN : tot (n.keys.take n.keys.length) = tot n.keys := by rw [List.take_length]
    have hN2 : tot (n.vals.take n.keys.length) = tot n.vals := by rw [← k1, List.take_length]
    have h0 : tot (n.keys.take 0) = 0 := rfl
    have h00 : tot (n.vals.take 0) = 0 := rfl
    obtain ⟨a, ha, hb, hc⟩ := cross (fun j => 2 * j + tot (n.keys.take j) + tot (n.vals.take j)) (n.siz / 2) n.keys.length (by simp only [h0, h00]; omega) (by simp only [hN, hN2]; omega)
    have hpa := hP a ha
    have ha1 : 1 ≤ a := by
      rcases Nat.eq_zero_or_pos a with rfl | q
      · omega
      · exact q
    have ha2 : a + 1 ≤ n.keys.length - 1 := by
      rcases Nat.lt_or_ge (a + 1) n.keys.length with q | q
      · omega
      · obtain e : a + 1 = n.keys.length := by omega
        rw [e, hN, hN2] at hpa
        omega
    have m1 := hm a ha1 (by omega)
    have m2 := hm (a + 1) (by omega) ha2
    rw [hL i (by omega), hL a (by omega)] at m1
    rw [hL i (by omega), hL (a + 1) (by omega)] at m2
    rw [hL i (by omega)]
    have r1 := hR i (by omega)
    have r2 := hR a (by omega)
    have r3 := hR (a + 1) (by omega)
    generalize (rgt n i).siz = x at *
    generalize (rgt n a).siz = y at *
    generalize (rgt n (a + 1)).siz = z at *
    omega
theorem kok_sub {l u : List Bs} (h : kok l = true) (hs : u.Sublist l) : kok u = true := by
  unfold kok at h ⊢
  rw [Bool.and_eq_true, up_iff] at h ⊢
  exact ⟨List.all_eq_true.2 fun x hx => List.all_eq_true.1 h.1 x (hs.subset hx), h.2.sublist hs⟩
theorem anyB_sub {f : Bs → Bool} {l u : List Bs} (h : anyB f l = false) (hs : u.Sublist l) : anyB f u = false := by
  unfold anyB at h ⊢
  rw [List.any_eq_false] at h ⊢
  exact fun x hx => h x (hs.subset hx)
theorem anyI_sub {l u : List Int} (h : anyI l = false) (hs : u.Sublist l) : anyI u = false := by
  unfold anyI at h ⊢
  rw [List.any_eq_false] at h ⊢
  exact fun x hx => h x (hs.subset hx)
theorem lft_leaf (n : Nd) (i : Nat) : (lft n i).leaf = n.leaf := by unfold lft; cases n.leaf <;> rfl
theorem rgt_leaf (n : Nd) (i : Nat) : (rgt n i).leaf = n.leaf := by unfold rgt; cases n.leaf <;> rfl
theorem lft_keys (n : Nd) (i : Nat) : (lft n i).keys = n.keys.take i := by unfold lft; cases n.leaf <;> rfl
theorem rgt_keys (n : Nd) (i : Nat) : (rgt n i).keys = if n.leaf then n.keys.drop i else n.keys.drop (i + 1) := by unfold rgt; cases n.leaf <;> rfl
theorem Plc.len {n : Nd} {i : Nat} (hp : Plc n i) : i < n.keys.length ∧ (n.leaf = false → i + 1 < n.keys.length) := by
  have h1 := hp.lo
  have h2 := hp.hi
  unfold las at h2
  cases hl : n.leaf
  · rw [hl] at h2; simp at h2; exact ⟨by omega, fun _ => by omega⟩
  · rw [hl] at h2; simp at h2; exact ⟨by omega, fun q => nomatch q⟩
theorem lft_ag {n : Nd} {i : Nat} (h : Grt n) (hp : Plc n i) : agv (lft n i) = true ∧ 0 < (lft n i).keys.length ∧ kok (lft n i).keys = true := by
  obtain ⟨hv, hk⟩ := h.lists
  obtain ⟨l1, l2⟩ := hp.len
  have h1 := hp.lo
  rw [lft_keys]
  refine ⟨?_, by rw [List.length_take]; omega, kok_sub h.ko (List.take_sublist _ _)⟩
  have hag := h.ag
  unfold agv at hag ⊢
  rw [lft_leaf]
  cases hl : n.leaf
  · obtain ⟨k1, k2, k3, k4⟩ := hk hl
    rw [if_neg (by simp)]
    unfold lft agi
    rw [hl]
    simp only [Bool.false_eq_true, if_false, Bool.and_eq_true, decide_eq_true_eq, Bool.not_eq_true', List.length_take, List.length_nil]
    exact ⟨⟨⟨by omega, by first | rfl | trivial⟩, anyI_sub k3 (List.take_sublist _ _)⟩, unl_nodup (h.nd.sublist (List.take_sublist _ _))⟩
  · obtain ⟨k1, k2, -⟩ := hv hl
    rw [hl, if_pos rfl] at hag
    rw [if_pos rfl]
    unfold agl at hag
    unfold lft agl
    rw [hl]
    simp only [if_true, Bool.and_eq_true, decide_eq_true_eq, Bool.not_eq_true', List.length_take, List.length_nil] at hag ⊢
    exact ⟨⟨by omega, by first | rfl | trivial⟩, anyB_sub hag.2 (List.take_sublist _ _)⟩
theorem rgt_ag {n : Nd} {i : Nat} (h : Grt n) (hp : Plc n i) : agv (rgt n i) = true ∧ 0 < (rgt n i).keys.length ∧ kok (rgt n i).keys = true := by
  obtain ⟨hv, hk⟩ := h.lists
  obtain ⟨l1, l2⟩ := hp.len
  have h1 := hp.lo
  rw [rgt_keys]
  have hag := h.ag
  unfold agv at hag ⊢
  rw [rgt_leaf]
  cases hl : n.leaf
  · obtain ⟨k1, k2, k3, k4⟩ := hk hl
    have := l2 hl
    rw [if_neg (by simp)]
    simp only [Bool.false_eq_true, if_false]
    refine ⟨?_, by rw [List.length_drop]; omega, kok_sub h.ko (List.drop_sublist _ _)⟩
    unfold rgt agi
    rw [hl]
    simp only [Bool.false_eq_true, if_false, Bool.and_eq_true, decide_eq_true_eq, Bool.not_eq_true', List.length_drop, List.length_nil]
    exact ⟨⟨⟨by omega, by first | rfl | trivial⟩, anyI_sub k3 (List.drop_sublist _ _)⟩, unl_nodup (h.nd.sublist (List.drop_sublist _ _))⟩
  · obtain ⟨k1, k2, -⟩ := hv hl
    rw [hl, if_pos rfl] at hag
    rw [if_pos rfl]
    simp only [if_true]
    refine ⟨?_, by rw [List.length_drop]; omega, kok_sub h.ko (List.drop_sublist _ _)⟩
    unfold agl at hag
    unfold rgt agl
    rw [hl]
    simp only [if_true, Bool.and_eq_true, decide_eq_true_eq, Bool.not_eq_true', List.length_drop, List.length_nil] at hag ⊢
    exact ⟨⟨by omega, by first | rfl | trivial⟩, anyB_sub hag.2 (List.drop_sublist _ _)⟩
theorem wrv_of {n : Nd} (h1 : agv n = true) (h2 : 0 < n.keys.length) (h3 : kok n.keys = true) (h4 : n.siz ≤ 480) : wrv n = 0 := by
  unfold wrv hfv
  rw [h1, h3, decide_eq_true h2, Bool.and_self, if_pos rfl, if_pos rfl, if_neg (by omega)]
theorem wrv_lft {n : Nd} {i : Nat} (h : Grt n) (hp : Plc n i) : wrv (lft n i) = 0 := by
  obtain ⟨h1, h2, h3⟩ := lft_ag h hp
  exact wrv_of h1 h2 h3 (fit h hp).2.1
theorem wrv_rgt {n : Nd} {i : Nat} (h : Grt n) (hp : Plc n i) : wrv (rgt n i) = 0 := by
  obtain ⟨h1, h2, h3⟩ := rgt_ag h hp
  exact wrv_of h1 h2 h3 (fit h hp).2.2.2
/-! ### The key between -/
theorem getD_lt {l : List Bs} (h : Rs l) {i j : Nat} (hij : i < j) (hj : j < l.length) : l.getD i [] < l.getD j [] := by
  have := List.pairwise_iff_getElem.1 h i j (by omega) hj hij
  simpa only [List.getD_eq_getElem?_getD, List.getElem?_eq_getElem hj, List.getElem?_eq_getElem (show i < l.length by omega), Option.getD_some] using this
theorem btw_lens {a b : Bs} (h : a < b) : 1 ≤ (btw a b).length ∧ (btw a b).length ≤ b.length := by
  have := alk_lt h
  unfold btw
  rw [if_pos h, List.length_take]
  omega
/-- Above all that stands to the left; to the right nothing is below it. -/
theorem kbt_is {n : Nd} {i : Nat} (h : Grt n) (hp : Plc n i) : 1 ≤ (kbt n i).length ∧ (kbt n i).length ≤ 36 ∧ n.keys.getD (i - 1) [] < kbt n i ∧ (n.leaf = true → ¬ n.keys.getD i [] < kbt n i) ∧ (n.leaf = false → kbt n i < n.keys.getD (i + 1) []) := by
  obtain ⟨l1, l2⟩ := hp.len
  have h1 := hp.lo
  have hr := h.rs
  have hlt := getD_lt hr (show i - 1 < i by omega) l1
  have hk := h.key i l1
  unfold kbt
  cases hl : n.leaf
  · simp only [Bool.false_eq_true, if_false]
    exact ⟨hk.1, hk.2, hlt, False.elim, fun _ => getD_lt hr (by omega) (l2 hl)⟩
  · simp only [if_true]
    have := btw_lens hlt
    refine ⟨this.1, by omega, ?_, fun _ => ?_, by first | (intro q; cases q) | exact True.intro⟩
    · unfold btw; rw [if_pos hlt]; exact btw_gt hlt
    · unfold btw; rw [if_pos hlt]; exact pre_le _ _
theorem le_lt' {a b c : Bs} (h : ¬ b < a) (h' : b < c) : a < c := by
  rcases Decidable.em (a = b) with rfl | q
  · exact h'
  · exact lt_trans' (lt_total' h (fun e => q e.symm)) h'
theorem lft_blw {n : Nd} {i : Nat} (h : Grt n) (hp : Plc n i) : ∀ j, j < (lft n i).keys.length → (lft n i).keys.getD j [] < kbt n i := by
  intro j hj
  rw [lft_keys] at hj ⊢
  have l1 := hp.len.1
  rw [List.length_take] at hj
  have e : (n.keys.take i).getD j [] = n.keys.getD j [] := by
    simp only [List.getD_eq_getElem?_getD, List.getElem?_take]
    rw [if_pos (by omega)]
  rw [e]
  have hk := (kbt_is h hp).2.2.1
  rcases Nat.lt_or_ge j (i - 1) with q | q
  · exact lt_trans' (getD_lt h.rs q (by omega)) hk
  · obtain rfl : j = i - 1 := by omega
    exact hk
theorem drop_getD (l : List Bs) (i j : Nat) : (l.drop i).getD j [] = l.getD (i + j) [] := by
  simp only [List.getD_eq_getElem?_getD, List.getElem?_drop]
theorem rgt_abv {n : Nd} {i : Nat} (h : Grt n) (hp : Plc n i) : ∀ j, j < (rgt n i).keys.length → ¬ (rgt n i).keys.getD j [] < kbt n i ∧ (n.leaf = false → kbt n i < (rgt n i).keys.getD j []) := by
  intro j hj
  rw [rgt_keys] at hj ⊢
  obtain ⟨-, -, -, ka, kb⟩ := kbt_is h hp
  cases hl : n.leaf
  · rw [hl] at hj
    simp only [Bool.false_eq_true, if_false, List.length_drop] at hj ⊢
    rw [drop_getD]
    have q : kbt n i < n.keys.getD (i + 1 + j) [] := by
      rcases Nat.eq_zero_or_pos j with rfl | hj0
      · exact kb hl
      · exact lt_trans' (kb hl) (getD_lt h.rs (by omega) (by omega))
    exact ⟨fun q2 => lt_irrefl' _ (lt_trans' q q2), fun _ => q⟩
  · rw [hl] at hj
    simp only [if_true, List.length_drop] at hj ⊢
    rw [drop_getD]
    refine ⟨fun q => ?_, fun q => nomatch q⟩
    rcases Nat.eq_zero_or_pos j with rfl | hj0
    · exact ka hl q
    · exact ka hl (lt_trans' (getD_lt h.rs (by omega) (by omega)) q)
/-! ### Put together again -/
def jnn (m : Nd) (key : Bs) (n : Nd) : Nd := if m.leaf then ⟨true, m.keys ++ n.keys, m.vals ++ n.vals, []⟩ else ⟨false, m.keys ++ [key] ++ n.keys, [], m.kids ++ n.kids⟩
theorem join_back {n : Nd} {i : Nat} (h : Grt n) (hp : Plc n i) : jnn (lft n i) (kbt n i) (rgt n i) = n := by
  obtain ⟨hv, hk⟩ := h.lists
  obtain ⟨lf, ks, vs, is⟩ := n
  have l1 := hp.len.1
  unfold jnn
  rw [lft_leaf]
  cases lf
  · obtain ⟨-, k2, -⟩ := hk rfl
    simp only at k2 l1
    subst k2
    simp only [lft, rgt, kbt, Bool.false_eq_true, if_false, List.take_append_drop]
    congr 1
    rw [List.getD_eq_getElem?_getD, List.getElem?_eq_getElem l1, Option.getD_some, ← List.take_succ_eq_append_getElem l1, List.take_append_drop]
  · obtain ⟨-, k2, -⟩ := hv rfl
    simp only at k2
    subst k2
    simp only [lft, rgt, if_true, List.take_append_drop]
/-- What holds of a node of raw cells that is great. -/
theorem Mk.grt {lf : Bool} {n : Nd} (h : Mk lf 718 n) (hs : 480 < lsz n) : Grt n := by
  have hsz := h.sz
  have hl := h.leaf
  have hkok : kok n.keys = true := by
    unfold kok
    rw [Bool.and_eq_true, (up_iff _).2 h.ks]
    refine ⟨List.all_eq_true.2 fun x hx => ?_, rfl⟩
    have := h.kl x hx
    unfold noKey
    simp only [Bool.not_eq_true', Bool.or_eq_false_iff, decide_eq_false_iff_not]
    omega
  cases lf
  · obtain ⟨h1, h2, h3⟩ := h.il rfl
    have hnd := kids_nodup h3
    have he : n.siz = lsz n := by
      unfold Nd.siz lsz
      rw [hl, h1, if_neg (by simp)]
      simp [tot]
      omega
    refine ⟨?_, hkok, by omega, by omega, hnd⟩
    unfold agv agi
    rw [hl, if_neg (by simp)]
    simp only [Bool.and_eq_true, decide_eq_true_eq, Bool.not_eq_true']
    refine ⟨⟨⟨h2, by rw [h1]; rfl⟩, ?_⟩, unl_nodup hnd⟩
    have hkl : n.keys.length ≤ 718 := by unfold lsz at hsz; omega
    unfold anyI
    rw [List.any_eq_false]
    intro x hx
    obtain ⟨j, hj, rfl⟩ := List.mem_iff_getElem.1 hx
    have := h3 j hj
    rw [List.getD_eq_getElem?_getD, List.getElem?_eq_getElem hj] at this
    simp only [Option.getD_some] at this
    unfold nki
    simp only [Bool.or_eq_true, decide_eq_true_eq, not_or]
    omega
  · obtain ⟨h1, h2, h3⟩ := h.vl rfl
    have he : n.siz = lsz n := by
      unfold Nd.siz lsz
      rw [hl, h2, h1, if_pos rfl]
      simp
      omega
    refine ⟨?_, hkok, by omega, by omega, by rw [h2]; exact List.nodup_nil⟩
    unfold agv agl
    rw [hl, if_pos rfl]
    simp only [Bool.and_eq_true, decide_eq_true_eq, Bool.not_eq_true']
    refine ⟨⟨h1, by rw [h2]; rfl⟩, ?_⟩
    unfold anyB
    rw [List.any_eq_false]
    intro x hx
    have := h3 x hx
    unfold lng
    simp only [decide_eq_true_eq]
    omega
end Go.Proofs.YtllialbdofklgaaGreatDoor
