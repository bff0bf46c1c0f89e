import Derived.Test.YtbeionikiiccpaaGreatDoorZspl
import Derived.Test.YtbeionikiiccpaaGreatDoorZcfc
namespace Go.Proofs.YtbeionikiiccpaaGreatDoor
open Go.RowKit Go.Lib
theorem dec_of {E : List UInt8 → List UInt8} {t : List UInt8} {r q : Option (List UInt8)} (h1 : ∀ m, r = some m → E m = t) (h2 : ∀ m, E m = t → r = some m) (g1 : ∀ m, q = some m → E m = t) (g2 : ∀ m, E m = t → q = some m) : r = q := by
  cases r with
  | some m => exact (g2 m (h1 m rfl)).symm
  | none =>
    cases q with
    | none => rfl
    | some m => exact h2 m (g1 m rfl)
abbrev names : List UInt8 := [65, 66, 67, 68, 69, 70, 71, 72, 73, 74, 75, 76, 77, 78, 79, 80, 81, 82, 83, 84, 85, 86, 87, 88, 89, 90, 97, 98, 99, 100, 101, 102, 103, 104, 105, 106, 107, 108, 109, 110, 111, 112, 113, 114, 115, 116, 117, 118, 119, 120, 121, 122, 48, 49, 50, 51, 52, 53, 54, 55, 56, 57, 45, 95]
abbrev mail : List UInt8 := [65, 66, 67, 68, 69, 70, 71, 72, 73, 74, 75, 76, 77, 78, 79, 80, 81, 82, 83, 84, 85, 86, 87, 88, 89, 90, 97, 98, 99, 100, 101, 102, 103, 104, 105, 106, 107, 108, 109, 110, 111, 112, 113, 114, 115, 116, 117, 118, 119, 120, 121, 122, 48, 49, 50, 51, 52, 53, 54, 55, 56, 57, 43, 47]
/-- Signs that are told apart: each value's sign stands for that value. -/
def Good (n : Nat) (A : List UInt8) : Prop := A.length = n ∧ ∀ v, v < n → indexByte A (A.getD v 0) = (v : Int)
def goodB (n : Nat) (A : List UInt8) : Bool := A.length == n && (List.range n).all fun v => indexByte A (A.getD v 0) == (v : Int)
theorem good_of {n : Nat} {A : List UInt8} (h : goodB n A = true) : Good n A := by
  unfold goodB at h
  rw [Bool.and_eq_true] at h
  refine ⟨by simpa using h.1, ?_⟩
  intro v hv
  have := List.all_eq_true.1 h.2 v (List.mem_range.2 hv)
  simpa using this
theorem good_names : Good 64 names := good_of (by decide +kernel)
theorem good_mail : Good 64 mail := good_of (by decide +kernel)
theorem good_hexs : Good 16 hexs := good_of (by decide +kernel)
theorem mail_no : indexByte mail 61 = -1 := by decide +kernel
theorem sgn_map {A t : List UInt8} (h : allin A t) : sgn A (t.map (pl A)) = t := by
  unfold sgn
  rw [List.map_map]
  conv => rhs; rw [← List.map_id t]
  apply List.map_congr_left
  intro c hc
  exact ibyte_at A c (h c hc)
theorem good_allin {n : Nat} {A : List UInt8} (hA : Good n A) {v : List Nat} (hv : ∀ x ∈ v, x < n) : allin A (sgn A v) := by
  intro c hc
  obtain ⟨x, hx, rfl⟩ := List.mem_map.1 hc
  rw [hA.2 x (hv x hx)]
  omega
theorem good_map {n : Nat} {A : List UInt8} (hA : Good n A) {v : List Nat} (hv : ∀ x ∈ v, x < n) : (sgn A v).map (pl A) = v := by
  unfold sgn
  rw [List.map_map]
  conv => rhs; rw [← List.map_id v]
  apply List.map_congr_left
  intro x hx
  show (indexByte A (A.getD x 0)).toNat = x
  rw [hA.2 x (hv x hx)]
  omega
theorem sgn_inj {n : Nat} {A : List UInt8} (hA : Good n A) {v u : List Nat} (hv : ∀ x ∈ v, x < n) (hu : ∀ x ∈ u, x < n) (h : sgn A v = sgn A u) : v = u := by
  rw [← good_map hA hv, ← good_map hA hu, h]
theorem byte_eq (n : Nat) (a : UInt8) (h : n = a.toNat) : UInt8.ofNat n = a := by
  subst h
  simp
theorem rest_sig (m : List UInt8) : (Six.rest (Six.sig m)).1 = m ∧ (Six.rest (Six.sig m)).2.1 = 0 ∧ (Six.rest (Six.sig m)).2.2 < 6 := by
  induction m using Six.sig.induct with
  | case1 a b c r ih =>
    have ha := a.toNat_lt
    have hb := b.toNat_lt
    have hc := c.toNat_lt
    simp only [Six.sig, List.cons_append, List.nil_append, Six.rest]
    refine ⟨?_, ih.2.1, ih.2.2⟩
    rw [ih.1]
    rw [byte_eq _ a (by omega), byte_eq _ b (by omega), byte_eq _ c (by omega)]
  | case2 a b =>
    have ha := a.toNat_lt
    have hb := b.toNat_lt
    simp only [Six.sig, Six.rest]
    refine ⟨?_, by omega, by omega⟩
    rw [byte_eq _ a (by omega), byte_eq _ b (by omega)]
  | case3 a =>
    have ha := a.toNat_lt
    simp only [Six.sig, Six.rest]
    refine ⟨?_, by omega, by omega⟩
    rw [byte_eq _ a (by omega)]
  | case4 => simp [Six.sig, Six.rest]
theorem readAll_sig (m : List UInt8) : (Six.readAll (Six.sig m)).out = m ∧ (Six.readAll (Six.sig m)).bits = 0 ∧ (Six.readAll (Six.sig m)).have_ < 6 := by
  rw [Six.readAll_rest]
  exact rest_sig m
theorem enc_false (A m : List UInt8) : enc A false m = sgn A (Six.sig m) := by simp [enc]
theorem un6_sound {A t m : List UInt8} (hA : Good 64 A) (h : un6 A t = some m) : allin A t ∧ sgn A (Six.sig m) = t := by
  unfold un6 at h
  split at h
  · rename_i q
    have e := Option.some.inj h
    refine ⟨q.1, ?_⟩
    have hv := allin_map q.1
    rw [hA.1] at hv
    have := (Six.back' (t.map (pl A)) hv).2 (by omega)
    rw [← e, this]
    exact sgn_map q.1
  · cases h
theorem un6_complete {A m : List UInt8} (hA : Good 64 A) : un6 A (sgn A (Six.sig m)) = some m := by
  have hv := Six.sig_lt m
  have h := readAll_sig m
  rw [un6_yes]
  · rw [good_map hA hv, h.1]
  · rw [good_map hA hv]
    exact ⟨good_allin hA hv, h.2.2, h.2.1⟩
theorem by6_complete {A m : List UInt8} (hA : Good 64 A) : by6 A (sgn A (Six.sig m)) = some m := by
  have hv := Six.sig_lt m
  rw [by6_yes (good_allin hA hv), good_map hA hv, (readAll_sig m).1]
/-- What a text of names is said of. -/
def d64 (t : List UInt8) : Option (List UInt8) := un6 names t
theorem d64_some {t m : List UInt8} (h : d64 t = some m) : enc names false m = t := by rw [enc_false]; exact (un6_sound good_names h).2
theorem d64_all {t m : List UInt8} (h : enc names false m = t) : d64 t = some m := by rw [← h, enc_false]; exact un6_complete good_names
theorem d64_enc (m : List UInt8) : d64 (enc names false m) = some m := d64_all rfl
/-- What the reference makes of what it has read. -/
def kept (E : List UInt8 → List UInt8) (t : List UInt8) : Option (List UInt8) → Option (List UInt8)
  | some m => if E m = t then some m else none
  | none => none
theorem kept_some {E : List UInt8 → List UInt8} {t m : List UInt8} {r : Option (List UInt8)} (h : kept E t r = some m) : r = some m ∧ E m = t := by
  cases r with
  | none => cases h
  | some m' =>
    unfold kept at h
    simp only at h
    split at h
    · rename_i q
      have := Option.some.inj h
      rw [this] at q
      exact ⟨by rw [this], q⟩
    · cases h
theorem kept_yes {E : List UInt8 → List UInt8} {t m : List UInt8} (h : E m = t) : kept E t (some m) = some m := by
  unfold kept
  simp only
  rw [if_pos h]
theorem kept_no {E : List UInt8 → List UInt8} {t m : List UInt8} (h : E m ≠ t) : kept E t (some m) = none := by
  unfold kept
  simp only
  rw [if_neg h]
theorem ref6_dec (t : List UInt8) : kept (enc names false) t (by6 names t) = d64 t := by
  refine dec_of (E := enc names false) (t := t) (fun m h => (kept_some h).2) (fun m h => ?_) (fun m h => d64_some h) (fun m h => d64_all h)
  have hb : by6 names t = some m := by rw [← h, enc_false]; exact by6_complete good_names
  rw [hb, kept_yes h]
theorem no61 {A : List UInt8} (h61 : indexByte A 61 = -1) {t : List UInt8} (h : allin A t) : ∀ c ∈ t, c ≠ 61 := by
  intro c hc q
  have := h c hc
  rw [q, h61] at this
  omega
theorem unf_app (S : List UInt8) (hS : ∀ c ∈ S, c ≠ 61) (k : Nat) : unf (S ++ List.replicate k 61) = S := by
  induction k with
  | zero =>
    rw [List.replicate_zero, List.append_nil]
    by_cases h : 0 < S.length
    · have e := split_last S h
      rw [e, unf_not _ _ (hS _ (List.getElem_mem _))]
    · have : S = [] := List.eq_nil_of_length_eq_zero (by omega)
      subst this; rfl
  | succ k ih => rw [List.replicate_succ', ← List.append_assoc, unf_pad, ih]
def bare (t : List UInt8) : List UInt8 := trimSuffix (trimSuffix t [61]) [61]
theorem trim_pad (x : List UInt8) : trimSuffix (x ++ [61]) [61] = x := by
  unfold trimSuffix hasSuffix
  rw [if_pos (by simp)]
  simp
theorem trim_not (x : List UInt8) (h : ∀ c ∈ x, c ≠ 61) : trimSuffix x [61] = x := by
  unfold trimSuffix hasSuffix
  rw [if_neg]
  intro q
  have hs : [61] <:+ x := by simpa using q
  exact h 61 (hs.subset (by simp)) rfl
theorem trim_cases (x : List UInt8) : trimSuffix x [61] = x ∨ x = trimSuffix x [61] ++ [61] := by
  by_cases q : ([61] : List UInt8) <:+ x
  · obtain ⟨y, hy⟩ := q
    right
    rw [← hy, trim_pad]
  · left
    unfold trimSuffix hasSuffix
    rw [if_neg (by simpa using q)]
theorem bare_cases (t : List UInt8) : ∃ k, k ≤ 2 ∧ t = bare t ++ List.replicate k 61 := by
  unfold bare
  rcases trim_cases t with h1 | h1 <;> rcases trim_cases (trimSuffix t [61]) with h2 | h2
  · exact ⟨0, by omega, by rw [h2, h1]; simp⟩
  · exact ⟨1, by omega, by rw [show List.replicate 1 (61 : UInt8) = [61] from rfl, ← h2]; exact h1.symm⟩
  · exact ⟨1, by omega, by rw [h2]; exact h1⟩
  · exact ⟨2, by omega, by rw [show List.replicate 2 (61 : UInt8) = [61] ++ [61] from rfl, ← List.append_assoc, ← h2]; exact h1⟩
/-- What a text of mail is said of. -/
def dStd (t : List UInt8) : Option (List UInt8) := if t.length % 4 = 0 then un6 mail (bare t) else none
theorem dStd_some {t m : List UInt8} (h : dStd t = some m) : enc mail true m = t := by
  have hA := good_mail
  unfold dStd at h
  split at h
  · rename_i q
    obtain ⟨ha, hs⟩ := un6_sound hA h
    obtain ⟨k, hk, ht⟩ := bare_cases t
    unfold enc pad
    rw [hs, if_pos rfl]
    conv => rhs; rw [ht]
    congr 2
    have hl := congrArg List.length hs
    rw [sgn_len, Six.sig_len] at hl
    have hl2 := congrArg List.length ht
    rw [List.length_append, List.length_replicate] at hl2
    rcases (by omega : m.length % 3 = 0 ∨ m.length % 3 = 1 ∨ m.length % 3 = 2) with q3 | q3 | q3 <;> rw [q3] <;> omega
  · cases h
theorem dStd_all {t m : List UInt8} (h : enc mail true m = t) : dStd t = some m := by
  have hA := good_mail
  have h61 := mail_no
  unfold dStd
  have hn := no61 h61 (good_allin hA (Six.sig_lt m))
  have hl : (sgn mail (Six.sig m)).length = (4 * m.length + 2) / 3 := by rw [sgn_len, Six.sig_len]
  have hlen : t.length % 4 = 0 := by
    rw [← h]
    unfold enc pad
    simp only [if_true, List.length_append, List.length_replicate, hl]
    rcases (by omega : m.length % 3 = 0 ∨ m.length % 3 = 1 ∨ m.length % 3 = 2) with q3 | q3 | q3 <;> rw [q3] <;> omega
  rw [if_pos hlen]
  have e : bare t = sgn mail (Six.sig m) := by
    rw [← h]
    unfold enc pad bare
    simp only [if_true]
    rcases (by omega : (3 - m.length % 3) % 3 = 0 ∨ (3 - m.length % 3) % 3 = 1 ∨ (3 - m.length % 3) % 3 = 2) with q | q | q <;> rw [q]
    · rw [List.replicate_zero, List.append_nil, trim_not _ hn, trim_not _ hn]
    · rw [show List.replicate 1 (61 : UInt8) = [61] from rfl, trim_pad, trim_not _ hn]
    · rw [show List.replicate 2 (61 : UInt8) = [61] ++ [61] from rfl, ← List.append_assoc, trim_pad, trim_pad]
  rw [e]
  exact un6_complete hA
theorem refstd_dec (t : List UInt8) : kept (enc mail true) t (by6 mail (unf t)) = dStd t := by
  refine dec_of (E := enc mail true) (t := t) (fun m h => (kept_some h).2) (fun m h => ?_) (fun m h => dStd_some h) (fun m h => dStd_all h)
  have hb : by6 mail (unf t) = some m := by
    have e : unf t = sgn mail (Six.sig m) := by
      rw [← h]
      unfold enc pad
      simp only [if_true]
      exact unf_app _ (no61 mail_no (good_allin good_mail (Six.sig_lt m))) _
    rw [e]
    exact by6_complete good_mail
  rw [hb, kept_yes h]
theorem dStd_enc (m : List UInt8) : dStd (enc mail true m) = some m := dStd_all rfl
/-- Digits of sixteen. -/
def encH (s : List UInt8) : List UInt8 := sgn hexs (sig4 s)
theorem sig4_lt (s : List UInt8) : ∀ v ∈ sig4 s, v < 16 := by
  induction s with
  | nil => intro v hv; simp [sig4] at hv
  | cons c s ih =>
    have hc := c.toNat_lt
    intro v hv
    simp only [sig4, List.mem_cons] at hv
    rcases hv with rfl | rfl | hv
    · omega
    · omega
    · exact ih v hv
theorem pairs_sig (s : List UInt8) : pairs (sig4 s) = s := by
  induction s with
  | nil => rfl
  | cons c s ih =>
    have hc := c.toNat_lt
    simp only [sig4, pairs, ih]
    rw [byte_eq _ c (by omega)]
theorem sig_pairs (v : List Nat) (hv : ∀ x ∈ v, x < 16) (h2 : v.length % 2 = 0) : sig4 (pairs v) = v := by
  induction v using pairs.induct with
  | case1 a b r ih =>
    have ha := hv a (by simp)
    have hb := hv b (by simp)
    simp only [pairs, sig4]
    rw [Six.toNat_ofNat _ (by omega), ih (fun x hx => hv x (by simp [hx])) (by simp only [List.length_cons] at h2; omega)]
    rw [show (16 * a + b) / 16 = a by omega, show (16 * a + b) % 16 = b by omega]
  | case2 x hx =>
    match x, h2 with
    | [], _ => rfl
    | [a], h => simp at h
    | a :: b :: r, _ => exact absurd rfl (hx a b r)
theorem dHex_some {t m : List UInt8} (h : refun4 t = some m) : encH m = t := by
  unfold refun4 at h
  split at h
  · rename_i q
    have hv := allin_map q.2
    rw [good_hexs.1] at hv
    rw [← Option.some.inj h, encH, sig_pairs _ hv (by rw [List.length_map]; exact q.1)]
    exact sgn_map q.2
  · cases h
theorem dHex_all {t m : List UInt8} (h : encH m = t) : refun4 t = some m := by
  have hv := sig4_lt m
  have ha : allin hexs t := by rw [← h]; exact good_allin good_hexs hv
  have hl : t.length % 2 = 0 := by rw [← h, encH, sgn_len, sig4_len]; omega
  rw [refun4_yes ⟨hl, ha⟩, ← h, encH, good_map good_hexs hv, pairs_sig]
theorem dHex_enc (m : List UInt8) : refun4 (encH m) = some m := dHex_all rfl
theorem four_read (v : List Nat) : ∀ o, (v.length % 2 = 0 → v.foldl Four.read ⟨o, 0, 0⟩ = ⟨o ++ pairs v, 0, 0⟩) ∧ (v.length % 2 = 1 → (v.foldl Four.read ⟨o, 0, 0⟩).have_ = 4) := by
  induction v using pairs.induct with
  | case1 a b r ih =>
    intro o
    have h := ih (o ++ [UInt8.ofNat (a * 16 + b)])
    simp only [List.foldl_cons, Four.read, List.length_cons, pairs]
    refine ⟨fun q => ?_, fun q => ?_⟩
    · rw [h.1 (by omega), Nat.mul_comm]
      simp
    · exact h.2 (by omega)
  | case2 x hx =>
    intro o
    match x with
    | [] => simp [pairs]
    | [a] => simp [Four.read]
    | a :: b :: r => exact absurd rfl (hx a b r)
theorem un4_dec (t : List UInt8) : un4 hexs t = refun4 t := by
  have hf := four_read (t.map (pl hexs)) []
  rw [List.length_map] at hf
  by_cases ha : allin hexs t
  · rcases (by omega : t.length % 2 = 0 ∨ t.length % 2 = 1) with h | h
    · have := hf.1 h
      rw [refun4_yes ⟨h, ha⟩, un4_yes]
      · unfold Four.readAll; rw [this]; simp
      · unfold Four.readAll; rw [this]; exact ⟨ha, by simp, rfl⟩
    · have := hf.2 h
      rw [refun4_no (fun q => by omega), un4_no]
      unfold Four.readAll
      rw [this]
      intro q
      omega
  · rw [refun4_no (fun q => ha q.2), un4_no (fun q => ha q.1)]
theorem enc_inj {A : List UInt8} (hA : Good 64 A) (a b : List UInt8) (h : enc A false a = enc A false b) : a = b := by
  rw [enc_false, enc_false] at h
  exact Six.sig_inj a b (sgn_inj hA (Six.sig_lt a) (Six.sig_lt b) h)
theorem encs_inj {A : List UInt8} (hA : Good 64 A) (h61 : indexByte A 61 = -1) (a b : List UInt8) (h : enc A true a = enc A true b) : a = b := by
  have e := congrArg unf h
  unfold enc pad at e
  simp only [if_true] at e
  rw [unf_app _ (no61 h61 (good_allin hA (Six.sig_lt a))), unf_app _ (no61 h61 (good_allin hA (Six.sig_lt b)))] at e
  exact Six.sig_inj a b (sgn_inj hA (Six.sig_lt a) (Six.sig_lt b) e)
theorem encH_inj (a b : List UInt8) (h : encH a = encH b) : a = b := by
  have := sgn_inj good_hexs (sig4_lt a) (sig4_lt b) h
  rw [← pairs_sig a, ← pairs_sig b, this]
end Go.Proofs.YtbeionikiiccpaaGreatDoor
