import Derived.Test.YtbeionikiiccpaaGreatDoorTka
namespace Go.Proofs.YtbeionikiiccpaaGreatDoor
open Sha
/-- A byte by the two signs that tell it. -/
theorem sig_byte (b : Bs) : ∀ b' : Bs, b.length = b'.length → b.length % 3 = 0 → ∀ i, i < b.length → (Six.sig b).getD (i + i / 3) 0 = (Six.sig b').getD (i + i / 3) 0 → (Six.sig b).getD (i + i / 3 + 1) 0 = (Six.sig b').getD (i + i / 3 + 1) 0 → b.getD i 0 = b'.getD i 0 := by
  have byte : ∀ a b : UInt8, a.toNat = b.toNat → a = b := fun a b h => UInt8.toNat_inj.1 h
  induction b using Six.sig.induct with
  | case1 a b c r ih =>
    intro b' hl h3 i hi g1 g2
    match b', hl with
    | a' :: b' :: c' :: r', hl =>
      have ha := a.toNat_lt
      have hb := b.toNat_lt
      have hc := c.toNat_lt
      have ha' := a'.toNat_lt
      have hb' := b'.toNat_lt
      have hc' := c'.toNat_lt
      simp only [Six.sig, List.cons_append, List.nil_append] at g1 g2
      match i with
      | 0 => simp at g1 g2 ⊢; exact byte _ _ (by omega)
      | 1 => simp at g1 g2 ⊢; exact byte _ _ (by omega)
      | 2 => simp at g1 g2 ⊢; exact byte _ _ (by omega)
      | i + 3 =>
        have e : i + 3 + (i + 3) / 3 = (i + i / 3) + 4 := by omega
        rw [e] at g1 g2
        simp only [List.length_cons] at hl hi h3
        have := ih r' (by omega) (by omega) i (by omega) (by simpa using g1) (by simpa using g2)
        simpa using this
    | [_, _], hl => simp at hl
    | [_], hl => simp at hl
    | [], hl => simp at hl
  | case2 a b => intro b' _ h3; simp at h3
  | case3 a => intro b' _ h3; simp at h3
  | case4 => intro b' _ _ i hi; simp at hi
theorem sgn_at {A : Bs} (hA : Good 64 A) (v v' : List Nat) (hv : ∀ x ∈ v, x < 64) (hv' : ∀ x ∈ v', x < 64) (hl : v.length = v'.length) (i : Nat) (h : (sgn A v).getD i 0 = (sgn A v').getD i 0) : v.getD i 0 = v'.getD i 0 := by
  by_cases hi : i < v.length
  · have hi' : i < v'.length := by omega
    simp only [List.getD_eq_getElem?_getD, sgn, List.getElem?_map, List.getElem?_eq_getElem hi, List.getElem?_eq_getElem hi', Option.map_some, Option.getD_some] at h ⊢
    have h1 := hA.2 _ (hv _ (List.getElem_mem hi))
    have h2 := hA.2 _ (hv' _ (List.getElem_mem hi'))
    simp only [List.getD_eq_getElem?_getD] at h1 h2
    rw [h, h2] at h1
    omega
  · rw [List.getD_eq_getElem?_getD, List.getD_eq_getElem?_getD, List.getElem?_eq_none (by omega), List.getElem?_eq_none (by omega)]
/-- Two texts that are the same but at a place and the one behind it. -/
def Near (j : Nat) (s t : Bs) : Prop := s.length = t.length ∧ ∀ i, i ≠ j → i ≠ j + 1 → s.getD i 0 = t.getD i 0
theorem ext0 {a b : Bs} (hl : a.length = b.length) (h : ∀ i, i < a.length → a.getD i 0 = b.getD i 0) : a = b := by
  apply List.ext_getElem hl
  intro i i1 i2
  have := h i i1
  simpa [List.getD_eq_getElem?_getD, i1, i2] using this
theorem getD_take' (l : Bs) (n i : Nat) (h : i < n) : (l.take n).getD i 0 = l.getD i 0 := by
  simp [List.getD_eq_getElem?_getD, h]
theorem getD_drop' (l : Bs) (n i : Nat) : (l.drop n).getD i 0 = l.getD (n + i) 0 := by
  simp [List.getD_eq_getElem?_getD]
theorem getD_app1 (a b : Bs) (i : Nat) (h : i < a.length) : (a ++ b).getD i 0 = a.getD i 0 := by
  simp [List.getD_eq_getElem?_getD, List.getElem?_append, h]
theorem getD_app2 (a b : Bs) (i : Nat) : (a ++ b).getD (a.length + i) 0 = b.getD i 0 := by
  rw [List.getD_eq_getElem?_getD, List.getD_eq_getElem?_getD, List.getElem?_append_right (by omega), Nat.add_sub_cancel_left]
theorem be4_inj {a b : UInt32} (h : be 4 a.toNat = be 4 b.toNat) : a = b := by
  have := congrArg nat h
  rw [nat_be, nat_be, Nat.mod_eq_of_lt a.toNat_lt, Nat.mod_eq_of_lt b.toNat_lt] at this
  exact UInt32.toNat_inj.1 this
/-- The CRC with which bytes stand. -/
theorem burst_part (p a b : Bs) (hl : a.length = b.length) (m : Nat) (hm : m + 3 ≤ a.length) (hg : ∀ i, i < a.length → i < m ∨ m + 3 ≤ i → a.getD i 0 = b.getD i 0) (hc : crc (p ++ a) = crc (p ++ b)) : a = b := by
  have ea : a = a.take m ++ (a.drop m).take 3 ++ a.drop (m + 3) := by
    rw [List.append_assoc, show a.drop (m + 3) = (a.drop m).drop 3 by rw [List.drop_drop], List.take_append_drop, List.take_append_drop]
  have eb : b = b.take m ++ (b.drop m).take 3 ++ b.drop (m + 3) := by
    rw [List.append_assoc, show b.drop (m + 3) = (b.drop m).drop 3 by rw [List.drop_drop], List.take_append_drop, List.take_append_drop]
  have e1 : a.take m = b.take m := by
    apply ext0 (by simp; omega)
    intro i hi
    rw [List.length_take] at hi
    rw [getD_take' _ _ _ (by omega), getD_take' _ _ _ (by omega)]
    exact hg i (by omega) (.inl (by omega))
  have e3 : a.drop (m + 3) = b.drop (m + 3) := by
    apply ext0 (by simp; omega)
    intro i hi
    rw [List.length_drop] at hi
    rw [getD_drop', getD_drop']
    exact hg _ (by omega) (.inr (by omega))
  have hb := burst (p ++ a.take m) ((a.drop m).take 3) ((b.drop m).take 3) (a.drop (m + 3)) (by simp; omega) (by simp; omega) (by
    rw [List.append_assoc p, List.append_assoc p, List.append_assoc p, List.append_assoc p, ← ea]
    rw [e1, e3, ← eb]
    exact hc)
  rw [ea, eb, e1, e3, hb]
theorem nt_nt (a : UInt32) : nt (nt a) = a := by unfold nt; simp
/-- Two bytes at the end, and 24 bits of the CRC. -/
theorem end_two (p : Bs) (a b a' b' : UInt8) (h : (crc (p ++ [a, b])).toNat % 16777216 = (crc (p ++ [a', b'])).toNat % 16777216) : a = a' ∧ b = b' := by
  have hz := fold_zip [a, b] [a', b'] (p.foldl crcB 0xffffffff) (p.foldl crcB 0xffffffff) rfl
  have e0 : ∀ a : UInt32, xr a a = 0 := fun a => by unfold xr; exact UInt32.xor_self
  rw [e0] at hz
  have e1 : crc (p ++ [a, b]) = nt ([a, b].foldl crcB (p.foldl crcB 0xffffffff)) := by unfold crc crcR; rw [List.foldl_append]
  have e2 : crc (p ++ [a', b']) = nt ([a', b'].foldl crcB (p.foldl crcB 0xffffffff)) := by unfold crc crcR; rw [List.foldl_append]
  rw [e1, e2] at h
  generalize [a, b].foldl crcB (p.foldl crcB 0xffffffff) = x at *
  generalize [a', b'].foldl crcB (p.foldl crcB 0xffffffff) = y at *
  have ex : xr x y = xr (nt x) (nt y) := by
    rw [nt_xr, nt_xr, xr4, e0]; unfold xr; rw [UInt32.xor_zero]
  have h24 : (xr x y).toNat % 16777216 = 0 := by
    rw [ex]
    unfold xr
    rw [UInt32.toNat_xor, show (16777216 : Nat) = 2 ^ 24 by decide, Nat.xor_mod_two_pow, show (2 ^ 24 : Nat) = 16777216 by decide, h, Nat.xor_self]
  rw [← hz] at h24
  have := two_zero (a ^^^ a') (b ^^^ b') h24
  exact ⟨(xor_zero8 _ _).1 this.1, (xor_zero8 _ _).1 this.2⟩
theorem be4_low {x y : Nat} (h : ∀ i, 1 ≤ i → i < 4 → (be 4 x).getD i 0 = (be 4 y).getD i 0) : x % 16777216 = y % 16777216 := by
  have h1 := congrArg UInt8.toNat (h 1 (by omega) (by omega))
  have h2 := congrArg UInt8.toNat (h 2 (by omega) (by omega))
  have h3 := congrArg UInt8.toNat (h 3 (by omega) (by omega))
  simp [be, List.range_succ] at h1 h2 h3
  omega
/-- Of one kind: two bodies whose signs are the same but at two neighbouring places. -/
theorem body_near (k : Int) (id id' : Nat) (s s' : Bs) (hs : s.length = 24) (hs' : s'.length = 24) (j : Nat) (h : ∀ i, i < 36 → i + i / 3 + 1 < j ∨ j + 1 < i + i / 3 → (bdy k id s).getD i 0 = (bdy k id' s').getD i 0) : bdy k id s = bdy k id' s' := by
  have hn := nmd_len id s hs
  have hn' := nmd_len id' s' hs'
  have hlo : ∀ i, i < 32 → (bdy k id s).getD i 0 = (nmd id s).getD i 0 ∧ (bdy k id' s').getD i 0 = (nmd id' s').getD i 0 := fun i hi => ⟨getD_app1 _ _ _ (by omega), getD_app1 _ _ _ (by omega)⟩
  have hhi : ∀ i, (bdy k id s).getD (32 + i) 0 = (be 4 (cks k id s).toNat).getD i 0 ∧ (bdy k id' s').getD (32 + i) 0 = (be 4 (cks k id' s').toNat).getD i 0 := by
    intro i
    have g1 := getD_app2 (nmd id s) (be 4 (cks k id s).toNat) i
    have g2 := getD_app2 (nmd id' s') (be 4 (cks k id' s').toNat) i
    rw [hn] at g1
    rw [hn'] at g2
    exact ⟨g1, g2⟩
  suffices e : nmd id s = nmd id' s' by
    unfold bdy cks; rw [e]
  by_cases hA : j ≤ 39
  · have hcr : be 4 (cks k id s).toNat = be 4 (cks k id' s').toNat := by
      apply ext0 (by simp [be_len])
      intro i hi
      rw [be_len] at hi
      rw [← (hhi i).1, ← (hhi i).2]
      exact h _ (by omega) (.inr (by omega))
    refine burst_part (pre k) _ _ (by omega) (3 * j / 4) (by omega) ?_ (be4_inj hcr)
    intro i hi hx
    rw [← (hlo i (by omega)).1, ← (hlo i (by omega)).2]
    exact h _ (by omega) (by omega)
  · by_cases hC : 43 ≤ j
    · apply ext0 (by omega)
      intro i hi
      rw [← (hlo i (by omega)).1, ← (hlo i (by omega)).2]
      exact h _ (by omega) (by omega)
    · have h24 := be4_low (x := (cks k id s).toNat) (y := (cks k id' s').toNat) (fun i h1 h4 => by
        rw [← (hhi i).1, ← (hhi i).2]
        exact h _ (by omega) (by omega))
      have h30 : (nmd id s).take 30 = (nmd id' s').take 30 := by
        apply ext0 (by simp; omega)
        intro i hi
        rw [List.length_take] at hi
        rw [getD_take' _ _ _ (by omega), getD_take' _ _ _ (by omega), ← (hlo i (by omega)).1, ← (hlo i (by omega)).2]
        exact h _ (by omega) (by omega)
      have hd : ∀ l : Bs, l.length = 32 → ∃ a b, l = l.take 30 ++ [a, b] := by
        intro l hl
        have : (l.drop 30).length = 2 := by simp [hl]
        match hq : l.drop 30, this with
        | [a, b], _ => exact ⟨a, b, by rw [← hq, List.take_append_drop]⟩
      obtain ⟨a, b, e1⟩ := hd _ hn
      obtain ⟨a', b', e2⟩ := hd _ hn'
      rw [h30] at e1
      unfold cks at h24
      generalize (nmd id' s').take 30 = T at *
      have h25 : (crc (pre k ++ T ++ [a, b])).toNat % 16777216 = (crc (pre k ++ T ++ [a', b'])).toNat % 16777216 := by
        rw [List.append_assoc, List.append_assoc, ← e1, ← e2]
        exact h24
      have he := end_two (pre k ++ T) a b a' b' h25
      rw [e1, e2, he.1, he.2]
theorem pre_at (k k' : Int) (hk : isK k) (hk' : isK k') (h : (pre k).getD 2 0 = (pre k').getD 2 0) : k = k' := by
  rcases hk with rfl | rfl <;> rcases hk' with rfl | rfl <;> simp [pre] at h ⊢
theorem bdy_inj {k : Int} {id id' : Nat} {s s' : Bs} (hs : s.length = 24) (hs' : s'.length = 24) {k' : Int} (h : bdy k id s = bdy k' id' s') : nmd id s = nmd id' s' ∧ cks k id s = cks k' id' s' := by
  have hn := nmd_len id s hs
  have hn' := nmd_len id' s' hs'
  have := List.append_inj h (by omega)
  exact ⟨this.1, be4_inj this.2⟩
/-- Two tokens that are the same but at a place and the one behind it are the same. -/
theorem near_same {k k' : Int} (hk : isK k) (hk' : isK k') (id id' : Nat) (s s' : Bs) (hs : s.length = 24) (hs' : s'.length = 24) (j : Nat) (h : Near j (tkn k id s) (tkn k' id' s')) : tkn k id s = tkn k' id' s' := by
  have hb := bdy_len k id s hs
  have hb' := bdy_len k' id' s' hs'
  have hp : ∀ i, i < 4 → (tkn k id s).getD i 0 = (pre k).getD i 0 ∧ (tkn k' id' s').getD i 0 = (pre k').getD i 0 := fun i hi => ⟨getD_app1 _ _ _ (by rw [pre_len]; exact hi), getD_app1 _ _ _ (by rw [pre_len]; exact hi)⟩
  have he : ∀ i, (tkn k id s).getD (4 + i) 0 = (sgn names (Six.sig (bdy k id s))).getD i 0 ∧ (tkn k' id' s').getD (4 + i) 0 = (sgn names (Six.sig (bdy k' id' s'))).getD i 0 := by
    intro i
    have g1 := getD_app2 (pre k) (enc names false (bdy k id s)) i
    have g2 := getD_app2 (pre k') (enc names false (bdy k' id' s')) i
    rw [pre_len, enc_false] at g1 g2
    exact ⟨by rw [tkn, enc_false]; exact g1, by rw [tkn, enc_false]; exact g2⟩
  have hsl : (Six.sig (bdy k id s)).length = (Six.sig (bdy k' id' s')).length := by rw [Six.sig_len, Six.sig_len, hb, hb']
  have hv : ∀ q, 4 + q ≠ j → 4 + q ≠ j + 1 → (Six.sig (bdy k id s)).getD q 0 = (Six.sig (bdy k' id' s')).getD q 0 := by
    intro q q1 q2
    apply sgn_at good_names _ _ (Six.sig_lt _) (Six.sig_lt _) hsl
    rw [← (he q).1, ← (he q).2]
    exact h.2 _ q1 q2
  by_cases hj : j ≤ 2
  · have e : bdy k id s = bdy k' id' s' := by
      apply ext0 (by omega)
      intro i hi
      exact sig_byte _ _ (by omega) (by omega) i hi (hv _ (by omega) (by omega)) (hv _ (by omega) (by omega))
    obtain ⟨e1, e2⟩ := bdy_inj hs hs' e
    have ep : pre k = pre k' := by
      unfold cks at e2
      rw [← e1] at e2
      exact burst [] (pre k) (pre k') (nmd id s) (by rw [pre_len, pre_len]) (by rw [pre_len]; exact Nat.le_refl _) (by simpa using e2)
    rw [tkn, tkn, e, ep]
  · have ek : k = k' := by
      apply pre_at k k' hk hk'
      rw [← (hp 2 (by omega)).1, ← (hp 2 (by omega)).2]
      exact h.2 2 (by omega) (by omega)
    subst ek
    have e := body_near k id id' s s' hs hs' (j - 4) (by
      intro i hi hx
      exact sig_byte _ _ (by omega) (by omega) i (by omega) (hv _ (by omega) (by omega)) (hv _ (by omega) (by omega)))
    rw [tkn, tkn, e]
/-- THE STAGE'S THEOREM, of lists: what is near a token, and is taken, is that token. -/
theorem near_taken {k k' : Int} (hk : isK k) (hk' : isK k') (id : Nat) (s : Bs) (hs : s.length = 24) (j : Nat) (t : Bs) (h : Near j (tkn k id s) t) (ht : (rdT k' t).2.2 = 0) : t = tkn k id s := by
  obtain ⟨_, _, h3, h4⟩ := rdT_ok ht
  rw [h4] at h ⊢
  exact (near_same hk hk' id _ s _ hs h3 j h).symm
theorem near_one (s : Bs) (k : Nat) (c : UInt8) (hk : k < s.length) : Near k s (s.take k ++ [c] ++ s.drop (k + 1)) := by
  refine ⟨by simp; omega, ?_⟩
  intro i h1 h2
  rcases (by omega : i < k ∨ k + 1 ≤ i) with q | q
  · rw [List.append_assoc, getD_app1 _ _ _ (by simp; omega), getD_take' _ _ _ q]
  · obtain ⟨r, rfl⟩ : ∃ r, i = k + 1 + r := ⟨i - (k + 1), by omega⟩
    have := getD_app2 (s.take k ++ [c]) (s.drop (k + 1)) r
    rw [show (s.take k ++ [c]).length = k + 1 by simp; omega] at this
    rw [this, getD_drop']
theorem near_two (s : Bs) (k : Nat) (hk : k + 1 < s.length) : Near k s (s.take k ++ (s.drop (k + 1)).take 1 ++ (s.drop k).take 1 ++ s.drop (k + 2)) := by
  have hl : (s.take k ++ (s.drop (k + 1)).take 1 ++ (s.drop k).take 1).length = k + 2 := by simp; omega
  refine ⟨by rw [List.length_append, hl, List.length_drop]; omega, ?_⟩
  intro i h1 h2
  rcases (by omega : i < k ∨ k + 2 ≤ i) with q | q
  · rw [List.append_assoc, List.append_assoc, getD_app1 _ _ _ (by simp; omega), getD_take' _ _ _ q]
  · obtain ⟨r, rfl⟩ : ∃ r, i = k + 2 + r := ⟨i - (k + 2), by omega⟩
    have := getD_app2 (s.take k ++ (s.drop (k + 1)).take 1 ++ (s.drop k).take 1) (s.drop (k + 2)) r
    rw [hl] at this
    rw [this, getD_drop']
end Go.Proofs.YtbeionikiiccpaaGreatDoor
