import Derived.Test.YtbeionikiiccpaaGreatDoorZhcrc
import Derived.Test.YtbeionikiiccpaaGreatDoorZreda
import Derived.Test.YtbeionikiiccpaaGreatDoorDeco
namespace Go.Proofs.YtbeionikiiccpaaGreatDoor
open Sha
/-- What texts of a kind begin with. -/
def pre (k : Int) : Bs := if k = 1 then [108, 107, 114, 95] else [108, 107, 99, 95]
theorem pre_len (k : Int) : (pre k).length = 4 := by unfold pre; split <;> rfl
theorem pre_1 : pre 1 = [108, 107, 114, 95] := rfl
theorem pre_2 : pre 2 = [108, 107, 99, 95] := rfl
def isK (k : Int) : Prop := k = 1 ∨ k = 2
/-- An ID and a secret as bytes. -/
def nmd (id : Nat) (s : Bs) : Bs := be 8 id ++ s
theorem nmd_len (id : Nat) (s : Bs) (h : s.length = 24) : (nmd id s).length = 32 := by simp [nmd, be_len, h]
def cks (k : Int) (id : Nat) (s : Bs) : UInt32 := crc (pre k ++ nmd id s)
def bdy (k : Int) (id : Nat) (s : Bs) : Bs := nmd id s ++ be 4 (cks k id s).toNat
theorem bdy_len (k : Int) (id : Nat) (s : Bs) (h : s.length = 24) : (bdy k id s).length = 36 := by simp [bdy, nmd_len, be_len, h]
/-- A token's text. -/
def tkn (k : Int) (id : Nat) (s : Bs) : Bs := pre k ++ enc names false (bdy k id s)
theorem enc6_len (b : Bs) : (enc names false b).length = (4 * b.length + 2) / 3 := by rw [enc_false, sgn_len, Six.sig_len]
theorem tkn_len (k : Int) (id : Nat) (s : Bs) (h : s.length = 24) : (tkn k id s).length = 52 := by
  rw [tkn, List.length_append, pre_len, enc6_len, bdy_len k id s h]
/-- What is read of a text: the ID, the secret, and what is wrong (1: another kind, 2: the form, 3: the check). -/
def rdT (k : Int) (t : Bs) : Nat × Bs × Nat :=
  if (pre (3 - k)).isPrefixOf t then (0, [], 1)
  else if t.length ≠ 52 ∨ (pre k).isPrefixOf t = false then (0, [], 2)
  else match d64 (t.drop 4) with
    | none => (0, [], 2)
    | some b =>
      if 1 ≤ nat (b.take 8) ∧ nat (b.take 8) ≤ 4611686018427387904 then
        if nat (b.drop 32) = (cks k (nat (b.take 8)) ((b.drop 8).take 24)).toNat then (nat (b.take 8), (b.drop 8).take 24, 0) else (0, [], 3)
      else (0, [], 2)
theorem be_back (l : Bs) (n : Nat) (h : l.length = n) : be n (nat l) = l := by subst h; exact be_nat l
theorem d64_len {t b : Bs} (h : d64 t = some b) (ht : t.length = 48) : b.length = 36 := by
  have := congrArg List.length (d64_some h)
  rw [enc6_len, ht] at this
  omega
theorem pre_drop {k : Int} {t : Bs} (h : (pre k).isPrefixOf t = true) : t = pre k ++ t.drop 4 := by
  rw [List.isPrefixOf_iff_prefix] at h
  obtain ⟨r, hr⟩ := h
  rw [← hr, List.drop_append_of_le_length (by rw [pre_len]; exact Nat.le_refl _), List.drop_of_length_le (by rw [pre_len]; exact Nat.le_refl _), List.nil_append]
theorem rdT_ok {k : Int} {t : Bs} (h : (rdT k t).2.2 = 0) : 1 ≤ (rdT k t).1 ∧ (rdT k t).1 ≤ 4611686018427387904 ∧ (rdT k t).2.1.length = 24 ∧ t = tkn k (rdT k t).1 (rdT k t).2.1 := by
  unfold rdT at h ⊢
  split at h
  · simp at h
  rename_i h1
  rw [if_neg h1]
  split at h
  · simp at h
  rename_i h2
  rw [if_neg h2]
  have hl : t.length = 52 := by
    by_cases q : t.length = 52
    · exact q
    · exact absurd (Or.inl q) h2
  have hp : (pre k).isPrefixOf t = true := by
    cases q : (pre k).isPrefixOf t with
    | true => rfl
    | false => exact absurd (Or.inr q) h2
  cases hd : d64 (t.drop 4) with
  | none => rw [hd] at h; simp at h
  | some b =>
    rw [hd] at h
    simp only at h ⊢
    have hb := d64_len hd (by simp [hl])
    split at h
    · rename_i h3
      rw [if_pos h3]
      split at h
      · rename_i h4
        rw [if_pos h4]
        refine ⟨h3.1, h3.2, by simp [hb], ?_⟩
        simp only
        rw [tkn, bdy, ← h4, be_back (b.drop 32) 4 (by simp [hb]), nmd, be_back (b.take 8) 8 (by simp [hb])]
        have e : b.take 8 ++ (b.drop 8).take 24 ++ b.drop 32 = b := by
          have e1 : b.drop 32 = (b.drop 8).drop 24 := by rw [List.drop_drop]
          rw [e1, List.append_assoc, List.take_append_drop, List.take_append_drop]
        rw [e, d64_some hd]
        exact pre_drop hp
      · simp at h
    · simp at h
theorem tkn_drop (k : Int) (id : Nat) (s : Bs) : (tkn k id s).drop 4 = enc names false (bdy k id s) := by
  rw [tkn, List.drop_append_of_le_length (by rw [pre_len]; exact Nat.le_refl _), List.drop_of_length_le (by rw [pre_len]; exact Nat.le_refl _), List.nil_append]
theorem isPre_app (a b : Bs) : a.isPrefixOf (a ++ b) = true := by rw [List.isPrefixOf_iff_prefix]; exact List.prefix_append a b
theorem pre_other {k : Int} (hk : isK k) (r : Bs) : (pre (3 - k)).isPrefixOf (pre k ++ r) = false := by
  rcases hk with rfl | rfl
  · simp [pre, List.isPrefixOf]
  · simp [pre, List.isPrefixOf]
theorem rdT_tkn {k : Int} (hk : isK k) (id : Nat) (s : Bs) (h1 : 1 ≤ id) (h2 : id ≤ 4611686018427387904) (hs : s.length = 24) : rdT k (tkn k id s) = (id, s, 0) := by
  have hb := bdy_len k id s hs
  have e1 : (bdy k id s).take 8 = be 8 id := by
    rw [bdy, nmd, List.append_assoc, List.take_append_of_le_length (by rw [be_len]; exact Nat.le_refl _), List.take_of_length_le (by rw [be_len]; exact Nat.le_refl _)]
  have e2 : ((bdy k id s).drop 8).take 24 = s := by
    rw [bdy, nmd, List.append_assoc, List.drop_append_of_le_length (by rw [be_len]; exact Nat.le_refl _), List.drop_of_length_le (by rw [be_len]; exact Nat.le_refl _), List.nil_append, List.take_append_of_le_length (by omega), List.take_of_length_le (by omega)]
  have e3 : (bdy k id s).drop 32 = be 4 (cks k id s).toNat := by
    rw [bdy, List.drop_append_of_le_length (by rw [nmd_len id s hs]; exact Nat.le_refl _), List.drop_of_length_le (by rw [nmd_len id s hs]; exact Nat.le_refl _), List.nil_append]
  have e4 : nat (be 8 id) = id := by rw [nat_be]; exact Nat.mod_eq_of_lt (by omega)
  have e5 : nat (be 4 (cks k id s).toNat) = (cks k id s).toNat := by rw [nat_be]; exact Nat.mod_eq_of_lt (cks k id s).toNat_lt
  unfold rdT
  rw [if_neg (by rw [tkn, pre_other hk]; simp), if_neg (by rw [tkn_len k id s hs, tkn, isPre_app]; simp), tkn_drop, d64_enc]
  simp only
  rw [e1, e2, e3, e4, e5, if_pos ⟨h1, h2⟩, if_pos rfl]
theorem rdT_other {k : Int} (r : Bs) : rdT (3 - k) (pre k ++ r) = (0, [], 1) := by
  unfold rdT
  rw [if_pos]
  rw [show (3 - (3 - k)) = k by omega]
  exact isPre_app _ _
theorem rdT_other2 {k : Int} (id : Nat) (s : Bs) : rdT (3 - k) (tkn k id s) = (0, [], 1) := rdT_other _
/-- A text of another length, that does not begin as one of the other kind. -/
theorem rdT_short {k : Int} (t : Bs) (ht : t.length ≠ 52) (h : (pre (3 - k)).isPrefixOf t = false) : rdT k t = (0, [], 2) := by
  unfold rdT
  rw [if_neg (by rw [h]; simp), if_pos (.inl ht)]
theorem pre_cut {k : Int} (hk : isK k) (r : Bs) (c : Nat) : (pre (3 - k)).isPrefixOf ((pre k ++ r).take c) = false := by
  match c with
  | 0 => rcases hk with rfl | rfl <;> simp [pre]
  | 1 => rcases hk with rfl | rfl <;> simp [pre, List.isPrefixOf]
  | 2 => rcases hk with rfl | rfl <;> simp [pre, List.isPrefixOf]
  | c + 3 => rcases hk with rfl | rfl <;> simp [pre, List.isPrefixOf]
theorem rdT_cut {k : Int} (hk : isK k) (id : Nat) (s : Bs) (hs : s.length = 24) (c : Nat) (hc : c < 52) : rdT k ((tkn k id s).take c) = (0, [], 2) := by
  refine rdT_short _ ?_ (pre_cut hk _ c)
  rw [List.length_take, tkn_len k id s hs]; omega
theorem rdT_more {k : Int} (hk : isK k) (id : Nat) (s : Bs) (hs : s.length = 24) (x : Bs) (hx : x ≠ []) : rdT k (tkn k id s ++ x) = (0, [], 2) := by
  refine rdT_short _ ?_ ?_
  · rw [List.length_append, tkn_len k id s hs]
    have := List.length_pos_iff.2 hx
    omega
  · rw [tkn, List.append_assoc]; exact pre_other hk _
/- One byte mistyped, or two neighbours changed about. -/
/-- A step of a CRC, back. -/
def isp (v : UInt32) : UInt32 := if v.toNat < 2147483648 then v + v else ((v ^^^ 3988292384) + (v ^^^ 3988292384)) + 1
def isN (v : UInt32) : Nat → UInt32
  | 0 => v
  | k + 1 => isp (isN v k)
theorem hi_back : ((List.range 256).all fun x => x == 0 || (stN (isN (UInt32.ofNat (x * 16777216)) 16) 16 == UInt32.ofNat (x * 16777216) && decide (65536 ≤ (isN (UInt32.ofNat (x * 16777216)) 16).toNat))) = true := by decide +kernel
theorem byte_back : ((List.range 256).all fun z => stN (UInt32.ofNat (z * 256)) 8 == UInt32.ofNat z) = true := by decide +kernel
theorem stN_add (a : UInt32) (i : Nat) : ∀ j, stN a (i + j) = stN (stN a i) j
  | 0 => rfl
  | j + 1 => by rw [show i + (j + 1) = (i + j) + 1 from rfl, stN, stN_add a i j, stN]
theorem hi_zero (y : UInt32) (hy : y.toNat < 65536) (h : (stN y 16).toNat % 16777216 = 0) : y = 0 := by
  have hv := (stN y 16).toNat_lt
  have hx : (stN y 16).toNat / 16777216 < 256 := by omega
  have e : stN y 16 = UInt32.ofNat ((stN y 16).toNat / 16777216 * 16777216) := by
    rw [show (stN y 16).toNat / 16777216 * 16777216 = (stN y 16).toNat by omega]; simp
  have := List.all_eq_true.1 hi_back _ (List.mem_range.2 hx)
  generalize (stN y 16).toNat / 16777216 = x at *
  rw [Bool.or_eq_true] at this
  rcases this with q | q
  · have : x = 0 := by simpa using q
    subst this
    rw [show UInt32.ofNat (0 * 16777216) = 0 from rfl] at e
    have h0 : stN (0 : UInt32) 16 = 0 := by decide +kernel
    exact stN_inj 16 (by rw [e, h0])
  · rw [Bool.and_eq_true] at q
    have q1 : stN (isN (UInt32.ofNat (x * 16777216)) 16) 16 = UInt32.ofNat (x * 16777216) := by simpa using q.1
    have q2 := of_decide_eq_true q.2
    rw [← q1] at e
    have := stN_inj 16 e
    rw [← this] at q2
    omega
theorem two_fold (a b : UInt8) : [a, b].foldl crcB 0 = stN (xr (ub a) (UInt32.ofNat (b.toNat * 256))) 16 := by
  have hb := List.all_eq_true.1 byte_back b.toNat (List.mem_range.2 b.toNat_lt)
  have hb2 : stN (UInt32.ofNat (b.toNat * 256)) 8 = ub b := by
    have : stN (UInt32.ofNat (b.toNat * 256)) 8 = UInt32.ofNat b.toNat := by simpa using hb
    rw [this]; unfold ub
    apply UInt32.toNat_inj.1
    have := b.toNat_lt
    simp
  rw [stN_add _ 8 8, stN_xor, hb2]
  show crcB (crcB 0 a) b = _
  unfold crcB
  rw [show xr 0 (ub a) = ub a by unfold xr; rw [UInt32.zero_xor]]
theorem two_zero (a b : UInt8) (h : ([a, b].foldl crcB 0).toNat % 16777216 = 0) : a = 0 ∧ b = 0 := by
  rw [two_fold] at h
  have ha := a.toNat_lt
  have hb := b.toNat_lt
  have e : (xr (ub a) (UInt32.ofNat (b.toNat * 256))).toNat = a.toNat ^^^ (b.toNat * 256) := by
    unfold xr ub
    rw [UInt32.toNat_xor]
    congr 1
    simp
    omega
  have hx : (xr (ub a) (UInt32.ofNat (b.toNat * 256))).toNat < 65536 := by
    rw [e]
    exact Nat.xor_lt_two_pow (n := 16) (by omega) (by omega)
  have hz := hi_zero _ hx h
  rw [hz] at e
  have e0 : (0 : UInt32).toNat = 0 := rfl
  rw [e0] at e
  have e1 : a.toNat = b.toNat * 256 := by
    have h2 : (a.toNat ^^^ (b.toNat * 256)) ^^^ (b.toNat * 256) = 0 ^^^ (b.toNat * 256) := by rw [← e]
    rwa [Nat.xor_assoc, Nat.xor_self, Nat.xor_zero, Nat.zero_xor] at h2
  refine ⟨UInt8.toNat_inj.1 (by show a.toNat = 0; omega), UInt8.toNat_inj.1 (by show b.toNat = 0; omega)⟩
end Go.Proofs.YtbeionikiiccpaaGreatDoor
