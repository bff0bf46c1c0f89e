import Derived.Test.YtbeionikiiccpaaGreatDoorZhnum
import Derived.Test.YtbeionikiiccpaaGreatDoorHrow
namespace Go.Proofs.YtbeionikiiccpaaGreatDoor
open Go.RowKit
open Sha
def stN (r : UInt32) : Nat → UInt32
  | 0 => r
  | k + 1 => stp (stN r k)
def crcB (r : UInt32) (c : UInt8) : UInt32 := stN (xr r (ub c)) 8
def crcR (l : List UInt8) : UInt32 := l.foldl crcB 0xffffffff
def crc (l : List UInt8) : UInt32 := nt (crcR l)
theorem crcR_next (l : List UInt8) (k : Nat) (h : k < l.length) : crcR (l.take (k + 1)) = crcB (crcR (l.take k)) l[k] := by
  rw [List.take_succ_eq_append_getElem h, crcR, List.foldl_append]
  rfl
theorem u_notc (a : UInt32) : bits .xor .u32 4294967295 (u a) = u (nt a) := by
  have e : (4294967295 : Int) = u 4294967295 := rfl
  rw [e, u_xor]
  refine congrArg u ?_
  apply UInt32.eq_of_toBitVec_eq
  unfold xr nt
  rw [UInt32.toBitVec_xor, UInt32.toBitVec_not]
  exact BitVec.allOnes_xor
theorem byte_uc (c : UInt8) : (c.toNat : Int) % 4294967296 = u (ub c) := by
  rw [← u_ub]; have := c.toNat_lt; omega
set_option maxHeartbeats 1000000 in
theorem crc_any (l : List UInt8) (w : World) (hl : l.length ≤ 9223372036854775807) :
    Calls Tryz.prog 45 #[.string ⟨l.toArray⟩] w fun e w' => e = .returned (.int .u32 (u (crc l))) ∧ w' = w := by
  have hnot : (if IntKind.u32.signed = true then (-1 : Int) else IntKind.u32.max) = 4294967295 := rfl
  go_enter Tryz.func45, Tryz.ntmps45
  go_wp2
  go_loopw [3, 7] (fun r i wr => ∃ k : Nat, k ≤ l.length ∧ i = .int .i64 k ∧ r = .int .u32 (u (crcR (l.take k))) ∧ wr = w) (fun _ i _ => l.length - (intOf i).toNat)
  case atStart => exact ⟨0, by omega, rfl, rfl, rfl⟩
  case round =>
    obtain ⟨k, hk, rfl, rfl, rfl⟩ := hrel
    by_cases hlt : k < l.length
    · have hnx := hide (crcR_next l k hlt)
      generalize crcR (l.take k) = R at *
      go_wp2
      have hs : k < (ByteArray.mk l.toArray).size := by simpa [ByteArray.size] using hlt
      have hC0 : (ByteArray.mk l.toArray)[k]'hs = l[k] := rfl
      generalize hC : (ByteArray.mk l.toArray)[k]'hs = C at *
      have HC := hide hC0
      clear hC0 hC
      rw [byte_uc, u_xor]
      generalize hX : xr R (ub C) = X at *
      have HX := hide hX
      clear hX
      go_loopw [3, 16] (fun r i w2 => ∃ j : Nat, j ≤ 8 ∧ i = .int .i64 j ∧ r = .int .u32 (u (stN X j)) ∧ w2 = wr) (fun _ i _ => 8 - (intOf i).toNat)
      case atStart => exact ⟨0, by omega, rfl, rfl, rfl⟩
      case round =>
        obtain ⟨j, hj, rfl, rfl, rfl⟩ := hrel
        by_cases hlj : j < 8
        · go_wp2_with (go_at_call 59; refine (step_any _ _).mono ?_; rintro e w' ⟨rfl, rfl⟩)
          go_roundw
          case rel => exact ⟨j + 1, by omega, by go_num, rfl, trivial⟩
          case measure => simp [intOf]; omega
        · have hj8 : j = 8 := by omega
          have hd : decide ((j : Int) < 8) = false := by simp; omega
          have HE : Hid (crcR (l.take (k + 1)) = stN X j) := hide (by rw [unhide hnx, ← unhide HC, crcB, unhide HX, hj8])
          clear hj8 hlj
          go_wp2
          go_roundw
          case rel => exact ⟨k + 1, by omega, by go_num, by rw [unhide HE], trivial⟩
          case measure => simp [intOf]; omega
    · have hkl : k = l.length := by omega
      have HE : Hid (crcR l = crcR (l.take k)) := hide (by rw [List.take_of_length_le (by omega)])
      generalize crcR (l.take k) = R at *
      go_wp2
      go_ret
      exact ⟨ret_intH (by rw [crc, unhide HE]; exact u_notc R), rfl⟩
/-- What of two texts of one length is unlike, all bits together. -/
def unl (a b : List UInt8) : Nat → UInt8
  | 0 => 0
  | k + 1 => unl a b k ||| ((a.getD k 0) ^^^ (b.getD k 0))
theorem u8_or_B (a b : UInt8) : bits .or .u8 (a.toNat : Int) (b.toNat : Int) = ((a ||| b).toNat : Int) := by
  rw [u8_or_nat _ _ a.toNat_lt b.toNat_lt, UInt8.toNat_or]
theorem u8_xor_C (a b : UInt8) : bits .xor .u8 (a.toNat : Int) (b.toNat : Int) = ((a ^^^ b).toNat : Int) := by
  rw [u8_xor_nat _ _ a.toNat_lt b.toNat_lt, UInt8.toNat_xor]
theorem or_zero8 (a b : UInt8) : a ||| b = 0 ↔ a = 0 ∧ b = 0 := by
  constructor
  · intro h
    have := congrArg UInt8.toBitVec h
    rw [UInt8.toBitVec_or] at this
    have h2 := BitVec.or_eq_zero_iff.1 this
    exact ⟨UInt8.eq_of_toBitVec_eq h2.1, UInt8.eq_of_toBitVec_eq h2.2⟩
  · rintro ⟨rfl, rfl⟩; rfl
theorem xor_zero8 (a b : UInt8) : a ^^^ b = 0 ↔ a = b := by
  constructor
  · intro h
    have := congrArg UInt8.toBitVec h
    rw [UInt8.toBitVec_xor] at this
    exact UInt8.eq_of_toBitVec_eq (BitVec.xor_eq_zero_iff.1 this)
  · rintro rfl; simp
theorem unl_zero (a b : List UInt8) : ∀ k, unl a b k = 0 ↔ ∀ i, i < k → a.getD i 0 = b.getD i 0
  | 0 => by simp [unl]
  | k + 1 => by
    rw [unl, or_zero8, unl_zero a b k, xor_zero8]
    constructor
    · rintro ⟨h1, h2⟩ i hi
      by_cases e : i = k
      · subst e; exact h2
      · exact h1 i (by omega)
    · intro h
      exact ⟨fun i hi => h i (by omega), h k (by omega)⟩
theorem unl_eq (a b : List UInt8) (h : a.length = b.length) : (((unl a b a.length).toNat : Int) == 0) = decide (a = b) := by
  rw [Bool.eq_iff_iff]
  simp only [beq_iff_eq, decide_eq_true_eq]
  have e : ((unl a b a.length).toNat : Int) = 0 ↔ unl a b a.length = 0 := by
    constructor
    · intro q; exact UInt8.toNat_inj.1 (by have h0 : (0 : UInt8).toNat = 0 := rfl; omega)
    · intro q; rw [q]; rfl
  rw [e, unl_zero]
  constructor
  · intro q
    apply List.ext_getElem h
    intro i h1 h2
    have := q i h1
    simpa [h1, h2] using this
  · rintro rfl; intro i _; rfl
end Go.Proofs.YtbeionikiiccpaaGreatDoor
namespace Go.Proofs.YtbeionikiiccpaaGreatDoor
open Sha
def x3 (a b c : UInt32) : UInt32 := xr (xr a b) c
theorem and1_01 (x : UInt32) : x &&& 1 = 0 ∨ x &&& 1 = 1 := by
  have h : (x &&& 1).toNat = x.toNat % 2 := by
    rw [UInt32.toNat_and, show (1 : UInt32).toNat = 1 from rfl, Nat.and_one_is_mod]
  rcases Nat.mod_two_eq_zero_or_one x.toNat with q | q
  · left; exact UInt32.toNat_inj.1 (by rw [h, q]; rfl)
  · right; exact UInt32.toNat_inj.1 (by rw [h, q]; rfl)
theorem stp_eq (x : UInt32) : stp x = (x >>> 1) ^^^ (if x &&& 1 = 1 then 3988292384 else 0) := by
  unfold stp xr rt
  split
  · rfl
  · rw [UInt32.xor_zero]; rfl
theorem xor_and1 (x y : UInt32) : (x ^^^ y) &&& 1 = (x &&& 1) ^^^ (y &&& 1) := by
  apply UInt32.eq_of_toBitVec_eq
  simp only [UInt32.toBitVec_and, UInt32.toBitVec_xor]
  ext i
  simp
  cases x.toBitVec[i] <;> cases y.toBitVec[i] <;> simp
theorem xor_shift1 (x y : UInt32) : (x ^^^ y) >>> 1 = (x >>> 1) ^^^ (y >>> 1) := by
  apply UInt32.eq_of_toBitVec_eq
  simp only [UInt32.toBitVec_shiftRight, UInt32.toBitVec_xor]
  exact BitVec.ushiftRight_xor_distrib _ _ _
theorem stp_xor (x y : UInt32) : stp (xr x y) = xr (stp x) (stp y) := by
  unfold xr
  rw [stp_eq, stp_eq, stp_eq, xor_shift1, xor_and1]
  have p : ∀ a b q : UInt32, (a ^^^ q) ^^^ b = (a ^^^ b) ^^^ q := fun a b q => by rw [UInt32.xor_assoc, UInt32.xor_comm q b, ← UInt32.xor_assoc]
  rcases and1_01 x with hx | hx <;> rcases and1_01 y with hy | hy <;> rw [hx, hy]
  · simp
  · simp [UInt32.xor_assoc]
  · simp [p]
  · have : ∀ a b q : UInt32, (a ^^^ q) ^^^ (b ^^^ q) = a ^^^ b := fun a b q => by rw [← UInt32.xor_assoc, p a b q, UInt32.xor_assoc, UInt32.xor_self, UInt32.xor_zero]
    simp [this]
theorem stN_xor (x y : UInt32) : ∀ k, stN (xr x y) k = xr (stN x k) (stN y k)
  | 0 => rfl
  | k + 1 => by rw [stN, stN_xor x y k, stp_xor]; rfl
theorem ub_xor (a b : UInt8) : ub (a ^^^ b) = xr (ub a) (ub b) := by
  unfold ub xr
  exact UInt8.toUInt32_xor a b
theorem xr4 (a b c d : UInt32) : xr (xr a b) (xr c d) = xr (xr a c) (xr b d) := by
  unfold xr
  rw [UInt32.xor_assoc, ← UInt32.xor_assoc b, UInt32.xor_comm b c, UInt32.xor_assoc c, ← UInt32.xor_assoc]
theorem crcB_xor (r s : UInt32) (a b : UInt8) : crcB (xr r s) (a ^^^ b) = xr (crcB r a) (crcB s b) := by
  unfold crcB
  rw [ub_xor, xr4, stN_xor]
def xz (a b c : List UInt8) : List UInt8 := (List.range a.length).map fun i => (a.getD i 0) ^^^ (b.getD i 0) ^^^ (c.getD i 0)
theorem crcR_fold (a : List UInt8) : ∀ (b c : List UInt8) (r s t : UInt32), a.length = b.length → a.length = c.length →
    (xz a b c).foldl crcB (x3 r s t) = x3 (a.foldl crcB r) (b.foldl crcB s) (c.foldl crcB t) := by
  induction a with
  | nil => intro b c r s t hb hc; cases b <;> cases c <;> simp_all [xz]
  | cons x a ih =>
    intro b c r s t hb hc
    cases b with
    | nil => simp at hb
    | cons y b =>
      cases c with
      | nil => simp at hc
      | cons z c =>
        have e : xz (x :: a) (y :: b) (z :: c) = (x ^^^ y ^^^ z) :: xz a b c := by
          simp [xz, List.range_succ_eq_map]
        rw [e, List.foldl_cons, List.foldl_cons, List.foldl_cons, List.foldl_cons]
        have e2 : crcB (x3 r s t) (x ^^^ y ^^^ z) = x3 (crcB r x) (crcB s y) (crcB t z) := by
          unfold x3; rw [crcB_xor, crcB_xor]
        rw [e2]
        exact ih b c _ _ _ (by simpa using hb) (by simpa using hc)
theorem nt_xr (a : UInt32) : nt a = xr a 4294967295 := by
  apply UInt32.eq_of_toBitVec_eq
  unfold nt xr
  rw [UInt32.toBitVec_not, UInt32.toBitVec_xor]
  exact BitVec.xor_allOnes.symm
theorem crc_x3 (a b c : List UInt8) (hb : a.length = b.length) (hc : a.length = c.length) : crc (xz a b c) = xr (xr (crc a) (crc b)) (crc c) := by
  have h := crcR_fold a b c 0xffffffff 0xffffffff 0xffffffff hb hc
  have e : x3 0xffffffff 0xffffffff 0xffffffff = 0xffffffff := by decide
  rw [e] at h
  unfold crc crcR
  rw [h]
  unfold x3
  rw [nt_xr, nt_xr, nt_xr, nt_xr]
  rw [xr4 (List.foldl crcB 4294967295 a), show xr (4294967295 : UInt32) 4294967295 = 0 from by decide]
  unfold xr
  rw [UInt32.xor_zero, UInt32.xor_assoc]
end Go.Proofs.YtbeionikiiccpaaGreatDoor
namespace Go.Proofs.YtbeionikiiccpaaGreatDoor
open Sha
theorem stp_half (x : UInt32) (h : (stp x).toNat < 2147483648) : x.toNat = 2 * (stp x).toNat := by
  have hs : (x >>> 1).toNat = x.toNat / 2 := by
    rw [UInt32.toNat_shiftRight]
    simp [Nat.shiftRight_eq_div_pow]
  have hx := x.toNat_lt
  have hm : (x &&& 1).toNat = x.toNat % 2 := by
    rw [UInt32.toNat_and, show (1 : UInt32).toNat = 1 from rfl, Nat.and_one_is_mod]
  rcases and1_01 x with q | q
  · rw [stp_eq, q] at h ⊢
    have : x.toNat % 2 = 0 := by rw [← hm, q]; rfl
    simp [hs] at h ⊢
    omega
  · exfalso
    rw [stp_eq, q] at h
    simp only [if_true] at h
    rw [UInt32.toNat_xor, hs] at h
    have hb : (x.toNat / 2).testBit 31 = false := Nat.testBit_lt_two_pow (by omega)
    have h31 : (x.toNat / 2 ^^^ (3988292384 : UInt32).toNat).testBit 31 = true := by
      rw [Nat.testBit_xor, hb]; decide
    have := Nat.testBit_lt_two_pow (i := 31) (show x.toNat / 2 ^^^ (3988292384 : UInt32).toNat < 2 ^ 31 from h)
    rw [h31] at this
    cases this
theorem stN_low (x : UInt32) : ∀ k, k ≤ 32 → (stN x k).toNat < 2 ^ (32 - k) → x.toNat = 2 ^ k * (stN x k).toNat
  | 0, _, _ => by simp [stN]
  | k + 1, hk, h => by
    have hp : 2 ^ (32 - (k + 1)) ≤ 2 ^ 31 := Nat.pow_le_pow_right (by omega) (by omega)
    have h1 := stp_half (stN x k) (by rw [stN] at h; omega)
    have e : 2 ^ (32 - k) = 2 * 2 ^ (32 - (k + 1)) := by
      rw [show 32 - k = (32 - (k + 1)) + 1 from by omega, Nat.pow_succ]; omega
    have h2 := stN_low x k (by omega) (by rw [h1, e]; rw [stN] at h; omega)
    rw [h2, h1, stN, Nat.pow_succ]
    rw [Nat.mul_assoc]
theorem l8_low (x : UInt32) (h : (stN x 8).toNat < 16777216) : x.toNat = 256 * (stN x 8).toNat := stN_low x 8 (by omega) h
theorem ub_lt (c : UInt8) : (ub c).toNat < 256 := by
  have := c.toNat_lt
  unfold ub
  simpa using this
theorem fold_low : ∀ (zs : List UInt8) (d : UInt32), zs.length ≤ 4 → zs.foldl crcB d = 0 → d.toNat < 2 ^ (8 * zs.length)
  | [], d, _, h => by simp at h; subst h; decide
  | z :: zs, d, hl, h => by
    simp only [List.length_cons] at hl
    have ih := fold_low zs (crcB d z) (by omega) h
    have h24 : (crcB d z).toNat < 16777216 := by
      have : 2 ^ (8 * zs.length) ≤ 2 ^ 24 := Nat.pow_le_pow_right (by omega) (by omega)
      omega
    have e := l8_low (xr d (ub z)) h24
    have hx : (xr d (ub z)).toNat < 2 ^ (8 * (zs.length + 1)) := by
      rw [e, show 8 * (zs.length + 1) = 8 * zs.length + 8 from by omega, Nat.pow_add]
      have : (stN (xr d (ub z)) 8).toNat < 2 ^ (8 * zs.length) := ih
      omega
    have hz : (ub z).toNat < 2 ^ (8 * (zs.length + 1)) := by
      have := ub_lt z
      have : 2 ^ 8 ≤ 2 ^ (8 * (zs.length + 1)) := Nat.pow_le_pow_right (by omega) (by omega)
      omega
    have ed : d = xr (xr d (ub z)) (ub z) := by unfold xr; rw [UInt32.xor_assoc, UInt32.xor_self, UInt32.xor_zero]
    rw [List.length_cons, ed]
    unfold xr
    rw [UInt32.toNat_xor]
    exact Nat.xor_lt_two_pow hx hz
theorem fold_zero : ∀ (zs : List UInt8), zs.length ≤ 4 → zs.foldl crcB 0 = 0 → ∀ c ∈ zs, c = 0
  | [], _, _ => by simp
  | z :: zs, hl, h => by
    simp only [List.length_cons] at hl
    have hd := fold_low zs (crcB 0 z) (by omega) h
    have h24 : (crcB 0 z).toNat < 16777216 := by
      have : 2 ^ (8 * zs.length) ≤ 2 ^ 24 := Nat.pow_le_pow_right (by omega) (by omega)
      omega
    have e := l8_low (xr 0 (ub z)) h24
    have e0 : xr 0 (ub z) = ub z := by unfold xr; rw [UInt32.zero_xor]
    have hz := ub_lt z
    have hc : (crcB 0 z).toNat = 0 := by
      have : (ub z).toNat = 256 * (crcB 0 z).toNat := by rw [← e0]; exact e
      omega
    have hz0 : z = 0 := by
      have : (ub z).toNat = 0 := by
        have : (ub z).toNat = 256 * (crcB 0 z).toNat := by rw [← e0]; exact e
        omega
      apply UInt8.toNat_inj.1
      unfold ub at this
      simpa using this
    have hc0 : crcB 0 z = 0 := UInt32.toNat_inj.1 (by rw [hc]; rfl)
    have ih := fold_zero zs (by omega) (by rw [List.foldl_cons, hc0] at h; exact h)
    intro c hcm
    rcases List.mem_cons.1 hcm with q | q
    · rw [q]; exact hz0
    · exact ih c q
theorem fold_zip : ∀ (a b : List UInt8) (r s : UInt32), a.length = b.length → (List.zipWith (· ^^^ ·) a b).foldl crcB (xr r s) = xr (a.foldl crcB r) (b.foldl crcB s)
  | [], [], _, _, _ => rfl
  | x :: a, y :: b, r, s, h => by
    rw [List.zipWith_cons_cons, List.foldl_cons, List.foldl_cons, List.foldl_cons, crcB_xor]
    exact fold_zip a b _ _ (by simpa using h)
theorem xr_zero {a b : UInt32} (h : xr a b = 0) : a = b := by
  unfold xr at h
  have : (a ^^^ b) ^^^ b = 0 ^^^ b := by rw [h]
  rwa [UInt32.xor_assoc, UInt32.xor_self, UInt32.xor_zero, UInt32.zero_xor] at this
theorem stp_inj {x y : UInt32} (h : stp x = stp y) : x = y := by
  apply xr_zero
  have e : stp (xr x y) = 0 := by rw [stp_xor, h]; unfold xr; exact UInt32.xor_self
  apply UInt32.toNat_inj.1
  rw [stp_half _ (by rw [e]; decide), e]
  rfl
theorem stN_inj {x y : UInt32} : ∀ k, stN x k = stN y k → x = y
  | 0, h => h
  | k + 1, h => stN_inj k (stp_inj h)
theorem crcB_inj {r s : UInt32} {c : UInt8} (h : crcB r c = crcB s c) : r = s := by
  have := stN_inj 8 h
  unfold xr at this
  have e : (r ^^^ ub c) ^^^ ub c = (s ^^^ ub c) ^^^ ub c := by rw [this]
  simpa [UInt32.xor_assoc] using e
theorem fold_inj : ∀ (l : List UInt8) (r s : UInt32), l.foldl crcB r = l.foldl crcB s → r = s
  | [], _, _, h => h
  | _ :: l, _, _, h => crcB_inj (fold_inj l _ _ h)
theorem burst (p q q' s : List UInt8) (hl : q.length = q'.length) (h4 : q.length ≤ 4) (h : crc (p ++ q ++ s) = crc (p ++ q' ++ s)) : q = q' := by
  have h1 : crcR (p ++ q ++ s) = crcR (p ++ q' ++ s) := by
    unfold crc at h
    have e : ∀ a : UInt32, nt (nt a) = a := fun a => by unfold nt; simp
    rw [← e (crcR (p ++ q ++ s)), h, e]
  unfold crcR at h1
  rw [List.foldl_append, List.foldl_append, List.foldl_append, List.foldl_append] at h1
  have h2 := fold_inj s _ _ h1
  have hz := fold_zip q q' (p.foldl crcB 0xffffffff) (p.foldl crcB 0xffffffff) hl
  rw [h2] at hz
  have e0 : ∀ a : UInt32, xr a a = 0 := fun a => by unfold xr; exact UInt32.xor_self
  rw [e0, e0] at hz
  have hall := fold_zero _ (by simp; omega) hz
  apply List.ext_getElem hl
  intro i i1 i2
  have := hall (q[i] ^^^ q'[i]) (by rw [List.mem_iff_getElem]; exact ⟨i, by simp; omega, by simp⟩)
  exact (xor_zero8 _ _).1 this
end Go.Proofs.YtbeionikiiccpaaGreatDoor
namespace Go.Proofs.YtbeionikiiccpaaGreatDoor
open Go.RowKit
open Sha
theorem ofInt_i64H (a : Nat) (ha : a < 9223372036854775808) : (BitVec.ofInt 64 (a : Int)).toNat = a := by
  rw [BitVec.toNat_ofInt]; omega
theorem i64_xor_nat (a b : Nat) (ha : a < 9223372036854775808) (hb : b < 9223372036854775808) : bits .xor .i64 (a : Int) (b : Int) = ((a ^^^ b : Nat) : Int) := by
  have hx : a ^^^ b < 2 ^ 63 := Nat.xor_lt_two_pow ha hb
  have h1 := ofInt_i64H a ha
  have h2 := ofInt_i64H b hb
  have hb' : bits .xor .i64 (a : Int) (b : Int) = IntKind.i64.wrap (((BitVec.ofInt 64 (a : Int)) ^^^ (BitVec.ofInt 64 (b : Int))).toNat : Int) := rfl
  rw [hb', BitVec.toNat_xor, h1, h2, IntKind.wrap_i64]; omega
theorem i64_and_natH (a b : Nat) (ha : a < 9223372036854775808) (hb : b < 9223372036854775808) : bits .and .i64 (a : Int) (b : Int) = ((a &&& b : Nat) : Int) := by
  have hx : a &&& b < 2 ^ 63 := Nat.and_lt_two_pow a hb
  have h1 := ofInt_i64H a ha
  have h2 := ofInt_i64H b hb
  have hb' : bits .and .i64 (a : Int) (b : Int) = IntKind.i64.wrap (((BitVec.ofInt 64 (a : Int)) &&& (BitVec.ofInt 64 (b : Int))).toNat : Int) := rfl
  rw [hb', BitVec.toNat_and, h1, h2, IntKind.wrap_i64]; omega
theorem i64_or_natH (a b : Nat) (ha : a < 9223372036854775808) (hb : b < 9223372036854775808) : bits .or .i64 (a : Int) (b : Int) = ((a ||| b : Nat) : Int) := by
  have hx : a ||| b < 2 ^ 63 := Nat.or_lt_two_pow ha hb
  have h1 := ofInt_i64H a ha
  have h2 := ofInt_i64H b hb
  have hb' : bits .or .i64 (a : Int) (b : Int) = IntKind.i64.wrap (((BitVec.ofInt 64 (a : Int)) ||| (BitVec.ofInt 64 (b : Int))).toNat : Int) := rfl
  rw [hb', BitVec.toNat_or, h1, h2, IntKind.wrap_i64]; omega
theorem lt63 (a : UInt32) : a.toNat < 9223372036854775808 := by have := a.toNat_lt; omega
theorem v_xor (a b : UInt32) : bits .xor .i64 (u a) (u b) = u (xr a b) := by
  rw [u, u, i64_xor_nat _ _ (lt63 a) (lt63 b), u, xr, UInt32.toNat_xor]
theorem v_and (a b : UInt32) : bits .and .i64 (u a) (u b) = u (an a b) := by
  rw [u, u, i64_and_natH _ _ (lt63 a) (lt63 b), u, an, UInt32.toNat_and]
theorem v_or (a b : UInt32) : bits .or .i64 (u a) (u b) = u (oo a b) := by
  rw [u, u, i64_or_natH _ _ (lt63 a) (lt63 b), u, oo, UInt32.toNat_or]
theorem wrap_cH (c : UInt8) : wrap64 (c.toNat : Int) = (c.toNat : Int) := IntWalk.wrap64_in _ (by have := c.toNat_lt; omega)
theorem odd_u (x : UInt32) : (u x % 2 == 1) = decide (x &&& 1 = 1) := by
  rw [← and1]
  have e : (1 : Int) = u 1 := rfl
  have h : bits .and .u32 (u x) 1 = u x % 2 := by
    conv => lhs; rw [e, u_and]
    rw [u, an, UInt32.toNat_and, u]
    have : (1 : UInt32).toNat = 1 := rfl
    rw [this, Nat.and_one_is_mod]
    omega
  rw [h]
set_option maxHeartbeats 1000000 in
theorem refcrc_any (l : List UInt8) (w : World) (hl : l.length ≤ 9223372036854775807) :
    Calls Tryz.prog 30 #[.string ⟨l.toArray⟩] w fun e w' => e = .returned (.int .u32 (u (crc l))) ∧ w' = w := by
  go_enter Tryz.func30, Tryz.ntmps30
  go_wp2
  go_loopw [3, 4] (fun r i wr => ∃ k : Nat, k ≤ l.length ∧ i = .int .i64 k ∧ r = .int .i64 (u (crcR (l.take k))) ∧ wr = w) (fun _ i _ => l.length - (intOf i).toNat)
  case atStart => exact ⟨0, by omega, rfl, rfl, rfl⟩
  case round =>
    obtain ⟨k, hk, rfl, rfl, rfl⟩ := hrel
    by_cases hlt : k < l.length
    · have hnx := hide (crcR_next l k hlt)
      generalize crcR (l.take k) = R at *
      go_wp2
      have hs : k < (ByteArray.mk l.toArray).size := by simpa [ByteArray.size] using hlt
      have hC0 : (ByteArray.mk l.toArray)[k]'hs = l[k] := rfl
      generalize hC : (ByteArray.mk l.toArray)[k]'hs = C at *
      have HC := hide hC0
      clear hC0 hC
      rw [wrap_cH, u_ub, v_xor]
      generalize hX : xr R (ub C) = X at *
      have HX := hide hX
      clear hX
      go_loopw [3, 5] (fun r i w2 => ∃ j : Nat, j ≤ 8 ∧ i = .int .i64 j ∧ r = .int .i64 (u (stN X j)) ∧ w2 = wr) (fun _ i _ => 8 - (intOf i).toNat)
      case atStart => exact ⟨0, by omega, rfl, rfl, rfl⟩
      case round =>
        obtain ⟨j, hj, rfl, rfl, rfl⟩ := hrel
        by_cases hlj : j < 8
        · have HS : Hid (stN X (j + 1) = stp (stN X j)) := hide rfl
          have ho : ((u (stN X j)).tmod 2 == 1) = decide (stN X j &&& 1 = 1) := by rw [Int.tmod_eq_emod_of_nonneg (u_lo _)]; exact odd_u _
          have e2 : u (stN X j) / 2 = u (rt (stN X j) 1) := u_rt _ 1 (by omega)
          have E2 := hide e2
          generalize stN X j = Y at *
          clear e2
          by_cases hy : Y &&& 1 = 1
          · have ho' : ((u Y).tmod 2 == 1) = true := by rw [ho]; simp [hy]
            have HY : Hid (stp Y = xr (rt Y 1) 3988292384) := hide (by rw [stp, if_pos hy])
            clear ho hy
            go_wp2
            go_roundw
            case rel =>
              refine ⟨j + 1, by omega, by go_num, ?_, trivial⟩
              rw [unhide HS, unhide HY, unhide E2]
              rw [show (3988292384 : Int) = u 3988292384 from rfl, v_xor]
            case measure => simp [intOf]; omega
          · have ho' : ((u Y).tmod 2 == 1) = false := by rw [ho]; simp [hy]
            have HY : Hid (stp Y = rt Y 1) := hide (by rw [stp, if_neg hy])
            clear ho hy
            go_wp2
            go_roundw
            case rel =>
              refine ⟨j + 1, by omega, by go_num, ?_, trivial⟩
              rw [unhide HS, unhide HY, unhide E2]
            case measure => simp [intOf]; omega
        · have hj8 : j = 8 := by omega
          have hd : decide ((j : Int) < 8) = false := by simp; omega
          have HE : Hid (crcR (l.take (k + 1)) = stN X j) := hide (by rw [unhide hnx, ← unhide HC, crcB, unhide HX, hj8])
          clear hj8 hlj
          go_wp2
          go_roundw
          case rel => exact ⟨k + 1, by omega, by go_num, by rw [unhide HE], trivial⟩
          case measure => simp [intOf]; omega
    · have hkl : k = l.length := by omega
      have HE : Hid (crcR l = crcR (l.take k)) := hide (by rw [List.take_of_length_le (by omega)])
      generalize crcR (l.take k) = R at *
      go_wp2
      go_ret
      refine ⟨ret_intH ?_, rfl⟩
      rw [crc, unhide HE, show (4294967295 : Int) = u 4294967295 from rfl, v_xor, Int.emod_eq_of_lt (u_lo _) (u_hi _), ← u_notc, show (4294967295 : Int) = u 4294967295 from rfl, u_xor]
      unfold xr
      rw [UInt32.xor_comm]
end Go.Proofs.YtbeionikiiccpaaGreatDoor
