import Derived.Test.YtpidmpefodnffaaGreatDoorOff
import Derived.Test.YtpidmpefodnffaaGreatDoorZidx
import Derived.Test.YtpidmpefodnffaaGreatDoorOft
namespace Go.Proofs.YtpidmpefodnffaaGreatDoor
open Go.RowKit
set_option maxHeartbeats 4000000
set_option maxRecDepth 8000
theorem nat_cons (a : UInt8) (x : Bs) : nat (a :: x) = a.toNat * 256 ^ x.length + nat x := by
  have := nat_app [a] x
  simpa [nat] using this
/-- Of texts as long as each other the lesser one is the lesser number. -/
theorem lt_nat : ∀ x y : Bs, x.length = y.length → (x < y ↔ nat x < nat y)
  | [], [], _ => by simp
  | [], _ :: _, h => by simp at h
  | _ :: _, [], h => by simp at h
  | a :: x, b :: y, h => by
    have hl : x.length = y.length := by simpa using h
    have ih := lt_nat x y hl
    have h1 := nat_lt x
    have h2 := nat_lt y
    rw [List.cons_lt_cons_iff, nat_cons, nat_cons, ih]
    rw [hl] at h1 ⊢
    generalize 256 ^ y.length = K at *
    rw [UInt8.lt_iff_toNat_lt, ← UInt8.toNat_inj]
    generalize a.toNat = p at *
    generalize b.toNat = q at *
    constructor
    · rintro (g | ⟨rfl, g⟩)
      · have : (p + 1) * K ≤ q * K := Nat.mul_le_mul_right K g
        rw [Nat.succ_mul] at this
        omega
      · omega
    · intro g
      rcases Nat.lt_trichotomy p q with e | e | e
      · exact .inl e
      · subst e; exact .inr ⟨rfl, by omega⟩
      · have : (q + 1) * K ≤ p * K := Nat.mul_le_mul_right K e
        rw [Nat.succ_mul] at this
        omega
theorem run_lss (x y : Bs) (W : World) : (binOp .lss 9 (S x) (S y)).run Tryz.prog W = .ok (.bool (decide (x < y))) W := by
  have e : Op.bytesLess (ByteArray.mk x.toArray).toList (ByteArray.mk y.toArray).toList = decide (x < y) := by
    have e1 : ∀ z : Bs, (ByteArray.mk z.toArray).toList = z := fun z => by simp [ByteArray.toList_eq]
    rw [e1, e1, less_eq]
  rw [← e]
  rfl
theorem be_nat6 (z : Nat) (h : z < 281474976710656) : nat (be 6 z) = z := by rw [nat_be]; exact Nat.mod_eq_of_lt h
theorem be_nat8 (z : Nat) (h : z < 18446744073709551616) : nat (be 8 z) = z := by rw [nat_be]; exact Nat.mod_eq_of_lt h
theorem be_nat4 (z : Nat) (h : z < 4294967296) : nat (be 4 z) = z := by rw [nat_be]; exact Nat.mod_eq_of_lt h
theorem lt_pre (p x y : Bs) (h : x.length = y.length) : p ++ x < p ++ y ↔ x < y := by
  rw [lt_nat _ _ (by simp [h]), lt_nat _ _ h, nat_app, nat_app, h]
  omega
theorem lt_two (c : UInt8) (n m : Nat) (a b a' b' : Bs) (ha : a.length = n) (ha' : a'.length = n) (hb : b.length = m) (hb' : b'.length = m) : [c] ++ a ++ b < [c] ++ a' ++ b' ↔ nat a < nat a' ∨ nat a = nat a' ∧ nat b < nat b' := by
  rw [List.append_assoc, List.append_assoc, lt_pre _ _ _ (by simp [*]), lt_nat _ _ (by simp [*]), nat_app, nat_app, hb, hb']
  have h1 := nat_lt b
  have h2 := nat_lt b'
  rw [hb] at h1
  rw [hb'] at h2
  generalize 256 ^ m = K at *
  generalize nat a = p at *
  generalize nat a' = q at *
  constructor
  · intro g
    rcases Nat.lt_trichotomy p q with e | e | e
    · exact .inl e
    · subst e; exact .inr ⟨rfl, by omega⟩
    · have : (q + 1) * K ≤ p * K := Nat.mul_le_mul_right K e
      rw [Nat.succ_mul] at this
      omega
  · rintro (g | ⟨rfl, g⟩)
    · have : (p + 1) * K ≤ q * K := Nat.mul_le_mul_right K g
      rw [Nat.succ_mul] at this
      omega
    · omega
/-- Keys of one number. -/
theorem lt_one (c : UInt8) (x y : Int) (hx : 0 ≤ x ∧ x < 18446744073709551616) (hy : 0 ≤ y ∧ y < 18446744073709551616) : cat (lx [[c], be 8 x.toNat]) 2 < cat (lx [[c], be 8 y.toNat]) 2 ↔ x < y := by
  show [] ++ [c] ++ be 8 x.toNat < [] ++ [c] ++ be 8 y.toNat ↔ _
  rw [List.nil_append, lt_pre _ _ _ (by simp [be_len]), lt_nat _ _ (by simp [be_len]), be_nat8 _ (by omega), be_nat8 _ (by omega)]
  omega
theorem lt_end (e i e' i' : Int) (h1 : endOK e i = true) (h2 : endOK e' i' = true) : cat (lx (endKl e i)) 3 < cat (lx (endKl e' i')) 3 ↔ e < e' ∨ e = e' ∧ i < i' := by
  have b1 := endB h1
  have b2 := endB h2
  show [] ++ [120] ++ be 6 e.toNat ++ be 8 i.toNat < [] ++ [120] ++ be 6 e'.toNat ++ be 8 i'.toNat ↔ _
  rw [List.nil_append, lt_two 120 6 8 _ _ _ _ (be_len _ _) (be_len _ _) (be_len _ _) (be_len _ _), be_nat8 _ (by omega), be_nat8 _ (by omega), be_nat6 _ (by omega), be_nat6 _ (by omega)]
  omega
theorem lt_mem (f g i f' g' i' : Int) (h1 : memOK f g i = true) (h2 : memOK f' g' i' = true) : cat (lx (memKl f g i)) 3 < cat (lx (memKl f' g' i')) 3 ↔ f < f' ∨ f = f' ∧ g < g' := by
  have b1 := memB h1
  have b2 := memB h2
  show [] ++ [109] ++ be 8 f.toNat ++ be 4 g.toNat < [] ++ [109] ++ be 8 f'.toNat ++ be 4 g'.toNat ↔ _
  rw [List.nil_append, lt_two 109 8 4 _ _ _ _ (be_len _ _) (be_len _ _) (be_len _ _) (be_len _ _), be_nat8 _ (by omega), be_nat8 _ (by omega), be_nat4 _ (by omega), be_nat4 _ (by omega)]
  omega
theorem lt_sub (s : Bs) (i i' : Int) (h1 : subOK s i = true) (h2 : subOK s i' = true) : cat (lx (subKl s i)) 4 < cat (lx (subKl s i')) 4 ↔ i < i' := by
  have b1 := subB h1
  have b2 := subB h2
  show [] ++ [115] ++ s ++ [0] ++ be 8 i.toNat < [] ++ [115] ++ s ++ [0] ++ be 8 i'.toNat ↔ _
  rw [lt_pre _ _ _ (by simp [be_len]), lt_nat _ _ (by simp [be_len]), be_nat8 _ (by omega), be_nat8 _ (by omega)]
  omega
/-- A number that was laid is read as it was. -/
theorem rv_laid (n z : Nat) (r : Bs) (h1 : 1 ≤ n) (h8 : n ≤ 8) (hz : z < 256 ^ n) (h63 : z < 9223372036854775808) : rv n (be n z ++ r, 0) = z ∧ rs n (be n z ++ r, 0) = (r, 0) := by
  have hl := be_len n z
  have ht : (be n z ++ r).take n = be n z := by rw [List.take_append_of_le_length (by omega), List.take_of_length_le (by omega)]
  have hd : (be n z ++ r).drop n = r := by rw [List.drop_append_of_le_length (by omega), List.drop_of_length_le (by omega), List.nil_append]
  have hn : nat (be n z) = z := by rw [nat_be]; exact Nat.mod_eq_of_lt hz
  have he : rNumE n (be n z ++ r) = 0 := by
    unfold rNumE
    rw [if_pos (by omega), if_neg (by simp [hl]; omega), if_neg]
    rintro ⟨q, q2⟩
    have q : n = 8 := by omega
    subst q
    have := (nat_first (be 8 z) hl).1 (by omega)
    rw [← ht, getD_take _ _ (by omega)] at this
    omega
  constructor
  · unfold rv
    simp only [he]
    rw [if_pos fine_ok, ht, hn]
  · unfold rs
    simp only [he]
    rw [rGo_ok, hd]
theorem rr_laid (p r : Bs) (n : Int) (hn : n = p.length) : ra n (p ++ r, 0) = p ∧ rr2 n (p ++ r, 0) = (r, 0) := by
  subst hn
  have he : rRawE (p.length : Int) (p ++ r) = 0 := by
    unfold rRawE
    rw [if_neg (by omega), if_neg (by simp; omega)]
  constructor
  · unfold ra
    simp only [he]
    rw [if_pos fine_ok]
    simp
  · unfold rr2
    simp only [he]
    rw [rGo_ok]
    simp
theorem memG_head {k v : Bs} (h : memG k v = true) : k.head? = some 109 := by
  unfold memG memP at h
  split at h
  · have e := congrArg (fun q => q.1.1) (beq_iff_eq.1 h)
    simp only at e
    rw [← e]
    rfl
  · exact absurd (congrArg Prod.snd (beq_iff_eq.1 h)) (by simp)
theorem endG_head {k v : Bs} (h : endG k v = true) : k.head? = some 120 := by
  unfold endG endP at h
  split at h
  · have e := congrArg (fun q => q.1.1) (beq_iff_eq.1 h)
    simp only at e
    rw [← e]
    rfl
  · exact absurd (congrArg Prod.snd (beq_iff_eq.1 h)) (by simp)
theorem idx_mem {f g i : Int} (h : memOK f g i = true) : idx (cat (lx (memKl f g i)) 3) (cat (lx (memVl f g i)) 1) = ([109], g, f, cat (lx (memVl f g i)) 1, 0) := by
  have b := memB h
  have ek : cat (lx (memKl f g i)) 3 = [109] ++ (be 8 f.toNat ++ (be 4 g.toNat ++ [])) := by simp [cat, lx, memKl]
  have ev : cat (lx (memVl f g i)) 1 = be 8 i.toNat ++ [] := by simp [cat, lx, memVl]
  have q1 := (rr_laid [109] (be 8 f.toNat ++ (be 4 g.toNat ++ [])) 1 rfl).2
  have q2 := rv_laid 8 f.toNat (be 4 g.toNat ++ []) (by omega) (by omega) (by omega) (by omega)
  have q3 := rv_laid 4 g.toNat [] (by omega) (by omega) (by omega) (by omega)
  have q4 := rv_laid 8 i.toNat [] (by omega) (by omega) (by omega) (by omega)
  have r1 : mem_fa (cat (lx (memKl f g i)) 3) = f := by
    unfold mem_fa memK1 memK0
    rw [ek, q1, q2.1]; omega
  have r2 : mem_ge (cat (lx (memKl f g i)) 3) = g := by
    unfold mem_ge memK2 memK1 memK0
    rw [ek, q1, q2.2, q3.1]; omega
  have r3 : mem_id (cat (lx (memVl f g i)) 1) = i := by
    unfold mem_id memV0
    rw [ev, q4.1]; omega
  have hG : memG (cat (lx (memKl f g i)) 3) (cat (lx (memVl f g i)) 1) = true := by
    unfold memG
    rw [r1, r2, r3]
    unfold memP
    rw [if_pos h]
    simp
  unfold idx
  rw [if_pos hG, r1, r2]
theorem idx_end {e i : Int} (h : endOK e i = true) : idx (cat (lx (endKl e i)) 3) (cat (lx (endVl e i)) 0) = ([120], e, i, [], 0) := by
  have b := endB h
  have ek : cat (lx (endKl e i)) 3 = [120] ++ (be 6 e.toNat ++ (be 8 i.toNat ++ [])) := by simp [cat, lx, endKl]
  have q1 := (rr_laid [120] (be 6 e.toNat ++ (be 8 i.toNat ++ [])) 1 rfl).2
  have q2 := rv_laid 6 e.toNat (be 8 i.toNat ++ []) (by omega) (by omega) (by omega) (by omega)
  have q3 := rv_laid 8 i.toNat [] (by omega) (by omega) (by omega) (by omega)
  have r1 : end_en (cat (lx (endKl e i)) 3) = e := by
    unfold end_en endK1 endK0
    rw [ek, q1, q2.1]; omega
  have r2 : end_id (cat (lx (endKl e i)) 3) = i := by
    unfold end_id endK2 endK1 endK0
    rw [ek, q1, q2.2, q3.1]; omega
  have hG : endG (cat (lx (endKl e i)) 3) (cat (lx (endVl e i)) 0) = true := by
    unfold endG
    rw [r1, r2]
    unfold endP
    rw [if_pos h]
    simp
  have hM : ¬ memG (cat (lx (endKl e i)) 3) (cat (lx (endVl e i)) 0) = true := fun q => by
    have := memG_head q
    rw [ek] at this
    exact absurd this (by simp)
  unfold idx
  rw [if_neg hM, if_pos hG, r1, r2]
theorem idx_sub {s : Bs} {i : Int} (h : subOK s i = true) : idx (cat (lx (subKl s i)) 4) (cat (lx (subVl s i)) 0) = ([115], 0, i, s, 0) := by
  have b := subB h
  have ek : cat (lx (subKl s i)) 4 = [115] ++ (s ++ ([0] ++ (be 8 i.toNat ++ []))) := by simp [cat, lx, subKl]
  have q1 := (rr_laid [115] (s ++ ([0] ++ (be 8 i.toNat ++ []))) 1 rfl).2
  have q0 : ((s ++ ([0] ++ (be 8 i.toNat ++ []))).length : Int) - 9 = s.length := by simp [be_len]
  have q2 := rr_laid s ([0] ++ (be 8 i.toNat ++ [])) (((s ++ ([0] ++ (be 8 i.toNat ++ []))).length : Int) - 9) q0
  have q3 := (rr_laid [0] (be 8 i.toNat ++ []) 1 rfl).2
  have q4 := rv_laid 8 i.toNat [] (by omega) (by omega) (by omega) (by omega)
  have r1 : sub_su (cat (lx (subKl s i)) 4) = s := by
    unfold sub_su subK1 subK0
    rw [ek, q1]
    exact q2.1
  have r2 : sub_id (cat (lx (subKl s i)) 4) = i := by
    unfold sub_id subK3 subK2 subK1 subK0
    rw [ek, q1]
    simp only
    rw [q2.2, q3, q4.1]; omega
  have hG : subG (cat (lx (subKl s i)) 4) (cat (lx (subVl s i)) 0) = true := by
    unfold subG
    rw [r1, r2]
    unfold subP
    rw [if_pos h]
    simp
  have hM : ¬ memG (cat (lx (subKl s i)) 4) (cat (lx (subVl s i)) 0) = true := fun q => by
    have := memG_head q
    rw [ek] at this
    exact absurd this (by simp)
  have hE : ¬ endG (cat (lx (subKl s i)) 4) (cat (lx (subVl s i)) 0) = true := fun q => by
    have := endG_head q
    rw [ek] at this
    exact absurd this (by simp)
  unfold idx
  rw [if_neg hM, if_neg hE, if_pos hG, r1, r2]
end Go.Proofs.YtpidmpefodnffaaGreatDoor
namespace Go.Proofs.YtpidmpefodnffaaGreatDoor
open Go.RowKit
def vror11a (P Z : Nat) (m n : Int) (k1 k2 : Bs) (_c : Unit) (i : Nat) : Value := match i with
  | 0 => (.slice (some ⟨P, 0, none⟩) 2 2)
  | 1 => (.pointer (some ⟨P, 0, none⟩))
  | 2 => (.pointer (some ⟨P, 0, none⟩))
  | 3 => (S k1)
  | 4 => (.slice (some ⟨Z, 0, none⟩) 2 2)
  | 5 => (.pointer (some ⟨Z, 0, none⟩))
  | 6 => (.pointer (some ⟨Z, 0, none⟩))
  | 7 => (S k2)
  | 8 => (.bool true)
  | 9 => (I m)
  | 10 => (I n)
  | 11 => (.bool true)
  | 12 => (.bool true)
  | 13 => undef
  | 14 => undef
  | 15 => undef
  | 16 => undef
  | 17 => undef
  | 18 => undef
  | 19 => undef
  | 20 => undef
  | 21 => undef
  | 22 => undef
  | 23 => (.bool true)
  | 24 => (.bool false)
  | _ => undef
def ror11aT : List (Op × Option Tmp × Option (Nat × Bool)) := [
  (.move (.tmp 14), some 101, none),
  (.indexAddr 43 (.tmp 101) (.const (.int .i64 0)), some 102, none),
  (.fieldAddr 30 (.tmp 102) 0, some 103, none),
  (.load 9 (.tmp 103), some 104, none),
  (.move (.tmp 16), some 105, none),
  (.indexAddr 43 (.tmp 105) (.const (.int .i64 0)), some 106, none),
  (.fieldAddr 30 (.tmp 106) 0, some 107, none),
  (.load 9 (.tmp 107), some 108, none),
  (.binOp .lss 9 (.tmp 104) (.tmp 108) 9, some 109, none),
  (.move (.tmp 18), some 110, none),
  (.move (.tmp 19), some 111, none),
  (.binOp .lss 3 (.tmp 110) (.tmp 111) 3, some 112, none),
  (.move (.tmp 112), some 113, none),
  (.move (.tmp 18), some 114, some (12, false)),
  (.move (.tmp 19), some 115, some (12, false)),
  (.binOp .eql 3 (.tmp 114) (.tmp 115) 3, some 116, some (12, false)),
  (.move (.tmp 116), some 117, some (12, false)),
  (.fieldAddr 40 (.tmp 4) 0, some 118, some (16, true)),
  (.load 3 (.tmp 118), some 119, some (16, true)),
  (.fieldAddr 40 (.tmp 5) 0, some 120, some (16, true)),
  (.load 3 (.tmp 120), some 121, some (16, true)),
  (.binOp .lss 3 (.tmp 119) (.tmp 121) 3, some 122, some (16, true)),
  (.pick (.tmp 117) (.tmp 122) (.const (.bool false)), some 123, some (12, false)),
  (.pick (.tmp 113) (.const (.bool true)) (.tmp 123), some 124, none),
  (.binOp .neq 4 (.tmp 109) (.tmp 124) 4, some 125, none)]
def ror11aD : List (Nat × Nat) := [(1, 0), (2, 1), (3, 2), (5, 4), (6, 5), (7, 6), (8, 3), (8, 7), (11, 9), (11, 10), (12, 11), (13, 12), (14, 12), (15, 12), (16, 12), (17, 16), (18, 16), (19, 16), (20, 16), (21, 16), (22, 12), (23, 12), (23, 22), (24, 8), (24, 23)]
set_option maxHeartbeats 4000000 in
theorem ror11a {ops : Array Oper} {id : Nat} {Q : Exit → Act → World → Prop} (P Z : Nat) (m n : Int) (k1 k2 : Bs) (htab : ops.toList.map (fun o => (o.op, o.dst, o.guard)) = ror11aT) (hdep : deplB ror11aD ops = true) (hac : acB ops = true)
    (a0 : Act) (w : World) (hsz : 126 ≤ a0.tmps.size) (o14 : a0.tmps[14]? = some (.slice (some ⟨P, 0, none⟩) 2 2)) (o16 : a0.tmps[16]? = some (.slice (some ⟨Z, 0, none⟩) 2 2)) (o18 : a0.tmps[18]? = some (I m)) (o19 : a0.tmps[19]? = some (I n))
    (Wd : Unit → (Nat → Bool) → World → Prop) (h0 : ∃ c, Wd c (fun _ => false) w.drew) (hpure : ∀ i, i ∉ ([] : List Nat) → ∀ c L W, Wd c L W → Wd c (upd L i) W)
    (r1 : ∀ W, (Instr.indexAt 43 (.slice (some ⟨P, 0, none⟩) 2 2) (.int .i64 0)).run Tryz.prog W = .ok (.pointer (some ⟨P, 0, none⟩)) W)
    (r3 : ∀ c L W, Wd c L W → L 3 = false → L 2 = true → (Instr.loadAt 9 (.pointer (some ⟨P, 0, none⟩))).run Tryz.prog W = .ok (S k1) W)
    (r5 : ∀ W, (Instr.indexAt 43 (.slice (some ⟨Z, 0, none⟩) 2 2) (.int .i64 0)).run Tryz.prog W = .ok (.pointer (some ⟨Z, 0, none⟩)) W)
    (r7 : ∀ c L W, Wd c L W → L 7 = false → L 6 = true → (Instr.loadAt 9 (.pointer (some ⟨Z, 0, none⟩))).run Tryz.prog W = .ok (S k2) W)
    (r8 : ∀ W, (do eqGuard .lss 9 (.tmp 104) (.tmp 108) (S k1) (S k2); binOp .lss 9 (S k1) (S k2)).run Tryz.prog W = .ok (.bool true) W)
    (r11 : ∀ W, (do eqGuard .lss 3 (.tmp 110) (.tmp 111) (I m) (I n); binOp .lss 3 (I m) (I n)).run Tryz.prog W = .ok (.bool true) W)
    (r24 : ∀ W, (do eqGuard .neq 4 (.tmp 109) (.tmp 124) (.bool true) (.bool true); binOp .neq 4 (.bool true) (.bool true)).run Tryz.prog W = .ok (.bool false) W)
    (hend : ∀ c L W, (∀ i, i < 25 → L i = true) → Wd c L W → Q .normal (((((((((((((((((((((((((a0.put (some 101) (.slice (some ⟨P, 0, none⟩) 2 2)).put (some 102) (.pointer (some ⟨P, 0, none⟩))).put (some 103) (.pointer (some ⟨P, 0, none⟩))).put (some 104) (S k1)).put (some 105) (.slice (some ⟨Z, 0, none⟩) 2 2)).put (some 106) (.pointer (some ⟨Z, 0, none⟩))).put (some 107) (.pointer (some ⟨Z, 0, none⟩))).put (some 108) (S k2)).put (some 109) (.bool true)).put (some 110) (I m)).put (some 111) (I n)).put (some 112) (.bool true)).put (some 113) (.bool true)).put (some 114) undef).put (some 115) undef).put (some 116) undef).put (some 117) undef).put (some 118) undef).put (some 119) undef).put (some 120) undef).put (some 121) undef).put (some 122) undef).put (some 123) undef).put (some 124) (.bool true)).put (some 125) (.bool false)) W) : (Code.region id ops true).wp Tryz.prog Q a0 w := by
  let val : Unit → Nat → Value := vror11a P Z m n k1 k2
  have hosz : ops.size = 25 := by
    have := congrArg List.length htab
    simpa [ror11aT] using this
  have hds : ∀ i s, (ror11aT[i]?).bind (·.2.1) = some s → dstOf ops i = some s := fun i s hi => by rw [tab_dst htab, hi]
  have hdisB : disL ror11aT = true := by rfl
  have hdis := disL_of htab hdisB
  have hold : ∀ s, ror11aT.all (fun x => !(x.2.1 == some s)) = true → (List.range ops.size).all (fun j => !(dstOf ops j == some s)) = true := fun s h => holdL htab s h
  refine region_detX val Wd (hac_of hac) hdis h0 ?_ ?_
  rotate_left
  · intro c L W hall hW
    have := hend c L W (by rw [← hosz]; exact hall) hW
    have e : frm ops a0 (val c) (fun _ => true) ops.size = (((((((((((((((((((((((((a0.put (some 101) (.slice (some ⟨P, 0, none⟩) 2 2)).put (some 102) (.pointer (some ⟨P, 0, none⟩))).put (some 103) (.pointer (some ⟨P, 0, none⟩))).put (some 104) (S k1)).put (some 105) (.slice (some ⟨Z, 0, none⟩) 2 2)).put (some 106) (.pointer (some ⟨Z, 0, none⟩))).put (some 107) (.pointer (some ⟨Z, 0, none⟩))).put (some 108) (S k2)).put (some 109) (.bool true)).put (some 110) (I m)).put (some 111) (I n)).put (some 112) (.bool true)).put (some 113) (.bool true)).put (some 114) undef).put (some 115) undef).put (some 116) undef).put (some 117) undef).put (some 118) undef).put (some 119) undef).put (some 120) undef).put (some 121) undef).put (some 122) undef).put (some 123) undef).put (some 124) (.bool true)).put (some 125) (.bool false)) := by
      rw [hosz]
      simp only [frm, if_true]
      rw [tab_dst htab 0, tab_dst htab 1, tab_dst htab 2, tab_dst htab 3, tab_dst htab 4, tab_dst htab 5, tab_dst htab 6, tab_dst htab 7, tab_dst htab 8, tab_dst htab 9, tab_dst htab 10, tab_dst htab 11, tab_dst htab 12, tab_dst htab 13, tab_dst htab 14, tab_dst htab 15, tab_dst htab 16, tab_dst htab 17, tab_dst htab 18, tab_dst htab 19, tab_dst htab 20, tab_dst htab 21, tab_dst htab 22, tab_dst htab 23, tab_dst htab 24]
      rfl
    rw [e]
    exact this
  intro i o ho c L a w' hL hd ha hW
  have hi : i < 25 := by rw [← hosz]; exact (Array.getElem?_eq_some_iff.1 ho).1
  have G : ∀ j s : Nat, (ror11aT[j]?).bind (·.2.1) = some s → s < 126 → (i, j) ∈ ror11aD → a.tmps[s]? = some (val c j) := fun j s h1 h2 h3 => frm_at hdis ha j s (hds j s h1) (by omega) (depl_of hdep i j h3 ho hd)
  match i, ho, hL, hi, G with
  | 0, ho, hL, _, G =>
    obtain ⟨hop, hgd⟩ := tab3 htab ho rfl
    have h0 := frm_old ha 14 _ (hold 14 rfl) o14
    exact (dXr ho hgd (hpure 0 (by decide) c L w' hW) (g_mov hop (eval_of h0)))
  | 1, ho, hL, _, G =>
    obtain ⟨hop, hgd⟩ := tab3 htab ho rfl
    have h0 := G 0 101 rfl (by decide) (by decide)
    exact (dXr ho hgd (hpure 1 (by decide) c L w' hW) (g_ixa hop (eval_of h0) rfl (r1 w')))
  | 2, ho, hL, _, G =>
    obtain ⟨hop, hgd⟩ := tab3 htab ho rfl
    have h0 := G 1 102 rfl (by decide) (by decide)
    exact (dXr ho hgd (hpure 2 (by decide) c L w' hW) (g_field hop (eval_of h0) (by kernel_rfl)))
  | 3, ho, hL, _, G =>
    obtain ⟨hop, hgd⟩ := tab3 htab ho rfl
    have h0 := G 2 103 rfl (by decide) (by decide)
    exact (dXr ho hgd (hpure 3 (by decide) c L w' hW) (g_load hop (eval_of h0) (r3 c L w' hW hL (depl_of hdep 3 2 (by decide) ho hd))))
  | 4, ho, hL, _, G =>
    obtain ⟨hop, hgd⟩ := tab3 htab ho rfl
    have h0 := frm_old ha 16 _ (hold 16 rfl) o16
    exact (dXr ho hgd (hpure 4 (by decide) c L w' hW) (g_mov hop (eval_of h0)))
  | 5, ho, hL, _, G =>
    obtain ⟨hop, hgd⟩ := tab3 htab ho rfl
    have h0 := G 4 105 rfl (by decide) (by decide)
    exact (dXr ho hgd (hpure 5 (by decide) c L w' hW) (g_ixa hop (eval_of h0) rfl (r5 w')))
  | 6, ho, hL, _, G =>
    obtain ⟨hop, hgd⟩ := tab3 htab ho rfl
    have h0 := G 5 106 rfl (by decide) (by decide)
    exact (dXr ho hgd (hpure 6 (by decide) c L w' hW) (g_field hop (eval_of h0) (by kernel_rfl)))
  | 7, ho, hL, _, G =>
    obtain ⟨hop, hgd⟩ := tab3 htab ho rfl
    have h0 := G 6 107 rfl (by decide) (by decide)
    exact (dXr ho hgd (hpure 7 (by decide) c L w' hW) (g_load hop (eval_of h0) (r7 c L w' hW hL (depl_of hdep 7 6 (by decide) ho hd))))
  | 8, ho, hL, _, G =>
    obtain ⟨hop, hgd⟩ := tab3 htab ho rfl
    have h0 := G 3 104 rfl (by decide) (by decide)
    have h1 := G 7 108 rfl (by decide) (by decide)
    exact (dXr ho hgd (hpure 8 (by decide) c L w' hW) (g_bin hop (eval_of h0) (eval_of h1) (r8 w')))
  | 9, ho, hL, _, G =>
    obtain ⟨hop, hgd⟩ := tab3 htab ho rfl
    have h0 := frm_old ha 18 _ (hold 18 rfl) o18
    exact (dXr ho hgd (hpure 9 (by decide) c L w' hW) (g_mov hop (eval_of h0)))
  | 10, ho, hL, _, G =>
    obtain ⟨hop, hgd⟩ := tab3 htab ho rfl
    have h0 := frm_old ha 19 _ (hold 19 rfl) o19
    exact (dXr ho hgd (hpure 10 (by decide) c L w' hW) (g_mov hop (eval_of h0)))
  | 11, ho, hL, _, G =>
    obtain ⟨hop, hgd⟩ := tab3 htab ho rfl
    have h0 := G 9 110 rfl (by decide) (by decide)
    have h1 := G 10 111 rfl (by decide) (by decide)
    exact (dXr ho hgd (hpure 11 (by decide) c L w' hW) (g_bin hop (eval_of h0) (eval_of h1) (r11 w')))
  | 12, ho, hL, _, G =>
    obtain ⟨hop, hgd⟩ := tab3 htab ho rfl
    have h0 := G 11 112 rfl (by decide) (by decide)
    exact (dXr ho hgd (hpure 12 (by decide) c L w' hW) (g_mov hop (eval_of h0)))
  | 13, ho, hL, _, G =>
    obtain ⟨hop, hgd⟩ := tab3 htab ho rfl
    have hg := G 12 113 rfl (by decide) (by decide)
    exact doesX_of (doesL_skip ho (wanted_at (b := true) hgd (hds 12 113 rfl) hg) (hpure 13 (by decide) c L w' hW) rfl)
  | 14, ho, hL, _, G =>
    obtain ⟨hop, hgd⟩ := tab3 htab ho rfl
    have hg := G 12 113 rfl (by decide) (by decide)
    exact doesX_of (doesL_skip ho (wanted_at (b := true) hgd (hds 12 113 rfl) hg) (hpure 14 (by decide) c L w' hW) rfl)
  | 15, ho, hL, _, G =>
    obtain ⟨hop, hgd⟩ := tab3 htab ho rfl
    have hg := G 12 113 rfl (by decide) (by decide)
    exact doesX_of (doesL_skip ho (wanted_at (b := true) hgd (hds 12 113 rfl) hg) (hpure 15 (by decide) c L w' hW) rfl)
  | 16, ho, hL, _, G =>
    obtain ⟨hop, hgd⟩ := tab3 htab ho rfl
    have hg := G 12 113 rfl (by decide) (by decide)
    exact doesX_of (doesL_skip ho (wanted_at (b := true) hgd (hds 12 113 rfl) hg) (hpure 16 (by decide) c L w' hW) rfl)
  | 17, ho, hL, _, G =>
    obtain ⟨hop, hgd⟩ := tab3 htab ho rfl
    have hg := G 16 117 rfl (by decide) (by decide)
    exact doesX_of (doesL_skip ho (wanted_undef hgd (hds 16 117 rfl) hg) (hpure 17 (by decide) c L w' hW) rfl)
  | 18, ho, hL, _, G =>
    obtain ⟨hop, hgd⟩ := tab3 htab ho rfl
    have hg := G 16 117 rfl (by decide) (by decide)
    exact doesX_of (doesL_skip ho (wanted_undef hgd (hds 16 117 rfl) hg) (hpure 18 (by decide) c L w' hW) rfl)
  | 19, ho, hL, _, G =>
    obtain ⟨hop, hgd⟩ := tab3 htab ho rfl
    have hg := G 16 117 rfl (by decide) (by decide)
    exact doesX_of (doesL_skip ho (wanted_undef hgd (hds 16 117 rfl) hg) (hpure 19 (by decide) c L w' hW) rfl)
  | 20, ho, hL, _, G =>
    obtain ⟨hop, hgd⟩ := tab3 htab ho rfl
    have hg := G 16 117 rfl (by decide) (by decide)
    exact doesX_of (doesL_skip ho (wanted_undef hgd (hds 16 117 rfl) hg) (hpure 20 (by decide) c L w' hW) rfl)
  | 21, ho, hL, _, G =>
    obtain ⟨hop, hgd⟩ := tab3 htab ho rfl
    have hg := G 16 117 rfl (by decide) (by decide)
    exact doesX_of (doesL_skip ho (wanted_undef hgd (hds 16 117 rfl) hg) (hpure 21 (by decide) c L w' hW) rfl)
  | 22, ho, hL, _, G =>
    obtain ⟨hop, hgd⟩ := tab3 htab ho rfl
    have hg := G 12 113 rfl (by decide) (by decide)
    exact doesX_of (doesL_skip ho (wanted_at (b := true) hgd (hds 12 113 rfl) hg) (hpure 22 (by decide) c L w' hW) rfl)
  | 23, ho, hL, _, G =>
    obtain ⟨hop, hgd⟩ := tab3 htab ho rfl
    have h0 := G 12 113 rfl (by decide) (by decide)
    have h2 := G 22 123 rfl (by decide) (by decide)
    exact (dXr ho hgd (hpure 23 (by decide) c L w' hW) (by rw [run_pick _ _ _ _ _ hop true (eval_of h0)]; exact congrArg (fun v => Result.ok (Next.value v) w') rfl))
  | 24, ho, hL, _, G =>
    obtain ⟨hop, hgd⟩ := tab3 htab ho rfl
    have h0 := G 8 109 rfl (by decide) (by decide)
    have h1 := G 23 124 rfl (by decide) (by decide)
    exact (dXr ho hgd (hpure 24 (by decide) c L w' hW) (g_bin hop (eval_of h0) (eval_of h1) (r24 w')))
  | (i + 25), ho, hL, hi, _ => exact absurd hi (by omega)
def vror11b (X Y P Z : Nat) (m n ia ib : Int) (k1 k2 : Bs) (b : Bool) (_c : Unit) (i : Nat) : Value := match i with
  | 0 => (.slice (some ⟨P, 0, none⟩) 2 2)
  | 1 => (.pointer (some ⟨P, 0, none⟩))
  | 2 => (.pointer (some ⟨P, 0, none⟩))
  | 3 => (S k1)
  | 4 => (.slice (some ⟨Z, 0, none⟩) 2 2)
  | 5 => (.pointer (some ⟨Z, 0, none⟩))
  | 6 => (.pointer (some ⟨Z, 0, none⟩))
  | 7 => (S k2)
  | 8 => (.bool b)
  | 9 => (I m)
  | 10 => (I n)
  | 11 => (.bool false)
  | 12 => (.bool false)
  | 13 => (I m)
  | 14 => (I n)
  | 15 => (.bool true)
  | 16 => (.bool true)
  | 17 => (.pointer (some ⟨X, 0, none⟩))
  | 18 => (I ia)
  | 19 => (.pointer (some ⟨Y, 0, none⟩))
  | 20 => (I ib)
  | 21 => (.bool b)
  | 22 => (.bool b)
  | 23 => (.bool b)
  | 24 => (.bool false)
  | _ => undef
def ror11bT : List (Op × Option Tmp × Option (Nat × Bool)) := [
  (.move (.tmp 14), some 101, none),
  (.indexAddr 43 (.tmp 101) (.const (.int .i64 0)), some 102, none),
  (.fieldAddr 30 (.tmp 102) 0, some 103, none),
  (.load 9 (.tmp 103), some 104, none),
  (.move (.tmp 16), some 105, none),
  (.indexAddr 43 (.tmp 105) (.const (.int .i64 0)), some 106, none),
  (.fieldAddr 30 (.tmp 106) 0, some 107, none),
  (.load 9 (.tmp 107), some 108, none),
  (.binOp .lss 9 (.tmp 104) (.tmp 108) 9, some 109, none),
  (.move (.tmp 18), some 110, none),
  (.move (.tmp 19), some 111, none),
  (.binOp .lss 3 (.tmp 110) (.tmp 111) 3, some 112, none),
  (.move (.tmp 112), some 113, none),
  (.move (.tmp 18), some 114, some (12, false)),
  (.move (.tmp 19), some 115, some (12, false)),
  (.binOp .eql 3 (.tmp 114) (.tmp 115) 3, some 116, some (12, false)),
  (.move (.tmp 116), some 117, some (12, false)),
  (.fieldAddr 40 (.tmp 4) 0, some 118, some (16, true)),
  (.load 3 (.tmp 118), some 119, some (16, true)),
  (.fieldAddr 40 (.tmp 5) 0, some 120, some (16, true)),
  (.load 3 (.tmp 120), some 121, some (16, true)),
  (.binOp .lss 3 (.tmp 119) (.tmp 121) 3, some 122, some (16, true)),
  (.pick (.tmp 117) (.tmp 122) (.const (.bool false)), some 123, some (12, false)),
  (.pick (.tmp 113) (.const (.bool true)) (.tmp 123), some 124, none),
  (.binOp .neq 4 (.tmp 109) (.tmp 124) 4, some 125, none)]
def ror11bD : List (Nat × Nat) := [(1, 0), (2, 1), (3, 2), (5, 4), (6, 5), (7, 6), (8, 3), (8, 7), (11, 9), (11, 10), (12, 11), (13, 12), (14, 12), (15, 12), (15, 13), (15, 14), (16, 12), (16, 15), (17, 16), (18, 16), (18, 17), (19, 16), (20, 16), (20, 19), (21, 16), (21, 18), (21, 20), (22, 12), (22, 16), (22, 21), (23, 12), (23, 22), (24, 8), (24, 23)]
set_option maxHeartbeats 4000000 in
theorem ror11b {ops : Array Oper} {id : Nat} {Q : Exit → Act → World → Prop} (X Y P Z : Nat) (m n ia ib : Int) (k1 k2 : Bs) (b : Bool) (htab : ops.toList.map (fun o => (o.op, o.dst, o.guard)) = ror11bT) (hdep : deplB ror11bD ops = true) (hac : acB ops = true)
    (a0 : Act) (w : World) (hsz : 126 ≤ a0.tmps.size) (o4 : a0.tmps[4]? = some (.pointer (some ⟨X, 0, none⟩))) (o5 : a0.tmps[5]? = some (.pointer (some ⟨Y, 0, none⟩))) (o14 : a0.tmps[14]? = some (.slice (some ⟨P, 0, none⟩) 2 2)) (o16 : a0.tmps[16]? = some (.slice (some ⟨Z, 0, none⟩) 2 2)) (o18 : a0.tmps[18]? = some (I m)) (o19 : a0.tmps[19]? = some (I n))
    (Wd : Unit → (Nat → Bool) → World → Prop) (h0 : ∃ c, Wd c (fun _ => false) w.drew) (hpure : ∀ i, i ∉ ([] : List Nat) → ∀ c L W, Wd c L W → Wd c (upd L i) W)
    (r1 : ∀ W, (Instr.indexAt 43 (.slice (some ⟨P, 0, none⟩) 2 2) (.int .i64 0)).run Tryz.prog W = .ok (.pointer (some ⟨P, 0, none⟩)) W)
    (r3 : ∀ c L W, Wd c L W → L 3 = false → L 2 = true → (Instr.loadAt 9 (.pointer (some ⟨P, 0, none⟩))).run Tryz.prog W = .ok (S k1) W)
    (r5 : ∀ W, (Instr.indexAt 43 (.slice (some ⟨Z, 0, none⟩) 2 2) (.int .i64 0)).run Tryz.prog W = .ok (.pointer (some ⟨Z, 0, none⟩)) W)
    (r7 : ∀ c L W, Wd c L W → L 7 = false → L 6 = true → (Instr.loadAt 9 (.pointer (some ⟨Z, 0, none⟩))).run Tryz.prog W = .ok (S k2) W)
    (r8 : ∀ W, (do eqGuard .lss 9 (.tmp 104) (.tmp 108) (S k1) (S k2); binOp .lss 9 (S k1) (S k2)).run Tryz.prog W = .ok (.bool b) W)
    (r11 : ∀ W, (do eqGuard .lss 3 (.tmp 110) (.tmp 111) (I m) (I n); binOp .lss 3 (I m) (I n)).run Tryz.prog W = .ok (.bool false) W)
    (r15 : ∀ W, (do eqGuard .eql 3 (.tmp 114) (.tmp 115) (I m) (I n); binOp .eql 3 (I m) (I n)).run Tryz.prog W = .ok (.bool true) W)
    (r18 : ∀ c L W, Wd c L W → L 18 = false → L 17 = true → (Instr.loadAt 3 (.pointer (some ⟨X, 0, none⟩))).run Tryz.prog W = .ok (I ia) W)
    (r20 : ∀ c L W, Wd c L W → L 20 = false → L 19 = true → (Instr.loadAt 3 (.pointer (some ⟨Y, 0, none⟩))).run Tryz.prog W = .ok (I ib) W)
    (r21 : ∀ W, (do eqGuard .lss 3 (.tmp 119) (.tmp 121) (I ia) (I ib); binOp .lss 3 (I ia) (I ib)).run Tryz.prog W = .ok (.bool b) W)
    (r24 : ∀ W, (do eqGuard .neq 4 (.tmp 109) (.tmp 124) (.bool b) (.bool b); binOp .neq 4 (.bool b) (.bool b)).run Tryz.prog W = .ok (.bool false) W)
    (hend : ∀ c L W, (∀ i, i < 25 → L i = true) → Wd c L W → Q .normal (((((((((((((((((((((((((a0.put (some 101) (.slice (some ⟨P, 0, none⟩) 2 2)).put (some 102) (.pointer (some ⟨P, 0, none⟩))).put (some 103) (.pointer (some ⟨P, 0, none⟩))).put (some 104) (S k1)).put (some 105) (.slice (some ⟨Z, 0, none⟩) 2 2)).put (some 106) (.pointer (some ⟨Z, 0, none⟩))).put (some 107) (.pointer (some ⟨Z, 0, none⟩))).put (some 108) (S k2)).put (some 109) (.bool b)).put (some 110) (I m)).put (some 111) (I n)).put (some 112) (.bool false)).put (some 113) (.bool false)).put (some 114) (I m)).put (some 115) (I n)).put (some 116) (.bool true)).put (some 117) (.bool true)).put (some 118) (.pointer (some ⟨X, 0, none⟩))).put (some 119) (I ia)).put (some 120) (.pointer (some ⟨Y, 0, none⟩))).put (some 121) (I ib)).put (some 122) (.bool b)).put (some 123) (.bool b)).put (some 124) (.bool b)).put (some 125) (.bool false)) W) : (Code.region id ops true).wp Tryz.prog Q a0 w := by
  let val : Unit → Nat → Value := vror11b X Y P Z m n ia ib k1 k2 b
  have hosz : ops.size = 25 := by
    have := congrArg List.length htab
    simpa [ror11bT] using this
  have hds : ∀ i s, (ror11bT[i]?).bind (·.2.1) = some s → dstOf ops i = some s := fun i s hi => by rw [tab_dst htab, hi]
  have hdisB : disL ror11bT = true := by rfl
  have hdis := disL_of htab hdisB
  have hold : ∀ s, ror11bT.all (fun x => !(x.2.1 == some s)) = true → (List.range ops.size).all (fun j => !(dstOf ops j == some s)) = true := fun s h => holdL htab s h
  refine region_detX val Wd (hac_of hac) hdis h0 ?_ ?_
  rotate_left
  · intro c L W hall hW
    have := hend c L W (by rw [← hosz]; exact hall) hW
    have e : frm ops a0 (val c) (fun _ => true) ops.size = (((((((((((((((((((((((((a0.put (some 101) (.slice (some ⟨P, 0, none⟩) 2 2)).put (some 102) (.pointer (some ⟨P, 0, none⟩))).put (some 103) (.pointer (some ⟨P, 0, none⟩))).put (some 104) (S k1)).put (some 105) (.slice (some ⟨Z, 0, none⟩) 2 2)).put (some 106) (.pointer (some ⟨Z, 0, none⟩))).put (some 107) (.pointer (some ⟨Z, 0, none⟩))).put (some 108) (S k2)).put (some 109) (.bool b)).put (some 110) (I m)).put (some 111) (I n)).put (some 112) (.bool false)).put (some 113) (.bool false)).put (some 114) (I m)).put (some 115) (I n)).put (some 116) (.bool true)).put (some 117) (.bool true)).put (some 118) (.pointer (some ⟨X, 0, none⟩))).put (some 119) (I ia)).put (some 120) (.pointer (some ⟨Y, 0, none⟩))).put (some 121) (I ib)).put (some 122) (.bool b)).put (some 123) (.bool b)).put (some 124) (.bool b)).put (some 125) (.bool false)) := by
      rw [hosz]
      simp only [frm, if_true]
      rw [tab_dst htab 0, tab_dst htab 1, tab_dst htab 2, tab_dst htab 3, tab_dst htab 4, tab_dst htab 5, tab_dst htab 6, tab_dst htab 7, tab_dst htab 8, tab_dst htab 9, tab_dst htab 10, tab_dst htab 11, tab_dst htab 12, tab_dst htab 13, tab_dst htab 14, tab_dst htab 15, tab_dst htab 16, tab_dst htab 17, tab_dst htab 18, tab_dst htab 19, tab_dst htab 20, tab_dst htab 21, tab_dst htab 22, tab_dst htab 23, tab_dst htab 24]
      rfl
    rw [e]
    exact this
  intro i o ho c L a w' hL hd ha hW
  have hi : i < 25 := by rw [← hosz]; exact (Array.getElem?_eq_some_iff.1 ho).1
  have G : ∀ j s : Nat, (ror11bT[j]?).bind (·.2.1) = some s → s < 126 → (i, j) ∈ ror11bD → a.tmps[s]? = some (val c j) := fun j s h1 h2 h3 => frm_at hdis ha j s (hds j s h1) (by omega) (depl_of hdep i j h3 ho hd)
  match i, ho, hL, hi, G with
  | 0, ho, hL, _, G =>
    obtain ⟨hop, hgd⟩ := tab3 htab ho rfl
    have h0 := frm_old ha 14 _ (hold 14 rfl) o14
    exact (dXr ho hgd (hpure 0 (by decide) c L w' hW) (g_mov hop (eval_of h0)))
  | 1, ho, hL, _, G =>
    obtain ⟨hop, hgd⟩ := tab3 htab ho rfl
    have h0 := G 0 101 rfl (by decide) (by decide)
    exact (dXr ho hgd (hpure 1 (by decide) c L w' hW) (g_ixa hop (eval_of h0) rfl (r1 w')))
  | 2, ho, hL, _, G =>
    obtain ⟨hop, hgd⟩ := tab3 htab ho rfl
    have h0 := G 1 102 rfl (by decide) (by decide)
    exact (dXr ho hgd (hpure 2 (by decide) c L w' hW) (g_field hop (eval_of h0) (by kernel_rfl)))
  | 3, ho, hL, _, G =>
    obtain ⟨hop, hgd⟩ := tab3 htab ho rfl
    have h0 := G 2 103 rfl (by decide) (by decide)
    exact (dXr ho hgd (hpure 3 (by decide) c L w' hW) (g_load hop (eval_of h0) (r3 c L w' hW hL (depl_of hdep 3 2 (by decide) ho hd))))
  | 4, ho, hL, _, G =>
    obtain ⟨hop, hgd⟩ := tab3 htab ho rfl
    have h0 := frm_old ha 16 _ (hold 16 rfl) o16
    exact (dXr ho hgd (hpure 4 (by decide) c L w' hW) (g_mov hop (eval_of h0)))
  | 5, ho, hL, _, G =>
    obtain ⟨hop, hgd⟩ := tab3 htab ho rfl
    have h0 := G 4 105 rfl (by decide) (by decide)
    exact (dXr ho hgd (hpure 5 (by decide) c L w' hW) (g_ixa hop (eval_of h0) rfl (r5 w')))
  | 6, ho, hL, _, G =>
    obtain ⟨hop, hgd⟩ := tab3 htab ho rfl
    have h0 := G 5 106 rfl (by decide) (by decide)
    exact (dXr ho hgd (hpure 6 (by decide) c L w' hW) (g_field hop (eval_of h0) (by kernel_rfl)))
  | 7, ho, hL, _, G =>
    obtain ⟨hop, hgd⟩ := tab3 htab ho rfl
    have h0 := G 6 107 rfl (by decide) (by decide)
    exact (dXr ho hgd (hpure 7 (by decide) c L w' hW) (g_load hop (eval_of h0) (r7 c L w' hW hL (depl_of hdep 7 6 (by decide) ho hd))))
  | 8, ho, hL, _, G =>
    obtain ⟨hop, hgd⟩ := tab3 htab ho rfl
    have h0 := G 3 104 rfl (by decide) (by decide)
    have h1 := G 7 108 rfl (by decide) (by decide)
    exact (dXr ho hgd (hpure 8 (by decide) c L w' hW) (g_bin hop (eval_of h0) (eval_of h1) (r8 w')))
  | 9, ho, hL, _, G =>
    obtain ⟨hop, hgd⟩ := tab3 htab ho rfl
    have h0 := frm_old ha 18 _ (hold 18 rfl) o18
    exact (dXr ho hgd (hpure 9 (by decide) c L w' hW) (g_mov hop (eval_of h0)))
  | 10, ho, hL, _, G =>
    obtain ⟨hop, hgd⟩ := tab3 htab ho rfl
    have h0 := frm_old ha 19 _ (hold 19 rfl) o19
    exact (dXr ho hgd (hpure 10 (by decide) c L w' hW) (g_mov hop (eval_of h0)))
  | 11, ho, hL, _, G =>
    obtain ⟨hop, hgd⟩ := tab3 htab ho rfl
    have h0 := G 9 110 rfl (by decide) (by decide)
    have h1 := G 10 111 rfl (by decide) (by decide)
    exact (dXr ho hgd (hpure 11 (by decide) c L w' hW) (g_bin hop (eval_of h0) (eval_of h1) (r11 w')))
  | 12, ho, hL, _, G =>
    obtain ⟨hop, hgd⟩ := tab3 htab ho rfl
    have h0 := G 11 112 rfl (by decide) (by decide)
    exact (dXr ho hgd (hpure 12 (by decide) c L w' hW) (g_mov hop (eval_of h0)))
  | 13, ho, hL, _, G =>
    obtain ⟨hop, hgd⟩ := tab3 htab ho rfl
    have hg := G 12 113 rfl (by decide) (by decide)
    have h0 := frm_old ha 18 _ (hold 18 rfl) o18
    exact doesX_of (doesL_run ho (wanted_at (b := false) hgd (hds 12 113 rfl) hg) (hpure 13 (by decide) c L w' hW) (g_mov hop (eval_of h0)))
  | 14, ho, hL, _, G =>
    obtain ⟨hop, hgd⟩ := tab3 htab ho rfl
    have hg := G 12 113 rfl (by decide) (by decide)
    have h0 := frm_old ha 19 _ (hold 19 rfl) o19
    exact doesX_of (doesL_run ho (wanted_at (b := false) hgd (hds 12 113 rfl) hg) (hpure 14 (by decide) c L w' hW) (g_mov hop (eval_of h0)))
  | 15, ho, hL, _, G =>
    obtain ⟨hop, hgd⟩ := tab3 htab ho rfl
    have hg := G 12 113 rfl (by decide) (by decide)
    have h0 := G 13 114 rfl (by decide) (by decide)
    have h1 := G 14 115 rfl (by decide) (by decide)
    exact doesX_of (doesL_run ho (wanted_at (b := false) hgd (hds 12 113 rfl) hg) (hpure 15 (by decide) c L w' hW) (g_bin hop (eval_of h0) (eval_of h1) (r15 w')))
  | 16, ho, hL, _, G =>
    obtain ⟨hop, hgd⟩ := tab3 htab ho rfl
    have hg := G 12 113 rfl (by decide) (by decide)
    have h0 := G 15 116 rfl (by decide) (by decide)
    exact doesX_of (doesL_run ho (wanted_at (b := false) hgd (hds 12 113 rfl) hg) (hpure 16 (by decide) c L w' hW) (g_mov hop (eval_of h0)))
  | 17, ho, hL, _, G =>
    obtain ⟨hop, hgd⟩ := tab3 htab ho rfl
    have hg := G 16 117 rfl (by decide) (by decide)
    have h0 := frm_old ha 4 _ (hold 4 rfl) o4
    exact doesX_of (doesL_run ho (wanted_at (b := true) hgd (hds 16 117 rfl) hg) (hpure 17 (by decide) c L w' hW) (g_field hop (eval_of h0) (by kernel_rfl)))
  | 18, ho, hL, _, G =>
    obtain ⟨hop, hgd⟩ := tab3 htab ho rfl
    have hg := G 16 117 rfl (by decide) (by decide)
    have h0 := G 17 118 rfl (by decide) (by decide)
    exact doesX_of (doesL_run ho (wanted_at (b := true) hgd (hds 16 117 rfl) hg) (hpure 18 (by decide) c L w' hW) (g_load hop (eval_of h0) (r18 c L w' hW hL (depl_of hdep 18 17 (by decide) ho hd))))
  | 19, ho, hL, _, G =>
    obtain ⟨hop, hgd⟩ := tab3 htab ho rfl
    have hg := G 16 117 rfl (by decide) (by decide)
    have h0 := frm_old ha 5 _ (hold 5 rfl) o5
    exact doesX_of (doesL_run ho (wanted_at (b := true) hgd (hds 16 117 rfl) hg) (hpure 19 (by decide) c L w' hW) (g_field hop (eval_of h0) (by kernel_rfl)))
  | 20, ho, hL, _, G =>
    obtain ⟨hop, hgd⟩ := tab3 htab ho rfl
    have hg := G 16 117 rfl (by decide) (by decide)
    have h0 := G 19 120 rfl (by decide) (by decide)
    exact doesX_of (doesL_run ho (wanted_at (b := true) hgd (hds 16 117 rfl) hg) (hpure 20 (by decide) c L w' hW) (g_load hop (eval_of h0) (r20 c L w' hW hL (depl_of hdep 20 19 (by decide) ho hd))))
  | 21, ho, hL, _, G =>
    obtain ⟨hop, hgd⟩ := tab3 htab ho rfl
    have hg := G 16 117 rfl (by decide) (by decide)
    have h0 := G 18 119 rfl (by decide) (by decide)
    have h1 := G 20 121 rfl (by decide) (by decide)
    exact doesX_of (doesL_run ho (wanted_at (b := true) hgd (hds 16 117 rfl) hg) (hpure 21 (by decide) c L w' hW) (g_bin hop (eval_of h0) (eval_of h1) (r21 w')))
  | 22, ho, hL, _, G =>
    obtain ⟨hop, hgd⟩ := tab3 htab ho rfl
    have hg := G 12 113 rfl (by decide) (by decide)
    have h0 := G 16 117 rfl (by decide) (by decide)
    have h1 := G 21 122 rfl (by decide) (by decide)
    exact doesX_of (doesL_run ho (wanted_at (b := false) hgd (hds 12 113 rfl) hg) (hpure 22 (by decide) c L w' hW) (by rw [run_pick _ _ _ _ _ hop true (eval_of h0)]; exact congrArg (fun v => Result.ok (Next.value v) w') (eval_of h1)))
  | 23, ho, hL, _, G =>
    obtain ⟨hop, hgd⟩ := tab3 htab ho rfl
    have h0 := G 12 113 rfl (by decide) (by decide)
    have h2 := G 22 123 rfl (by decide) (by decide)
    exact (dXr ho hgd (hpure 23 (by decide) c L w' hW) (by rw [run_pick _ _ _ _ _ hop false (eval_of h0)]; exact congrArg (fun v => Result.ok (Next.value v) w') (eval_of h2)))
  | 24, ho, hL, _, G =>
    obtain ⟨hop, hgd⟩ := tab3 htab ho rfl
    have h0 := G 8 109 rfl (by decide) (by decide)
    have h1 := G 23 124 rfl (by decide) (by decide)
    exact (dXr ho hgd (hpure 24 (by decide) c L w' hW) (g_bin hop (eval_of h0) (eval_of h1) (r24 w')))
  | (i + 25), ho, hL, hi, _ => exact absurd hi (by omega)
def vror11c (P Z : Nat) (m n : Int) (k1 k2 : Bs) (_c : Unit) (i : Nat) : Value := match i with
  | 0 => (.slice (some ⟨P, 0, none⟩) 2 2)
  | 1 => (.pointer (some ⟨P, 0, none⟩))
  | 2 => (.pointer (some ⟨P, 0, none⟩))
  | 3 => (S k1)
  | 4 => (.slice (some ⟨Z, 0, none⟩) 2 2)
  | 5 => (.pointer (some ⟨Z, 0, none⟩))
  | 6 => (.pointer (some ⟨Z, 0, none⟩))
  | 7 => (S k2)
  | 8 => (.bool false)
  | 9 => (I m)
  | 10 => (I n)
  | 11 => (.bool false)
  | 12 => (.bool false)
  | 13 => (I m)
  | 14 => (I n)
  | 15 => (.bool false)
  | 16 => (.bool false)
  | 17 => undef
  | 18 => undef
  | 19 => undef
  | 20 => undef
  | 21 => undef
  | 22 => (.bool false)
  | 23 => (.bool false)
  | 24 => (.bool false)
  | _ => undef
def ror11cT : List (Op × Option Tmp × Option (Nat × Bool)) := [
  (.move (.tmp 14), some 101, none),
  (.indexAddr 43 (.tmp 101) (.const (.int .i64 0)), some 102, none),
  (.fieldAddr 30 (.tmp 102) 0, some 103, none),
  (.load 9 (.tmp 103), some 104, none),
  (.move (.tmp 16), some 105, none),
  (.indexAddr 43 (.tmp 105) (.const (.int .i64 0)), some 106, none),
  (.fieldAddr 30 (.tmp 106) 0, some 107, none),
  (.load 9 (.tmp 107), some 108, none),
  (.binOp .lss 9 (.tmp 104) (.tmp 108) 9, some 109, none),
  (.move (.tmp 18), some 110, none),
  (.move (.tmp 19), some 111, none),
  (.binOp .lss 3 (.tmp 110) (.tmp 111) 3, some 112, none),
  (.move (.tmp 112), some 113, none),
  (.move (.tmp 18), some 114, some (12, false)),
  (.move (.tmp 19), some 115, some (12, false)),
  (.binOp .eql 3 (.tmp 114) (.tmp 115) 3, some 116, some (12, false)),
  (.move (.tmp 116), some 117, some (12, false)),
  (.fieldAddr 40 (.tmp 4) 0, some 118, some (16, true)),
  (.load 3 (.tmp 118), some 119, some (16, true)),
  (.fieldAddr 40 (.tmp 5) 0, some 120, some (16, true)),
  (.load 3 (.tmp 120), some 121, some (16, true)),
  (.binOp .lss 3 (.tmp 119) (.tmp 121) 3, some 122, some (16, true)),
  (.pick (.tmp 117) (.tmp 122) (.const (.bool false)), some 123, some (12, false)),
  (.pick (.tmp 113) (.const (.bool true)) (.tmp 123), some 124, none),
  (.binOp .neq 4 (.tmp 109) (.tmp 124) 4, some 125, none)]
def ror11cD : List (Nat × Nat) := [(1, 0), (2, 1), (3, 2), (5, 4), (6, 5), (7, 6), (8, 3), (8, 7), (11, 9), (11, 10), (12, 11), (13, 12), (14, 12), (15, 12), (15, 13), (15, 14), (16, 12), (16, 15), (17, 16), (18, 16), (19, 16), (20, 16), (21, 16), (22, 12), (22, 16), (22, 21), (23, 12), (23, 22), (24, 8), (24, 23)]
set_option maxHeartbeats 4000000 in
theorem ror11c {ops : Array Oper} {id : Nat} {Q : Exit → Act → World → Prop} (P Z : Nat) (m n : Int) (k1 k2 : Bs) (htab : ops.toList.map (fun o => (o.op, o.dst, o.guard)) = ror11cT) (hdep : deplB ror11cD ops = true) (hac : acB ops = true)
    (a0 : Act) (w : World) (hsz : 126 ≤ a0.tmps.size) (o14 : a0.tmps[14]? = some (.slice (some ⟨P, 0, none⟩) 2 2)) (o16 : a0.tmps[16]? = some (.slice (some ⟨Z, 0, none⟩) 2 2)) (o18 : a0.tmps[18]? = some (I m)) (o19 : a0.tmps[19]? = some (I n))
    (Wd : Unit → (Nat → Bool) → World → Prop) (h0 : ∃ c, Wd c (fun _ => false) w.drew) (hpure : ∀ i, i ∉ ([] : List Nat) → ∀ c L W, Wd c L W → Wd c (upd L i) W)
    (r1 : ∀ W, (Instr.indexAt 43 (.slice (some ⟨P, 0, none⟩) 2 2) (.int .i64 0)).run Tryz.prog W = .ok (.pointer (some ⟨P, 0, none⟩)) W)
    (r3 : ∀ c L W, Wd c L W → L 3 = false → L 2 = true → (Instr.loadAt 9 (.pointer (some ⟨P, 0, none⟩))).run Tryz.prog W = .ok (S k1) W)
    (r5 : ∀ W, (Instr.indexAt 43 (.slice (some ⟨Z, 0, none⟩) 2 2) (.int .i64 0)).run Tryz.prog W = .ok (.pointer (some ⟨Z, 0, none⟩)) W)
    (r7 : ∀ c L W, Wd c L W → L 7 = false → L 6 = true → (Instr.loadAt 9 (.pointer (some ⟨Z, 0, none⟩))).run Tryz.prog W = .ok (S k2) W)
    (r8 : ∀ W, (do eqGuard .lss 9 (.tmp 104) (.tmp 108) (S k1) (S k2); binOp .lss 9 (S k1) (S k2)).run Tryz.prog W = .ok (.bool false) W)
    (r11 : ∀ W, (do eqGuard .lss 3 (.tmp 110) (.tmp 111) (I m) (I n); binOp .lss 3 (I m) (I n)).run Tryz.prog W = .ok (.bool false) W)
    (r15 : ∀ W, (do eqGuard .eql 3 (.tmp 114) (.tmp 115) (I m) (I n); binOp .eql 3 (I m) (I n)).run Tryz.prog W = .ok (.bool false) W)
    (r24 : ∀ W, (do eqGuard .neq 4 (.tmp 109) (.tmp 124) (.bool false) (.bool false); binOp .neq 4 (.bool false) (.bool false)).run Tryz.prog W = .ok (.bool false) W)
    (hend : ∀ c L W, (∀ i, i < 25 → L i = true) → Wd c L W → Q .normal (((((((((((((((((((((((((a0.put (some 101) (.slice (some ⟨P, 0, none⟩) 2 2)).put (some 102) (.pointer (some ⟨P, 0, none⟩))).put (some 103) (.pointer (some ⟨P, 0, none⟩))).put (some 104) (S k1)).put (some 105) (.slice (some ⟨Z, 0, none⟩) 2 2)).put (some 106) (.pointer (some ⟨Z, 0, none⟩))).put (some 107) (.pointer (some ⟨Z, 0, none⟩))).put (some 108) (S k2)).put (some 109) (.bool false)).put (some 110) (I m)).put (some 111) (I n)).put (some 112) (.bool false)).put (some 113) (.bool false)).put (some 114) (I m)).put (some 115) (I n)).put (some 116) (.bool false)).put (some 117) (.bool false)).put (some 118) undef).put (some 119) undef).put (some 120) undef).put (some 121) undef).put (some 122) undef).put (some 123) (.bool false)).put (some 124) (.bool false)).put (some 125) (.bool false)) W) : (Code.region id ops true).wp Tryz.prog Q a0 w := by
  let val : Unit → Nat → Value := vror11c P Z m n k1 k2
  have hosz : ops.size = 25 := by
    have := congrArg List.length htab
    simpa [ror11cT] using this
  have hds : ∀ i s, (ror11cT[i]?).bind (·.2.1) = some s → dstOf ops i = some s := fun i s hi => by rw [tab_dst htab, hi]
  have hdisB : disL ror11cT = true := by rfl
  have hdis := disL_of htab hdisB
  have hold : ∀ s, ror11cT.all (fun x => !(x.2.1 == some s)) = true → (List.range ops.size).all (fun j => !(dstOf ops j == some s)) = true := fun s h => holdL htab s h
  refine region_detX val Wd (hac_of hac) hdis h0 ?_ ?_
  rotate_left
  · intro c L W hall hW
    have := hend c L W (by rw [← hosz]; exact hall) hW
    have e : frm ops a0 (val c) (fun _ => true) ops.size = (((((((((((((((((((((((((a0.put (some 101) (.slice (some ⟨P, 0, none⟩) 2 2)).put (some 102) (.pointer (some ⟨P, 0, none⟩))).put (some 103) (.pointer (some ⟨P, 0, none⟩))).put (some 104) (S k1)).put (some 105) (.slice (some ⟨Z, 0, none⟩) 2 2)).put (some 106) (.pointer (some ⟨Z, 0, none⟩))).put (some 107) (.pointer (some ⟨Z, 0, none⟩))).put (some 108) (S k2)).put (some 109) (.bool false)).put (some 110) (I m)).put (some 111) (I n)).put (some 112) (.bool false)).put (some 113) (.bool false)).put (some 114) (I m)).put (some 115) (I n)).put (some 116) (.bool false)).put (some 117) (.bool false)).put (some 118) undef).put (some 119) undef).put (some 120) undef).put (some 121) undef).put (some 122) undef).put (some 123) (.bool false)).put (some 124) (.bool false)).put (some 125) (.bool false)) := by
      rw [hosz]
      simp only [frm, if_true]
      rw [tab_dst htab 0, tab_dst htab 1, tab_dst htab 2, tab_dst htab 3, tab_dst htab 4, tab_dst htab 5, tab_dst htab 6, tab_dst htab 7, tab_dst htab 8, tab_dst htab 9, tab_dst htab 10, tab_dst htab 11, tab_dst htab 12, tab_dst htab 13, tab_dst htab 14, tab_dst htab 15, tab_dst htab 16, tab_dst htab 17, tab_dst htab 18, tab_dst htab 19, tab_dst htab 20, tab_dst htab 21, tab_dst htab 22, tab_dst htab 23, tab_dst htab 24]
      rfl
    rw [e]
    exact this
  intro i o ho c L a w' hL hd ha hW
  have hi : i < 25 := by rw [← hosz]; exact (Array.getElem?_eq_some_iff.1 ho).1
  have G : ∀ j s : Nat, (ror11cT[j]?).bind (·.2.1) = some s → s < 126 → (i, j) ∈ ror11cD → a.tmps[s]? = some (val c j) := fun j s h1 h2 h3 => frm_at hdis ha j s (hds j s h1) (by omega) (depl_of hdep i j h3 ho hd)
  match i, ho, hL, hi, G with
  | 0, ho, hL, _, G =>
    obtain ⟨hop, hgd⟩ := tab3 htab ho rfl
    have h0 := frm_old ha 14 _ (hold 14 rfl) o14
    exact (dXr ho hgd (hpure 0 (by decide) c L w' hW) (g_mov hop (eval_of h0)))
  | 1, ho, hL, _, G =>
    obtain ⟨hop, hgd⟩ := tab3 htab ho rfl
    have h0 := G 0 101 rfl (by decide) (by decide)
    exact (dXr ho hgd (hpure 1 (by decide) c L w' hW) (g_ixa hop (eval_of h0) rfl (r1 w')))
  | 2, ho, hL, _, G =>
    obtain ⟨hop, hgd⟩ := tab3 htab ho rfl
    have h0 := G 1 102 rfl (by decide) (by decide)
    exact (dXr ho hgd (hpure 2 (by decide) c L w' hW) (g_field hop (eval_of h0) (by kernel_rfl)))
  | 3, ho, hL, _, G =>
    obtain ⟨hop, hgd⟩ := tab3 htab ho rfl
    have h0 := G 2 103 rfl (by decide) (by decide)
    exact (dXr ho hgd (hpure 3 (by decide) c L w' hW) (g_load hop (eval_of h0) (r3 c L w' hW hL (depl_of hdep 3 2 (by decide) ho hd))))
  | 4, ho, hL, _, G =>
    obtain ⟨hop, hgd⟩ := tab3 htab ho rfl
    have h0 := frm_old ha 16 _ (hold 16 rfl) o16
    exact (dXr ho hgd (hpure 4 (by decide) c L w' hW) (g_mov hop (eval_of h0)))
  | 5, ho, hL, _, G =>
    obtain ⟨hop, hgd⟩ := tab3 htab ho rfl
    have h0 := G 4 105 rfl (by decide) (by decide)
    exact (dXr ho hgd (hpure 5 (by decide) c L w' hW) (g_ixa hop (eval_of h0) rfl (r5 w')))
  | 6, ho, hL, _, G =>
    obtain ⟨hop, hgd⟩ := tab3 htab ho rfl
    have h0 := G 5 106 rfl (by decide) (by decide)
    exact (dXr ho hgd (hpure 6 (by decide) c L w' hW) (g_field hop (eval_of h0) (by kernel_rfl)))
  | 7, ho, hL, _, G =>
    obtain ⟨hop, hgd⟩ := tab3 htab ho rfl
    have h0 := G 6 107 rfl (by decide) (by decide)
    exact (dXr ho hgd (hpure 7 (by decide) c L w' hW) (g_load hop (eval_of h0) (r7 c L w' hW hL (depl_of hdep 7 6 (by decide) ho hd))))
  | 8, ho, hL, _, G =>
    obtain ⟨hop, hgd⟩ := tab3 htab ho rfl
    have h0 := G 3 104 rfl (by decide) (by decide)
    have h1 := G 7 108 rfl (by decide) (by decide)
    exact (dXr ho hgd (hpure 8 (by decide) c L w' hW) (g_bin hop (eval_of h0) (eval_of h1) (r8 w')))
  | 9, ho, hL, _, G =>
    obtain ⟨hop, hgd⟩ := tab3 htab ho rfl
    have h0 := frm_old ha 18 _ (hold 18 rfl) o18
    exact (dXr ho hgd (hpure 9 (by decide) c L w' hW) (g_mov hop (eval_of h0)))
  | 10, ho, hL, _, G =>
    obtain ⟨hop, hgd⟩ := tab3 htab ho rfl
    have h0 := frm_old ha 19 _ (hold 19 rfl) o19
    exact (dXr ho hgd (hpure 10 (by decide) c L w' hW) (g_mov hop (eval_of h0)))
  | 11, ho, hL, _, G =>
    obtain ⟨hop, hgd⟩ := tab3 htab ho rfl
    have h0 := G 9 110 rfl (by decide) (by decide)
    have h1 := G 10 111 rfl (by decide) (by decide)
    exact (dXr ho hgd (hpure 11 (by decide) c L w' hW) (g_bin hop (eval_of h0) (eval_of h1) (r11 w')))
  | 12, ho, hL, _, G =>
    obtain ⟨hop, hgd⟩ := tab3 htab ho rfl
    have h0 := G 11 112 rfl (by decide) (by decide)
    exact (dXr ho hgd (hpure 12 (by decide) c L w' hW) (g_mov hop (eval_of h0)))
  | 13, ho, hL, _, G =>
    obtain ⟨hop, hgd⟩ := tab3 htab ho rfl
    have hg := G 12 113 rfl (by decide) (by decide)
    have h0 := frm_old ha 18 _ (hold 18 rfl) o18
    exact doesX_of (doesL_run ho (wanted_at (b := false) hgd (hds 12 113 rfl) hg) (hpure 13 (by decide) c L w' hW) (g_mov hop (eval_of h0)))
  | 14, ho, hL, _, G =>
    obtain ⟨hop, hgd⟩ := tab3 htab ho rfl
    have hg := G 12 113 rfl (by decide) (by decide)
    have h0 := frm_old ha 19 _ (hold 19 rfl) o19
    exact doesX_of (doesL_run ho (wanted_at (b := false) hgd (hds 12 113 rfl) hg) (hpure 14 (by decide) c L w' hW) (g_mov hop (eval_of h0)))
  | 15, ho, hL, _, G =>
    obtain ⟨hop, hgd⟩ := tab3 htab ho rfl
    have hg := G 12 113 rfl (by decide) (by decide)
    have h0 := G 13 114 rfl (by decide) (by decide)
    have h1 := G 14 115 rfl (by decide) (by decide)
    exact doesX_of (doesL_run ho (wanted_at (b := false) hgd (hds 12 113 rfl) hg) (hpure 15 (by decide) c L w' hW) (g_bin hop (eval_of h0) (eval_of h1) (r15 w')))
  | 16, ho, hL, _, G =>
    obtain ⟨hop, hgd⟩ := tab3 htab ho rfl
    have hg := G 12 113 rfl (by decide) (by decide)
    have h0 := G 15 116 rfl (by decide) (by decide)
    exact doesX_of (doesL_run ho (wanted_at (b := false) hgd (hds 12 113 rfl) hg) (hpure 16 (by decide) c L w' hW) (g_mov hop (eval_of h0)))
  | 17, ho, hL, _, G =>
    obtain ⟨hop, hgd⟩ := tab3 htab ho rfl
    have hg := G 16 117 rfl (by decide) (by decide)
    exact doesX_of (doesL_skip ho (wanted_at (b := false) hgd (hds 16 117 rfl) hg) (hpure 17 (by decide) c L w' hW) rfl)
  | 18, ho, hL, _, G =>
    obtain ⟨hop, hgd⟩ := tab3 htab ho rfl
    have hg := G 16 117 rfl (by decide) (by decide)
    exact doesX_of (doesL_skip ho (wanted_at (b := false) hgd (hds 16 117 rfl) hg) (hpure 18 (by decide) c L w' hW) rfl)
  | 19, ho, hL, _, G =>
    obtain ⟨hop, hgd⟩ := tab3 htab ho rfl
    have hg := G 16 117 rfl (by decide) (by decide)
    exact doesX_of (doesL_skip ho (wanted_at (b := false) hgd (hds 16 117 rfl) hg) (hpure 19 (by decide) c L w' hW) rfl)
  | 20, ho, hL, _, G =>
    obtain ⟨hop, hgd⟩ := tab3 htab ho rfl
    have hg := G 16 117 rfl (by decide) (by decide)
    exact doesX_of (doesL_skip ho (wanted_at (b := false) hgd (hds 16 117 rfl) hg) (hpure 20 (by decide) c L w' hW) rfl)
  | 21, ho, hL, _, G =>
    obtain ⟨hop, hgd⟩ := tab3 htab ho rfl
    have hg := G 16 117 rfl (by decide) (by decide)
    exact doesX_of (doesL_skip ho (wanted_at (b := false) hgd (hds 16 117 rfl) hg) (hpure 21 (by decide) c L w' hW) rfl)
  | 22, ho, hL, _, G =>
    obtain ⟨hop, hgd⟩ := tab3 htab ho rfl
    have hg := G 12 113 rfl (by decide) (by decide)
    have h0 := G 16 117 rfl (by decide) (by decide)
    have h1 := G 21 122 rfl (by decide) (by decide)
    exact doesX_of (doesL_run ho (wanted_at (b := false) hgd (hds 12 113 rfl) hg) (hpure 22 (by decide) c L w' hW) (by rw [run_pick _ _ _ _ _ hop false (eval_of h0)]; exact congrArg (fun v => Result.ok (Next.value v) w') rfl))
  | 23, ho, hL, _, G =>
    obtain ⟨hop, hgd⟩ := tab3 htab ho rfl
    have h0 := G 12 113 rfl (by decide) (by decide)
    have h2 := G 22 123 rfl (by decide) (by decide)
    exact (dXr ho hgd (hpure 23 (by decide) c L w' hW) (by rw [run_pick _ _ _ _ _ hop false (eval_of h0)]; exact congrArg (fun v => Result.ok (Next.value v) w') (eval_of h2)))
  | 24, ho, hL, _, G =>
    obtain ⟨hop, hgd⟩ := tab3 htab ho rfl
    have h0 := G 8 109 rfl (by decide) (by decide)
    have h1 := G 23 124 rfl (by decide) (by decide)
    exact (dXr ho hgd (hpure 24 (by decide) c L w' hW) (g_bin hop (eval_of h0) (eval_of h1) (r24 w')))
  | (i + 25), ho, hL, hi, _ => exact absurd hi (by omega)
def vror13a (X Y P Z : Nat) (ia ib : Int) (su k1 k2 : Bs) (b : Bool) (_c : Unit) (i : Nat) : Value := match i with
  | 0 => (.pointer (some ⟨X, 2, none⟩))
  | 1 => (S su)
  | 2 => (.pointer (some ⟨Y, 2, none⟩))
  | 3 => (S su)
  | 4 => (.bool true)
  | 5 => (.bool true)
  | 6 => (.slice (some ⟨P, 0, none⟩) 2 2)
  | 7 => (.pointer (some ⟨P, 2, none⟩))
  | 8 => (.pointer (some ⟨P, 2, none⟩))
  | 9 => (S k1)
  | 10 => (.slice (some ⟨Z, 0, none⟩) 2 2)
  | 11 => (.pointer (some ⟨Z, 2, none⟩))
  | 12 => (.pointer (some ⟨Z, 2, none⟩))
  | 13 => (S k2)
  | 14 => (.bool b)
  | 15 => (.pointer (some ⟨X, 0, none⟩))
  | 16 => (I ia)
  | 17 => (.pointer (some ⟨Y, 0, none⟩))
  | 18 => (I ib)
  | 19 => (.bool b)
  | 20 => (.bool false)
  | 21 => (.bool false)
  | _ => undef
def ror13aT : List (Op × Option Tmp × Option (Nat × Bool)) := [
  (.fieldAddr 40 (.tmp 4) 2, some 126, none),
  (.load 9 (.tmp 126), some 127, none),
  (.fieldAddr 40 (.tmp 5) 2, some 128, none),
  (.load 9 (.tmp 128), some 129, none),
  (.binOp .eql 9 (.tmp 127) (.tmp 129) 9, some 130, none),
  (.move (.tmp 130), some 131, none),
  (.move (.tmp 14), some 132, some (5, true)),
  (.indexAddr 43 (.tmp 132) (.const (.int .i64 1)), some 133, some (5, true)),
  (.fieldAddr 30 (.tmp 133) 0, some 134, some (5, true)),
  (.load 9 (.tmp 134), some 135, some (5, true)),
  (.move (.tmp 16), some 136, some (5, true)),
  (.indexAddr 43 (.tmp 136) (.const (.int .i64 1)), some 137, some (5, true)),
  (.fieldAddr 30 (.tmp 137) 0, some 138, some (5, true)),
  (.load 9 (.tmp 138), some 139, some (5, true)),
  (.binOp .lss 9 (.tmp 135) (.tmp 139) 9, some 140, some (5, true)),
  (.fieldAddr 40 (.tmp 4) 0, some 141, some (5, true)),
  (.load 3 (.tmp 141), some 142, some (5, true)),
  (.fieldAddr 40 (.tmp 5) 0, some 143, some (5, true)),
  (.load 3 (.tmp 143), some 144, some (5, true)),
  (.binOp .lss 3 (.tmp 142) (.tmp 144) 3, some 145, some (5, true)),
  (.binOp .neq 4 (.tmp 140) (.tmp 145) 4, some 146, some (5, true)),
  (.pick (.tmp 131) (.tmp 146) (.const (.bool false)), some 147, none)]
def ror13aD : List (Nat × Nat) := [(1, 0), (3, 2), (4, 1), (4, 3), (5, 4), (6, 5), (7, 5), (7, 6), (8, 5), (8, 7), (9, 5), (9, 8), (10, 5), (11, 5), (11, 10), (12, 5), (12, 11), (13, 5), (13, 12), (14, 5), (14, 9), (14, 13), (15, 5), (16, 5), (16, 15), (17, 5), (18, 5), (18, 17), (19, 5), (19, 16), (19, 18), (20, 5), (20, 14), (20, 19), (21, 5), (21, 20)]
set_option maxHeartbeats 4000000 in
theorem ror13a {ops : Array Oper} {id : Nat} {Q : Exit → Act → World → Prop} (X Y P Z : Nat) (ia ib : Int) (su k1 k2 : Bs) (b : Bool) (htab : ops.toList.map (fun o => (o.op, o.dst, o.guard)) = ror13aT) (hdep : deplB ror13aD ops = true) (hac : acB ops = true)
    (a0 : Act) (w : World) (hsz : 148 ≤ a0.tmps.size) (o4 : a0.tmps[4]? = some (.pointer (some ⟨X, 0, none⟩))) (o5 : a0.tmps[5]? = some (.pointer (some ⟨Y, 0, none⟩))) (o14 : a0.tmps[14]? = some (.slice (some ⟨P, 0, none⟩) 2 2)) (o16 : a0.tmps[16]? = some (.slice (some ⟨Z, 0, none⟩) 2 2))
    (Wd : Unit → (Nat → Bool) → World → Prop) (h0 : ∃ c, Wd c (fun _ => false) w.drew) (hpure : ∀ i, i ∉ ([] : List Nat) → ∀ c L W, Wd c L W → Wd c (upd L i) W)
    (r1 : ∀ c L W, Wd c L W → L 1 = false → L 0 = true → (Instr.loadAt 9 (.pointer (some ⟨X, 2, none⟩))).run Tryz.prog W = .ok (S su) W)
    (r3 : ∀ c L W, Wd c L W → L 3 = false → L 2 = true → (Instr.loadAt 9 (.pointer (some ⟨Y, 2, none⟩))).run Tryz.prog W = .ok (S su) W)
    (r4 : ∀ W, (do eqGuard .eql 9 (.tmp 127) (.tmp 129) (S su) (S su); binOp .eql 9 (S su) (S su)).run Tryz.prog W = .ok (.bool true) W)
    (r7 : ∀ W, (Instr.indexAt 43 (.slice (some ⟨P, 0, none⟩) 2 2) (.int .i64 1)).run Tryz.prog W = .ok (.pointer (some ⟨P, 2, none⟩)) W)
    (r9 : ∀ c L W, Wd c L W → L 9 = false → L 8 = true → (Instr.loadAt 9 (.pointer (some ⟨P, 2, none⟩))).run Tryz.prog W = .ok (S k1) W)
    (r11 : ∀ W, (Instr.indexAt 43 (.slice (some ⟨Z, 0, none⟩) 2 2) (.int .i64 1)).run Tryz.prog W = .ok (.pointer (some ⟨Z, 2, none⟩)) W)
    (r13 : ∀ c L W, Wd c L W → L 13 = false → L 12 = true → (Instr.loadAt 9 (.pointer (some ⟨Z, 2, none⟩))).run Tryz.prog W = .ok (S k2) W)
    (r14 : ∀ W, (do eqGuard .lss 9 (.tmp 135) (.tmp 139) (S k1) (S k2); binOp .lss 9 (S k1) (S k2)).run Tryz.prog W = .ok (.bool b) W)
    (r16 : ∀ c L W, Wd c L W → L 16 = false → L 15 = true → (Instr.loadAt 3 (.pointer (some ⟨X, 0, none⟩))).run Tryz.prog W = .ok (I ia) W)
    (r18 : ∀ c L W, Wd c L W → L 18 = false → L 17 = true → (Instr.loadAt 3 (.pointer (some ⟨Y, 0, none⟩))).run Tryz.prog W = .ok (I ib) W)
    (r19 : ∀ W, (do eqGuard .lss 3 (.tmp 142) (.tmp 144) (I ia) (I ib); binOp .lss 3 (I ia) (I ib)).run Tryz.prog W = .ok (.bool b) W)
    (r20 : ∀ W, (do eqGuard .neq 4 (.tmp 140) (.tmp 145) (.bool b) (.bool b); binOp .neq 4 (.bool b) (.bool b)).run Tryz.prog W = .ok (.bool false) W)
    (hend : ∀ c L W, (∀ i, i < 22 → L i = true) → Wd c L W → Q .normal ((((((((((((((((((((((a0.put (some 126) (.pointer (some ⟨X, 2, none⟩))).put (some 127) (S su)).put (some 128) (.pointer (some ⟨Y, 2, none⟩))).put (some 129) (S su)).put (some 130) (.bool true)).put (some 131) (.bool true)).put (some 132) (.slice (some ⟨P, 0, none⟩) 2 2)).put (some 133) (.pointer (some ⟨P, 2, none⟩))).put (some 134) (.pointer (some ⟨P, 2, none⟩))).put (some 135) (S k1)).put (some 136) (.slice (some ⟨Z, 0, none⟩) 2 2)).put (some 137) (.pointer (some ⟨Z, 2, none⟩))).put (some 138) (.pointer (some ⟨Z, 2, none⟩))).put (some 139) (S k2)).put (some 140) (.bool b)).put (some 141) (.pointer (some ⟨X, 0, none⟩))).put (some 142) (I ia)).put (some 143) (.pointer (some ⟨Y, 0, none⟩))).put (some 144) (I ib)).put (some 145) (.bool b)).put (some 146) (.bool false)).put (some 147) (.bool false)) W) : (Code.region id ops true).wp Tryz.prog Q a0 w := by
  let val : Unit → Nat → Value := vror13a X Y P Z ia ib su k1 k2 b
  have hosz : ops.size = 22 := by
    have := congrArg List.length htab
    simpa [ror13aT] using this
  have hds : ∀ i s, (ror13aT[i]?).bind (·.2.1) = some s → dstOf ops i = some s := fun i s hi => by rw [tab_dst htab, hi]
  have hdisB : disL ror13aT = true := by rfl
  have hdis := disL_of htab hdisB
  have hold : ∀ s, ror13aT.all (fun x => !(x.2.1 == some s)) = true → (List.range ops.size).all (fun j => !(dstOf ops j == some s)) = true := fun s h => holdL htab s h
  refine region_detX val Wd (hac_of hac) hdis h0 ?_ ?_
  rotate_left
  · intro c L W hall hW
    have := hend c L W (by rw [← hosz]; exact hall) hW
    have e : frm ops a0 (val c) (fun _ => true) ops.size = ((((((((((((((((((((((a0.put (some 126) (.pointer (some ⟨X, 2, none⟩))).put (some 127) (S su)).put (some 128) (.pointer (some ⟨Y, 2, none⟩))).put (some 129) (S su)).put (some 130) (.bool true)).put (some 131) (.bool true)).put (some 132) (.slice (some ⟨P, 0, none⟩) 2 2)).put (some 133) (.pointer (some ⟨P, 2, none⟩))).put (some 134) (.pointer (some ⟨P, 2, none⟩))).put (some 135) (S k1)).put (some 136) (.slice (some ⟨Z, 0, none⟩) 2 2)).put (some 137) (.pointer (some ⟨Z, 2, none⟩))).put (some 138) (.pointer (some ⟨Z, 2, none⟩))).put (some 139) (S k2)).put (some 140) (.bool b)).put (some 141) (.pointer (some ⟨X, 0, none⟩))).put (some 142) (I ia)).put (some 143) (.pointer (some ⟨Y, 0, none⟩))).put (some 144) (I ib)).put (some 145) (.bool b)).put (some 146) (.bool false)).put (some 147) (.bool false)) := by
      rw [hosz]
      simp only [frm, if_true]
      rw [tab_dst htab 0, tab_dst htab 1, tab_dst htab 2, tab_dst htab 3, tab_dst htab 4, tab_dst htab 5, tab_dst htab 6, tab_dst htab 7, tab_dst htab 8, tab_dst htab 9, tab_dst htab 10, tab_dst htab 11, tab_dst htab 12, tab_dst htab 13, tab_dst htab 14, tab_dst htab 15, tab_dst htab 16, tab_dst htab 17, tab_dst htab 18, tab_dst htab 19, tab_dst htab 20, tab_dst htab 21]
      rfl
    rw [e]
    exact this
  intro i o ho c L a w' hL hd ha hW
  have hi : i < 22 := by rw [← hosz]; exact (Array.getElem?_eq_some_iff.1 ho).1
  have G : ∀ j s : Nat, (ror13aT[j]?).bind (·.2.1) = some s → s < 148 → (i, j) ∈ ror13aD → a.tmps[s]? = some (val c j) := fun j s h1 h2 h3 => frm_at hdis ha j s (hds j s h1) (by omega) (depl_of hdep i j h3 ho hd)
  match i, ho, hL, hi, G with
  | 0, ho, hL, _, G =>
    obtain ⟨hop, hgd⟩ := tab3 htab ho rfl
    have h0 := frm_old ha 4 _ (hold 4 rfl) o4
    exact (dXr ho hgd (hpure 0 (by decide) c L w' hW) (g_field hop (eval_of h0) (by kernel_rfl)))
  | 1, ho, hL, _, G =>
    obtain ⟨hop, hgd⟩ := tab3 htab ho rfl
    have h0 := G 0 126 rfl (by decide) (by decide)
    exact (dXr ho hgd (hpure 1 (by decide) c L w' hW) (g_load hop (eval_of h0) (r1 c L w' hW hL (depl_of hdep 1 0 (by decide) ho hd))))
  | 2, ho, hL, _, G =>
    obtain ⟨hop, hgd⟩ := tab3 htab ho rfl
    have h0 := frm_old ha 5 _ (hold 5 rfl) o5
    exact (dXr ho hgd (hpure 2 (by decide) c L w' hW) (g_field hop (eval_of h0) (by kernel_rfl)))
  | 3, ho, hL, _, G =>
    obtain ⟨hop, hgd⟩ := tab3 htab ho rfl
    have h0 := G 2 128 rfl (by decide) (by decide)
    exact (dXr ho hgd (hpure 3 (by decide) c L w' hW) (g_load hop (eval_of h0) (r3 c L w' hW hL (depl_of hdep 3 2 (by decide) ho hd))))
  | 4, ho, hL, _, G =>
    obtain ⟨hop, hgd⟩ := tab3 htab ho rfl
    have h0 := G 1 127 rfl (by decide) (by decide)
    have h1 := G 3 129 rfl (by decide) (by decide)
    exact (dXr ho hgd (hpure 4 (by decide) c L w' hW) (g_bin hop (eval_of h0) (eval_of h1) (r4 w')))
  | 5, ho, hL, _, G =>
    obtain ⟨hop, hgd⟩ := tab3 htab ho rfl
    have h0 := G 4 130 rfl (by decide) (by decide)
    exact (dXr ho hgd (hpure 5 (by decide) c L w' hW) (g_mov hop (eval_of h0)))
  | 6, ho, hL, _, G =>
    obtain ⟨hop, hgd⟩ := tab3 htab ho rfl
    have hg := G 5 131 rfl (by decide) (by decide)
    have h0 := frm_old ha 14 _ (hold 14 rfl) o14
    exact doesX_of (doesL_run ho (wanted_at (b := true) hgd (hds 5 131 rfl) hg) (hpure 6 (by decide) c L w' hW) (g_mov hop (eval_of h0)))
  | 7, ho, hL, _, G =>
    obtain ⟨hop, hgd⟩ := tab3 htab ho rfl
    have hg := G 5 131 rfl (by decide) (by decide)
    have h0 := G 6 132 rfl (by decide) (by decide)
    exact doesX_of (doesL_run ho (wanted_at (b := true) hgd (hds 5 131 rfl) hg) (hpure 7 (by decide) c L w' hW) (g_ixa hop (eval_of h0) rfl (r7 w')))
  | 8, ho, hL, _, G =>
    obtain ⟨hop, hgd⟩ := tab3 htab ho rfl
    have hg := G 5 131 rfl (by decide) (by decide)
    have h0 := G 7 133 rfl (by decide) (by decide)
    exact doesX_of (doesL_run ho (wanted_at (b := true) hgd (hds 5 131 rfl) hg) (hpure 8 (by decide) c L w' hW) (g_field hop (eval_of h0) (by kernel_rfl)))
  | 9, ho, hL, _, G =>
    obtain ⟨hop, hgd⟩ := tab3 htab ho rfl
    have hg := G 5 131 rfl (by decide) (by decide)
    have h0 := G 8 134 rfl (by decide) (by decide)
    exact doesX_of (doesL_run ho (wanted_at (b := true) hgd (hds 5 131 rfl) hg) (hpure 9 (by decide) c L w' hW) (g_load hop (eval_of h0) (r9 c L w' hW hL (depl_of hdep 9 8 (by decide) ho hd))))
  | 10, ho, hL, _, G =>
    obtain ⟨hop, hgd⟩ := tab3 htab ho rfl
    have hg := G 5 131 rfl (by decide) (by decide)
    have h0 := frm_old ha 16 _ (hold 16 rfl) o16
    exact doesX_of (doesL_run ho (wanted_at (b := true) hgd (hds 5 131 rfl) hg) (hpure 10 (by decide) c L w' hW) (g_mov hop (eval_of h0)))
  | 11, ho, hL, _, G =>
    obtain ⟨hop, hgd⟩ := tab3 htab ho rfl
    have hg := G 5 131 rfl (by decide) (by decide)
    have h0 := G 10 136 rfl (by decide) (by decide)
    exact doesX_of (doesL_run ho (wanted_at (b := true) hgd (hds 5 131 rfl) hg) (hpure 11 (by decide) c L w' hW) (g_ixa hop (eval_of h0) rfl (r11 w')))
  | 12, ho, hL, _, G =>
    obtain ⟨hop, hgd⟩ := tab3 htab ho rfl
    have hg := G 5 131 rfl (by decide) (by decide)
    have h0 := G 11 137 rfl (by decide) (by decide)
    exact doesX_of (doesL_run ho (wanted_at (b := true) hgd (hds 5 131 rfl) hg) (hpure 12 (by decide) c L w' hW) (g_field hop (eval_of h0) (by kernel_rfl)))
  | 13, ho, hL, _, G =>
    obtain ⟨hop, hgd⟩ := tab3 htab ho rfl
    have hg := G 5 131 rfl (by decide) (by decide)
    have h0 := G 12 138 rfl (by decide) (by decide)
    exact doesX_of (doesL_run ho (wanted_at (b := true) hgd (hds 5 131 rfl) hg) (hpure 13 (by decide) c L w' hW) (g_load hop (eval_of h0) (r13 c L w' hW hL (depl_of hdep 13 12 (by decide) ho hd))))
  | 14, ho, hL, _, G =>
    obtain ⟨hop, hgd⟩ := tab3 htab ho rfl
    have hg := G 5 131 rfl (by decide) (by decide)
    have h0 := G 9 135 rfl (by decide) (by decide)
    have h1 := G 13 139 rfl (by decide) (by decide)
    exact doesX_of (doesL_run ho (wanted_at (b := true) hgd (hds 5 131 rfl) hg) (hpure 14 (by decide) c L w' hW) (g_bin hop (eval_of h0) (eval_of h1) (r14 w')))
  | 15, ho, hL, _, G =>
    obtain ⟨hop, hgd⟩ := tab3 htab ho rfl
    have hg := G 5 131 rfl (by decide) (by decide)
    have h0 := frm_old ha 4 _ (hold 4 rfl) o4
    exact doesX_of (doesL_run ho (wanted_at (b := true) hgd (hds 5 131 rfl) hg) (hpure 15 (by decide) c L w' hW) (g_field hop (eval_of h0) (by kernel_rfl)))
  | 16, ho, hL, _, G =>
    obtain ⟨hop, hgd⟩ := tab3 htab ho rfl
    have hg := G 5 131 rfl (by decide) (by decide)
    have h0 := G 15 141 rfl (by decide) (by decide)
    exact doesX_of (doesL_run ho (wanted_at (b := true) hgd (hds 5 131 rfl) hg) (hpure 16 (by decide) c L w' hW) (g_load hop (eval_of h0) (r16 c L w' hW hL (depl_of hdep 16 15 (by decide) ho hd))))
  | 17, ho, hL, _, G =>
    obtain ⟨hop, hgd⟩ := tab3 htab ho rfl
    have hg := G 5 131 rfl (by decide) (by decide)
    have h0 := frm_old ha 5 _ (hold 5 rfl) o5
    exact doesX_of (doesL_run ho (wanted_at (b := true) hgd (hds 5 131 rfl) hg) (hpure 17 (by decide) c L w' hW) (g_field hop (eval_of h0) (by kernel_rfl)))
  | 18, ho, hL, _, G =>
    obtain ⟨hop, hgd⟩ := tab3 htab ho rfl
    have hg := G 5 131 rfl (by decide) (by decide)
    have h0 := G 17 143 rfl (by decide) (by decide)
    exact doesX_of (doesL_run ho (wanted_at (b := true) hgd (hds 5 131 rfl) hg) (hpure 18 (by decide) c L w' hW) (g_load hop (eval_of h0) (r18 c L w' hW hL (depl_of hdep 18 17 (by decide) ho hd))))
  | 19, ho, hL, _, G =>
    obtain ⟨hop, hgd⟩ := tab3 htab ho rfl
    have hg := G 5 131 rfl (by decide) (by decide)
    have h0 := G 16 142 rfl (by decide) (by decide)
    have h1 := G 18 144 rfl (by decide) (by decide)
    exact doesX_of (doesL_run ho (wanted_at (b := true) hgd (hds 5 131 rfl) hg) (hpure 19 (by decide) c L w' hW) (g_bin hop (eval_of h0) (eval_of h1) (r19 w')))
  | 20, ho, hL, _, G =>
    obtain ⟨hop, hgd⟩ := tab3 htab ho rfl
    have hg := G 5 131 rfl (by decide) (by decide)
    have h0 := G 14 140 rfl (by decide) (by decide)
    have h1 := G 19 145 rfl (by decide) (by decide)
    exact doesX_of (doesL_run ho (wanted_at (b := true) hgd (hds 5 131 rfl) hg) (hpure 20 (by decide) c L w' hW) (g_bin hop (eval_of h0) (eval_of h1) (r20 w')))
  | 21, ho, hL, _, G =>
    obtain ⟨hop, hgd⟩ := tab3 htab ho rfl
    have h0 := G 5 131 rfl (by decide) (by decide)
    have h1 := G 20 146 rfl (by decide) (by decide)
    exact (dXr ho hgd (hpure 21 (by decide) c L w' hW) (by rw [run_pick _ _ _ _ _ hop true (eval_of h0)]; exact congrArg (fun v => Result.ok (Next.value v) w') (eval_of h1)))
  | (i + 22), ho, hL, hi, _ => exact absurd hi (by omega)
def vror13b (X Y : Nat) (su sv : Bs) (_c : Unit) (i : Nat) : Value := match i with
  | 0 => (.pointer (some ⟨X, 2, none⟩))
  | 1 => (S su)
  | 2 => (.pointer (some ⟨Y, 2, none⟩))
  | 3 => (S sv)
  | 4 => (.bool false)
  | 5 => (.bool false)
  | 6 => undef
  | 7 => undef
  | 8 => undef
  | 9 => undef
  | 10 => undef
  | 11 => undef
  | 12 => undef
  | 13 => undef
  | 14 => undef
  | 15 => undef
  | 16 => undef
  | 17 => undef
  | 18 => undef
  | 19 => undef
  | 20 => undef
  | 21 => (.bool false)
  | _ => undef
def ror13bT : List (Op × Option Tmp × Option (Nat × Bool)) := [
  (.fieldAddr 40 (.tmp 4) 2, some 126, none),
  (.load 9 (.tmp 126), some 127, none),
  (.fieldAddr 40 (.tmp 5) 2, some 128, none),
  (.load 9 (.tmp 128), some 129, none),
  (.binOp .eql 9 (.tmp 127) (.tmp 129) 9, some 130, none),
  (.move (.tmp 130), some 131, none),
  (.move (.tmp 14), some 132, some (5, true)),
  (.indexAddr 43 (.tmp 132) (.const (.int .i64 1)), some 133, some (5, true)),
  (.fieldAddr 30 (.tmp 133) 0, some 134, some (5, true)),
  (.load 9 (.tmp 134), some 135, some (5, true)),
  (.move (.tmp 16), some 136, some (5, true)),
  (.indexAddr 43 (.tmp 136) (.const (.int .i64 1)), some 137, some (5, true)),
  (.fieldAddr 30 (.tmp 137) 0, some 138, some (5, true)),
  (.load 9 (.tmp 138), some 139, some (5, true)),
  (.binOp .lss 9 (.tmp 135) (.tmp 139) 9, some 140, some (5, true)),
  (.fieldAddr 40 (.tmp 4) 0, some 141, some (5, true)),
  (.load 3 (.tmp 141), some 142, some (5, true)),
  (.fieldAddr 40 (.tmp 5) 0, some 143, some (5, true)),
  (.load 3 (.tmp 143), some 144, some (5, true)),
  (.binOp .lss 3 (.tmp 142) (.tmp 144) 3, some 145, some (5, true)),
  (.binOp .neq 4 (.tmp 140) (.tmp 145) 4, some 146, some (5, true)),
  (.pick (.tmp 131) (.tmp 146) (.const (.bool false)), some 147, none)]
def ror13bD : List (Nat × Nat) := [(1, 0), (3, 2), (4, 1), (4, 3), (5, 4), (6, 5), (7, 5), (8, 5), (9, 5), (10, 5), (11, 5), (12, 5), (13, 5), (14, 5), (15, 5), (16, 5), (17, 5), (18, 5), (19, 5), (20, 5), (21, 5), (21, 20)]
set_option maxHeartbeats 4000000 in
theorem ror13b {ops : Array Oper} {id : Nat} {Q : Exit → Act → World → Prop} (X Y : Nat) (su sv : Bs) (htab : ops.toList.map (fun o => (o.op, o.dst, o.guard)) = ror13bT) (hdep : deplB ror13bD ops = true) (hac : acB ops = true)
    (a0 : Act) (w : World) (hsz : 148 ≤ a0.tmps.size) (o4 : a0.tmps[4]? = some (.pointer (some ⟨X, 0, none⟩))) (o5 : a0.tmps[5]? = some (.pointer (some ⟨Y, 0, none⟩)))
    (Wd : Unit → (Nat → Bool) → World → Prop) (h0 : ∃ c, Wd c (fun _ => false) w.drew) (hpure : ∀ i, i ∉ ([] : List Nat) → ∀ c L W, Wd c L W → Wd c (upd L i) W)
    (r1 : ∀ c L W, Wd c L W → L 1 = false → L 0 = true → (Instr.loadAt 9 (.pointer (some ⟨X, 2, none⟩))).run Tryz.prog W = .ok (S su) W)
    (r3 : ∀ c L W, Wd c L W → L 3 = false → L 2 = true → (Instr.loadAt 9 (.pointer (some ⟨Y, 2, none⟩))).run Tryz.prog W = .ok (S sv) W)
    (r4 : ∀ W, (do eqGuard .eql 9 (.tmp 127) (.tmp 129) (S su) (S sv); binOp .eql 9 (S su) (S sv)).run Tryz.prog W = .ok (.bool false) W)
    (hend : ∀ c L W, (∀ i, i < 22 → L i = true) → Wd c L W → Q .normal ((((((((((((((((((((((a0.put (some 126) (.pointer (some ⟨X, 2, none⟩))).put (some 127) (S su)).put (some 128) (.pointer (some ⟨Y, 2, none⟩))).put (some 129) (S sv)).put (some 130) (.bool false)).put (some 131) (.bool false)).put (some 132) undef).put (some 133) undef).put (some 134) undef).put (some 135) undef).put (some 136) undef).put (some 137) undef).put (some 138) undef).put (some 139) undef).put (some 140) undef).put (some 141) undef).put (some 142) undef).put (some 143) undef).put (some 144) undef).put (some 145) undef).put (some 146) undef).put (some 147) (.bool false)) W) : (Code.region id ops true).wp Tryz.prog Q a0 w := by
  let val : Unit → Nat → Value := vror13b X Y su sv
  have hosz : ops.size = 22 := by
    have := congrArg List.length htab
    simpa [ror13bT] using this
  have hds : ∀ i s, (ror13bT[i]?).bind (·.2.1) = some s → dstOf ops i = some s := fun i s hi => by rw [tab_dst htab, hi]
  have hdisB : disL ror13bT = true := by rfl
  have hdis := disL_of htab hdisB
  have hold : ∀ s, ror13bT.all (fun x => !(x.2.1 == some s)) = true → (List.range ops.size).all (fun j => !(dstOf ops j == some s)) = true := fun s h => holdL htab s h
  refine region_detX val Wd (hac_of hac) hdis h0 ?_ ?_
  rotate_left
  · intro c L W hall hW
    have := hend c L W (by rw [← hosz]; exact hall) hW
    have e : frm ops a0 (val c) (fun _ => true) ops.size = ((((((((((((((((((((((a0.put (some 126) (.pointer (some ⟨X, 2, none⟩))).put (some 127) (S su)).put (some 128) (.pointer (some ⟨Y, 2, none⟩))).put (some 129) (S sv)).put (some 130) (.bool false)).put (some 131) (.bool false)).put (some 132) undef).put (some 133) undef).put (some 134) undef).put (some 135) undef).put (some 136) undef).put (some 137) undef).put (some 138) undef).put (some 139) undef).put (some 140) undef).put (some 141) undef).put (some 142) undef).put (some 143) undef).put (some 144) undef).put (some 145) undef).put (some 146) undef).put (some 147) (.bool false)) := by
      rw [hosz]
      simp only [frm, if_true]
      rw [tab_dst htab 0, tab_dst htab 1, tab_dst htab 2, tab_dst htab 3, tab_dst htab 4, tab_dst htab 5, tab_dst htab 6, tab_dst htab 7, tab_dst htab 8, tab_dst htab 9, tab_dst htab 10, tab_dst htab 11, tab_dst htab 12, tab_dst htab 13, tab_dst htab 14, tab_dst htab 15, tab_dst htab 16, tab_dst htab 17, tab_dst htab 18, tab_dst htab 19, tab_dst htab 20, tab_dst htab 21]
      rfl
    rw [e]
    exact this
  intro i o ho c L a w' hL hd ha hW
  have hi : i < 22 := by rw [← hosz]; exact (Array.getElem?_eq_some_iff.1 ho).1
  have G : ∀ j s : Nat, (ror13bT[j]?).bind (·.2.1) = some s → s < 148 → (i, j) ∈ ror13bD → a.tmps[s]? = some (val c j) := fun j s h1 h2 h3 => frm_at hdis ha j s (hds j s h1) (by omega) (depl_of hdep i j h3 ho hd)
  match i, ho, hL, hi, G with
  | 0, ho, hL, _, G =>
    obtain ⟨hop, hgd⟩ := tab3 htab ho rfl
    have h0 := frm_old ha 4 _ (hold 4 rfl) o4
    exact (dXr ho hgd (hpure 0 (by decide) c L w' hW) (g_field hop (eval_of h0) (by kernel_rfl)))
  | 1, ho, hL, _, G =>
    obtain ⟨hop, hgd⟩ := tab3 htab ho rfl
    have h0 := G 0 126 rfl (by decide) (by decide)
    exact (dXr ho hgd (hpure 1 (by decide) c L w' hW) (g_load hop (eval_of h0) (r1 c L w' hW hL (depl_of hdep 1 0 (by decide) ho hd))))
  | 2, ho, hL, _, G =>
    obtain ⟨hop, hgd⟩ := tab3 htab ho rfl
    have h0 := frm_old ha 5 _ (hold 5 rfl) o5
    exact (dXr ho hgd (hpure 2 (by decide) c L w' hW) (g_field hop (eval_of h0) (by kernel_rfl)))
  | 3, ho, hL, _, G =>
    obtain ⟨hop, hgd⟩ := tab3 htab ho rfl
    have h0 := G 2 128 rfl (by decide) (by decide)
    exact (dXr ho hgd (hpure 3 (by decide) c L w' hW) (g_load hop (eval_of h0) (r3 c L w' hW hL (depl_of hdep 3 2 (by decide) ho hd))))
  | 4, ho, hL, _, G =>
    obtain ⟨hop, hgd⟩ := tab3 htab ho rfl
    have h0 := G 1 127 rfl (by decide) (by decide)
    have h1 := G 3 129 rfl (by decide) (by decide)
    exact (dXr ho hgd (hpure 4 (by decide) c L w' hW) (g_bin hop (eval_of h0) (eval_of h1) (r4 w')))
  | 5, ho, hL, _, G =>
    obtain ⟨hop, hgd⟩ := tab3 htab ho rfl
    have h0 := G 4 130 rfl (by decide) (by decide)
    exact (dXr ho hgd (hpure 5 (by decide) c L w' hW) (g_mov hop (eval_of h0)))
  | 6, ho, hL, _, G =>
    obtain ⟨hop, hgd⟩ := tab3 htab ho rfl
    have hg := G 5 131 rfl (by decide) (by decide)
    exact doesX_of (doesL_skip ho (wanted_at (b := false) hgd (hds 5 131 rfl) hg) (hpure 6 (by decide) c L w' hW) rfl)
  | 7, ho, hL, _, G =>
    obtain ⟨hop, hgd⟩ := tab3 htab ho rfl
    have hg := G 5 131 rfl (by decide) (by decide)
    exact doesX_of (doesL_skip ho (wanted_at (b := false) hgd (hds 5 131 rfl) hg) (hpure 7 (by decide) c L w' hW) rfl)
  | 8, ho, hL, _, G =>
    obtain ⟨hop, hgd⟩ := tab3 htab ho rfl
    have hg := G 5 131 rfl (by decide) (by decide)
    exact doesX_of (doesL_skip ho (wanted_at (b := false) hgd (hds 5 131 rfl) hg) (hpure 8 (by decide) c L w' hW) rfl)
  | 9, ho, hL, _, G =>
    obtain ⟨hop, hgd⟩ := tab3 htab ho rfl
    have hg := G 5 131 rfl (by decide) (by decide)
    exact doesX_of (doesL_skip ho (wanted_at (b := false) hgd (hds 5 131 rfl) hg) (hpure 9 (by decide) c L w' hW) rfl)
  | 10, ho, hL, _, G =>
    obtain ⟨hop, hgd⟩ := tab3 htab ho rfl
    have hg := G 5 131 rfl (by decide) (by decide)
    exact doesX_of (doesL_skip ho (wanted_at (b := false) hgd (hds 5 131 rfl) hg) (hpure 10 (by decide) c L w' hW) rfl)
  | 11, ho, hL, _, G =>
    obtain ⟨hop, hgd⟩ := tab3 htab ho rfl
    have hg := G 5 131 rfl (by decide) (by decide)
    exact doesX_of (doesL_skip ho (wanted_at (b := false) hgd (hds 5 131 rfl) hg) (hpure 11 (by decide) c L w' hW) rfl)
  | 12, ho, hL, _, G =>
    obtain ⟨hop, hgd⟩ := tab3 htab ho rfl
    have hg := G 5 131 rfl (by decide) (by decide)
    exact doesX_of (doesL_skip ho (wanted_at (b := false) hgd (hds 5 131 rfl) hg) (hpure 12 (by decide) c L w' hW) rfl)
  | 13, ho, hL, _, G =>
    obtain ⟨hop, hgd⟩ := tab3 htab ho rfl
    have hg := G 5 131 rfl (by decide) (by decide)
    exact doesX_of (doesL_skip ho (wanted_at (b := false) hgd (hds 5 131 rfl) hg) (hpure 13 (by decide) c L w' hW) rfl)
  | 14, ho, hL, _, G =>
    obtain ⟨hop, hgd⟩ := tab3 htab ho rfl
    have hg := G 5 131 rfl (by decide) (by decide)
    exact doesX_of (doesL_skip ho (wanted_at (b := false) hgd (hds 5 131 rfl) hg) (hpure 14 (by decide) c L w' hW) rfl)
  | 15, ho, hL, _, G =>
    obtain ⟨hop, hgd⟩ := tab3 htab ho rfl
    have hg := G 5 131 rfl (by decide) (by decide)
    exact doesX_of (doesL_skip ho (wanted_at (b := false) hgd (hds 5 131 rfl) hg) (hpure 15 (by decide) c L w' hW) rfl)
  | 16, ho, hL, _, G =>
    obtain ⟨hop, hgd⟩ := tab3 htab ho rfl
    have hg := G 5 131 rfl (by decide) (by decide)
    exact doesX_of (doesL_skip ho (wanted_at (b := false) hgd (hds 5 131 rfl) hg) (hpure 16 (by decide) c L w' hW) rfl)
  | 17, ho, hL, _, G =>
    obtain ⟨hop, hgd⟩ := tab3 htab ho rfl
    have hg := G 5 131 rfl (by decide) (by decide)
    exact doesX_of (doesL_skip ho (wanted_at (b := false) hgd (hds 5 131 rfl) hg) (hpure 17 (by decide) c L w' hW) rfl)
  | 18, ho, hL, _, G =>
    obtain ⟨hop, hgd⟩ := tab3 htab ho rfl
    have hg := G 5 131 rfl (by decide) (by decide)
    exact doesX_of (doesL_skip ho (wanted_at (b := false) hgd (hds 5 131 rfl) hg) (hpure 18 (by decide) c L w' hW) rfl)
  | 19, ho, hL, _, G =>
    obtain ⟨hop, hgd⟩ := tab3 htab ho rfl
    have hg := G 5 131 rfl (by decide) (by decide)
    exact doesX_of (doesL_skip ho (wanted_at (b := false) hgd (hds 5 131 rfl) hg) (hpure 19 (by decide) c L w' hW) rfl)
  | 20, ho, hL, _, G =>
    obtain ⟨hop, hgd⟩ := tab3 htab ho rfl
    have hg := G 5 131 rfl (by decide) (by decide)
    exact doesX_of (doesL_skip ho (wanted_at (b := false) hgd (hds 5 131 rfl) hg) (hpure 20 (by decide) c L w' hW) rfl)
  | 21, ho, hL, _, G =>
    obtain ⟨hop, hgd⟩ := tab3 htab ho rfl
    have h0 := G 5 131 rfl (by decide) (by decide)
    have h1 := G 20 146 rfl (by decide) (by decide)
    exact (dXr ho hgd (hpure 21 (by decide) c L w' hW) (by rw [run_pick _ _ _ _ _ hop false (eval_of h0)]; exact congrArg (fun v => Result.ok (Next.value v) w') rfl))
  | (i + 22), ho, hL, hi, _ => exact absurd hi (by omega)
end Go.Proofs.YtpidmpefodnffaaGreatDoor
