import Derived.Lib.ValidLaws
import Derived.Lib.MapLaws
import Derived.Lib.RuneBytes
import Derived.Lib.ItoaNum
/- Jot: values, their printed form, the reader; pure. -/
namespace Go.Proofs.YtfaahjbkdlkmjaaDoor
open Go Go.Lib
set_option linter.unusedVariables false
abbrev Bs := List UInt8
inductive J where
  | mk (k n : Int) (t : Bs) (ns : List Bs) (xs : List J)
namespace J
def k : J → Int | mk k _ _ _ _ => k
def n : J → Int | mk _ n _ _ _ => n
def t : J → Bs | mk _ _ t _ _ => t
def ns : J → List Bs | mk _ _ _ ns _ => ns
def xs : J → List J | mk _ _ _ _ xs => xs
end J
def jz : J := .mk 0 0 [] [] []
/-- names rise -/
def rise : List Bs → Bool
  | a :: b :: r => decide (a < b) && rise (b :: r)
  | _ => true
/-- may a part be, its items aside? -/
def own (k n : Int) (t : Bs) (ns : List Bs) (m : Nat) : Bool :=
  if k = 0 ∨ k = 1 ∨ k = 2 then decide (n = 0) && t.isEmpty && ns.isEmpty && decide (m = 0)
  else if k = 3 then t.isEmpty && ns.isEmpty && decide (m = 0) && decide (-9007199254740991 ≤ n ∧ n ≤ 9007199254740991)
  else if k = 4 then decide (n = 0) && ns.isEmpty && decide (m = 0) && validD t
  else if k = 5 then decide (n = 0) && t.isEmpty && ns.isEmpty
  else if k = 6 then decide (n = 0) && t.isEmpty && ns.all validD && rise ns && decide (ns.length = m)
  else false
mutual
def may : J → Bool
  | .mk k n t ns xs => own k n t ns xs.length && mayL xs
def mayL : List J → Bool
  | [] => true
  | x :: l => may x && mayL l
end
mutual
/-- the depth -/
def dep : J → Nat
  | .mk k _ _ _ xs => if k = 5 ∨ k = 6 then depL xs + 1 else 0
def depL : List J → Nat
  | [] => 0
  | x :: l => max (dep x) (depL l)
end
def hex1 (d : Nat) : UInt8 := if d < 10 then UInt8.ofNat (48 + d) else UInt8.ofNat (87 + d)
/-- what stands for a byte -/
def ins (b : UInt8) : Bs :=
  if b = 34 then [92, 34] else if b = 92 then [92, 92] else if b = 8 then [92, 98] else if b = 9 then [92, 116] else if b = 10 then [92, 110] else if b = 12 then [92, 102] else if b = 13 then [92, 114]
  else if b < 32 then [92, 117, 48, 48, hex1 (b.toNat / 16), hex1 (b.toNat % 16)] else []
def one (b : UInt8) : Bs := if ins b = [] then [b] else ins b
def inner (s : Bs) : Bs := s.flatMap one
def quo (s : Bs) : Bs := 34 :: inner s ++ [34]
mutual
def pt : J → Bs
  | .mk k n t ns xs =>
    if k = 0 then [110, 117, 108, 108] else if k = 1 then [102, 97, 108, 115, 101] else if k = 2 then [116, 114, 117, 101]
    else if k = 3 then itoa n else if k = 4 then quo t
    else if k = 5 then 91 :: ptL true xs ++ [93]
    else 123 :: ptO true ns xs ++ [125]
/-- items with commas between -/
def ptL : Bool → List J → Bs
  | _, [] => []
  | f, x :: l => (if f then [] else [44]) ++ pt x ++ ptL false l
/-- members -/
def ptO : Bool → List Bs → List J → Bs
  | f, a :: ns, x :: l => (if f then [] else [44]) ++ quo a ++ 58 :: pt x ++ ptO false ns l
  | _, _, _ => []
end
mutual
/-- Same -/
def eqJ : J → J → Bool
  | .mk k n t ns xs, .mk k2 n2 t2 ns2 xs2 => decide (k = k2) && decide (n = n2) && decide (t = t2) && decide (ns = ns2) && eqL xs xs2
def eqL : List J → List J → Bool
  | [], [] => true
  | x :: l, y :: m => eqJ x y && eqL l m
  | _, _ => false
end
/-! ### The reader: what is wrong, and how many bytes stand from there on -/
abbrev Er := Int × Nat
def isB (c : UInt8) : Bool := c == 32 || c == 9 || c == 10 || c == 13
def sk (r : Bs) : Bs := r.dropWhile isB
def want (b : UInt8) : Bs → Except Er Bs
  | c :: t => if c = b then .ok t else .error (40, t.length + 1)
  | [] => .error (40, 0)
def word : Bs → Bs → Except Er Bs
  | [], r => .ok r
  | c :: l, r => match want c r with
    | .ok t => word l t
    | .error e => .error e
/-- a digit of sixteen; below 0: none -/
def wth (c : UInt8) : Int :=
  if 48 ≤ c ∧ c ≤ 57 then (c.toNat : Int) - 48 else if 97 ≤ c ∧ c ≤ 102 then (c.toNat : Int) - 87 else if 65 ≤ c ∧ c ≤ 70 then (c.toNat : Int) - 55 else -1
def four (lower : Bool) : Nat → Nat → Bs → Except Er (Nat × Bs)
  | 4, a, r => .ok (a, r)
  | p, a, r =>
    if h : 4 ≤ p then .ok (a, r) else
    let d := wth (r.headD 0)
    if d < 0 then .error (40, r.length)
    else if p = 0 ∧ lower = true ∧ a * 16 + d.toNat ≠ 13 then .error (40, r.length)
    else if p = 1 ∧ lower ≠ decide (220 ≤ a * 16 + d.toNat ∧ a * 16 + d.toNat < 224) then .error (40, r.length)
    else four lower (p + 1) (a * 16 + d.toNat) r.tail
termination_by p => 4 - p
def byN (r : Bs) : Except Er (Nat × Bs) :=
  match four false 0 0 r with
  | .error e => .error e
  | .ok (a, r1) =>
    if a < 55296 ∨ 57344 ≤ a then .ok (a, r1) else
    match want 92 r1 with
    | .error e => .error e
    | .ok r2 => match want 117 r2 with
      | .error e => .error e
      | .ok r3 => match four true 0 0 r3 with
        | .error e => .error e
        | .ok (b, r4) => .ok (65536 + (a - 55296) * 1024 + b - 56320, r4)
def escv (c : UInt8) : Option Nat :=
  if c = 34 ∨ c = 92 ∨ c = 47 then some c.toNat else if c = 98 then some 8 else if c = 102 then some 12 else if c = 110 then some 10 else if c = 114 then some 13 else if c = 116 then some 9 else none
def esc : Bs → Except Er (Nat × Bs)
  | [] => .error (40, 0)
  | c :: t => if c = 117 then byN t else match escv c with
    | some v => .ok (v, t)
    | none => .error (40, t.length + 1)
/-- utf8.FullRune -/
def full (l : Bs) : Bool :=
  match l with
  | [] => false
  | a :: _ =>
    if a < 194 ∨ 245 ≤ a then true else
    let n := if a < 224 then 2 else if a < 240 then 3 else 4
    if n ≤ l.length then true else
    let lo : UInt8 := if a = 224 then 160 else if a = 240 then 144 else 128
    let hi : UInt8 := if a = 237 then 159 else if a = 244 then 143 else 191
    if 1 < l.length ∧ (l.getD 1 0 < lo ∨ hi < l.getD 1 0) then true
    else if 2 < l.length ∧ (l.getD 2 0 < 128 ∨ 191 < l.getD 2 0) then true else false
/-- how many of its first bytes may still come to a letter -/
def half (l : Bs) : Nat → Nat → Nat
  | 0, n => n
  | f + 1, n => if n + 1 ≤ l.length ∧ full (l.take (n + 1)) = false then half l f (n + 1) else n
def lett (r : Bs) : Except Er (Bs × Bs) :=
  if r.headD 0 < 32 then .error (40, r.length)
  else if (decodeL r).1 = 65533 ∧ (decodeL r).2 = 1 then .error (40, r.length - half r r.length 0)
  else .ok (r.take (decodeL r).2, r.drop (decodeL r).2)
def lets : Nat → Bs → Bs → Except Er (Bs × Bs)
  | 0, _, r => .error (99, 0)
  | f + 1, acc, r =>
    if r.headD 0 = 34 then .ok (acc, r)
    else if r.headD 0 = 92 then match esc r.tail with
      | .error e => .error e
      | .ok (c, t) => lets f (acc ++ encodeRune c) t
    else match lett r with
      | .error e => .error e
      | .ok (l, t) => lets f (acc ++ l) t
def letters (r : Bs) : Except Er (Bs × Bs) :=
  match want 34 r with
  | .error e => .error e
  | .ok t => lets (t.length + 1) [] t
def isD (c : UInt8) : Bool := decide (48 ≤ c ∧ c ≤ 57)
def digs : Nat → Bs → Except Er (Nat × Bs)
  | n, [] => .ok (n, [])
  | n, c :: t => if isD c then (if 9007199254740991 < 10 * n + (c.toNat - 48) then .error (43, t.length + 1) else digs (10 * n + (c.toNat - 48)) t) else .ok (n, c :: t)
def num (r : Bs) : Except Er (Int × Bs) :=
  let neg := r.headD 0 = 45
  let r1 := if neg then r.tail else r
  if r1.headD 0 = 48 then .ok (0, r1.tail)
  else if isD (r1.headD 0) then match digs 0 r1 with
    | .error e => .error e
    | .ok (n, t) => .ok (if neg then -(n : Int) else n, t)
  else .error (40, r1.length)
/-- where a name is laid among names that rise -/
def plc (ns : List Bs) (a : Bs) : Nat := (ns.filter (fun b => decide (b < a))).length
def insAt {α : Type} (l : List α) (i : Nat) (a : α) : List α := l.take i ++ a :: l.drop i
mutual
def val : Nat → Nat → Bs → Except Er (J × Bs)
  | 0, _, _ => .error (99, 0)
  | f + 1, d, r =>
    let c := r.headD 0
    if c = 110 then match word [110, 117, 108, 108] r with
      | .error e => .error e
      | .ok t => .ok (.mk 0 0 [] [] [], t)
    else if c = 102 then match word [102, 97, 108, 115, 101] r with
      | .error e => .error e
      | .ok t => .ok (.mk 1 0 [] [] [], t)
    else if c = 116 then match word [116, 114, 117, 101] r with
      | .error e => .error e
      | .ok t => .ok (.mk 2 0 [] [] [], t)
    else if c = 34 then match letters r with
      | .error e => .error e
      | .ok (s, t) => match want 34 t with
        | .error e => .error e
        | .ok t2 => .ok (.mk 4 0 s [] [], t2)
    else if c = 91 then
      if d = 16 then .error (41, r.length) else
      let r1 := sk r.tail
      if r1.headD 0 = 93 then .ok (.mk 5 0 [] [] [], r1.tail)
      else match itm f (d + 1) [] r1 with
        | .error e => .error e
        | .ok (xs, t) => .ok (.mk 5 0 [] [] xs, t)
    else if c = 123 then
      if d = 16 then .error (41, r.length) else
      let r1 := sk r.tail
      if r1.headD 0 = 125 then .ok (.mk 6 0 [] [] [], r1.tail)
      else match mem f (d + 1) [] [] r1 with
        | .error e => .error e
        | .ok (ns, xs, t) => .ok (.mk 6 0 [] ns xs, t)
    else match num r with
      | .error e => .error e
      | .ok (n, t) => .ok (.mk 3 n [] [] [], t)
def itm : Nat → Nat → List J → Bs → Except Er (List J × Bs)
  | 0, _, _, _ => .error (99, 0)
  | f + 1, d, acc, r => match val f d r with
    | .error e => .error e
    | .ok (x, t) =>
      let t1 := sk t
      if t1.headD 0 = 93 then .ok (acc ++ [x], t1.tail)
      else match want 44 t1 with
        | .error e => .error e
        | .ok t2 => itm f d (acc ++ [x]) (sk t2)
def mem : Nat → Nat → List Bs → List J → Bs → Except Er (List Bs × List J × Bs)
  | 0, _, _, _, _ => .error (99, 0)
  | f + 1, d, ns, xs, r => match letters r with
    | .error e => .error e
    | .ok (a, t) =>
      if a ∈ ns then .error (42, t.length) else
      match want 34 t with
      | .error e => .error e
      | .ok t1 => match want 58 (sk t1) with
        | .error e => .error e
        | .ok t2 => match val f d (sk t2) with
          | .error e => .error e
          | .ok (x, t3) =>
            let ns' := insAt ns (plc ns a) a
            let xs' := insAt xs (plc ns a) x
            let t4 := sk t3
            if t4.headD 0 = 125 then .ok (ns', xs', t4.tail)
            else match want 44 t4 with
              | .error e => .error e
              | .ok t5 => mem f d ns' xs' (sk t5)
end
/-- how much fuel serves -/
def fuel (r : Bs) : Nat := 2 * r.length + 2
def whole (r : Bs) : Except Er J :=
  match val (fuel r) 0 (sk r) with
  | .error e => .error e
  | .ok (v, t) => if (sk t).length = 0 then .ok v else .error (40, (sk t).length)
/-- Parse: the value, what is wrong, the place -/
def prs (s : Bs) : J × Int × Int :=
  if 4000 < s.length then (jz, 44, 4000)
  else match whole s with
    | .ok v => (v, 0, 0)
    | .error (e, n) => (jz, e, (s.length : Int) - n)
/-- Print -/
def prn (v : J) : Bs × Int :=
  if may v = false then ([], 43) else if 16 < dep v then ([], 41) else if 4000 < (pt v).length then ([], 44) else (pt v, 0)
end Go.Proofs.YtfaahjbkdlkmjaaDoor
/- Jot: letters of UTF-8, what is printed of a text is read as it was; pure. -/
namespace Go.Proofs.YtfaahjbkdlkmjaaDoor
open Go Go.Lib
set_option linter.unusedVariables false
theorem decN2 {n b0 b1 : Nat} (h0 : b0 / 32 = 6) (hn : 1 < n) (h1 : b1 / 64 = 2) (hv : 128 ≤ b0 % 32 * 64 + b1 % 64) (b2 b3 : Nat) : decodeN n b0 b1 b2 b3 = (b0 % 32 * 64 + b1 % 64, 2) := by
  unfold decodeN
  rw [if_neg (by omega), if_pos ⟨h0, hn, h1⟩, if_pos hv]
theorem decN3 {n b0 b1 b2 : Nat} (h0 : b0 / 16 = 14) (hn : 2 < n) (h1 : b1 / 64 = 2) (h2 : b2 / 64 = 2) (hv : 2048 ≤ b0 % 16 * 4096 + b1 % 64 * 64 + b2 % 64) (hs : b0 % 16 * 4096 + b1 % 64 * 64 + b2 % 64 < 55296 ∨ 57344 ≤ b0 % 16 * 4096 + b1 % 64 * 64 + b2 % 64) (b3 : Nat) :
    decodeN n b0 b1 b2 b3 = (b0 % 16 * 4096 + b1 % 64 * 64 + b2 % 64, 3) := by
  unfold decodeN
  rw [if_neg (by omega), if_neg (by omega), if_pos ⟨h0, ⟨by omega, h1⟩, hn, h2⟩, if_pos ⟨hv, by omega⟩]
theorem decN4 {n b0 b1 b2 b3 : Nat} (h0 : b0 / 8 = 30) (hn : 3 < n) (h1 : b1 / 64 = 2) (h2 : b2 / 64 = 2) (h3 : b3 / 64 = 2) (hv : 65536 ≤ b0 % 8 * 262144 + b1 % 64 * 4096 + b2 % 64 * 64 + b3 % 64) (hs : b0 % 8 * 262144 + b1 % 64 * 4096 + b2 % 64 * 64 + b3 % 64 ≤ 1114111) :
    decodeN n b0 b1 b2 b3 = (b0 % 8 * 262144 + b1 % 64 * 4096 + b2 % 64 * 64 + b3 % 64, 4) := by
  unfold decodeN
  rw [if_neg (by omega), if_neg (by omega), if_neg (by omega), if_pos ⟨h0, ⟨by omega, h1⟩, ⟨by omega, h2⟩, hn, h3⟩, if_pos ⟨hv, by omega⟩]
theorem len3 : ∀ l : Bs, 2 < l.length → ∃ a b d t, l = a :: b :: d :: t
  | [], h => by simp at h
  | [_], h => by simp at h
  | [_, _], h => by simp at h
  | a :: b :: d :: t, _ => ⟨a, b, d, t, rfl⟩
theorem len4 : ∀ l : Bs, 3 < l.length → ∃ a b d g t, l = a :: b :: d :: g :: t
  | [], h => by simp at h
  | [_], h => by simp at h
  | [_, _], h => by simp at h
  | [_, _, _], h => by simp at h
  | a :: b :: d :: g :: t, _ => ⟨a, b, d, g, t, rfl⟩
/-- The front letter of a text, with what it is told by alone. -/
theorem front (l : Bs) (hne : l ≠ []) (hv : ¬ ((decodeL l).1 = 65533 ∧ (decodeL l).2 = 1)) :
    ∃ p q, l = p ++ q ∧ p.length = (decodeL l).2 ∧ p ≠ [] ∧ p.length ≤ 4 ∧ (∀ q', decodeL (p ++ q') = decodeL l) ∧ ((∃ b : UInt8, p = [b] ∧ b.toNat < 128) ∨ ∀ b ∈ p, 128 ≤ b.toNat) := by
  have hl : 0 < l.length := List.length_pos_iff.2 hne
  have hN := decodeL_N l
  rcases decodeN_shape l.length (l.getD 0 0).toNat (l.getD 1 0).toNat (l.getD 2 0).toNat (l.getD 3 0).toNat with ⟨c, e⟩ | ⟨c1, c2, c3, cv, e⟩ | ⟨c1, c2, c3, c4, cv, cs, e⟩ | ⟨c1, c2, c3, c4, c5, cv, cw, e⟩ | e
  · match l, hl with
    | b :: t, _ =>
      simp only [List.getD_cons_zero] at c
      have e1 := decodeL_ascii b t c
      refine ⟨[b], t, rfl, by rw [e1]; rfl, by simp, by simp, fun q' => ?_, .inl ⟨b, rfl, c⟩⟩
      rw [e1]
      exact decodeL_ascii b q' c
  · match l, c2 with
    | a :: b :: t, _ =>
      simp only [List.getD_cons_zero, List.getD_cons_succ] at c1 c3 cv e
      rw [hN] at *
      simp only [List.getD_cons_zero, List.getD_cons_succ] at *
      rw [e]
      refine ⟨[a, b], t, rfl, rfl, by simp, by simp, fun q' => ?_, .inr (by simp; omega)⟩
      rw [decodeL_N]
      exact decN2 c1 (by simp) c3 cv _ _
  · obtain ⟨a, b, d, t, rfl⟩ := len3 l c2
    · simp only [List.getD_cons_zero, List.getD_cons_succ] at c1 c3 c4 cv cs e
      rw [hN] at *
      simp only [List.getD_cons_zero, List.getD_cons_succ] at *
      rw [e]
      refine ⟨[a, b, d], t, rfl, rfl, by simp, by simp, fun q' => ?_, .inr (by simp; omega)⟩
      rw [decodeL_N]
      exact decN3 c1 (by simp) c3 c4 cv cs _
  · obtain ⟨a, b, d, g, t, rfl⟩ := len4 l c2
    · simp only [List.getD_cons_zero, List.getD_cons_succ] at c1 c3 c4 c5 cv cw e
      rw [hN] at *
      simp only [List.getD_cons_zero, List.getD_cons_succ] at *
      rw [e]
      refine ⟨[a, b, d, g], t, rfl, rfl, by simp, by simp, fun q' => ?_, .inr (by simp; omega)⟩
      rw [decodeL_N]
      exact decN4 c1 (by simp) c3 c4 c5 cv cw
  · rw [hN, e] at hv
    exact absurd ⟨rfl, rfl⟩ hv
theorem valid_front {l : Bs} (h : validD l = true) (hne : l ≠ []) : ¬ ((decodeL l).1 = 65533 ∧ (decodeL l).2 = 1) ∧ validD (l.drop (decodeL l).2) = true := by
  rw [validD_step l hne] at h
  split at h
  · cases h
  · exact ⟨by assumption, h⟩
theorem valid_append : ∀ (n : Nat) (a b : Bs), a.length ≤ n → validD a = true → validD b = true → validD (a ++ b) = true
  | _, [], b, _, _, hb => hb
  | 0, _ :: _, _, h, _, _ => by simp at h
  | n + 1, x :: a', b, hn, ha, hb => by
    obtain ⟨h1, h2⟩ := valid_front ha (by simp)
    obtain ⟨p, q, e, hp, hpn, -, hd, -⟩ := front (x :: a') (by simp) h1
    rw [e] at hn ha h1 h2 hp hd ⊢
    have hpl := List.length_pos_iff.2 hpn
    rw [← hp, List.drop_left] at h2
    rw [List.append_assoc, validD_step _ (by simp [hpn]), hd, if_neg h1, ← hp, List.drop_left]
    exact valid_append n q b (by simp at hn; omega) h2 hb
theorem va {a b : Bs} (ha : validD a = true) (hb : validD b = true) : validD (a ++ b) = true := valid_append _ a b (Nat.le_refl _) ha hb
/-- A scalar value. -/
def scal (c : Nat) : Prop := c < 55296 ∨ (57344 ≤ c ∧ c ≤ 1114111)
theorem u8n (n : Nat) (h : n < 256) : (n.toUInt8).toNat = n := by simp; omega
set_option maxRecDepth 20000 in
theorem enc_valid (c : Nat) (h : scal c) : validD (encodeRune (c : Int)) = true := by
  unfold scal at h
  have key : ∀ l : Bs, l ≠ [] → ∀ c', decodeL l = (c', l.length) → (c' ≠ 65533 ∨ l.length ≠ 1) → validD l = true := by
    intro l hne c' hd h2
    rw [validD_step l hne, hd]
    rw [if_neg (by rintro ⟨q1, q2⟩; rcases h2 with q | q; exact q q1; exact q q2), List.drop_length]
    rfl
  unfold encodeRune
  by_cases c1 : c ≤ 127
  · rw [encodeRuneZ_one (by omega) (by omega)]
    simp only [List.map_cons, List.map_nil, Int.toNat_natCast]
    rw [validD_cons _ _ (by rw [u8n _ (by omega)]; omega)]
    rfl
  by_cases c2 : c ≤ 2047
  · rw [encodeRuneZ_two (by omega) (by omega)]
    refine key _ (by simp) c ?_ (.inr (by simp))
    rw [decodeL_N]
    have e1 : ((192 + (c : Int) / 64).toNat) = 192 + c / 64 := by omega
    have e2 : ((128 + (c : Int) % 64).toNat) = 128 + c % 64 := by omega
    simp only [List.map_cons, List.map_nil, List.getD_cons_zero, List.getD_cons_succ, List.length_cons, List.length_nil, e1, e2]
    rw [u8n _ (by omega), u8n _ (by omega), decN2 (by omega) (by omega) (by omega) (by omega)]
    simp
    omega
  by_cases c3 : c ≤ 65535
  · rw [encodeRuneZ_three (by omega)]
    refine key _ (by simp) c ?_ (.inr (by simp))
    rw [decodeL_N]
    have e1 : ((224 + (c : Int) / 4096).toNat) = 224 + c / 4096 := by omega
    have e2 : ((128 + (c : Int) / 64 % 64).toNat) = 128 + c / 64 % 64 := by omega
    have e3 : ((128 + (c : Int) % 64).toNat) = 128 + c % 64 := by omega
    simp only [List.map_cons, List.map_nil, List.getD_cons_zero, List.getD_cons_succ, List.length_cons, List.length_nil, e1, e2, e3]
    rw [u8n _ (by omega), u8n _ (by omega), u8n _ (by omega), decN3 (by omega) (by omega) (by omega) (by omega) (by omega) (by omega)]
    simp
    omega
  · rw [encodeRuneZ_four (by omega) (by omega)]
    refine key _ (by simp) c ?_ (.inr (by simp))
    rw [decodeL_N]
    have e1 : ((240 + (c : Int) / 262144).toNat) = 240 + c / 262144 := by omega
    have e2 : ((128 + (c : Int) / 4096 % 64).toNat) = 128 + c / 4096 % 64 := by omega
    have e3 : ((128 + (c : Int) / 64 % 64).toNat) = 128 + c / 64 % 64 := by omega
    have e4 : ((128 + (c : Int) % 64).toNat) = 128 + c % 64 := by omega
    simp only [List.map_cons, List.map_nil, List.getD_cons_zero, List.getD_cons_succ, List.length_cons, List.length_nil, e1, e2, e3, e4]
    rw [u8n _ (by omega), u8n _ (by omega), u8n _ (by omega), u8n _ (by omega), decN4 (by omega) (by omega) (by omega) (by omega) (by omega) (by omega) (by omega)]
    simp
    omega
theorem all_u8 {p : UInt8 → Prop} [DecidablePred p] (h : ∀ n : Fin 256, p (UInt8.ofNat n.val)) (c : UInt8) : p c := by
  have := h ⟨c.toNat, c.toNat_lt⟩
  simpa using this
/-- What stands for a byte is read as that byte. -/
theorem esc_ins (b : UInt8) (r : Bs) (h : ins b ≠ []) : ∃ m, ins b = 92 :: m ∧ esc (m ++ r) = .ok (b.toNat, r) ∧ encodeRune (b.toNat : Int) = [b] := by
  have q : ∀ c : UInt8, ins c ≠ [] → c.toNat < 93 := all_u8 (by decide +kernel)
  have q2 : encodeRune (b.toNat : Int) = [b] := by
    unfold encodeRune
    rw [encodeRuneZ_one (by omega) (by have := q b h; omega)]
    simp
  have hx : ∀ d : Nat, d < 16 → wth (hex1 d) = d := by decide +kernel
  by_cases h1 : b = 34
  · subst h1; exact ⟨_, rfl, rfl, q2⟩
  by_cases h2 : b = 92
  · subst h2; exact ⟨_, rfl, rfl, q2⟩
  by_cases h3 : b = 8
  · subst h3; exact ⟨_, rfl, rfl, q2⟩
  by_cases h4 : b = 9
  · subst h4; exact ⟨_, rfl, rfl, q2⟩
  by_cases h5 : b = 10
  · subst h5; exact ⟨_, rfl, rfl, q2⟩
  by_cases h6 : b = 12
  · subst h6; exact ⟨_, rfl, rfl, q2⟩
  by_cases h7 : b = 13
  · subst h7; exact ⟨_, rfl, rfl, q2⟩
  have e : ins b = if b < 32 then [92, 117, 48, 48, hex1 (b.toNat / 16), hex1 (b.toNat % 16)] else [] := by simp [ins, h1, h2, h3, h4, h5, h6, h7]
  rw [e] at h ⊢
  by_cases h8 : b < 32
  · rw [if_pos h8]
    refine ⟨_, rfl, ?_, q2⟩
    have hb : b.toNat < 32 := h8
    have w0 : wth 48 = 0 := by decide
    have w1 := hx (b.toNat / 16) (by omega)
    have w2 := hx (b.toNat % 16) (by omega)
    show esc (117 :: 48 :: 48 :: hex1 (b.toNat / 16) :: hex1 (b.toNat % 16) :: r) = _
    simp only [esc, if_true, byN]
    have e4 : four false 0 0 (48 :: 48 :: hex1 (b.toNat / 16) :: hex1 (b.toNat % 16) :: r) = .ok (b.toNat, r) := by
      rw [four, dif_neg (by decide)]
      · simp only [List.headD_cons, w0, List.tail_cons]
        rw [if_neg (by decide), if_neg (by simp), if_neg (by simp), four, dif_neg (by decide)]
        · simp only [List.headD_cons, w0, List.tail_cons]
          rw [if_neg (by decide), if_neg (by simp), if_neg (by simp), four, dif_neg (by decide)]
          · simp only [List.headD_cons, w1, List.tail_cons]
            rw [if_neg (by omega), if_neg (by simp), if_neg (by simp), four, dif_neg (by decide)]
            · simp only [List.headD_cons, w2, List.tail_cons]
              rw [if_neg (by omega), if_neg (by simp), if_neg (by simp), four]
              simp
              omega
            · decide
          · decide
        · decide
      · decide
    rw [e4]
    simp only
    rw [if_pos (by omega)]
  · rw [if_neg h8] at h
    exact absurd rfl h
end Go.Proofs.YtfaahjbkdlkmjaaDoor
/- Jot: a text and a number that were printed are read as they were; pure. -/
namespace Go.Proofs.YtfaahjbkdlkmjaaDoor
open Go Go.Lib
set_option linter.unusedVariables false
theorem ins_high : ∀ b : UInt8, 128 ≤ b.toNat → ins b = [] := all_u8 (by decide +kernel)
theorem ins_low : ∀ b : UInt8, ins b = [] → ¬ b < 32 ∧ b ≠ 34 ∧ b ≠ 92 := all_u8 (by decide +kernel)
theorem inner_cons (b : UInt8) (s : Bs) : inner (b :: s) = one b ++ inner s := by simp [inner]
theorem inner_append (a b : Bs) : inner (a ++ b) = inner a ++ inner b := by simp [inner]
theorem inner_high : ∀ p : Bs, (∀ b ∈ p, 128 ≤ b.toNat) → inner p = p
  | [], _ => rfl
  | b :: p, h => by
    rw [inner_cons, inner_high p (fun c hc => h c (by simp [hc])), one, if_pos (ins_high b (h b (by simp)))]
    rfl
theorem lett_ok {p r : Bs} {c : Nat} (hpn : p ≠ []) (h32 : ¬ p.headD 0 < 32) (hd : decodeL (p ++ r) = (c, p.length)) (hv : ¬ (c = 65533 ∧ p.length = 1)) : lett (p ++ r) = .ok (p, r) := by
  have hh : (p ++ r).headD 0 = p.headD 0 := by
    cases p with
    | nil => exact absurd rfl hpn
    | cons a b => rfl
  unfold lett
  rw [hh, if_neg h32, hd]
  simp only
  rw [if_neg hv, List.take_left, List.drop_left]
theorem lets_inner : ∀ (n : Nat) (s acc r : Bs) (f : Nat), s.length ≤ n → validD s = true → (inner s).length < f → lets f acc (inner s ++ 34 :: r) = .ok (acc ++ s, 34 :: r)
  | _, [], acc, r, f, _, _, hf => by
    obtain ⟨f, rfl⟩ : ∃ k, f = k + 1 := ⟨f - 1, by omega⟩
    simp [inner, lets]
  | 0, _ :: _, _, _, _, h, _, _ => by simp at h
  | n + 1, x :: s', acc, r, f, hn, hs, hf => by
    obtain ⟨f, rfl⟩ : ∃ k, f = k + 1 := ⟨f - 1, by omega⟩
    obtain ⟨h1, h2⟩ := valid_front hs (by simp)
    obtain ⟨p, q, e, hp, hpn, hp4, hd, hb⟩ := front (x :: s') (by simp) h1
    rw [e] at hn hs h1 h2 hp hd hf ⊢
    have hpl := List.length_pos_iff.2 hpn
    rw [← hp, List.drop_left] at h2
    have hq : q.length ≤ n := by simp at hn; omega
    rw [inner_append] at hf ⊢
    rw [List.length_append] at hf
    have step : (inner p).length = 0 ∨ (inner q).length < f := by omega
    have plain : ∀ hi : inner p = p, ¬ p.headD 0 < 32 → p.headD 0 ≠ 34 → p.headD 0 ≠ 92 → lets (f + 1) acc (inner p ++ inner q ++ 34 :: r) = .ok (acc ++ (p ++ q), 34 :: r) := by
      intro hi h32 h34 h92
      rw [hi] at step ⊢
      have hh : (p ++ inner q ++ 34 :: r).headD 0 = p.headD 0 := by
        cases p with
        | nil => exact absurd rfl hpn
        | cons a b => rfl
      have hl : lett (p ++ (inner q ++ 34 :: r)) = .ok (p, inner q ++ 34 :: r) := by
        refine lett_ok (c := (decodeL (p ++ q)).1) hpn h32 (by rw [hd, hp]) ?_
        rw [hp]
        exact h1
      rw [lets, hh, if_neg h34, if_neg h92, List.append_assoc, hl]
      simp only
      rw [lets_inner n q (acc ++ p) r f hq h2 (by omega), List.append_assoc]
    rcases hb with ⟨b, rfl, hb⟩ | hb
    · by_cases hi : ins b = []
      · obtain ⟨g1, g2, g3⟩ := ins_low b hi
        exact plain (by simp [inner, one, hi]) g1 g2 g3
      · obtain ⟨m, hm, he, hr⟩ := esc_ins b (inner q ++ 34 :: r) hi
        have e1 : inner [b] = 92 :: m := by simp [inner, one, hm]
        rw [e1] at step ⊢
        rw [lets, List.append_assoc]
        simp only [List.cons_append, List.headD_cons, List.tail_cons]
        rw [if_neg (by decide), if_pos trivial, he]
        simp only
        rw [hr, lets_inner n q (acc ++ [b]) r f hq h2 (by simp at step; omega)]
        simp
    · have h128 : 128 ≤ (p.headD 0).toNat := by
        cases p with
        | nil => exact absurd rfl hpn
        | cons a b => exact hb a (by simp)
      refine plain (inner_high p hb) (fun q => ?_) (fun q => ?_) (fun q => ?_)
      · have : (p.headD 0).toNat < 32 := q
        omega
      · rw [q] at h128; exact absurd h128 (by decide)
      · rw [q] at h128; exact absurd h128 (by decide)
theorem letters_quo (s r : Bs) (h : validD s = true) : letters (quo s ++ r) = .ok (s, 34 :: r) := by
  unfold letters quo
  simp only [List.cons_append, want, if_true, List.append_assoc, List.nil_append]
  rw [lets_inner _ s [] r _ (Nat.le_refl _) h (by simp; omega)]
  simp
/-! ### numbers -/
theorem isD_all : ∀ c : UInt8, isD c = true → 48 ≤ c.toNat ∧ c.toNat ≤ 57 ∧ c ≠ 45 := all_u8 (by decide +kernel)
def vl (a : Nat) (s : Bs) : Nat := s.foldl (fun a c => 10 * a + (c.toNat - 48)) a
theorem vl_append (a : Nat) (s t : Bs) : vl a (s ++ t) = vl (vl a s) t := by simp [vl]
theorem vl_le : ∀ (s : Bs) (a : Nat), a ≤ vl a s
  | [], a => Nat.le_refl a
  | c :: s, a => Nat.le_trans (by omega : a ≤ 10 * a + (c.toNat - 48)) (vl_le s _)
theorem dec_dgt (n : Nat) : ∀ c ∈ decDigits n, isD c = true := by
  have key : ∀ m : Nat, m < 10 → isD (UInt8.ofNat (48 + m)) = true := by decide
  induction n using decDigits.induct with
  | case1 n h =>
    rw [decDigits, dif_pos h]
    intro c hc
    rw [List.mem_singleton] at hc
    subst hc
    exact key n h
  | case2 n h ih =>
    rw [decDigits, dif_neg h]
    intro c hc
    rw [List.mem_append] at hc
    rcases hc with hc | hc
    · exact ih c hc
    · rw [List.mem_singleton] at hc
      subst hc
      exact key (n % 10) (by omega)
theorem dec_ne (n : Nat) : decDigits n ≠ [] := by
  rw [decDigits]
  split <;> simp
theorem dec_vl (n : Nat) : vl 0 (decDigits n) = n := by
  have hd1 : ∀ m : Nat, m < 10 → (UInt8.ofNat (48 + m)).toNat - 48 = m := by decide
  induction n using decDigits.induct with
  | case1 n h =>
    rw [decDigits, dif_pos h]
    simp only [vl, List.foldl_cons, List.foldl_nil, hd1 n h]
    omega
  | case2 n h ih =>
    rw [decDigits, dif_neg h, vl_append, ih]
    simp only [vl, List.foldl_cons, List.foldl_nil, hd1 (n % 10) (by omega)]
    omega
theorem dec_head (n : Nat) (h : 0 < n) : (decDigits n).headD 0 ≠ 48 := by
  induction n using decDigits.induct with
  | case1 n h1 =>
    rw [decDigits, dif_pos h1]
    have : ∀ m : Nat, m < 10 → 0 < m → UInt8.ofNat (48 + m) ≠ 48 := by decide
    simpa using this n h1 h
  | case2 n h1 ih =>
    rw [decDigits, dif_neg h1]
    have := ih (by omega)
    cases hh : decDigits (n / 10) with
    | nil => exact absurd hh (dec_ne _)
    | cons a b => rw [hh] at this; simpa using this
theorem digs_run : ∀ (l : Bs) (a : Nat) (r : Bs), (∀ c ∈ l, isD c = true) → isD (r.headD 0) = false → vl a l ≤ 9007199254740991 → digs a (l ++ r) = .ok (vl a l, r)
  | [], a, [], _, _, _ => rfl
  | [], a, c :: r, _, h, _ => by
    simp only [List.headD_cons] at h
    simp [digs, h, vl]
  | c :: l, a, r, hl, h, hv => by
    have h1 := vl_le l (10 * a + (c.toNat - 48))
    have h2 : vl a (c :: l) = vl (10 * a + (c.toNat - 48)) l := rfl
    rw [h2] at hv ⊢
    simp only [List.cons_append, digs]
    rw [if_pos (hl c (by simp)), if_neg (by omega)]
    exact digs_run l _ r (fun x hx => hl x (by simp [hx])) h hv
theorem num_itoa (n : Int) (r : Bs) (h1 : -9007199254740991 ≤ n ∧ n ≤ 9007199254740991) (h : isD (r.headD 0) = false) : num (itoa n ++ r) = .ok (n, r) := by
  have pos : ∀ m : Nat, 0 < m → m ≤ 9007199254740991 → ∃ c l, decDigits m = c :: l ∧ c ≠ 48 ∧ isD c = true ∧ c ≠ 45 ∧ digs 0 (c :: (l ++ r)) = .ok (m, r) := by
    intro m hm hm2
    have e1 := dec_head m hm
    have e2 := dec_dgt m
    have e3 := digs_run (decDigits m) 0 r e2 h (by rw [dec_vl]; exact hm2)
    rw [dec_vl] at e3
    cases hh : decDigits m with
    | nil => exact absurd hh (dec_ne _)
    | cons c l =>
      rw [hh] at e1 e2 e3
      exact ⟨c, l, rfl, by simpa using e1, e2 c (by simp), (isD_all c (e2 c (by simp))).2.2, e3⟩
  unfold itoa num
  by_cases hn : n < 0
  · obtain ⟨c, l, e, h48, hd, h45, hg⟩ := pos n.natAbs (by omega) (by omega)
    rw [if_pos hn, e]
    simp only [List.cons_append, List.headD_cons, List.tail_cons, if_true]
    rw [if_neg h48, if_pos hd, hg]
    simp only
    congr 2
    omega
  · rw [if_neg hn]
    by_cases h0 : n = 0
    · subst h0
      have : decDigits (0 : Int).toNat = [48] := by rw [decDigits]; rfl
      rw [this]
      rfl
    · obtain ⟨c, l, e, h48, hd, h45, hg⟩ := pos n.toNat (by omega) (by omega)
      rw [e]
      simp only [List.cons_append, List.headD_cons, h45, if_false]
      rw [if_neg h48, if_pos hd, hg]
      simp only
      congr 2
      omega
end Go.Proofs.YtfaahjbkdlkmjaaDoor
/- Jot: what was printed is read as it was; pure. -/
namespace Go.Proofs.YtfaahjbkdlkmjaaDoor
open Go Go.Lib
set_option linter.unusedVariables false
set_option linter.unusedSimpArgs false
theorem lt_trans' {a b c : Bs} (h : a < b) (h2 : b < c) : a < c := List.lt_trans h h2
theorem lt_irrefl' (a : Bs) : ¬ a < a := List.lt_irrefl a
abbrev Rs (l : List Bs) : Prop := l.Pairwise (· < ·)
theorem rise_iff : ∀ l : List Bs, rise l = true ↔ Rs l
  | [] => by simp [rise]
  | [a] => by simp [rise]
  | a :: b :: r => by
    simp only [rise, Bool.and_eq_true, decide_eq_true_eq, rise_iff (b :: r)]
    constructor
    · rintro ⟨h, h2⟩
      refine List.pairwise_cons.2 ⟨fun x hx => ?_, h2⟩
      rcases List.mem_cons.1 hx with rfl | hx
      · exact h
      · exact lt_trans' h ((List.pairwise_cons.1 h2).1 x hx)
    · intro h
      exact ⟨(List.pairwise_cons.1 h).1 b (by simp), (List.pairwise_cons.1 h).2⟩
theorem plc_end {ns : List Bs} {a : Bs} (h : ∀ b ∈ ns, b < a) : plc ns a = ns.length := by
  unfold plc
  rw [List.filter_eq_self.2 (fun b hb => by simpa using h b hb)]
theorem ins_end {α : Type} (l : List α) (a : α) : insAt l l.length a = l ++ [a] := by simp [insAt]
theorem sk_cons {c : UInt8} (t : Bs) (h : isB c = false) : sk (c :: t) = c :: t := by simp [sk, h]
/-- How a value's text begins. -/
def okh (c : UInt8) : Bool := !isB c && c != 93 && c != 125 && c != 44
theorem dec_hd (n : Nat) : ∃ c t, decDigits n = c :: t ∧ isD c = true := by
  cases h : decDigits n with
  | nil => exact absurd h (dec_ne n)
  | cons c t => exact ⟨c, t, rfl, dec_dgt n c (by rw [h]; simp)⟩
theorem isD_okh : ∀ c : UInt8, isD c = true → okh c = true := all_u8 (by decide +kernel)
theorem own_kinds {k n : Int} {t : Bs} {ns : List Bs} {m : Nat} (h : own k n t ns m = true) : k = 0 ∨ k = 1 ∨ k = 2 ∨ k = 3 ∨ k = 4 ∨ k = 5 ∨ k = 6 := by
  unfold own at h
  repeat' split at h
  all_goals first | omega | simp at h
theorem pt_hd (j : J) : ∃ c t, pt j = c :: t ∧ okh c = true := by
  obtain ⟨k, n, s, ns, xs⟩ := j
  unfold pt
  split
  · exact ⟨_, _, rfl, by decide⟩
  split
  · exact ⟨_, _, rfl, by decide⟩
  split
  · exact ⟨_, _, rfl, by decide⟩
  split
  · unfold itoa
    split
    · exact ⟨_, _, rfl, by decide⟩
    · obtain ⟨c, t, e, h⟩ := dec_hd n.toNat
      exact ⟨c, t, e, isD_okh c h⟩
  split
  · exact ⟨_, _, rfl, by decide⟩
  split
  · exact ⟨_, _, rfl, by decide⟩
  · exact ⟨_, _, rfl, by decide⟩
theorem okh_all : ∀ c : UInt8, okh c = true → isB c = false ∧ c ≠ 93 ∧ c ≠ 125 ∧ c ≠ 44 := all_u8 (by decide +kernel)
theorem sk_pt (j : J) (r : Bs) : sk (pt j ++ r) = pt j ++ r := by
  obtain ⟨c, t, e, h⟩ := pt_hd j
  rw [e]
  exact sk_cons _ (okh_all c h).1
theorem word_ok : ∀ (l r : Bs), word l (l ++ r) = .ok r
  | [], r => rfl
  | c :: l, r => by
    simp only [List.cons_append, word, want, if_true]
    exact word_ok l r
theorem ptL_cons (f : Bool) (x : J) (l : List J) : ptL f (x :: l) = (if f then [] else [44]) ++ pt x ++ ptL false l := by rw [ptL]
theorem ptL_false {l : List J} (h : l ≠ []) : ptL false l = 44 :: ptL true l := by
  cases l with
  | nil => exact absurd rfl h
  | cons x l => simp [ptL_cons]
theorem ptO_cons (f : Bool) (a : Bs) (ns : List Bs) (x : J) (l : List J) : ptO f (a :: ns) (x :: l) = (if f then [] else [44]) ++ quo a ++ 58 :: pt x ++ ptO false ns l := by rw [ptO]
theorem ptO_false {ns : List Bs} {l : List J} (h : ns ≠ []) (hl : ns.length = l.length) : ptO false ns l = 44 :: ptO true ns l := by
  match ns, l, h, hl with
  | a :: ns, x :: l, _, _ => simp [ptO_cons]
theorem mayL_cons {x : J} {l : List J} (h : mayL (x :: l) = true) : may x = true ∧ mayL l = true := by
  rw [mayL] at h
  simpa using h
theorem depL_cons (x : J) (l : List J) : depL (x :: l) = max (dep x) (depL l) := by rw [depL]
theorem quo_hd (s r : Bs) : quo s ++ r = 34 :: (inner s ++ 34 :: r) := by simp [quo]
theorem val_list (f d : Nat) (t : Bs) : val (f + 1) d (91 :: t) = if d = 16 then .error (41, t.length + 1) else
    if (sk t).headD 0 = 93 then .ok (.mk 5 0 [] [] [], (sk t).tail) else match itm f (d + 1) [] (sk t) with
      | .error e => .error e
      | .ok (xs, t) => .ok (.mk 5 0 [] [] xs, t) := by
  rw [val]; rfl
theorem val_obj (f d : Nat) (t : Bs) : val (f + 1) d (123 :: t) = if d = 16 then .error (41, t.length + 1) else
    if (sk t).headD 0 = 125 then .ok (.mk 6 0 [] [] [], (sk t).tail) else match mem f (d + 1) [] [] (sk t) with
      | .error e => .error e
      | .ok (ns, xs, t) => .ok (.mk 6 0 [] ns xs, t) := by
  rw [val]; rfl
mutual
theorem val_pt : ∀ (j : J) (d : Nat) (r : Bs), may j = true → dep j + d ≤ 16 → isD (r.headD 0) = false → ∃ f0, ∀ f, f0 ≤ f → val f d (pt j ++ r) = .ok (j, r)
  | .mk k n s ns xs, d, r, hm, hd, hr => by
    rw [may, Bool.and_eq_true] at hm
    obtain ⟨ho, hl⟩ := hm
    rw [dep] at hd
    rcases own_kinds ho with rfl | rfl | rfl | rfl | rfl | rfl | rfl
    · simp [own] at ho
      obtain ⟨⟨⟨rfl, rfl⟩, rfl⟩, rfl⟩ := ho
      refine ⟨1, fun f hf => ?_⟩
      obtain ⟨f, rfl⟩ : ∃ g, f = g + 1 := ⟨f - 1, by omega⟩
      have e := word_ok [110, 117, 108, 108] r
      rw [pt, if_pos rfl, val]
      simp only [List.cons_append, List.headD_cons, List.nil_append] at e ⊢
      rw [if_pos trivial, e]
    · simp [own] at ho
      obtain ⟨⟨⟨rfl, rfl⟩, rfl⟩, rfl⟩ := ho
      refine ⟨1, fun f hf => ?_⟩
      obtain ⟨f, rfl⟩ : ∃ g, f = g + 1 := ⟨f - 1, by omega⟩
      have e := word_ok [102, 97, 108, 115, 101] r
      rw [pt, if_neg (by decide), if_pos rfl, val]
      simp only [List.cons_append, List.headD_cons, List.nil_append] at e ⊢
      rw [if_neg (by decide), if_pos trivial, e]
    · simp [own] at ho
      obtain ⟨⟨⟨rfl, rfl⟩, rfl⟩, rfl⟩ := ho
      refine ⟨1, fun f hf => ?_⟩
      obtain ⟨f, rfl⟩ : ∃ g, f = g + 1 := ⟨f - 1, by omega⟩
      have e := word_ok [116, 114, 117, 101] r
      rw [pt, if_neg (by decide), if_neg (by decide), if_pos rfl, val]
      simp only [List.cons_append, List.headD_cons, List.nil_append] at e ⊢
      rw [if_neg (by decide), if_neg (by decide), if_pos trivial, e]
    · simp [own] at ho
      obtain ⟨⟨⟨rfl, rfl⟩, rfl⟩, ho⟩ := ho
      refine ⟨1, fun f hf => ?_⟩
      obtain ⟨f, rfl⟩ : ∃ g, f = g + 1 := ⟨f - 1, by omega⟩
      have e := num_itoa n r ho hr
      rw [pt, if_neg (by decide), if_neg (by decide), if_neg (by decide), if_pos rfl, val]
      have hh : ∃ c t, itoa n ++ r = c :: t ∧ (isD c = true ∨ c = 45) := by
        unfold itoa
        split
        · exact ⟨_, _, rfl, .inr rfl⟩
        · obtain ⟨c, t, e, h⟩ := dec_hd n.toNat
          rw [e]
          exact ⟨c, _, rfl, .inl h⟩
      obtain ⟨c, t, e2, hc⟩ := hh
      have hx : ∀ c : UInt8, (isD c = true ∨ c = 45) → c ≠ 110 ∧ c ≠ 102 ∧ c ≠ 116 ∧ c ≠ 34 ∧ c ≠ 91 ∧ c ≠ 123 := all_u8 (by decide +kernel)
      obtain ⟨x1, x2, x3, x4, x5, x6⟩ := hx c hc
      rw [e2] at e ⊢
      simp only [List.headD_cons]
      rw [if_neg x1, if_neg x2, if_neg x3, if_neg x4, if_neg x5, if_neg x6, e]
    · simp [own] at ho
      obtain ⟨⟨⟨rfl, rfl⟩, rfl⟩, ho⟩ := ho
      refine ⟨1, fun f hf => ?_⟩
      obtain ⟨f, rfl⟩ : ∃ g, f = g + 1 := ⟨f - 1, by omega⟩
      have e := letters_quo s r ho
      rw [pt, if_neg (by decide), if_neg (by decide), if_neg (by decide), if_neg (by decide), if_pos rfl, val]
      have e0 : (quo s ++ r).headD 0 = 34 := by rw [quo_hd]; rfl
      simp only [e0]
      rw [if_neg (by decide), if_neg (by decide), if_neg (by decide), if_pos trivial, e]
      simp only [want, if_true]
    · simp [own] at ho
      obtain ⟨⟨rfl, rfl⟩, rfl⟩ := ho
      rw [if_pos (by decide)] at hd
      rw [pt, if_neg (by decide), if_neg (by decide), if_neg (by decide), if_neg (by decide), if_neg (by decide), if_pos rfl]
      by_cases hx : xs = []
      · subst hx
        refine ⟨1, fun f hf => ?_⟩
        obtain ⟨f, rfl⟩ : ∃ g, f = g + 1 := ⟨f - 1, by omega⟩
        rw [ptL]
        show val (f + 1) d (91 :: 93 :: r) = _
        rw [val_list, if_neg (by omega), sk_cons _ (by decide)]
        rfl
      · obtain ⟨f0, h⟩ := itm_pt xs (d + 1) [] r hx hl (by omega)
        refine ⟨f0 + 1, fun f hf => ?_⟩
        obtain ⟨f, rfl⟩ : ∃ g, f = g + 1 := ⟨f - 1, by omega⟩
        have h := h f (by omega)
        obtain ⟨c, t, ec, hc⟩ : ∃ c t, ptL true xs ++ 93 :: r = c :: t ∧ okh c = true := by
          match xs, hx with
          | x :: l, _ =>
            obtain ⟨c, t, e, h⟩ := pt_hd x
            rw [ptL_cons, e]
            exact ⟨c, _, rfl, h⟩
        obtain ⟨g1, g2, g3, g4⟩ := okh_all c hc
        simp only [List.cons_append, List.append_assoc, List.nil_append]
        rw [val_list, if_neg (by omega)]
        rw [ec] at h ⊢
        rw [sk_cons _ g1, if_neg (show ¬ (c :: t).headD 0 = 93 from g2), h]
        rfl
    · simp [own] at ho
      obtain ⟨⟨⟨⟨rfl, rfl⟩, hv⟩, hri⟩, hlen⟩ := ho
      rw [if_pos (by decide)] at hd
      rw [pt, if_neg (by decide), if_neg (by decide), if_neg (by decide), if_neg (by decide), if_neg (by decide), if_neg (by decide)]
      by_cases hx : xs = []
      · subst hx
        obtain rfl : ns = [] := List.eq_nil_of_length_eq_zero (by simpa using hlen)
        refine ⟨1, fun f hf => ?_⟩
        obtain ⟨f, rfl⟩ : ∃ g, f = g + 1 := ⟨f - 1, by omega⟩
        rw [ptO]
        · show val (f + 1) d (123 :: 125 :: r) = _
          rw [val_obj, if_neg (by omega), sk_cons _ (by decide)]
          rfl
        · simp
      · obtain ⟨f0, h⟩ := mem_pt xs ns (d + 1) [] [] r hx hlen rfl (by simpa using hv) (by simpa using (rise_iff _).1 hri) hl (by omega)
        refine ⟨f0 + 1, fun f hf => ?_⟩
        obtain ⟨f, rfl⟩ : ∃ g, f = g + 1 := ⟨f - 1, by omega⟩
        have h := h f (by omega)
        obtain ⟨t, ec⟩ : ∃ t, ptO true ns xs ++ 125 :: r = 34 :: t := by
          match ns, xs, hx, hlen with
          | a :: ns, x :: l, _, _ =>
            rw [ptO_cons]
            simp only [if_true, List.nil_append, quo, List.cons_append]
            exact ⟨_, rfl⟩
          | [], x :: l, _, h => simp at h
        simp only [List.cons_append, List.append_assoc, List.nil_append]
        rw [val_obj, if_neg (by omega)]
        rw [ec] at h ⊢
        rw [sk_cons _ (by decide), if_neg (show ¬ (34 :: t).headD 0 = 125 from (by decide : ¬ (34 : UInt8) = 125)), h]
        rfl
theorem itm_pt : ∀ (l : List J) (d : Nat) (acc : List J) (r : Bs), l ≠ [] → mayL l = true → depL l + d ≤ 16 → ∃ f0, ∀ f, f0 ≤ f → itm f d acc (ptL true l ++ 93 :: r) = .ok (acc ++ l, r)
  | [], _, _, _, h, _, _ => absurd rfl h
  | x :: l, d, acc, r, _, hm, hd => by
    obtain ⟨hm1, hm2⟩ := mayL_cons hm
    rw [depL_cons] at hd
    by_cases hl : l = []
    · subst hl
      obtain ⟨f0, h⟩ := val_pt x d (93 :: r) hm1 (by omega) (show isD 93 = false by decide)
      refine ⟨f0 + 1, fun f hf => ?_⟩
      obtain ⟨f, rfl⟩ : ∃ g, f = g + 1 := ⟨f - 1, by omega⟩
      rw [itm, ptL_cons, ptL]
      simp only [if_true, List.nil_append, List.append_nil]
      rw [h f (by omega)]
      simp only
      rw [sk_cons _ (by decide)]
      simp
    · obtain ⟨f0, h⟩ := val_pt x d (ptL false l ++ 93 :: r) hm1 (by omega) (by rw [ptL_false hl]; exact (show isD 44 = false by decide))
      obtain ⟨f1, h1⟩ := itm_pt l d (acc ++ [x]) r hl hm2 (by omega)
      refine ⟨f0 + f1 + 1, fun f hf => ?_⟩
      obtain ⟨f, rfl⟩ : ∃ g, f = g + 1 := ⟨f - 1, by omega⟩
      rw [itm, ptL_cons]
      simp only [if_true, List.nil_append, List.append_assoc]
      rw [h f (by omega), ptL_false hl]
      simp only [List.cons_append]
      rw [sk_cons _ (by decide)]
      simp only [List.headD_cons, want]
      rw [if_neg (by decide)]
      simp only [if_true]
      have e : sk (ptL true l ++ 93 :: r) = ptL true l ++ 93 :: r := by
        match l, hl with
        | y :: l, _ =>
          rw [ptL_cons]
          simp only [if_true, List.nil_append, List.append_assoc]
          exact sk_pt _ _
      rw [e, h1 f (by omega)]
      simp
theorem mem_pt : ∀ (l : List J) (ns : List Bs) (d : Nat) (an : List Bs) (ax : List J) (r : Bs), l ≠ [] → ns.length = l.length → an.length = ax.length → (∀ a ∈ ns, validD a = true) → Rs (an ++ ns) → mayL l = true → depL l + d ≤ 16 →
    ∃ f0, ∀ f, f0 ≤ f → mem f d an ax (ptO true ns l ++ 125 :: r) = .ok (an ++ ns, ax ++ l, r)
  | [], _, _, _, _, _, h, _, _, _, _, _, _ => absurd rfl h
  | x :: l, [], _, _, _, _, _, h, _, _, _, _, _ => by simp at h
  | x :: l, a :: ns, d, an, ax, r, _, hlen, hac, hv, hri, hm, hd => by
    obtain ⟨hm1, hm2⟩ := mayL_cons hm
    rw [depL_cons] at hd
    have hlen' : ns.length = l.length := by simpa using hlen
    have hlt : ∀ b ∈ an, b < a := fun b hb => (List.pairwise_append.1 hri).2.2 b hb a (by simp)
    have hni : a ∉ an := fun h => lt_irrefl' a (hlt a h)
    have hp : plc an a = an.length := plc_end hlt
    have hq : ∀ r', letters (quo a ++ r') = .ok (a, 34 :: r') := fun r' => letters_quo a r' (hv a (by simp))
    by_cases hl : l = []
    · subst hl
      obtain rfl : ns = [] := List.eq_nil_of_length_eq_zero hlen'
      obtain ⟨f0, h⟩ := val_pt x d (125 :: r) hm1 (by omega) (show isD 125 = false by decide)
      refine ⟨f0 + 1, fun f hf => ?_⟩
      obtain ⟨f, rfl⟩ : ∃ g, f = g + 1 := ⟨f - 1, by omega⟩
      rw [mem, ptO_cons, ptO]
      · simp only [if_true, List.nil_append, List.append_nil, List.append_assoc]
        rw [hq]
        simp only
        rw [if_neg hni]
        simp only [want, if_true, List.cons_append]
        rw [sk_cons _ (by decide)]
        simp only [want, if_true]
        rw [sk_pt, h f (by omega)]
        simp only
        rw [sk_cons _ (by decide), hp, ins_end, hac, ins_end]
        simp
      · simp
    · obtain ⟨f0, h⟩ := val_pt x d (ptO false ns l ++ 125 :: r) hm1 (by omega) (by rw [ptO_false (by intro q; subst q; exact hl (List.eq_nil_of_length_eq_zero hlen'.symm)) hlen']; exact (show isD 44 = false by decide))
      obtain ⟨f1, h1⟩ := mem_pt l ns d (an ++ [a]) (ax ++ [x]) r hl hlen' (by simp [hac]) (fun b hb => hv b (by simp [hb])) (by simpa using hri) hm2 (by omega)
      refine ⟨f0 + f1 + 1, fun f hf => ?_⟩
      obtain ⟨f, rfl⟩ : ∃ g, f = g + 1 := ⟨f - 1, by omega⟩
      have hns : ns ≠ [] := by intro q; subst q; exact hl (List.eq_nil_of_length_eq_zero hlen'.symm)
      rw [mem, ptO_cons]
      simp only [if_true, List.nil_append, List.append_assoc]
      rw [hq]
      simp only
      rw [if_neg hni]
      simp only [want, if_true, List.cons_append, List.append_assoc]
      rw [sk_cons _ (by decide)]
      simp only [want, if_true]
      rw [sk_pt, h f (by omega), ptO_false hns hlen']
      simp only [List.cons_append]
      rw [sk_cons _ (by decide), hp, ins_end, hac, ins_end]
      simp only [List.headD_cons, want]
      rw [if_neg (by decide)]
      simp only [if_true]
      have e : sk (ptO true ns l ++ 125 :: r) = ptO true ns l ++ 125 :: r := by
        match ns, l, hns, hlen' with
        | b :: ns, y :: l, _, _ =>
          rw [ptO_cons]
          simp only [if_true, List.nil_append, quo, List.cons_append]
          exact sk_cons _ (by decide)
      rw [e, h1 f (by omega)]
      simp
end
end Go.Proofs.YtfaahjbkdlkmjaaDoor
/- Jot: what is read may be, and is printed in no more bytes; fuel; pure. -/
namespace Go.Proofs.YtfaahjbkdlkmjaaDoor
open Go Go.Lib
set_option linter.unusedVariables false
set_option linter.unusedSimpArgs false
theorem sk_le (r : Bs) : (sk r).length ≤ r.length := by
  unfold sk
  exact (List.dropWhile_sublist _).length_le
theorem want_len {b : UInt8} {r t : Bs} (h : want b r = .ok t) : r = b :: t := by
  unfold want at h
  split at h
  · split at h
    · rename_i hc
      cases h
      rw [hc]
    · cases h
  · cases h
theorem word_len : ∀ {l r t : Bs}, word l r = .ok t → r = l ++ t
  | [], r, t, h => by cases h; rfl
  | c :: l, r, t, h => by
    rw [word] at h
    split at h
    · rename_i x hx
      rw [want_len hx, word_len h]
      rfl
    · cases h
theorem four_step {lw : Bool} {p a : Nat} {r t : Bs} {x : Nat} (hp : p < 4) (h : four lw p a r = .ok (x, t)) :
    ∃ (c : UInt8) (r' : Bs) (d : Nat), r = c :: r' ∧ d ≤ 15 ∧ four lw (p + 1) (a * 16 + d) r' = .ok (x, t) ∧ (p = 0 → lw = true → a * 16 + d = 13) ∧ (p = 1 → lw = decide (220 ≤ a * 16 + d ∧ a * 16 + d < 224)) := by
  rw [four] at h
  · rw [dif_neg (by omega)] at h
    simp only at h
    split at h
    · cases h
    split at h
    · cases h
    split at h
    · cases h
    rename_i h1 h2 h3
    have hw : ∀ c : UInt8, wth c ≤ 15 := all_u8 (by decide +kernel)
    have hw2 := hw (r.headD 0)
    cases r with
    | nil => exact absurd (by decide : wth 0 < 0) h1
    | cons c r' =>
      refine ⟨c, r', (wth c).toNat, rfl, by simp only [List.headD_cons] at hw2; omega, h, fun q1 q2 => ?_, fun q1 => ?_⟩
      · exact Decidable.byContradiction fun q => h2 ⟨q1, q2, q⟩
      · exact Decidable.byContradiction fun q => h3 ⟨q1, q⟩
  · omega
theorem four_all {lw : Bool} {r t : Bs} {x : Nat} (h : four lw 0 0 r = .ok (x, t)) :
    r.length = t.length + 4 ∧ x < 65536 ∧ (lw = true → 56320 ≤ x ∧ x < 57344) ∧ (lw = false → x < 56320 ∨ 57344 ≤ x) := by
  obtain ⟨c0, r0, d0, rfl, b0, h, k0, -⟩ := four_step (by omega) h
  obtain ⟨c1, r1, d1, rfl, b1, h, -, k1⟩ := four_step (by omega) h
  obtain ⟨c2, r2, d2, rfl, b2, h, -, -⟩ := four_step (by omega) h
  obtain ⟨c3, r3, d3, rfl, b3, h, -, -⟩ := four_step (by omega) h
  rw [four] at h
  cases h
  have k1 := k1 rfl
  refine ⟨by simp, by omega, fun q => ?_, fun q => ?_⟩
  · rw [q] at k1
    have := of_decide_eq_true k1.symm
    omega
  · rw [q] at k1
    have := of_decide_eq_false k1.symm
    omega
theorem enc_len (c : Nat) : (encodeRune (c : Int)).length ≤ 4 := by
  rw [← runeCells_length]
  exact (runeCells_le _).2
theorem enc_three (c : Nat) (h : c < 65536) : (encodeRune (c : Int)).length ≤ 3 := by
  unfold encodeRune encodeRuneZ
  repeat' split
  all_goals first | (simp only [List.map_cons, List.map_nil, List.length_cons, List.length_nil]; omega)
theorem enc_low (c : Nat) (h : c < 128) : encodeRune (c : Int) = [UInt8.ofNat c] := by
  unfold encodeRune
  rw [encodeRuneZ_one (by omega) (by omega)]
  simp
theorem enc_high (c : Nat) (h : 128 ≤ c) : ∀ b ∈ encodeRune (c : Int), 128 ≤ b.toNat := by
  unfold encodeRune encodeRuneZ
  intro b hb
  rw [if_neg (by omega)] at hb
  have key : ∀ z : Int, 128 ≤ z → z < 256 → 128 ≤ (z.toNat.toUInt8).toNat := by
    intro z h1 h2
    rw [u8n _ (by omega)]
    omega
  repeat' split at hb
  all_goals simp only [List.map_cons, List.map_nil, List.mem_cons, List.not_mem_nil, or_false] at hb
  all_goals first
    | (rcases hb with rfl | rfl; all_goals exact key _ (by omega) (by omega))
    | (rcases hb with rfl | rfl | rfl; all_goals exact key _ (by omega) (by omega))
    | (rcases hb with rfl | rfl | rfl | rfl; all_goals exact key _ (by omega) (by omega))
theorem inner_enc (c : Nat) (h : scal c) (b : Nat) (h1 : c < 65536 ∨ 4 ≤ b) (h2 : 128 ≤ c ∨ 6 ≤ b ∨ (one (UInt8.ofNat c)).length ≤ b) (h3 : 3 ≤ b ∨ c < 128) : (inner (encodeRune (c : Int))).length ≤ b := by
  have ho : ∀ b : UInt8, (one b).length ≤ 6 := all_u8 (by decide +kernel)
  by_cases hc : c < 128
  · rw [enc_low c hc]
    have e : inner [UInt8.ofNat c] = one (UInt8.ofNat c) := by simp [inner]
    rw [e]
    have := ho (UInt8.ofNat c)
    omega
  · rw [inner_high _ (enc_high c (by omega))]
    rcases h1 with h1 | h1
    · have := enc_three c h1
      omega
    · have := enc_len c
      omega
set_option maxRecDepth 20000 in
/-- What an escape says is a letter; printed it takes no more bytes than it took. -/
theorem esc_ok {r t : Bs} {c : Nat} (h : esc r = .ok (c, t)) : scal c ∧ (inner (encodeRune (c : Int))).length + t.length ≤ r.length + 1 ∧ t.length < r.length := by
  cases r with
  | nil => cases h
  | cons a r =>
    rw [esc] at h
    split at h
    · unfold byN at h
      split at h
      · cases h
      rename_i x r1 h4
      obtain ⟨e1, e2, -, e3⟩ := four_all h4
      have e3 := e3 rfl
      split at h
      · cases h
        rename_i hx
        refine ⟨by unfold scal; omega, ?_, by simp; omega⟩
        have := inner_enc c (by unfold scal; omega) 6 (.inl e2) (.inr (.inl (by omega))) (.inl (by omega))
        simp
        omega
      · split at h
        · cases h
        rename_i r2 hw2
        split at h
        · cases h
        rename_i r3 hw3
        split at h
        · cases h
        rename_i y r4 h5
        obtain ⟨f1, f2, f3, -⟩ := four_all h5
        have f3 := f3 rfl
        rename_i hx _ _
        simp only [Except.ok.injEq, Prod.mk.injEq] at h
        obtain ⟨rfl, rfl⟩ := h
        rw [want_len hw2, want_len hw3] at e1
        simp only [List.length_cons] at e1 ⊢
        refine ⟨by unfold scal; omega, ?_, by omega⟩
        have := inner_enc (65536 + (x - 55296) * 1024 + y - 56320) (by unfold scal; omega) 12 (.inr (by omega)) (.inr (.inl (by omega))) (.inl (by omega))
        omega
    · split at h
      · rename_i v hv
        cases h
        have q : ∀ a : UInt8, ∀ v, escv a = some v → v < 128 ∧ (one (UInt8.ofNat v)).length ≤ 2 := by
          intro a v hv
          have q : ∀ a : UInt8, (match escv a with | some v => decide (v < 128 ∧ (one (UInt8.ofNat v)).length ≤ 2) | none => true) = true := all_u8 (by decide +kernel)
          have := q a
          rw [hv] at this
          exact of_decide_eq_true this
        obtain ⟨q1, q2⟩ := q a c hv
        refine ⟨.inl (by omega), ?_, by simp⟩
        have := inner_enc c (.inl (by omega)) 2 (.inl (by omega)) (.inr (.inr q2)) (.inr q1)
        simp
        omega
      · cases h
theorem lett_val {r l t : Bs} (h : lett r = .ok (l, t)) (h34 : r.headD 0 ≠ 34) (h92 : r.headD 0 ≠ 92) : r = l ++ t ∧ l ≠ [] ∧ validD l = true ∧ inner l = l := by
  unfold lett at h
  split at h
  · cases h
  split at h
  · cases h
  rename_i h32 hv
  have hr : r ≠ [] := by intro q; subst q; exact h32 (by decide)
  obtain ⟨p, q, e, hp, hpn, -, hd, hb⟩ := front r hr hv
  cases h
  rw [e] at hp hv hd h32 h34 h92 ⊢
  rw [← hp, List.take_left, List.drop_left]
  have hd' := hd []
  rw [List.append_nil] at hd'
  refine ⟨rfl, hpn, ?_, ?_⟩
  · rw [validD_step p hpn, hd', if_neg hv, ← hp, List.drop_length]
    rfl
  · rcases hb with ⟨b, rfl, hb⟩ | hb
    · simp only [List.cons_append, List.headD_cons] at h32 h34 h92
      have q : ∀ b : UInt8, b.toNat < 128 → ¬ b < 32 → b ≠ 34 → b ≠ 92 → ins b = [] := all_u8 (by decide +kernel)
      simp [inner, one, q b hb h32 h34 h92]
    · exact inner_high p hb
theorem lets_ok : ∀ (f : Nat) (acc r s t : Bs), lets f acc r = .ok (s, t) → validD acc = true → ∃ s', s = acc ++ s' ∧ validD s = true ∧ (inner s').length + t.length ≤ r.length ∧ t.headD 0 = 34
  | 0, _, _, _, _, h, _ => by cases h
  | f + 1, acc, r, s, t, h, hv => by
    rw [lets] at h
    split at h
    · rename_i h34
      cases h
      exact ⟨[], by simp, hv, by simp [inner], h34⟩
    split at h
    · rename_i h34 h92
      split at h
      · cases h
      rename_i c t1 he
      obtain ⟨e1, e2, e3⟩ := esc_ok he
      obtain ⟨s', rfl, g2, g3, g4⟩ := lets_ok f _ _ _ _ h (va hv (enc_valid c e1))
      have hr : r ≠ [] := by intro q; subst q; exact absurd h92 (by decide)
      have hl := List.length_pos_iff.2 hr
      refine ⟨encodeRune c ++ s', by simp, g2, ?_, g4⟩
      rw [inner_append, List.length_append]
      rw [List.length_tail] at e2
      omega
    · rename_i h34 h92
      split at h
      · cases h
      rename_i l t1 he
      obtain ⟨e1, e2, e3, e4⟩ := lett_val he h34 h92
      obtain ⟨s', rfl, g2, g3, g4⟩ := lets_ok f _ _ _ _ h (va hv e3)
      refine ⟨l ++ s', by simp, g2, ?_, g4⟩
      rw [inner_append, e4, e1]
      simp
      omega
theorem letters_ok {r s t : Bs} (h : letters r = .ok (s, t)) : validD s = true ∧ (inner s).length + t.length + 1 ≤ r.length := by
  unfold letters at h
  split at h
  · cases h
  rename_i x hx
  obtain ⟨s', e, g2, g3, -⟩ := lets_ok _ _ _ _ _ h rfl
  rw [List.nil_append] at e
  subst e
  rw [want_len hx]
  exact ⟨g2, by simp; omega⟩
end Go.Proofs.YtfaahjbkdlkmjaaDoor
/- Jot: what is read may be, and is printed in no more bytes; pure. -/
namespace Go.Proofs.YtfaahjbkdlkmjaaDoor
open Go Go.Lib
set_option linter.unusedVariables false
set_option linter.unusedSimpArgs false
theorem lt_total' {a b : Bs} (h : ¬ a < b) (h' : a ≠ b) : b < a := by
  rcases Decidable.em (b < a) with h2 | h2
  · exact h2
  · exact absurd (List.le_antisymm (List.not_lt.1 h2) (List.not_lt.1 h)) h'
theorem mem_insAt {α : Type} {l : List α} {i : Nat} {a x : α} : x ∈ insAt l i a ↔ x = a ∨ x ∈ l := by
  unfold insAt
  rw [List.mem_append, List.mem_cons]
  have e : x ∈ l ↔ x ∈ l.take i ∨ x ∈ l.drop i := by
    rw [← List.mem_append, List.take_append_drop]
  rw [e]
  constructor
  · rintro (h | h | h)
    · exact .inr (.inl h)
    · exact .inl h
    · exact .inr (.inr h)
  · rintro (h | h | h)
    · exact .inr (.inl h)
    · exact .inl h
    · exact .inr (.inr h)
theorem len_insAt {α : Type} (l : List α) (i : Nat) (a : α) : (insAt l i a).length = l.length + 1 := by
  unfold insAt
  simp
  omega
theorem plc_le (ns : List Bs) (a : Bs) : plc ns a ≤ ns.length := List.length_filter_le _ _
theorem plc_cons (b : Bs) (r : List Bs) (a : Bs) : plc (b :: r) a = (if b < a then plc r a + 1 else plc r a) := by
  unfold plc
  rw [List.filter_cons]
  by_cases h : b < a <;> simp [h]
theorem rise_ins : ∀ (ns : List Bs) (a : Bs), Rs ns → a ∉ ns → Rs (insAt ns (plc ns a) a)
  | [], a, _, _ => by simp [insAt, plc]
  | b :: r, a, h, hn => by
    obtain ⟨h1, h2⟩ := List.pairwise_cons.1 h
    rw [plc_cons]
    by_cases hb : b < a
    · rw [if_pos hb]
      have ih := rise_ins r a h2 (fun q => hn (by simp [q]))
      show Rs (b :: insAt r (plc r a) a)
      refine List.pairwise_cons.2 ⟨fun x hx => ?_, ih⟩
      rcases mem_insAt.1 hx with rfl | hx
      · exact hb
      · exact h1 x hx
    · have hab : a < b := lt_total' hb (fun q => hn (by simp [q]))
      have e : plc r a = 0 := by
        unfold plc
        rw [List.length_eq_zero_iff, List.filter_eq_nil_iff]
        intro x hx q
        have q : x < a := by simpa using q
        exact hb (lt_trans' (h1 x hx) q)
      rw [if_neg hb, e]
      show Rs (a :: b :: r)
      exact List.pairwise_cons.2 ⟨fun x hx => by
        rcases List.mem_cons.1 hx with rfl | hx
        · exact hab
        · exact lt_trans' hab (h1 x hx), h⟩
theorem mayL_iff : ∀ l : List J, mayL l = true ↔ ∀ x ∈ l, may x = true
  | [] => by simp [mayL]
  | x :: l => by
    rw [mayL, Bool.and_eq_true, mayL_iff l]
    simp
theorem depL_iff (n : Nat) : ∀ l : List J, depL l ≤ n ↔ ∀ x ∈ l, dep x ≤ n
  | [] => by simp [depL]
  | x :: l => by
    rw [depL_cons, Nat.max_le, depL_iff n l]
    simp
theorem ptL_append : ∀ l m : List J, ptL false (l ++ m) = ptL false l ++ ptL false m
  | [], m => by rw [ptL]; rfl
  | x :: l, m => by
    rw [List.cons_append, ptL_cons, ptL_cons, ptL_append l m]
    simp
theorem ptL_len {l : List J} (h : l ≠ []) : (ptL true l).length + 1 = (ptL false l).length := by
  rw [ptL_false h]
  rfl
theorem ptO_insAt : ∀ (ns : List Bs) (xs : List J) (i : Nat) (a : Bs) (x : J), ns.length = xs.length →
    (ptO false (insAt ns i a) (insAt xs i x)).length = (ptO false ns xs).length + (1 + (quo a).length + 1 + (pt x).length)
  | [], [], i, a, x, _ => by
    simp [insAt, ptO_cons, ptO]
    omega
  | b :: ns, y :: xs, 0, a, x, h => by
    show (ptO false (a :: b :: ns) (x :: y :: xs)).length = _
    rw [ptO_cons]
    simp
    omega
  | b :: ns, y :: xs, i + 1, a, x, h => by
    show (ptO false (b :: insAt ns i a) (y :: insAt xs i x)).length = _
    rw [ptO_cons, ptO_cons]
    have := ptO_insAt ns xs i a x (by simpa using h)
    simp
    omega
theorem ptO_len {ns : List Bs} {l : List J} (h : ns ≠ []) (hl : ns.length = l.length) : (ptO true ns l).length + 1 = (ptO false ns l).length := by
  rw [ptO_false h hl]
  rfl
theorem dec_len : ∀ (k n : Nat), n < 10 ^ (k + 1) → (decDigits n).length ≤ k + 1
  | 0, n, h => by
    rw [decDigits, dif_pos (by simpa using h)]
    simp
  | k + 1, n, h => by
    rw [decDigits]
    split
    · simp
    · have := dec_len k (n / 10) (by rw [Nat.pow_succ] at h; omega)
      simp
      omega
theorem vl_lt : ∀ (s : Bs) (a k : Nat), (∀ c ∈ s, isD c = true) → a < 10 ^ k → vl a s < 10 ^ (k + s.length)
  | [], a, k, _, h => h
  | c :: s, a, k, hs, h => by
    have hc := isD_all c (hs c (by simp))
    have e : k + (c :: s).length = (k + 1) + s.length := by simp; omega
    rw [e]
    exact vl_lt s (10 * a + (c.toNat - 48)) (k + 1) (fun x hx => hs x (by simp [hx])) (by rw [Nat.pow_succ]; omega)
theorem digs_ok : ∀ (r : Bs) (a n : Nat) (t : Bs), digs a r = .ok (n, t) → a ≤ 9007199254740991 → n ≤ 9007199254740991 ∧ ∃ p, r = p ++ t ∧ (∀ c ∈ p, isD c = true) ∧ n = vl a p ∧ isD (t.headD 0) = false
  | [], a, n, t, h, ha => by
    cases h
    exact ⟨ha, [], rfl, by simp, rfl, by decide⟩
  | c :: r, a, n, t, h, ha => by
    rw [digs] at h
    split at h
    · rename_i hc
      split at h
      · cases h
      obtain ⟨h1, p, rfl, h2, h3, h4⟩ := digs_ok r _ n t h (by omega)
      refine ⟨h1, c :: p, rfl, fun x hx => ?_, h3, h4⟩
      rcases List.mem_cons.1 hx with rfl | hx
      · exact hc
      · exact h2 x hx
    · rename_i hc
      cases h
      exact ⟨ha, [], rfl, by simp, rfl, by simpa using hc⟩
theorem itoa_len (n : Nat) (k : Nat) (h : n < 10 ^ (k + 1)) : (itoa (n : Int)).length ≤ k + 1 ∧ (itoa (-(n : Int))).length ≤ k + 2 := by
  have := dec_len k n h
  constructor
  · unfold itoa
    rw [if_neg (by omega)]
    exact this
  · unfold itoa
    split
    · have e : (-(n : Int)).natAbs = n := by omega
      rw [e]
      simp
      omega
    · have e : (-(n : Int)).toNat = 0 := by omega
      rw [e, decDigits]
      simp
theorem num_ok {r t : Bs} {n : Int} (h : num r = .ok (n, t)) : (-9007199254740991 ≤ n ∧ n ≤ 9007199254740991) ∧ (itoa n).length + t.length ≤ r.length := by
  unfold num at h
  simp only at h
  obtain ⟨r1, hr1⟩ : ∃ r1, (if r.headD 0 = 45 then r.tail else r) = r1 := ⟨_, rfl⟩
  rw [hr1] at h
  have hl : r1.length + (if r.headD 0 = 45 then 1 else 0) = r.length := by
    subst hr1
    split
    · rename_i h45
      have hr : r ≠ [] := by intro q; subst q; exact absurd h45 (by decide)
      have := List.length_pos_iff.2 hr
      rw [List.length_tail]
      omega
    · rfl
  split at h
  · rename_i h48
    cases h
    have hr : r1 ≠ [] := by intro q; subst q; exact absurd h48 (by decide)
    have := List.length_pos_iff.2 hr
    have e : itoa 0 = [48] := by unfold itoa; rw [if_neg (by decide), decDigits]; rfl
    rw [e, List.length_tail]
    refine ⟨by omega, ?_⟩
    simp
    omega
  · split at h
    · rename_i h48 hd
      split at h
      · cases h
      rename_i m t' hg
      obtain ⟨h1, p, e, h2, h3, -⟩ := digs_ok _ _ _ _ hg (by omega)
      simp only [Except.ok.injEq, Prod.mk.injEq] at h
      obtain ⟨rfl, rfl⟩ := h
      have hp : p ≠ [] := by
        intro q
        subst q
        rw [List.nil_append] at e
        subst e
        cases r1 with
        | nil => exact absurd hd (by decide)
        | cons c l =>
          rw [digs, if_pos (by simpa using hd)] at hg
          split at hg
          · cases hg
          obtain ⟨-, p', e', -⟩ := digs_ok _ _ _ _ hg (by omega)
          have := congrArg List.length e'
          simp at this
          omega
      have hpl := List.length_pos_iff.2 hp
      have hv := vl_lt p 0 0 h2 (by decide)
      rw [← h3, Nat.zero_add] at hv
      obtain ⟨k, hk⟩ : ∃ k, p.length = k + 1 := ⟨p.length - 1, by omega⟩
      rw [hk] at hv
      obtain ⟨g1, g2⟩ := itoa_len m k hv
      have hlen := congrArg List.length e
      rw [List.length_append] at hlen
      split
      · rename_i h45
        rw [if_pos h45] at hl
        exact ⟨by omega, by omega⟩
      · rename_i h45
        rw [if_neg h45] at hl
        exact ⟨by omega, by omega⟩
    · cases h
/-- What is said of a value that was read. -/
def Good (d : Nat) (j : J) (r t : Bs) : Prop := may j = true ∧ dep j + d ≤ 16 ∧ (pt j).length + t.length ≤ r.length
theorem pt_pos (j : J) : 1 ≤ (pt j).length := by
  obtain ⟨c, t, e, -⟩ := pt_hd j
  rw [e]
  simp
theorem all_ok : ∀ f : Nat, (∀ d r j t, val f d r = .ok (j, t) → d ≤ 16 → Good d j r t) ∧
    (∀ d acc r l t, itm f d acc r = .ok (l, t) → d ≤ 16 → mayL acc = true → depL acc + d ≤ 16 → mayL l = true ∧ depL l + d ≤ 16 ∧ l ≠ [] ∧ (ptL false l).length + t.length ≤ (ptL false acc).length + r.length) ∧
    (∀ d an ax r ns xs t, mem f d an ax r = .ok (ns, xs, t) → d ≤ 16 → an.length = ax.length → (∀ a ∈ an, validD a = true) → Rs an → mayL ax = true → depL ax + d ≤ 16 →
      ns.length = xs.length ∧ (∀ a ∈ ns, validD a = true) ∧ Rs ns ∧ mayL xs = true ∧ depL xs + d ≤ 16 ∧ ns ≠ [] ∧ (ptO false ns xs).length + t.length ≤ (ptO false an ax).length + r.length)
  | 0 => ⟨fun _ _ _ _ h => (by rw [val] at h; cases h), fun _ _ _ _ _ h => (by rw [itm] at h; cases h), fun _ _ _ _ _ _ _ h => (by rw [mem] at h; cases h)⟩
  | f + 1 => by
    obtain ⟨i1, i2, i3⟩ := all_ok f
    refine ⟨?_, ?_, ?_⟩
    · intro d r j t h hd
      have hds : ∀ c : UInt8, c ≠ 0 → r.headD 0 = c → ∃ r', r = c :: r' := by
        intro c hc he
        cases r with
        | nil => exact absurd he.symm hc
        | cons a b => exact ⟨b, by simp only [List.headD_cons] at he; rw [he]⟩
      by_cases h110 : r.headD 0 = 110
      · rw [val] at h
        simp only [h110, if_true] at h
        split at h
        · cases h
        rename_i t' hw
        cases h
        rw [word_len hw]
        exact ⟨by decide +kernel, by simp [dep]; omega, by simp [pt]; omega⟩
      by_cases h102 : r.headD 0 = 102
      · rw [val] at h
        simp only [h102, if_true] at h
        rw [if_neg (by decide)] at h
        split at h
        · cases h
        rename_i t' hw
        cases h
        rw [word_len hw]
        exact ⟨by decide +kernel, by simp [dep]; omega, by simp [pt]; omega⟩
      by_cases h116 : r.headD 0 = 116
      · rw [val] at h
        simp only [h116, if_true] at h
        rw [if_neg (by decide), if_neg (by decide)] at h
        split at h
        · cases h
        rename_i t' hw
        cases h
        rw [word_len hw]
        exact ⟨by decide +kernel, by simp [dep]; omega, by simp [pt]; omega⟩
      by_cases h34 : r.headD 0 = 34
      · rw [val] at h
        simp only [h34, if_true] at h
        rw [if_neg (by decide), if_neg (by decide), if_neg (by decide)] at h
        split at h
        · cases h
        rename_i s t' hw
        split at h
        · cases h
        rename_i t2 hw2
        cases h
        obtain ⟨g1, g2⟩ := letters_ok hw
        rw [want_len hw2] at g2
        refine ⟨by simp [may, own, mayL, g1], by simp [dep]; omega, ?_⟩
        simp [pt, quo] at g2 ⊢
        omega
      by_cases h91 : r.headD 0 = 91
      · obtain ⟨r', rfl⟩ := hds 91 (by decide) h91
        rw [val_list] at h
        split at h
        · cases h
        rename_i h16
        have hsk := sk_le r'
        split at h
        · rename_i h93
          cases h
          have hr : sk r' ≠ [] := by intro q; rw [q] at h93; exact absurd h93 (by decide)
          have := List.length_pos_iff.2 hr
          refine ⟨by decide +kernel, by simp [dep, depL]; omega, ?_⟩
          simp [pt, ptL]
          omega
        · split at h
          · cases h
          rename_i l t' hi
          cases h
          obtain ⟨g1, g2, g3, g4⟩ := i2 _ _ _ _ _ hi (by omega) rfl (by simp [depL]; omega)
          have := ptL_len g3
          refine ⟨by simp [may, own, g1], by simp [dep]; omega, ?_⟩
          simp [pt, ptL] at g4 ⊢
          omega
      by_cases h123 : r.headD 0 = 123
      · obtain ⟨r', rfl⟩ := hds 123 (by decide) h123
        rw [val_obj] at h
        split at h
        · cases h
        rename_i h16
        have hsk := sk_le r'
        split at h
        · rename_i h93
          cases h
          have hr : sk r' ≠ [] := by intro q; rw [q] at h93; exact absurd h93 (by decide)
          have := List.length_pos_iff.2 hr
          refine ⟨by decide +kernel, by simp [dep, depL]; omega, ?_⟩
          simp [pt, ptO]
          omega
        · split at h
          · cases h
          rename_i ns l t' hi
          cases h
          obtain ⟨g1, g2, g3, g4, g5, g6, g7⟩ := i3 _ _ _ _ _ _ _ hi (by omega) rfl (by simp) List.Pairwise.nil rfl (by simp [depL]; omega)
          have := ptO_len g6 g1
          refine ⟨by simpa [may, own, g4, g1, (rise_iff ns).2 g3] using g2, by simp [dep]; omega, ?_⟩
          simp [pt, ptO] at g7 ⊢
          omega
      · rw [val] at h
        simp only [h110, h102, h116, h34, h91, h123, if_false] at h
        split at h
        · cases h
        rename_i n t' hn
        cases h
        obtain ⟨g1, g2⟩ := num_ok hn
        exact ⟨by simp [may, own, mayL]; exact g1, by simp [dep]; omega, by simpa [pt] using g2⟩
    · intro d acc r l t h hd hm hdp
      rw [itm] at h
      split at h
      · cases h
      rename_i x t1 hv
      obtain ⟨g1, g2, g3⟩ := i1 _ _ _ _ hv hd
      have hsk := sk_le t1
      have a1 : mayL (acc ++ [x]) = true := by
        rw [mayL_iff] at hm ⊢
        intro y hy
        rcases List.mem_append.1 hy with hy | hy
        · exact hm y hy
        · rw [List.mem_singleton] at hy; rw [hy]; exact g1
      have a2 : depL (acc ++ [x]) + d ≤ 16 := by
        have q : depL (acc ++ [x]) ≤ 16 - d := by
          rw [depL_iff]
          have q := (depL_iff (16 - d) acc).1 (by omega)
          intro y hy
          rcases List.mem_append.1 hy with hy | hy
          · exact q y hy
          · rw [List.mem_singleton] at hy; rw [hy]; omega
        omega
      have a3 : (ptL false (acc ++ [x])).length = (ptL false acc).length + 1 + (pt x).length := by
        rw [ptL_append, ptL_cons, ptL]
        simp
        omega
      simp only at h
      split at h
      · rename_i h93
        cases h
        have hr : sk t1 ≠ [] := by intro q; rw [q] at h93; exact absurd h93 (by decide)
        have := List.length_pos_iff.2 hr
        rw [List.length_tail]
        exact ⟨a1, a2, by simp, by omega⟩
      · split at h
        · cases h
        rename_i t2 hw
        have hw := want_len hw
        obtain ⟨b1, b2, b3, b4⟩ := i2 _ _ _ _ _ h hd a1 a2
        have hs2 := sk_le t2
        rw [hw, List.length_cons] at hsk
        exact ⟨b1, b2, b3, by omega⟩
    · intro d an ax r ns xs t h hd hlen hva hri hm hdp
      rw [mem] at h
      split at h
      · cases h
      rename_i a t0 hle
      obtain ⟨c1, c2⟩ := letters_ok hle
      split at h
      · cases h
      rename_i hna
      split at h
      · cases h
      rename_i t1 hw1
      split at h
      · cases h
      rename_i t2 hw2
      split at h
      · cases h
      rename_i x t3 hv
      obtain ⟨g1, g2, g3⟩ := i1 _ _ _ _ hv hd
      have l1 := congrArg List.length (want_len hw1)
      have l2 := congrArg List.length (want_len hw2)
      rw [List.length_cons] at l1 l2
      have s1 := sk_le t1
      have s2 := sk_le t2
      have s3 := sk_le t3
      have a1 : mayL (insAt ax (plc an a) x) = true := by
        rw [mayL_iff] at hm ⊢
        intro y hy
        rcases mem_insAt.1 hy with rfl | hy
        · exact g1
        · exact hm y hy
      have a2 : depL (insAt ax (plc an a) x) + d ≤ 16 := by
        have q : depL (insAt ax (plc an a) x) ≤ 16 - d := by
          rw [depL_iff]
          have q := (depL_iff (16 - d) ax).1 (by omega)
          intro y hy
          rcases mem_insAt.1 hy with rfl | hy
          · omega
          · exact q y hy
        omega
      have a3 := ptO_insAt an ax (plc an a) a x hlen
      have a4 : (insAt an (plc an a) a).length = (insAt ax (plc an a) x).length := by rw [len_insAt, len_insAt, hlen]
      have a5 : ∀ b ∈ insAt an (plc an a) a, validD b = true := by
        intro b hb
        rcases mem_insAt.1 hb with rfl | hb
        · exact c1
        · exact hva b hb
      have a6 := rise_ins an a hri hna
      have a7 : (quo a).length = (inner a).length + 2 := by simp [quo]
      have a8 : insAt an (plc an a) a ≠ [] := by
        intro q
        have := len_insAt an (plc an a) a
        rw [q] at this
        simp at this
      simp only at h
      split at h
      · rename_i h93
        cases h
        have hr : sk t3 ≠ [] := by intro q; rw [q] at h93; exact absurd h93 (by decide)
        have := List.length_pos_iff.2 hr
        rw [List.length_tail]
        exact ⟨a4, a5, a6, a1, a2, a8, by omega⟩
      · split at h
        · cases h
        rename_i t5 hw5
        have l5 := congrArg List.length (want_len hw5)
        rw [List.length_cons] at l5
        have s5 := sk_le t5
        obtain ⟨b1, b2, b3, b4, b5, b6, b7⟩ := i3 _ _ _ _ _ _ _ h hd a4 a5 a6 a1 a2
        exact ⟨b1, b2, b3, b4, b5, b6, by omega⟩
end Go.Proofs.YtfaahjbkdlkmjaaDoor
/- Jot: fuel; J5; pure. -/
namespace Go.Proofs.YtfaahjbkdlkmjaaDoor
open Go Go.Lib
set_option linter.unusedVariables false
set_option linter.unusedSimpArgs false
theorem want_err {b : UInt8} {r : Bs} {e : Er} (h : want b r = .error e) : e = (40, r.length) := by
  unfold want at h
  split at h
  · split at h
    · cases h
    · cases h; rfl
  · cases h; rfl
theorem word_err : ∀ {l r : Bs} {e : Er}, word l r = .error e → e.1 = 40
  | [], r, e, h => by cases h
  | c :: l, r, e, h => by
    rw [word] at h
    split at h
    · exact word_err h
    · rename_i x hx
      cases h
      rw [want_err hx]
theorem four_err : ∀ (n : Nat) {lw : Bool} {p a : Nat} {r : Bs} {e : Er}, 4 - p = n → p ≤ 4 → four lw p a r = .error e → e.1 = 40
  | 0, lw, p, a, r, e, hn, hp, h => by
    obtain rfl : p = 4 := by omega
    rw [four] at h
    cases h
  | n + 1, lw, p, a, r, e, hn, hp, h => by
    rw [four] at h
    · rw [dif_neg (by omega)] at h
      simp only at h
      split at h
      · cases h; rfl
      split at h
      · cases h; rfl
      split at h
      · cases h; rfl
      exact four_err n (by omega) (by omega) h
    · omega
theorem esc_err {r : Bs} {e : Er} (h : esc r = .error e) : e.1 = 40 := by
  cases r with
  | nil => cases h; rfl
  | cons c t =>
    rw [esc] at h
    split at h
    · unfold byN at h
      split at h
      · rename_i e' h4
        cases h
        exact four_err _ rfl (by omega) h4
      · split at h
        · cases h
        split at h
        · rename_i hw
          cases h
          rw [want_err hw]
        split at h
        · rename_i hw
          cases h
          rw [want_err hw]
        split at h
        · rename_i h4
          cases h
          exact four_err _ rfl (by omega) h4
        · cases h
    · split at h
      · cases h
      · cases h; rfl
theorem lett_err {r : Bs} {e : Er} (h : lett r = .error e) : e.1 = 40 := by
  unfold lett at h
  split at h
  · cases h; rfl
  split at h
  · cases h; rfl
  · cases h
theorem lets_err : ∀ {f : Nat} {acc r : Bs} {e : Er}, lets f acc r = .error e → r.length < f → e.1 = 40
  | 0, _, _, _, h, hf => by omega
  | f + 1, acc, r, e, h, hf => by
    rw [lets] at h
    split at h
    · cases h
    split at h
    · rename_i h34 h92
      split at h
      · rename_i he
        cases h
        exact esc_err he
      · rename_i he
        obtain ⟨-, -, e3⟩ := esc_ok he
        rw [List.length_tail] at e3
        exact lets_err h (by omega)
    · rename_i h34 h92
      split at h
      · rename_i he
        cases h
        exact lett_err he
      · rename_i l t1 he
        obtain ⟨e1, e2, -⟩ := lett_val he h34 h92
        have := List.length_pos_iff.2 e2
        rw [e1] at hf
        simp at hf
        exact lets_err h (by omega)
theorem letters_err {r : Bs} {e : Er} (h : letters r = .error e) : e.1 = 40 := by
  unfold letters at h
  split at h
  · rename_i hw
    cases h
    rw [want_err hw]
  · exact lets_err h (by omega)
theorem digs_err : ∀ {r : Bs} {a : Nat} {e : Er}, digs a r = .error e → e.1 = 43
  | [], a, e, h => by cases h
  | c :: r, a, e, h => by
    rw [digs] at h
    split at h
    · split at h
      · cases h; rfl
      · exact digs_err h
    · cases h
theorem num_err {r : Bs} {e : Er} (h : num r = .error e) : e.1 = 40 ∨ e.1 = 43 := by
  unfold num at h
  simp only at h
  obtain ⟨r1, hr1⟩ : ∃ r1, (if r.headD 0 = 45 then r.tail else r) = r1 := ⟨_, rfl⟩
  rw [hr1] at h
  split at h
  · cases h
  split at h
  · split at h
    · rename_i hd
      cases h
      exact .inr (digs_err hd)
    · cases h
  · cases h; exact .inl rfl
/-- So much fuel is never burnt. -/
theorem all_err : ∀ f : Nat, (∀ d r e, val f d r = .error e → d ≤ 16 → 2 * r.length + 1 ≤ f → 40 ≤ e.1 ∧ e.1 ≤ 43) ∧
    (∀ d acc r e, itm f d acc r = .error e → d ≤ 16 → 2 * r.length + 2 ≤ f → 40 ≤ e.1 ∧ e.1 ≤ 43) ∧
    (∀ d an ax r e, mem f d an ax r = .error e → d ≤ 16 → 2 * r.length + 2 ≤ f → 40 ≤ e.1 ∧ e.1 ≤ 43)
  | 0 => ⟨fun _ _ _ _ _ h => by omega, fun _ _ _ _ _ _ h => by omega, fun _ _ _ _ _ _ _ h => by omega⟩
  | f + 1 => by
    obtain ⟨i1, i2, i3⟩ := all_err f
    refine ⟨?_, ?_, ?_⟩
    · intro d r e h hd hf
      rw [val] at h
      simp only at h
      split at h
      · split at h
        · rename_i hw
          cases h
          rw [word_err hw]; decide
        · cases h
      split at h
      · split at h
        · rename_i hw
          cases h
          rw [word_err hw]; decide
        · cases h
      split at h
      · split at h
        · rename_i hw
          cases h
          rw [word_err hw]; decide
        · cases h
      split at h
      · split at h
        · rename_i hw
          cases h
          rw [letters_err hw]; decide
        split at h
        · rename_i hw
          cases h
          rw [want_err hw]; simp
        · cases h
      split at h
      · rename_i h91
        have hr : r ≠ [] := by intro q; subst q; exact absurd h91 (by decide)
        have hl := List.length_pos_iff.2 hr
        have hs := sk_le r.tail
        rw [List.length_tail] at hs
        split at h
        · cases h; simp
        split at h
        · cases h
        split at h
        · rename_i hi
          cases h
          exact i2 _ _ _ _ hi (by omega) (by omega)
        · cases h
      split at h
      · rename_i h91
        have hr : r ≠ [] := by intro q; subst q; exact absurd h91 (by decide)
        have hl := List.length_pos_iff.2 hr
        have hs := sk_le r.tail
        rw [List.length_tail] at hs
        split at h
        · cases h; simp
        split at h
        · cases h
        split at h
        · rename_i hi
          cases h
          exact i3 _ _ _ _ _ hi (by omega) (by omega)
        · cases h
      split at h
      · rename_i hn
        cases h
        rcases num_err hn with q | q <;> rw [q] <;> decide
      · cases h
    · intro d acc r e h hd hf
      rw [itm] at h
      split at h
      · rename_i hv
        cases h
        exact i1 _ _ _ hv hd (by omega)
      rename_i x t hv
      simp only at h
      split at h
      · cases h
      split at h
      · rename_i hw
        cases h
        rw [want_err hw]; simp
      · rename_i t2 hw
        have s1 := sk_le t
        have s2 := sk_le t2
        have l1 := congrArg List.length (want_len hw)
        rw [List.length_cons] at l1
        obtain ⟨-, -, g⟩ := (all_ok f).1 _ _ _ _ hv hd
        have := pt_pos x
        exact i2 _ _ _ _ h hd (by omega)
    · intro d an ax r e h hd hf
      rw [mem] at h
      split at h
      · rename_i hw
        cases h
        rw [letters_err hw]; decide
      rename_i a t hle
      split at h
      · cases h; simp
      split at h
      · rename_i hw
        cases h
        rw [want_err hw]; simp
      rename_i t1 hw1
      split at h
      · rename_i hw
        cases h
        rw [want_err hw]; simp
      rename_i t2 hw2
      obtain ⟨-, c2⟩ := letters_ok hle
      have l1 := congrArg List.length (want_len hw1)
      have l2 := congrArg List.length (want_len hw2)
      rw [List.length_cons] at l1 l2
      have s1 := sk_le t1
      have s2 := sk_le t2
      split at h
      · rename_i hv
        cases h
        exact i1 _ _ _ hv hd (by omega)
      rename_i x t3 hv
      obtain ⟨-, -, g⟩ := (all_ok f).1 _ _ _ _ hv hd
      have s3 := sk_le t3
      simp only at h
      split at h
      · cases h
      split at h
      · rename_i hw
        cases h
        rw [want_err hw]; simp
      · rename_i t5 hw5
        have l5 := congrArg List.length (want_len hw5)
        rw [List.length_cons] at l5
        have s5 := sk_le t5
        exact i3 _ _ _ _ _ h hd (by omega)
/-- More fuel changes nothing. -/
theorem all_more : ∀ f : Nat, (∀ d r x, val f d r = x → (∀ e, x = .error e → e.1 ≠ 99) → val (f + 1) d r = x) ∧
    (∀ d acc r x, itm f d acc r = x → (∀ e, x = .error e → e.1 ≠ 99) → itm (f + 1) d acc r = x) ∧
    (∀ d an ax r x, mem f d an ax r = x → (∀ e, x = .error e → e.1 ≠ 99) → mem (f + 1) d an ax r = x)
  | 0 => ⟨fun _ _ _ h he => (by rw [val] at h; exact absurd rfl (he _ h.symm)), fun _ _ _ _ h he => (by rw [itm] at h; exact absurd rfl (he _ h.symm)), fun _ _ _ _ _ h he => (by rw [mem] at h; exact absurd rfl (he _ h.symm))⟩
  | f + 1 => by
    obtain ⟨i1, i2, i3⟩ := all_more f
    have k2 : ∀ d acc r, (∀ e, itm f d acc r = .error e → e.1 ≠ 99) → itm (f + 1) d acc r = itm f d acc r := fun d acc r h => i2 d acc r _ rfl h
    have k3 : ∀ d an ax r, (∀ e, mem f d an ax r = .error e → e.1 ≠ 99) → mem (f + 1) d an ax r = mem f d an ax r := fun d an ax r h => i3 d an ax r _ rfl h
    have k1 : ∀ d r, (∀ e, val f d r = .error e → e.1 ≠ 99) → val (f + 1) d r = val f d r := fun d r h => i1 d r _ rfl h
    refine ⟨?_, ?_, ?_⟩
    · intro d r x h he
      subst h
      have hds : ∀ c : UInt8, c ≠ 0 → r.headD 0 = c → ∃ r', r = c :: r' := by
        intro c hc hh
        cases r with
        | nil => exact absurd hh.symm hc
        | cons a b => exact ⟨b, by simp only [List.headD_cons] at hh; rw [hh]⟩
      by_cases h91 : r.headD 0 = 91
      · obtain ⟨r', rfl⟩ := hds 91 (by decide) h91
        rw [val_list] at he ⊢
        rw [val_list]
        by_cases q : d = 16
        · rw [if_pos q, if_pos q]
        rw [if_neg q] at he ⊢
        rw [if_neg q]
        by_cases q2 : (sk r').headD 0 = 93
        · rw [if_pos q2, if_pos q2]
        rw [if_neg q2] at he ⊢
        rw [if_neg q2, k2 _ _ _ (fun e q3 => he e (by rw [q3]))]
      by_cases h123 : r.headD 0 = 123
      · obtain ⟨r', rfl⟩ := hds 123 (by decide) h123
        rw [val_obj] at he ⊢
        rw [val_obj]
        by_cases q : d = 16
        · rw [if_pos q, if_pos q]
        rw [if_neg q] at he ⊢
        rw [if_neg q]
        by_cases q2 : (sk r').headD 0 = 125
        · rw [if_pos q2, if_pos q2]
        rw [if_neg q2] at he ⊢
        rw [if_neg q2, k3 _ _ _ _ (fun e q3 => he e (by rw [q3]))]
      · rw [val, val]
        simp only [h91, h123, if_false]
    · intro d acc r x h he
      subst h
      rw [itm] at he ⊢
      rw [itm]
      rw [k1 _ _ (fun e q => he e (by rw [q]))]
      cases hv : val f d r with
      | error e => rfl
      | ok p =>
        obtain ⟨y, t⟩ := p
        rw [hv] at he
        simp only at he ⊢
        by_cases q : (sk t).headD 0 = 93
        · rw [if_pos q, if_pos q]
        rw [if_neg q] at he ⊢
        rw [if_neg q]
        cases hw : want 44 (sk t) with
        | error e => rfl
        | ok t2 =>
          rw [hw] at he
          exact k2 _ _ _ he
    · intro d an ax r x h he
      subst h
      rw [mem] at he ⊢
      rw [mem]
      cases hl : letters r with
      | error e => rfl
      | ok p =>
        obtain ⟨a, t⟩ := p
        rw [hl] at he
        simp only at he ⊢
        by_cases q : a ∈ an
        · rw [if_pos q, if_pos q]
        rw [if_neg q] at he ⊢
        rw [if_neg q]
        cases hw : want 34 t with
        | error e => rfl
        | ok t1 =>
          rw [hw] at he
          simp only at he ⊢
          cases hw2 : want 58 (sk t1) with
          | error e => rfl
          | ok t2 =>
            rw [hw2] at he
            simp only at he ⊢
            rw [k1 _ _ (fun e q => he e (by rw [q]))]
            cases hv : val f d (sk t2) with
            | error e => rfl
            | ok p =>
              obtain ⟨y, t3⟩ := p
              rw [hv] at he
              simp only at he ⊢
              by_cases q2 : (sk t3).headD 0 = 125
              · rw [if_pos q2, if_pos q2]
              rw [if_neg q2] at he ⊢
              rw [if_neg q2]
              cases hw3 : want 44 (sk t3) with
              | error e => rfl
              | ok t4 =>
                rw [hw3] at he
                exact k3 _ _ _ _ he
theorem val_more {f d : Nat} {r : Bs} {x : Except Er (J × Bs)} (h : val f d r = x) (he : ∀ e, x = .error e → e.1 ≠ 99) : ∀ k, val (f + k) d r = x
  | 0 => h
  | k + 1 => (all_more (f + k)).1 d r x (val_more h he k) he
theorem val_fuel (r : Bs) (e : Er) (h : val (fuel r) 0 (sk r) = .error e) : 40 ≤ e.1 ∧ e.1 ≤ 43 := by
  have := sk_le r
  exact (all_err _).1 _ _ _ h (by omega) (by unfold fuel; omega)
/-- J5: Parse of what Print printed. -/
theorem prs_pt {j : J} (hm : may j = true) (hd : dep j ≤ 16) (hl : (pt j).length ≤ 4000) : prs (pt j) = (j, 0, 0) := by
  obtain ⟨f0, h⟩ := val_pt j 0 [] hm (by omega) (by decide)
  rw [List.append_nil] at h
  have hsk : sk (pt j) = pt j := by
    have := sk_pt j []
    rwa [List.append_nil] at this
  have hv : val (fuel (pt j)) 0 (pt j) = .ok (j, []) := by
    obtain ⟨x, hx⟩ : ∃ x, val (fuel (pt j)) 0 (pt j) = x := ⟨_, rfl⟩
    have h1 := val_more hx (fun e q => by have := val_fuel (pt j) e (by rw [hsk, hx, q]); omega) f0
    rw [h _ (by omega)] at h1
    rw [hx, h1]
  unfold prs whole
  rw [if_neg (by omega), hsk, hv]
  rfl
/-- J5: what Parse takes. -/
theorem prs_ok {s : Bs} {j : J} {at9 : Int} (h : prs s = (j, 0, at9)) : may j = true ∧ dep j ≤ 16 ∧ (pt j).length ≤ s.length ∧ s.length ≤ 4000 ∧ at9 = 0 := by
  unfold prs at h
  split at h
  · simp at h
  rename_i hl
  unfold whole at h
  cases hv : val (fuel s) 0 (sk s) with
  | error e =>
    rw [hv] at h
    obtain ⟨e1, e2⟩ := e
    have := val_fuel s _ hv
    simp only [Prod.mk.injEq] at h this
    omega
  | ok p =>
    obtain ⟨v, t⟩ := p
    rw [hv] at h
    simp only at h
    split at h
    · rename_i v' hq
      split at hq
      · simp only [Except.ok.injEq] at hq
        subst hq
        simp only [Prod.mk.injEq] at h
        obtain ⟨rfl, -, rfl⟩ := h
        obtain ⟨g1, g2, g3⟩ := (all_ok _).1 _ _ _ _ hv (by omega)
        have := sk_le s
        exact ⟨g1, by omega, by omega, by omega, rfl⟩
      · cases hq
    · rename_i e n hq
      split at hq
      · cases hq
      · simp only [Except.error.injEq, Prod.mk.injEq] at hq
        obtain ⟨rfl, rfl⟩ := hq
        simp at h
end Go.Proofs.YtfaahjbkdlkmjaaDoor
