import Derived.Test.YtmjaobddgaglhaaGreatDoorFqc
import Derived.Test.YtmjaobddgaglhaaGreatDoorFqe
import Derived.Test.YtmjaobddgaglhaaGreatDoorFqg
import Derived.BigQuiet
import Derived.Deep.CutRange
/- FamilyOnce. -/
namespace Go.Proofs.YtmjaobddgaglhaaGreatDoor
open Go.RowKit
set_option maxHeartbeats 16000000
set_option maxRecDepth 20000
set_option linter.unusedVariables false
def fo18T : List (Op × Option Tmp × Option (Nat × Bool)) := [
  (.move (.tmp 11), some 118, none),
  (.nilCheck (.tmp 118), some 119, none),
  (.fieldAddr 64 (.tmp 119) 0, some 120, none),
  (.load 24 (.tmp 120), some 121, none),
  (.move (.tmp 11), some 122, none),
  (.nilCheck (.tmp 122), some 123, none),
  (.fieldAddr 64 (.tmp 123) 1, some 124, none),
  (.load 61 (.tmp 124), some 125, none),
  (.move (.tmp 15), some 126, none),
  (.indexAddr 61 (.tmp 125) (.tmp 126), some 127, none),
  (.load 26 (.tmp 127), some 128, none),
  (.move (.tmp 6), some 129, none),
  (.call { callee := .value (.func 8), args := #[(.tmp 121), (.tmp 128), (.tmp 129)], argTypes := #[24, 26, 3] }, some 130, none),
  (.assign (.tmp 130), some 17, none)]
def fo18V (P gl n cap k : Nat) (F T : Array Value) (now V : Int) (_ : Unit) : Nat → Value
  | 0 => ptr P
  | 1 => ptr P
  | 2 => .pointer (some ⟨P, 0, none⟩)
  | 3 => .agg F
  | 4 => ptr P
  | 5 => ptr P
  | 6 => .pointer (some ⟨P, 14, none⟩)
  | 7 => .slice (some ⟨gl, 0, none⟩) n cap
  | 8 => I k
  | 9 => .pointer (some ⟨gl, k * 9, none⟩)
  | 10 => .agg T
  | 11 => I now
  | 12 => I V
  | 13 => I V
  | _ => undef
def fo28T : List (Op × Option Tmp × Option (Nat × Bool)) := [
  (.move (.tmp 11), some 161, none),
  (.nilCheck (.tmp 161), some 162, none),
  (.fieldAddr 64 (.tmp 162) 1, some 163, none),
  (.load 61 (.tmp 163), some 164, none),
  (.move (.tmp 15), some 165, none),
  (.indexAddr 61 (.tmp 164) (.tmp 165), some 166, none),
  (.fieldAddr 26 (.tmp 166) 7, some 167, none),
  (.load 3 (.tmp 167), some 168, none),
  (.move (.tmp 11), some 169, none),
  (.nilCheck (.tmp 169), some 170, none),
  (.fieldAddr 64 (.tmp 170) 1, some 171, none),
  (.load 61 (.tmp 171), some 172, none),
  (.move (.tmp 15), some 173, none),
  (.binOp .add 3 (.tmp 173) (.const (I 1)) 3, some 174, none),
  (.indexAddr 61 (.tmp 172) (.tmp 174), some 175, none),
  (.fieldAddr 26 (.tmp 175) 0, some 176, none),
  (.load 3 (.tmp 176), some 177, none),
  (.binOp .neq 3 (.tmp 168) (.tmp 177) 3, some 178, none)]
def fo28V (P gl n cap k : Nat) (_ : Unit) : Nat → Value
  | 0 => ptr P
  | 1 => ptr P
  | 2 => .pointer (some ⟨P, 14, none⟩)
  | 3 => .slice (some ⟨gl, 0, none⟩) n cap
  | 4 => I k
  | 5 => .pointer (some ⟨gl, k * 9, none⟩)
  | 6 => .pointer (some ⟨gl, k * 9 + 7, none⟩)
  | 7 => I (11 + (k : Int))
  | 8 => ptr P
  | 9 => ptr P
  | 10 => .pointer (some ⟨P, 14, none⟩)
  | 11 => .slice (some ⟨gl, 0, none⟩) n cap
  | 12 => I k
  | 13 => I ((k + 1 : Nat) : Int)
  | 14 => .pointer (some ⟨gl, (k + 1) * 9, none⟩)
  | 15 => .pointer (some ⟨gl, (k + 1) * 9, none⟩)
  | 16 => I (11 + (k : Int))
  | 17 => .bool ((11 + (k : Int)) != (11 + (k : Int)))
  | _ => undef
def fo3T : List (Op × Option Tmp × Option (Nat × Bool)) := [
  (.fieldAddr 56 (.tmp 2) 1, some 28, none),
  (.load 3 (.tmp 28), some 29, none),
  (.call { callee := .value (.func 27), args := #[(.tmp 29), (.const (I 100))], argTypes := #[3, 3] }, some 30, none),
  (.binOp .add 3 (.const (I 1)) (.tmp 30) 3, some 31, none),
  (.fieldAddr 56 (.tmp 2) 2, some 32, none),
  (.load 3 (.tmp 32), some 33, none),
  (.call { callee := .value (.func 27), args := #[(.tmp 33), (.const (I 400))], argTypes := #[3, 3] }, some 34, none),
  (.binOp .add 3 (.const (I 1)) (.tmp 34) 3, some 35, none),
  (.fieldAddr 56 (.tmp 2) 3, some 36, none),
  (.load 3 (.tmp 36), some 37, none),
  (.call { callee := .value (.func 27), args := #[(.tmp 37), (.const (I 40))], argTypes := #[3, 3] }, some 38, none),
  (.call { callee := .value (.func 28), args := #[(.tmp 31), (.tmp 35), (.tmp 38)], argTypes := #[3, 3, 3] }, some 39, none),
  (.alloc 48, some 7, none),
  (.store 48 (.tmp 7) (.tmp 39), none, none)]
def fo3V (X : Nat) (z1 z2 z3 p1 p2 p3 : Int) (V0 : Value → Array Value) (c : (Option Addr × Nat) × Nat) : Nat → Value
  | 0 => .pointer (some ⟨X, 1, none⟩)
  | 1 => I z1
  | 2 => I p1
  | 3 => I (1 + p1)
  | 4 => .pointer (some ⟨X, 2, none⟩)
  | 5 => I z2
  | 6 => I p2
  | 7 => I (1 + p2)
  | 8 => .pointer (some ⟨X, 3, none⟩)
  | 9 => I z3
  | 10 => I p3
  | 11 => .agg (V0 (.slice c.1.1 1 c.1.2))
  | 12 => ptr c.2
  | 13 => undef
  | _ => undef
theorem fo3V_ne {X : Nat} {z1 z2 z3 p1 p2 p3 : Int} {V0 : Value → Array Value} {a a' : Option Addr} {p p' x : Nat} {j : Nat} (h11 : j ≠ 11) : fo3V X z1 z2 z3 p1 p2 p3 V0 ((a, p), x) j = fo3V X z1 z2 z3 p1 p2 p3 V0 ((a', p'), x) j := by
  match j, h11 with
  | 0, _ => rfl
  | 1, _ => rfl
  | 2, _ => rfl
  | 3, _ => rfl
  | 4, _ => rfl
  | 5, _ => rfl
  | 6, _ => rfl
  | 7, _ => rfl
  | 8, _ => rfl
  | 9, _ => rfl
  | 10, _ => rfl
  | 11, h => exact absurd rfl h
  | 12, _ => rfl
  | 13, _ => rfl
  | (q + 14), _ => rfl
theorem fo3V_na {X : Nat} {z1 z2 z3 p1 p2 p3 : Int} {V0 : Value → Array Value} {a : Option Addr} {p x x' : Nat} {j : Nat} (h12 : j ≠ 12) : fo3V X z1 z2 z3 p1 p2 p3 V0 ((a, p), x) j = fo3V X z1 z2 z3 p1 p2 p3 V0 ((a, p), x') j := by
  match j, h12 with
  | 0, _ => rfl
  | 1, _ => rfl
  | 2, _ => rfl
  | 3, _ => rfl
  | 4, _ => rfl
  | 5, _ => rfl
  | 6, _ => rfl
  | 7, _ => rfl
  | 8, _ => rfl
  | 9, _ => rfl
  | 10, _ => rfl
  | 11, _ => rfl
  | 12, h => exact absurd rfl h
  | 13, _ => rfl
  | (q + 14), _ => rfl
structure WAp (Gd : World → Value → Prop) (W0 : World) (n : Nat) (Z0 : Array Value) (V0 : Value → Array Value) (c : (Option Addr × Nat) × Nat) (L : Nat → Bool) (W : World) : Prop where
  be : Below W0.heap.size W0 W
  own : L 11 = true → Gd W (.slice c.1.1 n c.1.2)
  b0 : L 12 = true → W0.heap.size ≤ c.2 ∧ W.heap[c.2]? = some (.cells (if L 13 then V0 (.slice c.1.1 n c.1.2) else Z0) 48 (0, 0))
  s0 : L 13 = true → L 12 = true ∧ L 11 = true
theorem WAp.pure {Gd : World → Value → Prop} {W0 : World} {n : Nat} {Z0 : Array Value} {V0 : Value → Array Value} {c : (Option Addr × Nat) × Nat} {L : Nat → Bool} {W : World} (h : WAp Gd W0 n Z0 V0 c L W) (i : Nat) (h11 : i ≠ 11) (h12 : i ≠ 12) (h13 : i ≠ 13) : WAp Gd W0 n Z0 V0 c (upd L i) W :=
  ⟨h.be, (fun e => h.own (by rw [upd_ne (fun q => h11 q.symm)] at e; exact e)), (fun e => by rw [upd_ne (fun q => h12 q.symm)] at e; rw [upd_ne (fun q => h13 q.symm)]; exact h.b0 e), (fun e => by rw [upd_ne (fun q => h13 q.symm)] at e; exact ⟨upd_of (h.s0 e).1, upd_of (h.s0 e).2⟩)⟩
theorem WAp.call {Gd : World → Value → Prop} {W0 : World} {n : Nat} {Z0 : Array Value} {V0 : Value → Array Value} {c : (Option Addr × Nat) × Nat} {L : Nat → Bool} {W : World} {W2 : World} (hG : ∀ W W2 v, Gd W v → Below W.heap.size W W2 → Gd W2 v) (h : WAp Gd W0 n Z0 V0 c L W) (hb : Below W.heap.size W W2) : WAp Gd W0 n Z0 V0 c L W2 :=
  ⟨h.be.trans (hb.mono h.be.size), (fun e => hG _ _ _ (h.own e) hb), (fun e => ⟨(h.b0 e).1, (hb.block _ (lt_of_row (h.b0 e).2)).trans (h.b0 e).2⟩), h.s0⟩
theorem WAp.got {Gd : World → Value → Prop} {W0 : World} {n : Nat} {Z0 : Array Value} {V0 : Value → Array Value} {c : (Option Addr × Nat) × Nat} {L : Nat → Bool} {W : World} {W2 : World} (hG : ∀ W W2 v, Gd W v → Below W.heap.size W W2 → Gd W2 v) (h : WAp Gd W0 n Z0 V0 c L W) (hK : L 11 = false) {a : Option Addr} {cap : Nat} (ho : Gd W2 (.slice a n cap)) (hb : Below W.heap.size W W2) : WAp Gd W0 n Z0 V0 ((a, cap), c.2) (upd L 11) W2 := by
  have h2 := h.call hG hb
  have f0 : L 13 = false := by cases q : L 13 with | false => rfl | true => rw [(h.s0 q).2] at hK; cases hK
  exact ⟨h2.be, (fun _ => ho), (fun e => by rw [upd_ne (by decide)] at e; have q := h2.b0 e; rw [f0] at q; rw [upd_ne (by decide), f0]; exact q), (fun e => by rw [upd_ne (by decide), f0] at e; cases e)⟩
theorem WAp.al0 {Gd : World → Value → Prop} {W0 : World} {n : Nat} {Z0 : Array Value} {V0 : Value → Array Value} {c : (Option Addr × Nat) × Nat} {L : Nat → Bool} {W : World} (hG : ∀ W W2 v, Gd W v → Below W.heap.size W W2 → Gd W2 v) (h : WAp Gd W0 n Z0 V0 c L W) (hL : L 12 = false) : WAp Gd W0 n Z0 V0 (c.1, W.heap.size) (upd L 12) (W.alloc (.cells Z0 48)) := by
  have h2 := h.call hG ((Below.refl _ W).alloc (Nat.le_refl _) (.cells Z0 48))
  have f0 : L 13 = false := by cases q : L 13 with | false => rfl | true => rw [(h.s0 q).1] at hL; cases hL
  exact ⟨h2.be, (fun e => h2.own (by rw [upd_ne (by decide)] at e; exact e)), (fun _ => ⟨h.be.size, by rw [upd_ne (by decide), f0]; exact heap_alloc_new _ _⟩), (fun e => by rw [upd_ne (by decide), f0] at e; cases e)⟩
theorem WAp.st0 {Gd : World → Value → Prop} {W0 : World} {n : Nat} {Z0 : Array Value} {V0 : Value → Array Value} {c : (Option Addr × Nat) × Nat} {L : Nat → Bool} {W : World} (hG2 : ∀ W v k cs t vs, Gd W v → W.heap[k]? = some (.cells cs t (0, 0)) → t ≠ 9 → Gd (W.setRow k vs) v) (h : WAp Gd W0 n Z0 V0 c L W) (hA : L 12 = true) (hK : L 11 = true) : WAp Gd W0 n Z0 V0 c (upd L 13) (W.setRow (c.2) (V0 (.slice c.1.1 n c.1.2))) := by
  obtain ⟨k1, k2⟩ := h.b0 hA
  exact ⟨bel_set h.be _ _ k1 h.be.size, (fun e => hG2 _ _ _ _ _ _ (h.own (by rw [upd_ne (by decide)] at e; exact e)) k2 (by decide)), (fun _ => ⟨k1, by rw [upd_eq]; exact setRow_row k2⟩), (fun _ => ⟨upd_of hA, upd_of hK⟩)⟩
theorem new_alc {w W : World} {v : Array Value} {t : TypeId} (h : w.alloc (.cells v t) = W) : Below w.heap.size w W ∧ W.heap[w.heap.size]? = some (.cells v t (0, 0)) := by
  subst h
  exact ⟨(Below.refl _ _).alloc (Nat.le_refl _) _, al_new _ _ _ rfl⟩
/-- A slice of one name in a block of its own kind. -/
def OneR (W : World) (v : Value) : Prop := ∃ b, v = .slice (some ⟨b, 0, none⟩) 1 1 ∧ W.heap[b]? = some (.cells #[S tRead] 9 (0, 0))
theorem OneR.keep : ∀ W W2 v, OneR W v → Below W.heap.size W W2 → OneR W2 v := fun _ _ _ ⟨b, e, h⟩ hb => ⟨b, e, (hb.block b (lt_of_row h)).trans h⟩
theorem OneR.put : ∀ W v k cs t vs, OneR W v → W.heap[k]? = some (.cells cs t (0, 0)) → t ≠ 9 → OneR (W.setRow k vs) v := fun W _ k cs t vs ⟨b, e, h⟩ hk ht => ⟨b, e, row_set h (ne_ty h hk (fun q => ht q.symm))⟩
/-- Shows among the arguments. -/
def ShA (W : World) (a : Option Addr) (n : Nat) (L : List (Int × Int)) : Prop := n = L.length ∧ (0 < n → ∃ p q, a = some ⟨p, q, none⟩ ∧ p < W.heap.size ∧ ∀ j x, L[j]? = some x → W.cell? ⟨p, q + j * 2, none⟩ = some (I x.1) ∧ W.cell? ⟨p, q + j * 2 + 1, none⟩ = some (I x.2) ∧ (-9223372036854775808 ≤ x.1 ∧ x.1 ≤ 9223372036854775807) ∧ (-9223372036854775808 ≤ x.2 ∧ x.2 ≤ 9223372036854775807))
theorem beg_once (idl ab gr now : Int) (h1 : 1 ≤ idl ∧ idl ≤ 100) (h2 : 1 ≤ ab ∧ ab ≤ 400) (h3 : 0 ≤ gr ∧ gr ≤ 39) (h4 : 0 ≤ now ∧ now ≤ 1099511627776) : begOK 7 10 tApp true [] [] 0 [tRead] idl ab gr 9 tAnn [tRead] tSec (nr now) = true := by
  have e1 : right [tApp] = true := by decide +kernel
  have e2 : nm tAnn = true := by decide +kernel
  have e3 : right [tRead] = true := by decide +kernel
  rw [begOK_ref]
  have hc : cliOK tApp true [] [] 0 [tRead] idl ab gr 9 = true := by
    unfold cliOK
    have e5 : secOK true [] [] 0 = true := by decide +kernel
    rw [e1, e3, e5]
    simp [tim, spn]
    omega
  rw [hc, e2, e3]
  rfl
theorem min3_run (a b c : Int) (at9 : Array TypeId) (ty : TypeId) (W : World) : (Builtin.min_ at9 ty #[I a, I b, I c]).run Tryz.prog W = .ok (I (min (min a b) c)) W := by
  have m2 : ∀ x y : Int, (Builtin.min2 (I x) (I y)).run Tryz.prog W = .ok (I (min x y)) W := by
    intro x y
    by_cases h : y < x
    · have e : min x y = y := by omega
      simp [Builtin.min2, go_sem, h, e]
    · have e : min x y = x := by omega
      simp [Builtin.min2, go_sem, h, e]
  show ((do let r ← Builtin.min2 (I a) (I b); Builtin.min2 r (I c)) : Sem Value).run Tryz.prog W = _
  simp only [Sem.run_bind, m2, Result.andThen_ok]
theorem bm_new (W : World) (B : Nat) (hB : B ≤ W.heap.size) (cr idl ab gr : Int) (v : Value) (ho : OwnS B W v [tRead]) (t : Tk) : BM B (((W.alloc (.cells (tkc t).toArray 26)).alloc (.cells #[I 0] 3)).alloc (.cells (bkc cr cr idl ab gr 1 10 1 0 v (.slice (some ⟨W.heap.size, 0, none⟩) 1 1) (.slice (some ⟨W.heap.size + 1, 0, none⟩) 1 1) false cr) 64)) (W.heap.size + 1 + 1) cr cr idl ab gr 1 10 1 0 [t] [0] false cr v (.slice (some ⟨W.heap.size, 0, none⟩) 1 1) (.slice (some ⟨W.heap.size + 1, 0, none⟩) 1 1) ∧ Below W.heap.size W (((W.alloc (.cells (tkc t).toArray 26)).alloc (.cells #[I 0] 3)).alloc (.cells (bkc cr cr idl ab gr 1 10 1 0 v (.slice (some ⟨W.heap.size, 0, none⟩) 1 1) (.slice (some ⟨W.heap.size + 1, 0, none⟩) 1 1) false cr) 64)) := by
  have b3 : Below W.heap.size W (((W.alloc (.cells (tkc t).toArray 26)).alloc (.cells #[I 0] 3)).alloc (.cells (bkc cr cr idl ab gr 1 10 1 0 v (.slice (some ⟨W.heap.size, 0, none⟩) 1 1) (.slice (some ⟨W.heap.size + 1, 0, none⟩) 1 1) false cr) 64)) := (((Below.refl _ W).alloc (Nat.le_refl _) _).alloc (by simp) _).alloc (by simp <;> omega) _
  refine ⟨⟨al_new _ _ _ (by simp), by omega, ho.below b3 (Nat.le_refl _), ⟨rfl, .inr ⟨W.heap.size, 1, (tkc t).toArray, rfl, hB, al_old _ _ _ (by simp <;> omega) (al_old _ _ _ (by simp) (al_new _ _ _ rfl)), Nat.le_refl _, by decide, rfl, by simp [tks, tkc]⟩⟩, ⟨rfl, .inr ⟨W.heap.size + 1, 1, #[I 0], rfl, by omega, al_old _ _ _ (by simp) (al_new _ _ _ (by simp)), Nat.le_refl _, by decide, rfl, rfl⟩⟩⟩, b3⟩
theorem cell_part {W : World} {g : Nat} {cur : Array Value} {ty : TypeId} (h : W.heap[g]? = some (.cells cur ty (0, 0))) {o n i : Nat} {xs : List Value} (hp : (cur.toList.drop o).take n = xs) (hi : i < n) {x : Value} (hx : xs[i]? = some x) : W.cell? ⟨g, o + i, none⟩ = some x := by
  rw [← hp, List.getElem?_take, if_pos hi, List.getElem?_drop, Array.getElem?_toList] at hx
  exact cellr h hx
def OnR (Wb : World) (P : Nat) (p0 idl ab gr : Int) (k : Nat) (now fin : Int) (W : World) : Prop := ∃ us tk st en l sp ed v vl vs, BM Wb.heap.size W P p0 us idl ab gr (l.length : Int) tk st en l sp ed us v vl vs ∧ Iv p0 idl ab gr us tk st en l sp ed now fin ∧ Below Wb.heap.size Wb W ∧ l.length ≤ k + 1 ∧ now ≤ p0 + 49 * (k : Int)
theorem cell_keep {w W : World} {B : Nat} (h : Below B w W) {a : Addr} (ha : a.block < B) : W.cell? a = w.cell? a := by
  unfold World.cell?
  rw [h.block a.block ha]
theorem Iv.init (p0 idl ab gr : Int) (h1 : 1 ≤ idl ∧ idl ≤ 100) (h2 : 1 ≤ ab ∧ ab ≤ 400) (h3 : 0 ≤ gr ∧ gr ≤ 39) (h4 : 0 ≤ p0 ∧ p0 ≤ 1099511627776) (hh : Bs) (h32 : hh.length = 32) : Iv p0 idl ab gr p0 10 1 0 [⟨10, 1, hh, p0, false, 0, 0, []⟩] [0] false p0 0 := by
  refine ⟨by simp, by simp, rfl, rfl, h4.1, Int.le_refl _, Int.le_refl _, h4.2, by omega, h1, h2, h3, fun _ => ⟨rfl, rfl⟩, (fun e => by cases e), ?_, ?_⟩
  · intro k t hk
    match k, hk with
    | 0, hk =>
      obtain rfl := Option.some.inj hk
      exact ⟨rfl, rfl, h32, h4.1, Int.le_refl _, fun _ => ⟨rfl, rfl, rfl, rfl⟩, (fun e => by simp at e)⟩
    | (j + 1), hk => simp at hk
  · intro k z hk
    match k, hk with
    | 0, hk =>
      obtain rfl := Option.some.inj hk
      exact ⟨Int.le_refl _, h4.1⟩
    | (j + 1), hk => simp at hk
theorem familyOnce_any (z0 z1 z2 z3 : Int) (sa : Option Addr) (sn sc9 : Nat) (Ls : List (Int × Int)) (w : World) (hz0 : -9223372036854775808 ≤ z0 ∧ z0 ≤ 9223372036854775807) (hz1 : -9223372036854775808 ≤ z1 ∧ z1 ≤ 9223372036854775807) (hz2 : -9223372036854775808 ≤ z2 ∧ z2 ≤ 9223372036854775807) (hz3 : -9223372036854775808 ≤ z3 ∧ z3 ≤ 9223372036854775807) (hL : ShA w sa sn Ls) : Calls Tryz.prog 5 #[.agg #[I z0, I z1, I z2, I z3], .slice sa sn sc9] w fun e w' => e = .returned (.bool true) ∧ Below w.heap.size w w' := by
  have hb : Below w.heap.size w (w.alloc (.cells #[I z0, I z1, I z2, I z3] 56)) := ((Below.refl _ w).alloc (by simp <;> omega) _)
  have rx : (w.alloc (.cells #[I z0, I z1, I z2, I z3] 56)).heap[w.heap.size]? = some (.cells #[I z0, I z1, I z2, I z3] 56 (0, 0)) := al_new w (.cells #[I z0, I z1, I z2, I z3] 56) (w.heap.size) (by simp)
  generalize hW1 : (w.alloc (.cells #[I z0, I z1, I z2, I z3] 56)) = W1 at *
  have cx_0 : W1.cell? ⟨w.heap.size, 0, none⟩ = some (I z0) := cellr rx rfl
  have HB := hide hb
  have HRx := hide rx
  clear hb rx
  have HA := hide (awake_any W1)
  have hb0 := pkv_b z0 1099511627777 (by decide)
  have hb1 := pkv_b z1 100 (by decide)
  have hb2 := pkv_b z2 400 (by decide)
  have hb3 := pkv_b z3 40 (by decide)
  have XP0 := hide (fun W => pick_any z0 1099511627777 W (by decide) (by decide) hz0)
  have XP1 := hide (fun W => pick_any z1 100 W (by decide) (by decide) hz1)
  have XP2 := hide (fun W => pick_any z2 400 W (by decide) (by decide) hz2)
  have XP3 := hide (fun W => pick_any z3 40 W (by decide) (by decide) hz3)
  generalize pkv z0 1099511627777 = p0 at *
  generalize pkv z1 100 = p1 at *
  generalize pkv z2 400 = p2 at *
  generalize pkv z3 40 = p3 at *
  have HL := hide hL
  clear hL hz0 hz1 hz2 hz3
  obtain ⟨hp00, hp01⟩ := hb0
  obtain ⟨hp10, hp11⟩ := hb1
  obtain ⟨hp20, hp21⟩ := hb2
  obtain ⟨hp30, hp31⟩ := hb3
  go_enter Tryz.func5, Tryz.ntmps5
  go_wp2_with fail
  refine (unhide HA).mono ?_
  rintro e w1 ⟨rfl, h1⟩
  have hbB := (unhide HB).trans (h1.mono (unhide HB).size)
  have rx := (h1.block _ (lt_of_row (unhide HRx))).trans (unhide HRx)
  clear h1 HB HRx cx_0 hW1
  have cx_0 : w1.cell? ⟨w.heap.size, 0, none⟩ = some (I z0) := cellr rx rfl
  have HB := hide hbB
  have HRx := hide rx
  clear hbB rx
  clear HA
  go_wp2_with fail
  refine (unhide XP0 w1).mono ?_
  rintro e w9 ⟨rfl, hw9⟩
  rw [hw9]
  clear hw9 w9 XP0
  go_upto_region 3 with fail
  refine region_tabG fo3T [(2, ptr w.heap.size)] 229 [0, 4, 8] [] (fo3V w.heap.size z1 z2 z3 p1 p2 p3 (fun v => #[S tApp, .bool true, .bool false, S [], S [], I 0, v, I (1 + p1), I (1 + p2), I p3, I 9])) rfl (by rfl) (by rfl) rfl (fun c => by kernel_rfl) (fun c => by kernel_rfl) (fun c w => by kernel_rfl) _ w1 (Nat.le_of_ble_eq_true rfl) rfl (WAp OneR w1 1 #[S [], .bool false, .bool false, S [], S [], I 0, .slice none 0 0, I 0, I 0, I 0, I 0] (fun v => #[S tApp, .bool true, .bool false, S [], S [], I 0, v, I (1 + p1), I (1 + p2), I p3, I 9])) ⟨((none, 0), 0), ⟨(Below.refl _ _).drew, (fun e => by cases e), (fun e => by cases e), (fun e => by cases e)⟩⟩ (fun i hi c L W hW => hW.pure i (by intro e; subst e; simp at hi) (by intro e; subst e; simp at hi) (by intro e; subst e; simp at hi)) ?spc ?_
  case spc =>
    intro i hi hp hs c L W hW hL hd
    rcases (by simp [fo3T] at hi hp hs; omega : i = 1 ∨ i = 2 ∨ i = 3 ∨ i = 5 ∨ i = 6 ∨ i = 7 ∨ i = 9 ∨ i = 10 ∨ i = 11 ∨ i = 12 ∨ i = 13) with rfl | rfl | rfl | rfl | rfl | rfl | rfl | rfl | rfl | rfl | rfl
    · skip
      have f1 : (Instr.loadAt 3 (.pointer (some ⟨w.heap.size, 1, none⟩))).run Tryz.prog W = .ok (I z1) W := s_ld (T := 3) (fun _ => by kernel_rfl) (cellr ((hW.be.block _ (lt_of_row (unhide HRx))).trans (unhide HRx)) rfl)
      exact ⟨f1, hW.pure 1 (by decide) (by decide) (by decide)⟩
    · skip
      exact ⟨⟨_, _, Tryz.func27, by kernel_rfl, rfl⟩, (unhide XP1 W).mono fun e w' q => ⟨c, fun _ _ => rfl, q.1, by rw [q.2]; exact hW.pure 2 (by decide) (by decide) (by decide)⟩⟩
    · skip
      have f0 : (do eqGuard .add 3 (.const (I 1)) (.tmp 30) (I 1) (I p1); binOp .add 3 (I 1) (I p1) : Sem Value).run Tryz.prog W = .ok (I (IntKind.i64.wrap (1 + p1))) W := by kernel_rfl
      rw [show IntKind.i64.wrap (1 + p1) = 1 + p1 by rw [IntKind.wrap_i64]; omega] at f0
      exact ⟨⟨_, rfl, f0⟩, hW.pure 3 (by decide) (by decide) (by decide)⟩
    · skip
      have f1 : (Instr.loadAt 3 (.pointer (some ⟨w.heap.size, 2, none⟩))).run Tryz.prog W = .ok (I z2) W := s_ld (T := 3) (fun _ => by kernel_rfl) (cellr ((hW.be.block _ (lt_of_row (unhide HRx))).trans (unhide HRx)) rfl)
      exact ⟨f1, hW.pure 5 (by decide) (by decide) (by decide)⟩
    · skip
      exact ⟨⟨_, _, Tryz.func27, by kernel_rfl, rfl⟩, (unhide XP2 W).mono fun e w' q => ⟨c, fun _ _ => rfl, q.1, by rw [q.2]; exact hW.pure 6 (by decide) (by decide) (by decide)⟩⟩
    · skip
      have f0 : (do eqGuard .add 3 (.const (I 1)) (.tmp 34) (I 1) (I p2); binOp .add 3 (I 1) (I p2) : Sem Value).run Tryz.prog W = .ok (I (IntKind.i64.wrap (1 + p2))) W := by kernel_rfl
      rw [show IntKind.i64.wrap (1 + p2) = 1 + p2 by rw [IntKind.wrap_i64]; omega] at f0
      exact ⟨⟨_, rfl, f0⟩, hW.pure 7 (by decide) (by decide) (by decide)⟩
    · skip
      have f1 : (Instr.loadAt 3 (.pointer (some ⟨w.heap.size, 3, none⟩))).run Tryz.prog W = .ok (I z3) W := s_ld (T := 3) (fun _ => by kernel_rfl) (cellr ((hW.be.block _ (lt_of_row (unhide HRx))).trans (unhide HRx)) rfl)
      exact ⟨f1, hW.pure 9 (by decide) (by decide) (by decide)⟩
    · skip
      exact ⟨⟨_, _, Tryz.func27, by kernel_rfl, rfl⟩, (unhide XP3 W).mono fun e w' q => ⟨c, fun _ _ => rfl, q.1, by rw [q.2]; exact hW.pure 10 (by decide) (by decide) (by decide)⟩⟩
    · skip
      refine ⟨⟨_, _, Tryz.func28, by kernel_rfl, rfl⟩, (app_any (1 + p1) (1 + p2) p3 W).mono fun e w' q => ?_⟩
      obtain ⟨b, e1, e2, e3⟩ := q
      exact ⟨((some ⟨b, 0, none⟩, 1), c.2), fun j hj => fo3V_ne (by intro e; subst e; rw [hL] at hj; cases hj), e1, hW.got OneR.keep hL ⟨b, rfl, e2⟩ e3⟩
    · skip
      exact ⟨(c.1, W.heap.size), _, fun j hj => fo3V_na (by intro e; subst e; rw [hL] at hj; cases hj), (show (Instr.alloc 48 true (.tuple #[])).run Tryz.prog W = .ok (ptr W.heap.size) (W.alloc (.cells #[S [], .bool false, .bool false, S [], S [], I 0, .slice none 0 0, I 0, I 0, I 0, I 0] 48)) by kernel_rfl), hW.al0 OneR.keep hL⟩
    · skip
      have hA5 : L 12 = true := hd 12 (by rfl)
      have hK5 : L 11 = true := hd 11 (by rfl)
      have hr := (hW.b0 hA5).2
      rw [hL] at hr
      have f1 : (Instr.storeAt 48 (ptr c.2) (.agg ((fun v => #[S tApp, .bool true, .bool false, S [], S [], I 0, v, I (1 + p1), I (1 + p2), I p3, I 9]) (Value.slice c.1.1 1 c.1.2)))).run Tryz.prog W = .ok () (W.setRow c.2 ((fun v => #[S tApp, .bool true, .bool false, S [], S [], I 0, v, I (1 + p1), I (1 + p2), I p3, I 9]) (Value.slice c.1.1 1 c.1.2))) := st_all (T := 48) (n := 11) (fun _ => by kernel_rfl) (cs := #[S [], .bool false, .bool false, S [], S [], I 0, .slice none 0 0, I 0, I 0, I 0, I 0]) hr rfl ((fun v => #[S tApp, .bool true, .bool false, S [], S [], I 0, v, I (1 + p1), I (1 + p2), I p3, I 9]) (Value.slice c.1.1 1 c.1.2)) rfl (by simp [Value.oneCell'])
      exact ⟨rfl, _, f1, hW.st0 OneR.put hA5 hK5⟩
  intro c L W2 hall hW
  simp only [frmL, fo3T, fo3V, Act.put, List.setIfInBounds_toArray, List.set_cons_succ, List.set_cons_zero]
  obtain ⟨⟨a, cap⟩, bc⟩ := c
  obtain ⟨lbc, rbc⟩ := hW.b0 (hall 12 (by decide))
  rw [hall 13 (by decide)] at rbc
  obtain ⟨sb, esb, rsb⟩ := hW.own (hall 11 (by decide))
  have h2 := hW.be
  clear hall hW XP1 XP2 XP3
  obtain ⟨rfl, rfl⟩ : a = some ⟨sb, 0, none⟩ ∧ cap = 1 := by simpa using esb
  obtain ⟨idl, hidl⟩ : ∃ idl, idl = 1 + p1 := ⟨_, rfl⟩
  obtain ⟨ab, hab⟩ : ∃ ab, ab = 1 + p2 := ⟨_, rfl⟩
  have rbc2 : W2.heap[bc]? = some (.cells #[S tApp, .bool true, .bool false, S [], S [], I 0, .slice (some ⟨sb, 0, none⟩) 1 1, I idl, I ab, I p3, I 9] 48 (0, 0)) := by rw [hidl, hab]; exact rbc
  rw [← hidl, ← hab]
  have i1 : 1 ≤ idl ∧ idl ≤ 100 := by omega
  have i2 : 1 ≤ ab ∧ ab ≤ 400 := by omega
  have i3 : 0 ≤ p3 ∧ p3 ≤ 39 := by omega
  have i0 : 0 ≤ p0 ∧ p0 ≤ 1099511627776 := by omega
  clear rbc hidl hab esb hp10 hp11 hp20 hp21 hp30 hp31 hp00 hp01
  have lbc2 : w1.heap.size ≤ bc := lbc
  clear lbc
  have HB2 := hide ((unhide HB).trans (h2.mono (unhide HB).size))
  clear HRx HB cx_0 h2
  have HC := hide rbc2
  have HS := hide rsb
  have hnr : nr p0 = p0 := nr_id i0
  have XB : Hid (∀ (W : World) (c : Nat), W.heap[sb]? = some (.cells #[S tRead] 9 (0, 0)) → W.heap[c]? = some (.cells #[S tRead] 9 (0, 0)) → Calls Tryz.prog 25 #[I 7, I 10, .agg #[S tApp, .bool true, .bool false, S [], S [], I 0, .slice (some ⟨sb, 0, none⟩) 1 1, I idl, I ab, I p3, I 9], S tAnn, .slice (some ⟨c, 0, none⟩) 1 1, S tSec, I p0] W fun e w' => ∃ a1 k1, e = .returned (.tuple #[.agg #[I 7, S tApp, S tAnn, .slice a1 1 k1, I p0, I p0, I idl, I ab, I p3, I 1, I 10, I 1, I 0, I 0], .agg #[I 10, I 7, I 1, S (hsh 10 tSec), I p0, .bool false, I 0, I 0, S []], I 0]) ∧ OwnS W.heap.size w' (.slice a1 1 k1) [tRead] ∧ Below W.heap.size W w') := hide (fun W c h1 h2 => by
    have q := begin_any 7 10 tApp true false [] [] 0 (some ⟨sb, 0, none⟩) 1 [tRead] idl ab p3 9 tAnn (some ⟨c, 0, none⟩) 1 [tRead] tSec p0 W (by decide) (sts_one h1) (by decide) lns_read (by decide) (sts_one h2) (by decide) lns_read
    rw [beg_once idl ab p3 p0 i1 i2 i3 i0, hnr] at q
    refine q.mono fun e w' h => ?_
    rw [OutB, if_pos rfl] at h
    exact h)
  have h32 : (hsh 10 tSec).length = 32 := sum_32 _
  generalize hsh 10 tSec = h0 at *
  have hB3 := (unhide HB2).alloc (unhide HB2).size (.cells #[S tRead] 9)
  have rs2 := al_old W2 (.cells #[S tRead] 9) sb (lt_of_row (unhide HS)) (unhide HS)
  have rc2 := al_old W2 (.cells #[S tRead] 9) bc (lt_of_row (unhide HC)) (unhide HC)
  have rn2 := heap_alloc_new W2 (.cells #[S tRead] 9)
  have HX := hide (unhide XB _ W2.heap.size rs2 rn2)
  have HB3 := hide hB3
  have HC3 := hide rc2
  clear XB rs2 rn2 hB3 rc2 HS HB2
  go_wp2_with (refine wp_run rfl (g_load (t := 48) (a := .tmp 7) rfl (by rfl) (s_ldr (T := 48) (n := 11) (o := 0) (fun _ => by kernel_rfl) (fun _ => by kernel_rfl) (unhide HC) (#[S tApp, .bool true, .bool false, S [], S [], I 0, .slice (some ⟨sb, 0, none⟩) 1 1, I idl, I ab, I p3, I 9]).toList rfl rfl)) ?_)
  refine (unhide HX).mono ?_
  rintro e W4 ⟨a1, k1, rfl, ho, h4⟩
  obtain ⟨Wb, hWb⟩ : ∃ Wb, Wb = W2.alloc (.cells #[S tRead] 9) := ⟨_, rfl⟩
  rw [← hWb] at HB3 HC3 ho h4
  have HB4 := hide h4
  have HO4 := hide ho
  have HWb := hide (unhide HB3)
  have HCb := hide (unhide HC3)
  clear HX HB3 HC3 HC ho h4 hWb
  go_upto_region 5 with (first | (refine wp_stA inf24 rfl (.tmp 8) (.tmp 45) rfl W4.heap.size (by rfl) #[I 7, S tApp, S tAnn, .slice a1 1 k1, I p0, I p0, I idl, I ab, I p3, I 1, I 10, I 1, I 0, I 0] (by rfl) #[I 0, S [], S [], .slice none 0 0, I 0, I 0, I 0, I 0, I 0, I 0, I 0, I 0, I 0, I 0] rfl rfl (al_old _ _ _ (by simp) (al_new _ _ _ rfl)) (by simp [Value.oneCell']) ?_) | (refine wp_stA inf26 rfl (.tmp 9) (.tmp 46) rfl (W4.heap.size + 1) (by rfl) #[I 10, I 7, I 1, S h0, I p0, .bool false, I 0, I 0, S []] (by rfl) #[I 0, I 0, I 0, S [], I 0, .bool false, I 0, I 0, S []] rfl rfl (row_set (al_new _ _ _ (by simp)) (by omega)) (by simp [Value.oneCell']) ?_; generalize hW5 : (((W4.alloc (.cells #[I 0, S [], S [], .slice none 0 0, I 0, I 0, I 0, I 0, I 0, I 0, I 0, I 0, I 0, I 0] 24)).alloc (.cells #[I 0, I 0, I 0, S [], I 0, .bool false, I 0, I 0, S []] 26)).setRow W4.heap.size #[I 7, S tApp, S tAnn, .slice a1 1 k1, I p0, I p0, I idl, I ab, I p3, I 1, I 10, I 1, I 0, I 0]).setRow (W4.heap.size + 1) #[I 10, I 7, I 1, S h0, I p0, .bool false, I 0, I 0, S []] = W5))
  obtain ⟨h5, rf, rt⟩ := new_row2 hW5
  clear hW5
  have HB5 := hide ((unhide HB4).trans (h5.mono (unhide HB4).size))
  have HO5 := hide ((unhide HO4).below h5 (Nat.le_refl _))
  have HF := hide rf
  have HT := hide rt
  clear h5 rf rt HB4 HO4
  go_upto_region 8 with (first | (refine wp_run rfl (g_load (t := 24) (a := .tmp 8) rfl (by rfl) (s_ldr (T := 24) (n := 14) (o := 0) (fun _ => by kernel_rfl) (fun _ => by kernel_rfl) (unhide HF) (#[I 7, S tApp, S tAnn, .slice a1 1 k1, I p0, I p0, I idl, I ab, I p3, I 1, I 10, I 1, I 0, I 0]).toList rfl rfl)) ?_) | (refine wp_run rfl (g_load (t := 26) (a := .tmp 9) rfl (by rfl) (s_ldr (T := 26) (n := 9) (o := 0) (fun _ => by kernel_rfl) (fun _ => by kernel_rfl) (unhide HT) (#[I 10, I 7, I 1, S h0, I p0, .bool false, I 0, I 0, S []]).toList rfl rfl)) ?_))
  obtain ⟨hbm, hb6⟩ := bm_new W5 Wb.heap.size (unhide HB5).size p0 idl ab p3 (.slice a1 1 k1) (unhide HO5) (⟨10, 1, h0, p0, false, 0, 0, []⟩ : Tk)
  obtain ⟨W6, hW6⟩ : ∃ W6, W6 = (((W5.alloc (.cells (tkc (⟨10, 1, h0, p0, false, 0, 0, []⟩ : Tk)).toArray 26)).alloc (.cells #[I 0] 3)).alloc (.cells (bkc p0 p0 idl ab p3 1 10 1 0 (.slice a1 1 k1) (.slice (some ⟨W5.heap.size, 0, none⟩) 1 1) (.slice (some ⟨W5.heap.size + 1, 0, none⟩) 1 1) false p0) 64)) := ⟨_, rfl⟩
  rw [← hW6] at hbm hb6
  have hgoal : ∀ {c : Code} {Q : Exit → Act → World → Prop} {a : Act}, Code.wp Tryz.prog c Q a W6 → Code.wp Tryz.prog c Q a (((W5.alloc (.cells (tkc (⟨10, 1, h0, p0, false, 0, 0, []⟩ : Tk)).toArray 26)).alloc (.cells #[I 0] 3)).alloc (.cells (bkc p0 p0 idl ab p3 1 10 1 0 (.slice a1 1 k1) (.slice (some ⟨W5.heap.size, 0, none⟩) 1 1) (.slice (some ⟨W5.heap.size + 1, 0, none⟩) 1 1) false p0) 64)) := fun h => by rw [← hW6]; exact h
  refine hgoal ?_
  clear hgoal hW6
  have hOn : OnR Wb (W5.heap.size + 1 + 1) p0 idl ab p3 0 p0 0 W6 := ⟨p0, 10, 1, 0, [(⟨10, 1, h0, p0, false, 0, 0, []⟩ : Tk)], [0], false, _, _, _, hbm, Iv.init p0 idl ab p3 i1 i2 i3 i0 h0 h32, (unhide HB5).trans (hb6.mono (unhide HB5).size), by simp, by omega⟩
  have HOn := hide hOn
  clear hOn hbm hb6 HB5 HO5 HF HT h32 hnr
  generalize W5.heap.size + 1 + 1 = P at *
  have H_i := hide (show (1 ≤ idl ∧ idl ≤ 100) ∧ (1 ≤ ab ∧ ab ≤ 400) ∧ (0 ≤ p3 ∧ p3 ≤ 39) ∧ (0 ≤ p0 ∧ p0 ≤ 1099511627776) from ⟨i1, i2, i3, i0⟩)
  clear i1 i2 i3 i0 lbc2 rbc2 rsb
  have hsn : sn = Ls.length := (unhide HL).1
  have HSN := hide hsn
  clear hsn
  go_wp2
  go_loopw [6, 13, 14] (fun vn vf vi wr => ∃ (now fin : Int) (k : Nat), vn = I now ∧ vf = I fin ∧ vi = .int .i64 k ∧ k ≤ sn ∧ k ≤ 60 ∧ OnR Wb P p0 idl ab p3 k now fin wr) (fun _ _ vi _ => 60 - (Go.RowKit.intOf vi).toNat)
  case atStart => exact ⟨p0, 0, 0, rfl, rfl, rfl, by omega, by omega, unhide HOn⟩
  case round =>
    clear HOn
    obtain ⟨now, fin, k, rfl, rfl, rfl, hks, hk60, us, tk, st, en, l, sp, ed, v9, vl, vs, hbm, hiv, hb, hlk, hnk⟩ := hrel
    have hbw : Below w.heap.size w wr := (unhide HWb).trans (hb.mono (unhide HWb).size)
    have hrc := (hb.block _ (lt_of_row (unhide HCb))).trans (unhide HCb)
    by_cases hlt : k < sn ∧ k < 60
    · obtain ⟨hl1, hl2⟩ := hlt
      have hl1' : (k : Int) < (sn : Int) := by omega
      have hl2' : (k : Int) < 60 := by omega
      obtain ⟨x, hx⟩ : ∃ x, Ls[k]? = some x := ⟨_, List.getElem?_eq_getElem (by have := unhide HSN; omega)⟩
      obtain ⟨sp0, sq, rfl, hspb, hcells⟩ := (unhide HL).2 (by omega)
      obtain ⟨hc1, hc2, hx1, hx2⟩ := hcells k x hx
      have cx1 : wr.cell? ⟨sp0, sq + k * 2, none⟩ = some (I x.1) := (cell_keep hbw hspb).trans hc1
      have cx2 : wr.cell? ⟨sp0, sq + k * 2 + 1, none⟩ = some (I x.2) := (cell_keep hbw hspb).trans hc2
      have hn1 := hiv.n1
      have hn2 := hiv.n2
      have c14 : wr.cell? ⟨P, 14, none⟩ = some vl := cellr hbm.row rfl
      have hpb1 := pkv_b x.1 50 (by decide)
      have hpb2 := pkv_b x.2 3 (by decide)
      have hpb3 := pkv_b (x.2.tdiv 3) (l.length : Int) (by omega)
      have XP1 := hide (fun W => pick_any x.1 50 W (by decide) (by decide) hx1)
      have XP2 := hide (fun W => pick_any x.2 3 W (by decide) (by decide) hx2)
      have HBM := hide hbm
      have HIV := hide hiv
      have HB := hide hb
      have HRC := hide hrc
      clear hbm hiv hb hbw hrc hcells hc1 hc2 hx
      obtain ⟨x1, x2⟩ := x
      simp only at cx1 cx2 hx1 hx2 hpb1 hpb2 hpb3 XP1 XP2
      generalize pkv x1 50 = d1 at *
      obtain ⟨gl, cl, cur0, evl, -, -, -, -⟩ := row_form (unhide HBM).tok (by omega)
      rw [evl] at c14 HBM
      clear evl
      have hq3 : -9223372036854775808 ≤ x2.tdiv 3 ∧ x2.tdiv 3 ≤ 9223372036854775807 := by
        rcases Int.le_total 0 x2 with q | q
        · rw [Int.tdiv_eq_ediv_of_nonneg q]; omega
        · have e : x2.tdiv 3 = -((-x2).tdiv 3) := by rw [Int.neg_tdiv, Int.neg_neg]
          rw [e, Int.tdiv_eq_ediv_of_nonneg (by omega)]; omega
      have XP3 := hide (fun W => pick_any (x2.tdiv 3) (l.length : Int) W (by omega) (by omega) hq3)
      generalize pkv (x2.tdiv 3) (l.length : Int) = d3 at *
      generalize pkv x2 3 = d2 at *
      obtain ⟨hd11, hd12⟩ := hpb1
      obtain ⟨hd31, hd32⟩ := hpb3
      have hc0 := (unhide HIV).c0
      have hc1 := (unhide HIV).c1
      have hc2 := (unhide HIV).c2
      have hc3 := (unhide HIV).c3
      have hii := (unhide HIV).i1
      have hia := (unhide HIV).i2
      obtain ⟨now2, hm⟩ : ∃ m, min (now + d1) 1099511627776 = m := ⟨_, rfl⟩
      have hnw1 : now ≤ now2 := by rw [← hm]; omega
      have hnw2 : now2 ≤ 1099511627776 := by rw [← hm]; omega
      have hnw3 : now2 ≤ now + 49 := by rw [← hm]; omega
      have hiv2 := (unhide HIV).later hnw1 hnw2 (by omega)
      have HIV2 := hide hiv2
      clear hiv2 HIV
      go_wp2_with fail
      refine (unhide XP1 wr).mono ?_
      rintro e w9 ⟨rfl, hw9⟩
      rw [hw9]
      clear hw9 w9 XP1
      go_wp2_with fail
      refine (unhide XP2 wr).mono ?_
      rintro e w9 ⟨rfl, hw9⟩
      rw [hw9]
      clear hw9 w9 XP2
      have HM := hide hm
      clear hm
      go_upto_if 93 with fail
      go_cut [15] from 62 to 228 (fun v wx => ∃ kk : Nat, v = I kk ∧ kk < l.length ∧ Below wr.heap.size wr wx)
      case first =>
        by_cases hd2 : d2 = 0
        · have e2 : (d2 == 0) = true := by simpa using hd2
          clear hd2
          go_upto_region 16 with fail
          go_quiet ((go_at_call 27; exact Calls.quiet_of_same (unhide XP3 _)))
          have hbq : Below wr.heap.size wr (wr.drewN nq) := Only.to_below (Only.drewN _ _ _)
          go_wp2_with fail
          go_meet
          case rel => exact ⟨d3.toNat, by rw [show ((d3.toNat : Nat) : Int) = d3 by omega], by omega, hbq⟩
        · have e2 : (d2 == 0) = false := by simpa using hd2
          go_wp2_with fail
          go_meet
          case rel => exact ⟨l.length - 1, by rw [show ((l.length - 1 : Nat) : Int) = (l.length : Int) - 1 by omega], by omega, Below.refl _ _⟩
      case rest =>
        obtain ⟨kk, rfl, hkk, hbq⟩ := hcut
        have HBM2 := hide ((unhide HBM).keep hbq)
        have HRC2 := hide ((hbq.block _ (lt_of_row (unhide HRC))).trans (unhide HRC))
        have HB2 := hide ((unhide HB).trans (hbq.mono (unhide HB).size))
        clear hbq HBM HRC HB cx1 cx2 c14 XP3 hd31 hd32 hq3 hx1 hx2 hpb2
        have hbm := unhide HBM2
        obtain ⟨b9, q9, e9⟩ : ∃ a9 q9, v9 = .slice a9 1 q9 := by
          obtain ⟨a, c, e⟩ := hbm.own.form
          exact ⟨a, c, e⟩
        subst e9
        have c17 : wc.cell? ⟨P, 17, none⟩ = some (I us) := cellr hbm.row rfl
        have b7 : wc.cell? ⟨bc, 7, none⟩ = some (I idl) := cellr (unhide HRC2) rfl
        have b8 : wc.cell? ⟨bc, 8, none⟩ = some (I ab) := cellr (unhide HRC2) rfl
        obtain ⟨E, hE⟩ : ∃ E, E = enB p0 us idl ab := ⟨_, rfl⟩
        have hmin : ∀ ty, (Builtin.min_ #[3, 3, 3] ty #[I (p0 + ab), I (us + idl), I 1099511627776]).run Tryz.prog wc.drew = .ok (I E) wc.drew := fun ty => by rw [hE]; exact min3_run _ _ _ _ _ _
        have HE := hide hE
        clear hE hbm
        go_upto_region 17 with fail
        go_region
        clear hmin c17 b7 b8
        have hbq : Below wc.heap.size wc wc.drew := (Below.refl _ _).drew
        have HBM3 := hide ((unhide HBM2).keep hbq)
        have HB3 := hide ((unhide HB2).trans (hbq.mono (unhide HB2).size))
        generalize wc.drew = W8 at *
        clear hbq HBM2 HRC2 HB2
        obtain ⟨t, ht⟩ : ∃ t, l[kk]? = some t := ⟨_, List.getElem?_eq_getElem hkk⟩
        obtain ⟨z, hz, hz0, hz1⟩ := (unhide HIV2).spk hkk
        have hver := (unhide HIV2).verd ht hz
        rw [← unhide HE] at hver
        obtain ⟨gl2, cl2, curT, eT, -, hgT, hszT, htkT⟩ := row_form (unhide HBM3).tok (by omega)
        obtain ⟨rfl, rfl⟩ : gl = gl2 ∧ cl = cl2 := by simpa using eT
        have hpart := tok_part htkT ht
        have XJ : Hid (∀ W, Below W8.heap.size W8 W → Calls Tryz.prog 8 #[.agg #[I 7, S tApp, S tAnn, .slice b9 1 q9, I p0, I us, I idl, I ab, I p3, I (l.length : Int), I tk, I st, I en, I 0], .agg #[I t.ti, I 7, I t.tg, S t.ha, I t.mi, .bool t.sp, I t.at9, I t.ne, S t.se], I now2] W fun e w' => e = .returned (I (vdt ed now2 E kk l.length z p3)) ∧ Below W.heap.size W w') := hide (fun W hb => by
          have hs : OwnS Wb.heap.size W (.slice b9 1 q9) [tRead] := (unhide HBM3).own.below hb (Nat.le_refl _)
          have q := judge_any 7 tApp tAnn b9 q9 [tRead] p0 us idl ab p3 (l.length : Int) tk st en 0 t.ti 7 t.tg t.ha t.mi t.sp t.at9 t.ne t.se now2 W (by decide) (by decide) hs.sts (by decide) lns_read
          rw [hver] at q
          exact q)
        have XV := hide (fun W (hb : Below W8.heap.size W8 W) => verdict_any Wb.heap.size P p0 us idl ab p3 (l.length : Int) tk st en l sp ed us _ _ vs kk z now2 E W ((unhide HBM3).keep hb) hkk (by omega) hz ⟨hz0, hz1⟩ ⟨by omega, hnw2⟩)
        have HROW := hide (unhide HBM3).row
        have HGT := hide hgT
        have HPT := hide hpart
        have HTT := hide ht
        have HZZ := hide hz
        have HVER := hide hver
        clear hgT hpart ht hz hver hszT htkT eT
        obtain ⟨ti, tg, ha, mi, sp9, at9, ne, se⟩ := t
        simp only at XJ HPT HVER
        obtain ⟨V, hV⟩ : ∃ V, V = vdt ed now2 E kk l.length z p3 := ⟨_, rfl⟩
        rw [← hV] at XJ XV
        have HV := hide hV
        clear hV
        go_upto_region 18 with fail
        refine region_tabG fo18T [(11, ptr P), (15, I (kk : Int)), (6, I now2)] 229 [0, 1, 2, 4, 5, 6, 8, 11, 13] [] (fo18V P gl l.length cl kk #[I 7, S tApp, S tAnn, .slice b9 1 q9, I p0, I us, I idl, I ab, I p3, I (l.length : Int), I tk, I st, I en, I 0] #[I ti, I 7, I tg, S ha, I mi, .bool sp9, I at9, I ne, S se] now2 V) rfl (by rfl) (by rfl) rfl (fun c => by kernel_rfl) (fun c => by kernel_rfl) (fun c w => by kernel_rfl) _ W8 (Nat.le_of_ble_eq_true rfl) rfl (fun _ _ W => Below W8.heap.size W8 W) ⟨(), (Below.refl _ _).drew⟩ (fun i hi c L W hW => hW) ?spc ?_
        case spc =>
          intro i hi hp hs c L W hW hL hd
          rcases (by simp [fo18T] at hi hp hs; omega : i = 3 ∨ i = 7 ∨ i = 9 ∨ i = 10 ∨ i = 12) with rfl | rfl | rfl | rfl | rfl
          · skip
            have f1 : (Instr.loadAt 24 (ptr P)).run Tryz.prog W = .ok (.agg #[I 7, S tApp, S tAnn, .slice b9 1 q9, I p0, I us, I idl, I ab, I p3, I (l.length : Int), I tk, I st, I en, I 0]) W := s_ldr (T := 24) (n := 14) (o := 0) (fun _ => by kernel_rfl) (fun _ => by kernel_rfl) ((hW.block _ (lt_of_row (unhide HROW))).trans (unhide HROW)) (#[I 7, S tApp, S tAnn, .slice b9 1 q9, I p0, I us, I idl, I ab, I p3, I (l.length : Int), I tk, I st, I en, I 0]).toList rfl rfl
            exact ⟨f1, hW⟩
          · skip
            have f1 : (Instr.loadAt 61 (.pointer (some ⟨P, 14, none⟩))).run Tryz.prog W = .ok (.slice (some ⟨gl, 0, none⟩) l.length cl) W := s_ld (T := 61) (fun _ => by kernel_rfl) (cellr ((hW.block _ (lt_of_row (unhide HROW))).trans (unhide HROW)) rfl)
            exact ⟨f1, hW⟩
          · skip
            exact ⟨⟨_, rfl, s_ix61 gl l.length cl kk hkk⟩, hW⟩
          · skip
            have f1 : (Instr.loadAt 26 (.pointer (some ⟨gl, kk * 9, none⟩))).run Tryz.prog W = .ok (.agg #[I ti, I 7, I tg, S ha, I mi, .bool sp9, I at9, I ne, S se]) W := s_ldr (T := 26) (n := 9) (o := kk * 9) (fun _ => by kernel_rfl) (fun _ => by kernel_rfl) ((hW.block _ (lt_of_row (unhide HGT))).trans (unhide HGT)) (#[I ti, I 7, I tg, S ha, I mi, .bool sp9, I at9, I ne, S se]).toList rfl (unhide HPT)
            exact ⟨f1, hW⟩
          · skip
            exact ⟨⟨_, _, Tryz.func8, by kernel_rfl, rfl⟩, (unhide XJ W hW).mono fun e w' q => ⟨c, fun _ _ => rfl, q.1, hW.trans (q.2.mono hW.size)⟩⟩
        intro c L W9 hall hW
        simp only [frmL, fo18T, fo18V, Act.put, List.setIfInBounds_toArray, List.set_cons_succ, List.set_cons_zero]
        have h9 := hW
        clear hall hW XJ
        have HXV := hide (unhide XV W9 h9)
        have HBM4 := hide ((unhide HBM3).keep h9)
        have HB4 := hide ((unhide HB3).trans (h9.mono (unhide HB3).size))
        have HGT4 := hide ((h9.block _ (lt_of_row (unhide HGT))).trans (unhide HGT))
        clear h9 XV HBM3 HB3 HGT HROW
        go_wp2_with fail
        refine (unhide HXV).mono ?_
        rintro e W10 ⟨rfl, h10⟩
        have HBM5 := hide ((unhide HBM4).keep h10)
        have HB5 := hide ((unhide HB4).trans (h10.mono (unhide HB4).size))
        have HGT5 := hide ((h10.block _ (lt_of_row (unhide HGT4))).trans (unhide HGT4))
        clear h10 HXV HBM4 HB4 HGT4
        have zV : (V != V) = false := by simp
        have hV := unhide HV
        unfold vdt at hV
        clear HV
        have hiv2 := unhide HIV2
        clear HIV2
        cases ed
        case true =>
          as_aux_lemma =>
            obtain rfl : V = 5 := by simpa using hV
            clear hV
            have c16 : W10.cell? ⟨P, 16, none⟩ = some (.bool true) := cellr (unhide HBM5).row rfl
            have bm9 := unhide HBM5
            have hb9 := unhide HB5
            clear HBM5 HB5
            have hov := hiv2.ov1 rfl
            have hs1 := hiv2.s1 rfl
            have hfb : 0 ≤ fin ∧ fin ≤ 1099511627776 := ⟨by omega, by omega⟩
            clear hs1
            have hJ9 := hiv2.jd1
            have hE9 := hiv2.end2
            rw [← unhide HE] at hJ9 hE9
            have hX9 := hide (right9_any _ P _ _ _ _ _ _ _ _ _ _ _ _ _ _ _ _ now2 _ fin W10 bm9 (by have := hiv2.n2; omega) (by have := hiv2.n1; omega) ⟨by omega, hnw2⟩ (hfb) hJ9 hE9 (hov.1) (hov.2))
            have H_bm := hide bm9
            have H_iv := hide hiv2
            have H_hb := hide hb9
            clear hJ9 hE9 hb9 bm9 hiv2
            go_wp2_with fail
            refine (unhide hX9).mono ?_
            rintro e Wz ⟨rfl, hz9⟩
            have hbmz := (unhide H_bm).keep hz9
            have hbz := (unhide H_hb).trans (hz9.mono (unhide H_hb).size)
            have H_z := hide hbmz
            have H_bz := hide hbz
            clear hbmz hbz hz9 hX9
            go_wp2_with fail
            go_roundw
            case rel => exact ⟨now2, fin, k + 1, rfl, rfl, by go_num, by omega, by omega, ⟨_, _, _, _, _, _, _, _, _, _, unhide H_z, unhide H_iv, unhide H_bz, by omega, by omega⟩⟩
            case measure =>
              simp [Go.RowKit.intOf]
              omega
        case false =>
          by_cases h1 : E ≤ now2
          · obtain rfl : V = 4 := by simpa [h1] using hV
            clear h1
            as_aux_lemma =>
              have hst := hiv2.s0 rfl
              have hfe := hiv2.finE rfl (s2 := 4) (by omega)
              have hnr := hiv2.nrn
              have XF : Hid (Calls Tryz.prog 16 #[.agg #[I 7, S tApp, S tAnn, .slice b9 1 q9, I p0, I us, I idl, I ab, I p3, I (l.length : Int), I tk, I st, I en, I 0], I 4, I now2] W10 (OutN W10 0 [tRead] (fun v => #[I 7, S tApp, S tAnn, v, I p0, I us, I idl, I ab, I p3, I (l.length : Int), I tk, I 4, I now2, I 0]))) := hide (by
                have q := finish_any 7 tApp tAnn b9 q9 [tRead] p0 us idl ab p3 (l.length : Int) tk st en 0 4 now2 W10 (by decide) (by decide) (unhide HBM5).own.sts (by decide) lns_read
                rw [hfe, hnr] at q
                exact q)
              have HR10 := hide (unhide HBM5).row
              have H_i2 := hide hiv2
              clear hiv2 hst hfe hnr hV
              go_wp2_with (refine wp_run rfl (g_load (t := 24) (a := .tmp 187) rfl (by rfl) (s_ldr (T := 24) (n := 14) (o := 0) (fun _ => by kernel_rfl) (fun _ => by kernel_rfl) (unhide HR10) (#[I 7, S tApp, S tAnn, .slice b9 1 q9, I p0, I us, I idl, I ab, I p3, I (l.length : Int), I tk, I st, I en, I 0]).toList rfl rfl)) ?_)
              refine (unhide XF).mono ?_
              rintro e W11 q
              rw [OutN, if_pos rfl] at q
              obtain ⟨a, cap, rfl, ho, h11⟩ := q
              have H_ho := hide ho
              have H_11 := hide h11
              clear ho h11 XF HR10
              go_upto_region 36 with fail
              generalize hW12 : W11.alloc (.cells #[I 7, S tApp, S tAnn, .slice a 1 cap, I p0, I us, I idl, I ab, I p3, I (l.length : Int), I tk, I 4, I now2, I 0] 24) = W12 at *
              obtain ⟨h12, rf⟩ := new_alc hW12
              clear hW12
              have h112 := (unhide H_11).trans (h12.mono (unhide H_11).size)
              have bm12 := (unhide HBM5).keep h112
              have ho12 : OwnS Wb.heap.size W12 (.slice a 1 cap) [tRead] := (unhide H_ho).below h12 (by have := (unhide HBM5).size; omega)
              have hb12 := (unhide HB5).trans (h112.mono (unhide HBM5).size)
              have d11 : W12.cell? ⟨W11.heap.size, 11, none⟩ = some (I 4) := cellr rf rfl
              have d12 : W12.cell? ⟨W11.heap.size, 12, none⟩ = some (I now2) := cellr rf rfl
              have zN : (now2 != now2) = false := by simp
              have bm13 := bm12.put p0 us idl ab p3 (l.length : Int) tk 4 now2 false us (.slice a 1 cap) ho12
              have bm14 := bm13.put p0 us idl ab p3 (l.length : Int) tk 4 now2 true us (.slice a 1 cap) bm13.own
              have hb14 := bm13.put_below (bm12.put_below hb12 (bkc p0 us idl ab p3 (l.length : Int) tk 4 now2 (.slice a 1 cap) (.slice (some ⟨gl, 0, none⟩) l.length cl) vs false us)) (bkc p0 us idl ab p3 (l.length : Int) tk 4 now2 (.slice a 1 cap) (.slice (some ⟨gl, 0, none⟩) l.length cl) vs true us)
              have H_rf := hide rf
              have H_r12 := hide bm12.row
              have H_r13 := hide bm13.row
              have H_bm14 := hide bm14
              have H_b14 := hide hb14
              clear rf bm12 bm13 bm14 hb14 hb12 ho12 h112 h12 H_11 H_ho HBM5 HB5
              go_upto_region 38 with fail
              clear d11 d12 zN
              go_upto_region 39 with (first | (refine wp_run rfl (g_load (t := 24) (a := .tmp 20) rfl (by rfl) (s_ldr (T := 24) (n := 14) (o := 0) (fun _ => by kernel_rfl) (fun _ => by kernel_rfl) (unhide H_rf) (#[I 7, S tApp, S tAnn, .slice a 1 cap, I p0, I us, I idl, I ab, I p3, I (l.length : Int), I tk, I 4, I now2, I 0]).toList rfl rfl)) ?_) | (refine wp_stP (T := 24) (n := 14) (fun _ => by kernel_rfl) rfl (.tmp 211) (.tmp 209) rfl P 0 (by rfl) (.agg #[I 7, S tApp, S tAnn, .slice a 1 cap, I p0, I us, I idl, I ab, I p3, I (l.length : Int), I tk, I 4, I now2, I 0]) (by rfl) (by rfl) (by simp [Value.cells, Value.oneCell']) (bkc p0 us idl ab p3 (l.length : Int) tk st en (.slice b9 1 q9) (.slice (some ⟨gl, 0, none⟩) l.length cl) vs false us) 64 (unhide H_r12) (by simp [bkc]) (bkc p0 us idl ab p3 (l.length : Int) tk 4 now2 (.slice a 1 cap) (.slice (some ⟨gl, 0, none⟩) l.length cl) vs false us) (by rfl) ?_; generalize hZ : W12.setRow P (bkc p0 us idl ab p3 (l.length : Int) tk 4 now2 (.slice a 1 cap) (.slice (some ⟨gl, 0, none⟩) l.length cl) vs false us) = W13; have HZ13 := hide hZ; clear hZ))
              go_upto_region 40 with (refine wp_stC (T := 4) (fun _ => by kernel_rfl) rfl (.tmp 214) (.const (.bool true)) rfl P 16 (by rfl) (.bool true) (by rfl) rfl rfl (bkc p0 us idl ab p3 (l.length : Int) tk 4 now2 (.slice a 1 cap) (.slice (some ⟨gl, 0, none⟩) l.length cl) vs false us) 64 (by rw [← unhide HZ13]; exact unhide H_r13) (by simp [bkc]) (bkc p0 us idl ab p3 (l.length : Int) tk 4 now2 (.slice a 1 cap) (.slice (some ⟨gl, 0, none⟩) l.length cl) vs true us) rfl ?_; generalize hW14 : W13.setRow P (bkc p0 us idl ab p3 (l.length : Int) tk 4 now2 (.slice a 1 cap) (.slice (some ⟨gl, 0, none⟩) l.length cl) vs true us) = W14)
              rw [← unhide HZ13] at hW14
              clear HZ13
              rw [hW14] at H_bm14 H_b14
              clear hW14 H_rf H_r12 H_r13
              have bm9 := unhide H_bm14
              have hb9 := unhide H_b14
              clear H_bm14 H_b14
              have c16 : W14.cell? ⟨P, 16, none⟩ = some (.bool true) := cellr bm9.row rfl
              have iv9 := (unhide H_i2).stop (s2 := 4) (by omega)
              have hov := iv9.ov1 rfl
              have hJ9 := iv9.jd1
              have hE9 := iv9.end2
              rw [← unhide HE] at hJ9 hE9
              have hX9 := hide (right9_any _ P _ _ _ _ _ _ _ _ _ _ _ _ _ _ _ _ now2 _ now2 W14 bm9 (by have := iv9.n2; omega) (by have := iv9.n1; omega) ⟨by omega, hnw2⟩ (⟨by omega, hnw2⟩) hJ9 hE9 (hov.1) (hov.2))
              have H_bm := hide bm9
              have H_iv := hide iv9
              have H_hb := hide hb9
              clear hJ9 hE9 hb9 bm9 iv9
              go_wp2_with fail
              refine (unhide hX9).mono ?_
              rintro e Wz ⟨rfl, hz9⟩
              have hbmz := (unhide H_bm).keep hz9
              have hbz := (unhide H_hb).trans (hz9.mono (unhide H_hb).size)
              have H_z := hide hbmz
              have H_bz := hide hbz
              clear hbmz hbz hz9 hX9
              go_wp2_with fail
              go_roundw
              case rel => exact ⟨now2, now2, k + 1, rfl, rfl, by go_num, by omega, by omega, ⟨_, _, _, _, _, _, _, _, _, _, unhide H_z, unhide H_iv, unhide H_bz, by omega, by omega⟩⟩
              case measure =>
                simp [Go.RowKit.intOf]
                omega
          · have hlE : now2 < E := by omega
            by_cases h2 : kk + 1 = l.length
            · obtain rfl : V = 1 := by simpa [h1, h2] using hV
              as_aux_lemma =>
                have hJ := unhide HVER
                rw [show vdt false now2 E kk l.length z p3 = 1 by simp [vdt, h1, h2]] at hJ
                have hn60 : l.length ≤ 60 := by omega
                have XR := hide (rotated_any _ P _ _ _ _ _ _ _ _ _ _ _ _ _ _ _ kk _ now2 _ W10 (unhide HBM5) (unhide HTT) (by omega) hiv2.hsp ⟨by omega, hnw2⟩ (hiv2.rot (unhide HTT) hJ) (mnt_new l.length (by omega)) (by unfold hsh; rfl) (by have q := mnt_len 1 (10 + (l.length : Int)) tSec; rw [mnt_new l.length (by omega)] at q; exact q))
                have HI2 := hide hiv2
                have HKN := hide h2
                have HLE := hide hlE
                clear hiv2 h1 h2 hlE hJ hV
                go_wp2_with fail
                refine (unhide XR).mono ?_
                rintro e W11 ⟨rfl, ⟨v1, vl1, vs1, hbm⟩, hbl⟩
                have hb11 := hbl _ (unhide HB5)
                obtain ⟨l', hl'⟩ : ∃ l', l' = l.set kk (⟨ti, tg, ha, mi, true, now2, 10 + (l.length : Int), tSec⟩ : Tk) ++ [(⟨10 + (l.length : Int), (l.length : Int) + 1, Sha.sum (tkn 1 (10 + (l.length : Int)).toNat tSec), now2, false, 0, 0, []⟩ : Tk)] := ⟨_, rfl⟩
                have en' : l'.length = l.length + 1 := by rw [hl']; simp
                have e9 : ((l.length + 1 : Nat) : Int) = (l.length : Int) + 1 := by omega
                have bm11 : BM Wb.heap.size W11 P p0 now2 idl ab p3 (l'.length : Int) (10 + (l.length : Int)) st en l' (sp.set kk now2 ++ [0]) false now2 v1 vl1 vs1 := by rw [en', e9, hl']; exact hbm
                have iv11 : Iv p0 idl ab p3 now2 (10 + (l.length : Int)) st en l' (sp.set kk now2 ++ [0]) false now2 fin := by rw [hl']; exact (unhide HI2).turn rfl hn60 (unhide HTT) (unhide HKN) _ (sum_32 _)
                clear hl' e9 hbm hbl HBM5 HB5 XR
                obtain ⟨E2, hE2⟩ : ∃ E2, E2 = enB p0 now2 idl ab := ⟨_, rfl⟩
                have hmin : ∀ ty, (Builtin.min_ #[3, 3, 3] ty #[I (p0 + ab), I (now2 + idl), I 1099511627776]).run Tryz.prog W11.drew = .ok (I E2) W11.drew := fun ty => by rw [hE2]; exact min3_run _ _ _ _ _ _
                have hEb : now2 < E2 ∧ E2 ≤ 1099511627776 := by
                  have q1 := unhide HE; have q2 := unhide HLE; have q3 := (unhide HI2).i1; unfold enB at q1 hE2; omega
                have HE2 := hide hE2
                clear hE2
                have rbc11 := (hb11.block _ (lt_of_row (unhide HCb))).trans (unhide HCb)
                have b7 : W11.cell? ⟨bc, 7, none⟩ = some (I idl) := cellr rbc11 rfl
                have b8 : W11.cell? ⟨bc, 8, none⟩ = some (I ab) := cellr rbc11 rfl
                have c17 : W11.cell? ⟨P, 17, none⟩ = some (I now2) := cellr bm11.row rfl
                have H11 := hide bm11
                have HI11 := hide iv11
                have HB11 := hide hb11
                clear rbc11 bm11 iv11 hb11 HI2 HKN
                go_upto_region 26 with fail
                go_region
                clear hmin b7 b8 c17
                have hbq : Below W11.heap.size W11 W11.drew := (Below.refl _ _).drew
                have bm9 := (unhide H11).keep hbq
                have hb9 := (unhide HB11).trans (hbq.mono (unhide HB11).size)
                generalize W11.drew = W12 at *
                clear hbq H11 HB11
                have c16 : W12.cell? ⟨P, 16, none⟩ = some (.bool false) := cellr bm9.row rfl
                have iv9 := unhide HI11
                have hlt2 : now2 < enB p0 now2 idl ab := by rw [← unhide HE2]; exact hEb.1
                have ho1 := iv9.ov0 rfl hlt2 (now2 - E2 + 1)
                have ho2 : ovF p0 now2 idl ab st en (now2 - E2) now2 = !(!false && decide (now2 < E2)) := by rw [iv9.ov0 rfl hlt2]; simp [hEb.1]
                obtain ⟨hEb1, hEb2⟩ := hEb
                have hJ9 := iv9.jd1
                have hE9 := iv9.end2
                rw [← unhide HE2] at hJ9 hE9
                have hX9 := hide (right9_any _ P _ _ _ _ _ _ _ _ _ _ _ _ _ _ _ _ now2 _ E2 W12 bm9 (by have := iv9.n2; omega) (by have := iv9.n1; omega) ⟨by omega, hnw2⟩ (⟨by omega, hEb2⟩) hJ9 hE9 (ho1) (ho2))
                have H_bm := hide bm9
                have H_iv := hide iv9
                have H_hb := hide hb9
                clear hJ9 hE9 hb9 bm9 iv9
                go_wp2_with fail
                refine (unhide hX9).mono ?_
                rintro e Wz ⟨rfl, hz9⟩
                have hbmz := (unhide H_bm).keep hz9
                have hbz := (unhide H_hb).trans (hz9.mono (unhide H_hb).size)
                have H_z := hide hbmz
                have H_bz := hide hbz
                clear hbmz hbz hz9 hX9
                go_wp2_with fail
                go_roundw
                case rel => exact ⟨now2, fin, k + 1, rfl, rfl, by go_num, by omega, by omega, ⟨_, _, _, _, _, _, _, _, _, _, unhide H_z, unhide H_iv, unhide H_bz, by omega, by omega⟩⟩
                case measure =>
                  simp [Go.RowKit.intOf]
                  omega
            · by_cases h3 : now2 - z < p3
              · obtain rfl : V = 2 := by simpa [h1, h2, h3] using hV
                clear h1 h3
                as_aux_lemma =>
                  obtain ⟨q1, -, -, -, -, -, q7⟩ := hiv2.tok kk _ (unhide HTT)
                  obtain ⟨-, -, -, -, q8, -⟩ := q7 (by omega)
                  obtain ⟨t1, ht1⟩ : ∃ t1, l[kk + 1]? = some t1 := ⟨_, List.getElem?_eq_getElem (by omega)⟩
                  have q9 := (hiv2.tok _ _ ht1).1
                  obtain ⟨gl3, cl3, cur3, eT3, -, hg3, -, htk3⟩ := row_form (unhide HBM5).tok (by omega)
                  obtain ⟨rfl, rfl⟩ : gl = gl3 ∧ cl = cl3 := by simpa using eT3
                  have n7 : W10.cell? ⟨gl, kk * 9 + 7, none⟩ = some (I (11 + (kk : Int))) := by
                    have q := cell_part hg3 (tok_part htk3 (unhide HTT)) (i := 7) (by decide) rfl
                    simp only at q8; rw [q8] at q; exact q
                  have n0 : W10.cell? ⟨gl, (kk + 1) * 9, none⟩ = some (I (11 + (kk : Int))) := by
                    have q := cell_part hg3 (tok_part htk3 ht1) (i := 0) (by decide) rfl
                    rw [q9, show (10 : Int) + ((kk + 1 : Nat) : Int) = 11 + (kk : Int) by omega] at q; exact q
                  have HROW5 := hide (unhide HBM5).row
                  have hk1 : kk + 1 < l.length := by omega
                  have HN7 := hide n7
                  have HN0 := hide n0
                  have HI2 := hide hiv2
                  have HLE := hide hlE
                  clear n7 n0 q1 q7 q8 ht1 q9 eT3 hg3 htk3 hiv2 h2 hlE hV t1
                  go_upto_region 28 with fail
                  have hgl5 := unhide HGT5
                  refine region_tabG fo28T [(11, ptr P), (15, I (kk : Int))] 229 [0, 1, 2, 4, 6, 8, 9, 10, 12, 15] [] (fo28V P gl l.length cl kk) rfl (by rfl) (by rfl) rfl (fun c => by kernel_rfl) (fun c => by kernel_rfl) (fun c w => by kernel_rfl) _ W10 (Nat.le_of_ble_eq_true rfl) rfl (fun _ _ W => Below W10.heap.size W10 W) ⟨(), (Below.refl _ _).drew⟩ (fun i hi c L W hW => hW) ?spc ?_
                  case spc =>
                    intro i hi hp hs c L W hW hL hd
                    rcases (by simp [fo28T] at hi hp hs; omega : i = 3 ∨ i = 5 ∨ i = 7 ∨ i = 11 ∨ i = 13 ∨ i = 14 ∨ i = 16 ∨ i = 17) with rfl | rfl | rfl | rfl | rfl | rfl | rfl | rfl
                    · skip
                      have f1 : (Instr.loadAt 61 (.pointer (some ⟨P, 14, none⟩))).run Tryz.prog W = .ok (.slice (some ⟨gl, 0, none⟩) l.length cl) W := s_ld (T := 61) (fun _ => by kernel_rfl) (cellr ((hW.block _ (lt_of_row (unhide HROW5))).trans (unhide HROW5)) rfl)
                      exact ⟨f1, hW⟩
                    · skip
                      exact ⟨⟨_, rfl, s_ix61 gl l.length cl kk hkk⟩, hW⟩
                    · skip
                      have f1 : (Instr.loadAt 3 (.pointer (some ⟨gl, kk * 9 + 7, none⟩))).run Tryz.prog W = .ok (I (11 + (kk : Int))) W := s_ld (T := 3) (fun _ => by kernel_rfl) ((cell_keep hW (lt_of_row hgl5)).trans (unhide HN7))
                      exact ⟨f1, hW⟩
                    · skip
                      have f1 : (Instr.loadAt 61 (.pointer (some ⟨P, 14, none⟩))).run Tryz.prog W = .ok (.slice (some ⟨gl, 0, none⟩) l.length cl) W := s_ld (T := 61) (fun _ => by kernel_rfl) (cellr ((hW.block _ (lt_of_row (unhide HROW5))).trans (unhide HROW5)) rfl)
                      exact ⟨f1, hW⟩
                    · skip
                      have f0 : (do eqGuard .add 3 (.tmp 173) (.const (I 1)) (I (kk : Int)) (I 1); binOp .add 3 (I (kk : Int)) (I 1) : Sem Value).run Tryz.prog W = .ok (I (IntKind.i64.wrap ((kk : Int) + 1))) W := by kernel_rfl
                      rw [show IntKind.i64.wrap ((kk : Int) + 1) = ((kk + 1 : Nat) : Int) by rw [IntKind.wrap_i64]; omega] at f0
                      exact ⟨⟨_, rfl, f0⟩, hW⟩
                    · skip
                      exact ⟨⟨_, rfl, s_ix61 gl l.length cl (kk + 1) hk1⟩, hW⟩
                    · skip
                      have f1 : (Instr.loadAt 3 (.pointer (some ⟨gl, (kk + 1) * 9, none⟩))).run Tryz.prog W = .ok (I (11 + (kk : Int))) W := s_ld (T := 3) (fun _ => by kernel_rfl) ((cell_keep hW (lt_of_row hgl5)).trans (unhide HN0))
                      exact ⟨f1, hW⟩
                    · skip
                      have f0 : (do eqGuard .neq 3 (.tmp 168) (.tmp 177) (I (11 + (kk : Int))) (I (11 + (kk : Int))); binOp .neq 3 (I (11 + (kk : Int))) (I (11 + (kk : Int))) : Sem Value).run Tryz.prog W = .ok (.bool ((11 + (kk : Int)) != (11 + (kk : Int)))) W := by kernel_rfl
                      exact ⟨⟨_, rfl, f0⟩, hW⟩
                  intro c L W12 hall hW
                  simp only [frmL, fo28T, fo28V, Act.put, List.setIfInBounds_toArray, List.set_cons_succ, List.set_cons_zero]
                  have hbq := hW
                  clear hall hW hgl5
                  have bm9 := (unhide HBM5).keep hbq
                  have hb9 := (unhide HB5).trans (hbq.mono (unhide HB5).size)
                  clear hbq HBM5 HB5 HGT5 HROW5 HN7 HN0
                  have c16 : W12.cell? ⟨P, 16, none⟩ = some (.bool false) := cellr bm9.row rfl
                  have zR : ((11 + (kk : Int)) != (11 + (kk : Int))) = false := by simp
                  have iv9 := unhide HI2
                  have hlt2 : now2 < enB p0 us idl ab := by rw [← unhide HE]; exact unhide HLE
                  have ho1 := iv9.ov0 rfl hlt2 (now2 - E + 1)
                  have ho2 : ovF p0 us idl ab st en (now2 - E) now2 = !(!false && decide (now2 < E)) := by rw [iv9.ov0 rfl hlt2]; simp [unhide HLE]
                  have hEb : now2 < E ∧ E ≤ 1099511627776 := by have q1 := unhide HE; have q2 := unhide HLE; unfold enB at q1; omega
                  obtain ⟨hEb1, hEb2⟩ := hEb
                  clear HI2 HLE
                  have hJ9 := iv9.jd1
                  have hE9 := iv9.end2
                  rw [← unhide HE] at hJ9 hE9
                  have hX9 := hide (right9_any _ P _ _ _ _ _ _ _ _ _ _ _ _ _ _ _ _ now2 _ E W12 bm9 (by have := iv9.n2; omega) (by have := iv9.n1; omega) ⟨by omega, hnw2⟩ (⟨by omega, hEb2⟩) hJ9 hE9 (ho1) (ho2))
                  have H_bm := hide bm9
                  have H_iv := hide iv9
                  have H_hb := hide hb9
                  clear hJ9 hE9 hb9 bm9 iv9
                  go_wp2_with fail
                  refine (unhide hX9).mono ?_
                  rintro e Wz ⟨rfl, hz9⟩
                  have hbmz := (unhide H_bm).keep hz9
                  have hbz := (unhide H_hb).trans (hz9.mono (unhide H_hb).size)
                  have H_z := hide hbmz
                  have H_bz := hide hbz
                  clear hbmz hbz hz9 hX9
                  go_wp2_with fail
                  go_roundw
                  case rel => exact ⟨now2, fin, k + 1, rfl, rfl, by go_num, by omega, by omega, ⟨_, _, _, _, _, _, _, _, _, _, unhide H_z, unhide H_iv, unhide H_bz, by omega, by omega⟩⟩
                  case measure =>
                    simp [Go.RowKit.intOf]
                    omega
              · obtain rfl : V = 3 := by simpa [h1, h2, h3] using hV
                clear h1 h2 h3
                as_aux_lemma =>
                  have hst := hiv2.s0 rfl
                  have hfe := hiv2.finE rfl (s2 := 3) (by omega)
                  have hnr := hiv2.nrn
                  have XF : Hid (Calls Tryz.prog 16 #[.agg #[I 7, S tApp, S tAnn, .slice b9 1 q9, I p0, I us, I idl, I ab, I p3, I (l.length : Int), I tk, I st, I en, I 0], I 3, I now2] W10 (OutN W10 0 [tRead] (fun v => #[I 7, S tApp, S tAnn, v, I p0, I us, I idl, I ab, I p3, I (l.length : Int), I tk, I 3, I now2, I 0]))) := hide (by
                    have q := finish_any 7 tApp tAnn b9 q9 [tRead] p0 us idl ab p3 (l.length : Int) tk st en 0 3 now2 W10 (by decide) (by decide) (unhide HBM5).own.sts (by decide) lns_read
                    rw [hfe, hnr] at q
                    exact q)
                  have HR10 := hide (unhide HBM5).row
                  have H_i2 := hide hiv2
                  clear hiv2 hst hfe hnr hV
                  go_wp2_with (refine wp_run rfl (g_load (t := 24) (a := .tmp 187) rfl (by rfl) (s_ldr (T := 24) (n := 14) (o := 0) (fun _ => by kernel_rfl) (fun _ => by kernel_rfl) (unhide HR10) (#[I 7, S tApp, S tAnn, .slice b9 1 q9, I p0, I us, I idl, I ab, I p3, I (l.length : Int), I tk, I st, I en, I 0]).toList rfl rfl)) ?_)
                  refine (unhide XF).mono ?_
                  rintro e W11 q
                  rw [OutN, if_pos rfl] at q
                  obtain ⟨a, cap, rfl, ho, h11⟩ := q
                  have H_ho := hide ho
                  have H_11 := hide h11
                  clear ho h11 XF HR10
                  go_upto_region 36 with fail
                  generalize hW12 : W11.alloc (.cells #[I 7, S tApp, S tAnn, .slice a 1 cap, I p0, I us, I idl, I ab, I p3, I (l.length : Int), I tk, I 3, I now2, I 0] 24) = W12 at *
                  obtain ⟨h12, rf⟩ := new_alc hW12
                  clear hW12
                  have h112 := (unhide H_11).trans (h12.mono (unhide H_11).size)
                  have bm12 := (unhide HBM5).keep h112
                  have ho12 : OwnS Wb.heap.size W12 (.slice a 1 cap) [tRead] := (unhide H_ho).below h12 (by have := (unhide HBM5).size; omega)
                  have hb12 := (unhide HB5).trans (h112.mono (unhide HBM5).size)
                  have d11 : W12.cell? ⟨W11.heap.size, 11, none⟩ = some (I 3) := cellr rf rfl
                  have d12 : W12.cell? ⟨W11.heap.size, 12, none⟩ = some (I now2) := cellr rf rfl
                  have zN : (now2 != now2) = false := by simp
                  have bm13 := bm12.put p0 us idl ab p3 (l.length : Int) tk 3 now2 false us (.slice a 1 cap) ho12
                  have bm14 := bm13.put p0 us idl ab p3 (l.length : Int) tk 3 now2 true us (.slice a 1 cap) bm13.own
                  have hb14 := bm13.put_below (bm12.put_below hb12 (bkc p0 us idl ab p3 (l.length : Int) tk 3 now2 (.slice a 1 cap) (.slice (some ⟨gl, 0, none⟩) l.length cl) vs false us)) (bkc p0 us idl ab p3 (l.length : Int) tk 3 now2 (.slice a 1 cap) (.slice (some ⟨gl, 0, none⟩) l.length cl) vs true us)
                  have H_rf := hide rf
                  have H_r12 := hide bm12.row
                  have H_r13 := hide bm13.row
                  have H_bm14 := hide bm14
                  have H_b14 := hide hb14
                  clear rf bm12 bm13 bm14 hb14 hb12 ho12 h112 h12 H_11 H_ho HBM5 HB5
                  go_upto_region 38 with fail
                  clear d11 d12 zN
                  go_upto_region 39 with (first | (refine wp_run rfl (g_load (t := 24) (a := .tmp 20) rfl (by rfl) (s_ldr (T := 24) (n := 14) (o := 0) (fun _ => by kernel_rfl) (fun _ => by kernel_rfl) (unhide H_rf) (#[I 7, S tApp, S tAnn, .slice a 1 cap, I p0, I us, I idl, I ab, I p3, I (l.length : Int), I tk, I 3, I now2, I 0]).toList rfl rfl)) ?_) | (refine wp_stP (T := 24) (n := 14) (fun _ => by kernel_rfl) rfl (.tmp 211) (.tmp 209) rfl P 0 (by rfl) (.agg #[I 7, S tApp, S tAnn, .slice a 1 cap, I p0, I us, I idl, I ab, I p3, I (l.length : Int), I tk, I 3, I now2, I 0]) (by rfl) (by rfl) (by simp [Value.cells, Value.oneCell']) (bkc p0 us idl ab p3 (l.length : Int) tk st en (.slice b9 1 q9) (.slice (some ⟨gl, 0, none⟩) l.length cl) vs false us) 64 (unhide H_r12) (by simp [bkc]) (bkc p0 us idl ab p3 (l.length : Int) tk 3 now2 (.slice a 1 cap) (.slice (some ⟨gl, 0, none⟩) l.length cl) vs false us) (by rfl) ?_; generalize hZ : W12.setRow P (bkc p0 us idl ab p3 (l.length : Int) tk 3 now2 (.slice a 1 cap) (.slice (some ⟨gl, 0, none⟩) l.length cl) vs false us) = W13; have HZ13 := hide hZ; clear hZ))
                  go_upto_region 40 with (refine wp_stC (T := 4) (fun _ => by kernel_rfl) rfl (.tmp 214) (.const (.bool true)) rfl P 16 (by rfl) (.bool true) (by rfl) rfl rfl (bkc p0 us idl ab p3 (l.length : Int) tk 3 now2 (.slice a 1 cap) (.slice (some ⟨gl, 0, none⟩) l.length cl) vs false us) 64 (by rw [← unhide HZ13]; exact unhide H_r13) (by simp [bkc]) (bkc p0 us idl ab p3 (l.length : Int) tk 3 now2 (.slice a 1 cap) (.slice (some ⟨gl, 0, none⟩) l.length cl) vs true us) rfl ?_; generalize hW14 : W13.setRow P (bkc p0 us idl ab p3 (l.length : Int) tk 3 now2 (.slice a 1 cap) (.slice (some ⟨gl, 0, none⟩) l.length cl) vs true us) = W14)
                  rw [← unhide HZ13] at hW14
                  clear HZ13
                  rw [hW14] at H_bm14 H_b14
                  clear hW14 H_rf H_r12 H_r13
                  have bm9 := unhide H_bm14
                  have hb9 := unhide H_b14
                  clear H_bm14 H_b14
                  have c16 : W14.cell? ⟨P, 16, none⟩ = some (.bool true) := cellr bm9.row rfl
                  have iv9 := (unhide H_i2).stop (s2 := 3) (by omega)
                  have hov := iv9.ov1 rfl
                  have hJ9 := iv9.jd1
                  have hE9 := iv9.end2
                  rw [← unhide HE] at hJ9 hE9
                  have hX9 := hide (right9_any _ P _ _ _ _ _ _ _ _ _ _ _ _ _ _ _ _ now2 _ now2 W14 bm9 (by have := iv9.n2; omega) (by have := iv9.n1; omega) ⟨by omega, hnw2⟩ (⟨by omega, hnw2⟩) hJ9 hE9 (hov.1) (hov.2))
                  have H_bm := hide bm9
                  have H_iv := hide iv9
                  have H_hb := hide hb9
                  clear hJ9 hE9 hb9 bm9 iv9
                  go_wp2_with fail
                  refine (unhide hX9).mono ?_
                  rintro e Wz ⟨rfl, hz9⟩
                  have hbmz := (unhide H_bm).keep hz9
                  have hbz := (unhide H_hb).trans (hz9.mono (unhide H_hb).size)
                  have H_z := hide hbmz
                  have H_bz := hide hbz
                  clear hbmz hbz hz9 hX9
                  go_wp2_with fail
                  go_roundw
                  case rel => exact ⟨now2, now2, k + 1, rfl, rfl, by go_num, by omega, by omega, ⟨_, _, _, _, _, _, _, _, _, _, unhide H_z, unhide H_iv, unhide H_bz, by omega, by omega⟩⟩
                  case measure =>
                    simp [Go.RowKit.intOf]
                    omega
    · have HBW := hide hbw
      clear hbm hiv hb hrc hbw
      by_cases h1 : k < sn
      · have h1' : (k : Int) < (sn : Int) := by omega
        have h2' : ¬ (k : Int) < 60 := by omega
        clear hlt h1
        go_wp2
        go_ret
        exact ⟨rfl, unhide HBW⟩
      · have h1' : ¬ (k : Int) < (sn : Int) := by omega
        clear hlt h1
        go_wp2
        go_ret
        exact ⟨rfl, unhide HBW⟩
end Go.Proofs.YtmjaobddgaglhaaGreatDoor
