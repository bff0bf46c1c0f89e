import Derived.Test.YtmjaobddgaglhaaGreatDoorFqd
import Derived.Test.YtmjaobddgaglhaaGreatDoorTkh
import Derived.BigQuiet
/- A token of a book is rotated. -/
namespace Go.Proofs.YtmjaobddgaglhaaGreatDoor
open Go.RowKit
set_option maxHeartbeats 8000000
set_option maxRecDepth 8000
set_option linter.unusedVariables false
def ro2T : List (Op × Option Tmp × Option (Nat × Bool)) := [
  (.move (.tmp 0), some 21, none),
  (.nilCheck (.tmp 21), some 22, none),
  (.fieldAddr 64 (.tmp 22) 0, some 23, none),
  (.load 24 (.tmp 23), some 24, none),
  (.move (.tmp 0), some 25, none),
  (.nilCheck (.tmp 25), some 26, none),
  (.fieldAddr 64 (.tmp 26) 1, some 27, none),
  (.load 61 (.tmp 27), some 28, none),
  (.move (.tmp 1), some 29, none),
  (.indexAddr 61 (.tmp 28) (.tmp 29), some 30, none),
  (.load 26 (.tmp 30), some 31, none),
  (.move (.tmp 7), some 32, none),
  (.move (.tmp 2), some 33, none),
  (.call { callee := .value (.func 14), args := #[(.tmp 24), (.tmp 31), (.tmp 32), (.const (.string ⟨#[97, 98, 99, 100, 101, 102, 103, 104, 105, 106, 107, 108, 109, 110, 111, 112, 113, 114, 115, 116, 117, 118, 119, 120]⟩)), (.tmp 33)], argTypes := #[24, 26, 3, 9, 3] }, some 34, none),
  (.move (.tmp 34), some 20, none),
  (.extract (.tmp 20) 0, some 35, none),
  (.extract (.tmp 20) 1, some 36, none),
  (.extract (.tmp 20) 2, some 37, none),
  (.extract (.tmp 20) 3, some 38, none),
  (.alloc 24, some 8, none),
  (.alloc 26, some 9, none),
  (.alloc 26, some 10, none),
  (.store 24 (.tmp 8) (.tmp 35), none, none),
  (.store 26 (.tmp 9) (.tmp 36), none, none),
  (.store 26 (.tmp 10) (.tmp 37), none, none),
  (.assign (.tmp 38), some 11, none)]
def ro6T : List (Op × Option Tmp × Option (Nat × Bool)) := [
  (.fieldAddr 26 (.tmp 10) 0, some 106, none),
  (.load 3 (.tmp 106), some 107, none),
  (.move (.tmp 7), some 108, none),
  (.binOp .neq 3 (.tmp 107) (.tmp 108) 3, some 109, none),
  (.move (.tmp 109), some 110, none),
  (.fieldAddr 26 (.tmp 10) 5, some 111, some (4, false)),
  (.load 4 (.tmp 111), some 112, some (4, false)),
  (.pick (.tmp 110) (.const (.bool true)) (.tmp 112), some 113, none),
  (.move (.tmp 113), some 114, none),
  (.fieldAddr 26 (.tmp 10) 1, some 115, some (8, false)),
  (.load 3 (.tmp 115), some 116, some (8, false)),
  (.fieldAddr 24 (.tmp 8) 0, some 117, some (8, false)),
  (.load 3 (.tmp 117), some 118, some (8, false)),
  (.binOp .neq 3 (.tmp 116) (.tmp 118) 3, some 119, some (8, false)),
  (.pick (.tmp 114) (.const (.bool true)) (.tmp 119), some 120, none),
  (.move (.tmp 120), some 121, none),
  (.fieldAddr 26 (.tmp 10) 3, some 122, some (15, false)),
  (.load 9 (.tmp 122), some 123, some (15, false)),
  (.move (.tmp 12), some 124, some (15, false)),
  (.call { callee := .value (.func 57), args := #[(.tmp 124)], argTypes := #[9] }, some 125, some (15, false)),
  (.binOp .neq 9 (.tmp 123) (.tmp 125) 9, some 126, some (15, false)),
  (.pick (.tmp 121) (.const (.bool true)) (.tmp 126), some 127, none),
  (.move (.tmp 127), some 128, none),
  (.fieldAddr 26 (.tmp 10) 2, some 129, some (22, false)),
  (.load 3 (.tmp 129), some 130, some (22, false)),
  (.fieldAddr 24 (.tmp 8) 9, some 131, some (22, false)),
  (.load 3 (.tmp 131), some 132, some (22, false)),
  (.binOp .neq 3 (.tmp 130) (.tmp 132) 3, some 133, some (22, false)),
  (.pick (.tmp 128) (.const (.bool true)) (.tmp 133), some 134, none)]
def ro9T : List (Op × Option Tmp × Option (Nat × Bool)) := [
  (.move (.tmp 0), some 139, none),
  (.nilCheck (.tmp 139), some 140, none),
  (.fieldAddr 64 (.tmp 140) 1, some 141, none),
  (.load 61 (.tmp 141), some 142, none),
  (.move (.tmp 1), some 143, none),
  (.load 26 (.tmp 9), some 144, none),
  (.indexAddr 61 (.tmp 142) (.tmp 143), some 145, none),
  (.store 26 (.tmp 145) (.tmp 144), none, none)]
def ro10T : List (Op × Option Tmp × Option (Nat × Bool)) := [
  (.move (.tmp 0), some 146, none),
  (.move (.tmp 0), some 147, none),
  (.nilCheck (.tmp 147), some 148, none),
  (.fieldAddr 64 (.tmp 148) 1, some 149, none),
  (.load 61 (.tmp 149), some 150, none),
  (.load 26 (.tmp 10), some 151, none),
  (.buildSlice 61 1 #[(0, (.tmp 151))], some 152, none),
  (.call { callee := .builtin .append, args := #[(.tmp 150), (.tmp 152)], argTypes := #[61, 61] }, some 153, none),
  (.nilCheck (.tmp 146), some 154, none),
  (.fieldAddr 64 (.tmp 154) 1, some 155, none),
  (.store 61 (.tmp 155) (.tmp 153), none, none)]
def ro2V (P gl n cap k : Nat) (F T : Array Value) (now nx : Int) (V0 : Value → Array Value) (V1 V2 : Array Value) (c : (Option Addr × Nat) × Nat × Nat × Nat) : Nat → Value
  | 0 => ptr P
  | 1 => ptr P
  | 2 => .pointer (some ⟨P, 0, none⟩)
  | 3 => .agg F
  | 4 => ptr P
  | 5 => ptr P
  | 6 => .pointer (some ⟨P, 14, none⟩)
  | 7 => .slice (some ⟨gl, 0, none⟩) n cap
  | 8 => I k
  | 9 => .pointer (some ⟨gl, k * 9, none⟩)
  | 10 => .agg T
  | 11 => I nx
  | 12 => I now
  | 13 => .tuple #[.agg (V0 (.slice c.1.1 1 c.1.2)), .agg V1, .agg V2, I 0]
  | 14 => .tuple #[.agg (V0 (.slice c.1.1 1 c.1.2)), .agg V1, .agg V2, I 0]
  | 15 => .agg (V0 (.slice c.1.1 1 c.1.2))
  | 16 => .agg V1
  | 17 => .agg V2
  | 18 => I 0
  | 19 => ptr c.2.1
  | 20 => ptr c.2.2.1
  | 21 => ptr c.2.2.2
  | 22 => undef
  | 23 => undef
  | 24 => undef
  | 25 => I 0
  | _ => undef
theorem ro2V_ne {P gl n cap k : Nat} {F T : Array Value} {now nx : Int} {V0 : Value → Array Value} {V1 V2 : Array Value} {a a' : Option Addr} {p p' x y z : Nat} {j : Nat} (h13 : j ≠ 13) (h14 : j ≠ 14) (h15 : j ≠ 15) : ro2V P gl n cap k F T now nx V0 V1 V2 ((a, p), x, y, z) j = ro2V P gl n cap k F T now nx V0 V1 V2 ((a', p'), x, y, z) j := by
  match j, h13, h14, h15 with
  | 0, _, _, _ => rfl
  | 1, _, _, _ => rfl
  | 2, _, _, _ => rfl
  | 3, _, _, _ => rfl
  | 4, _, _, _ => rfl
  | 5, _, _, _ => rfl
  | 6, _, _, _ => rfl
  | 7, _, _, _ => rfl
  | 8, _, _, _ => rfl
  | 9, _, _, _ => rfl
  | 10, _, _, _ => rfl
  | 11, _, _, _ => rfl
  | 12, _, _, _ => rfl
  | 13, h, _, _ => exact absurd rfl h
  | 14, _, h, _ => exact absurd rfl h
  | 15, _, _, h => exact absurd rfl h
  | 16, _, _, _ => rfl
  | 17, _, _, _ => rfl
  | 18, _, _, _ => rfl
  | 19, _, _, _ => rfl
  | 20, _, _, _ => rfl
  | 21, _, _, _ => rfl
  | 22, _, _, _ => rfl
  | 23, _, _, _ => rfl
  | 24, _, _, _ => rfl
  | 25, _, _, _ => rfl
  | (q + 26), _, _, _ => rfl
theorem ro2V_n0 {P gl n cap k : Nat} {F T : Array Value} {now nx : Int} {V0 : Value → Array Value} {V1 V2 : Array Value} {a : Option Addr} {p x x' y z : Nat} {j : Nat} (h19 : j ≠ 19) : ro2V P gl n cap k F T now nx V0 V1 V2 ((a, p), x, y, z) j = ro2V P gl n cap k F T now nx V0 V1 V2 ((a, p), x', y, z) j := by
  match j, h19 with
  | 0, _ => rfl
  | 1, _ => rfl
  | 2, _ => rfl
  | 3, _ => rfl
  | 4, _ => rfl
  | 5, _ => rfl
  | 6, _ => rfl
  | 7, _ => rfl
  | 8, _ => rfl
  | 9, _ => rfl
  | 10, _ => rfl
  | 11, _ => rfl
  | 12, _ => rfl
  | 13, _ => rfl
  | 14, _ => rfl
  | 15, _ => rfl
  | 16, _ => rfl
  | 17, _ => rfl
  | 18, _ => rfl
  | 19, h => exact absurd rfl h
  | 20, _ => rfl
  | 21, _ => rfl
  | 22, _ => rfl
  | 23, _ => rfl
  | 24, _ => rfl
  | 25, _ => rfl
  | (q + 26), _ => rfl
theorem ro2V_n1 {P gl n cap k : Nat} {F T : Array Value} {now nx : Int} {V0 : Value → Array Value} {V1 V2 : Array Value} {a : Option Addr} {p x y y' z : Nat} {j : Nat} (h20 : j ≠ 20) : ro2V P gl n cap k F T now nx V0 V1 V2 ((a, p), x, y, z) j = ro2V P gl n cap k F T now nx V0 V1 V2 ((a, p), x, y', z) j := by
  match j, h20 with
  | 0, _ => rfl
  | 1, _ => rfl
  | 2, _ => rfl
  | 3, _ => rfl
  | 4, _ => rfl
  | 5, _ => rfl
  | 6, _ => rfl
  | 7, _ => rfl
  | 8, _ => rfl
  | 9, _ => rfl
  | 10, _ => rfl
  | 11, _ => rfl
  | 12, _ => rfl
  | 13, _ => rfl
  | 14, _ => rfl
  | 15, _ => rfl
  | 16, _ => rfl
  | 17, _ => rfl
  | 18, _ => rfl
  | 19, _ => rfl
  | 20, h => exact absurd rfl h
  | 21, _ => rfl
  | 22, _ => rfl
  | 23, _ => rfl
  | 24, _ => rfl
  | 25, _ => rfl
  | (q + 26), _ => rfl
theorem ro2V_n2 {P gl n cap k : Nat} {F T : Array Value} {now nx : Int} {V0 : Value → Array Value} {V1 V2 : Array Value} {a : Option Addr} {p x y z z' : Nat} {j : Nat} (h21 : j ≠ 21) : ro2V P gl n cap k F T now nx V0 V1 V2 ((a, p), x, y, z) j = ro2V P gl n cap k F T now nx V0 V1 V2 ((a, p), x, y, z') j := by
  match j, h21 with
  | 0, _ => rfl
  | 1, _ => rfl
  | 2, _ => rfl
  | 3, _ => rfl
  | 4, _ => rfl
  | 5, _ => rfl
  | 6, _ => rfl
  | 7, _ => rfl
  | 8, _ => rfl
  | 9, _ => rfl
  | 10, _ => rfl
  | 11, _ => rfl
  | 12, _ => rfl
  | 13, _ => rfl
  | 14, _ => rfl
  | 15, _ => rfl
  | 16, _ => rfl
  | 17, _ => rfl
  | 18, _ => rfl
  | 19, _ => rfl
  | 20, _ => rfl
  | 21, h => exact absurd rfl h
  | 22, _ => rfl
  | 23, _ => rfl
  | 24, _ => rfl
  | 25, _ => rfl
  | (q + 26), _ => rfl
structure WRo (Gd : World → Value → Prop) (W0 : World) (n : Nat) (Z0 Z1 Z2 : Array Value) (V0 V1 V2 : Value → Array Value) (c : (Option Addr × Nat) × Nat × Nat × Nat) (L : Nat → Bool) (W : World) : Prop where
  be : Below W0.heap.size W0 W
  own : L 13 = true → Gd W (.slice c.1.1 n c.1.2)
  b0 : L 19 = true → W0.heap.size ≤ c.2.1 ∧ W.heap[c.2.1]? = some (.cells (if L 22 then V0 (.slice c.1.1 n c.1.2) else Z0) 24 (0, 0))
  b1 : L 20 = true → W0.heap.size ≤ c.2.2.1 ∧ W.heap[c.2.2.1]? = some (.cells (if L 23 then V1 (.slice c.1.1 n c.1.2) else Z1) 26 (0, 0))
  b2 : L 21 = true → W0.heap.size ≤ c.2.2.2 ∧ W.heap[c.2.2.2]? = some (.cells (if L 24 then V2 (.slice c.1.1 n c.1.2) else Z2) 26 (0, 0))
  n01 : L 19 = true → L 20 = true → c.2.1 ≠ c.2.2.1
  n02 : L 19 = true → L 21 = true → c.2.1 ≠ c.2.2.2
  n12 : L 20 = true → L 21 = true → c.2.2.1 ≠ c.2.2.2
  s0 : L 22 = true → L 19 = true ∧ L 13 = true
  s1 : L 23 = true → L 20 = true ∧ L 13 = true
  s2 : L 24 = true → L 21 = true ∧ L 13 = true
  e14 : L 14 = true → L 13 = true
  e15 : L 15 = true → L 13 = true
  e16 : L 16 = true → L 13 = true
  e17 : L 17 = true → L 13 = true
theorem WRo.pure {Gd : World → Value → Prop} {W0 : World} {n : Nat} {Z0 Z1 Z2 : Array Value} {V0 V1 V2 : Value → Array Value} {c : (Option Addr × Nat) × Nat × Nat × Nat} {L : Nat → Bool} {W : World} (h : WRo Gd W0 n Z0 Z1 Z2 V0 V1 V2 c L W) (i : Nat) (h13 : i ≠ 13) (h19 : i ≠ 19) (h20 : i ≠ 20) (h21 : i ≠ 21) (h22 : i ≠ 22) (h23 : i ≠ 23) (h24 : i ≠ 24) (h14 : i ≠ 14) (h15 : i ≠ 15) (h16 : i ≠ 16) (h17 : i ≠ 17) : WRo Gd W0 n Z0 Z1 Z2 V0 V1 V2 c (upd L i) W :=
  ⟨h.be, (fun e => h.own (by rw [upd_ne (fun q => h13 q.symm)] at e; exact e)), (fun e => by rw [upd_ne (fun q => h19 q.symm)] at e; rw [upd_ne (fun q => h22 q.symm)]; exact h.b0 e), (fun e => by rw [upd_ne (fun q => h20 q.symm)] at e; rw [upd_ne (fun q => h23 q.symm)]; exact h.b1 e), (fun e => by rw [upd_ne (fun q => h21 q.symm)] at e; rw [upd_ne (fun q => h24 q.symm)]; exact h.b2 e), (fun e1 e2 => by rw [upd_ne (fun q => h19 q.symm)] at e1; rw [upd_ne (fun q => h20 q.symm)] at e2; exact h.n01 e1 e2), (fun e1 e2 => by rw [upd_ne (fun q => h19 q.symm)] at e1; rw [upd_ne (fun q => h21 q.symm)] at e2; exact h.n02 e1 e2), (fun e1 e2 => by rw [upd_ne (fun q => h20 q.symm)] at e1; rw [upd_ne (fun q => h21 q.symm)] at e2; exact h.n12 e1 e2), (fun e => by rw [upd_ne (fun q => h22 q.symm)] at e; exact ⟨upd_of (h.s0 e).1, upd_of (h.s0 e).2⟩), (fun e => by rw [upd_ne (fun q => h23 q.symm)] at e; exact ⟨upd_of (h.s1 e).1, upd_of (h.s1 e).2⟩), (fun e => by rw [upd_ne (fun q => h24 q.symm)] at e; exact ⟨upd_of (h.s2 e).1, upd_of (h.s2 e).2⟩), (fun e => by rw [upd_ne (fun q => h14 q.symm)] at e; exact upd_of (h.e14 e)), (fun e => by rw [upd_ne (fun q => h15 q.symm)] at e; exact upd_of (h.e15 e)), (fun e => by rw [upd_ne (fun q => h16 q.symm)] at e; exact upd_of (h.e16 e)), (fun e => by rw [upd_ne (fun q => h17 q.symm)] at e; exact upd_of (h.e17 e))⟩
theorem WRo.call {Gd : World → Value → Prop} {W0 : World} {n : Nat} {Z0 Z1 Z2 : Array Value} {V0 V1 V2 : Value → Array Value} {c : (Option Addr × Nat) × Nat × Nat × Nat} {L : Nat → Bool} {W : World} {W2 : World} (hG : ∀ W W2 v, Gd W v → Below W.heap.size W W2 → Gd W2 v) (h : WRo Gd W0 n Z0 Z1 Z2 V0 V1 V2 c L W) (hb : Below W.heap.size W W2) : WRo Gd W0 n Z0 Z1 Z2 V0 V1 V2 c L W2 :=
  ⟨h.be.trans (hb.mono h.be.size), (fun e => hG _ _ _ (h.own e) hb), (fun e => ⟨(h.b0 e).1, (hb.block _ (lt_of_row (h.b0 e).2)).trans (h.b0 e).2⟩), (fun e => ⟨(h.b1 e).1, (hb.block _ (lt_of_row (h.b1 e).2)).trans (h.b1 e).2⟩), (fun e => ⟨(h.b2 e).1, (hb.block _ (lt_of_row (h.b2 e).2)).trans (h.b2 e).2⟩), h.n01, h.n02, h.n12, h.s0, h.s1, h.s2, h.e14, h.e15, h.e16, h.e17⟩
theorem WRo.got {Gd : World → Value → Prop} {W0 : World} {n : Nat} {Z0 Z1 Z2 : Array Value} {V0 V1 V2 : Value → Array Value} {c : (Option Addr × Nat) × Nat × Nat × Nat} {L : Nat → Bool} {W : World} {W2 : World} (hG : ∀ W W2 v, Gd W v → Below W.heap.size W W2 → Gd W2 v) (h : WRo Gd W0 n Z0 Z1 Z2 V0 V1 V2 c L W) (hK : L 13 = false) {a : Option Addr} {cap : Nat} (ho : Gd W2 (.slice a n cap)) (hb : Below W.heap.size W W2) : WRo Gd W0 n Z0 Z1 Z2 V0 V1 V2 ((a, cap), c.2) (upd L 13) W2 := by
  have h2 := h.call hG hb
  have f0 : L 22 = false := by cases q : L 22 with | false => rfl | true => rw [(h.s0 q).2] at hK; cases hK
  have f1 : L 23 = false := by cases q : L 23 with | false => rfl | true => rw [(h.s1 q).2] at hK; cases hK
  have f2 : L 24 = false := by cases q : L 24 with | false => rfl | true => rw [(h.s2 q).2] at hK; cases hK
  exact ⟨h2.be, (fun _ => ho), (fun e => by rw [upd_ne (by decide)] at e; have q := h2.b0 e; rw [f0] at q; rw [upd_ne (by decide), f0]; exact q), (fun e => by rw [upd_ne (by decide)] at e; have q := h2.b1 e; rw [f1] at q; rw [upd_ne (by decide), f1]; exact q), (fun e => by rw [upd_ne (by decide)] at e; have q := h2.b2 e; rw [f2] at q; rw [upd_ne (by decide), f2]; exact q), (fun e1 e2 => by rw [upd_ne (by decide)] at e1 e2; exact h2.n01 e1 e2), (fun e1 e2 => by rw [upd_ne (by decide)] at e1 e2; exact h2.n02 e1 e2), (fun e1 e2 => by rw [upd_ne (by decide)] at e1 e2; exact h2.n12 e1 e2), (fun e => by rw [upd_ne (by decide), f0] at e; cases e), (fun e => by rw [upd_ne (by decide), f1] at e; cases e), (fun e => by rw [upd_ne (by decide), f2] at e; cases e), (fun _ => upd_eq), (fun _ => upd_eq), (fun _ => upd_eq), (fun _ => upd_eq)⟩
theorem WRo.dep14 {Gd : World → Value → Prop} {W0 : World} {n : Nat} {Z0 Z1 Z2 : Array Value} {V0 V1 V2 : Value → Array Value} {c : (Option Addr × Nat) × Nat × Nat × Nat} {L : Nat → Bool} {W : World} (h : WRo Gd W0 n Z0 Z1 Z2 V0 V1 V2 c L W) (hK : L 13 = true) : WRo Gd W0 n Z0 Z1 Z2 V0 V1 V2 c (upd L 14) W :=
  ⟨h.be, (fun e => h.own hK), (fun e => by rw [upd_ne (by decide)] at e; rw [upd_ne (by decide)]; exact h.b0 e), (fun e => by rw [upd_ne (by decide)] at e; rw [upd_ne (by decide)]; exact h.b1 e), (fun e => by rw [upd_ne (by decide)] at e; rw [upd_ne (by decide)]; exact h.b2 e), (fun e1 e2 => by rw [upd_ne (by decide)] at e1 e2; exact h.n01 e1 e2), (fun e1 e2 => by rw [upd_ne (by decide)] at e1 e2; exact h.n02 e1 e2), (fun e1 e2 => by rw [upd_ne (by decide)] at e1 e2; exact h.n12 e1 e2), (fun e => by rw [upd_ne (by decide)] at e; exact ⟨upd_of (h.s0 e).1, upd_of (h.s0 e).2⟩), (fun e => by rw [upd_ne (by decide)] at e; exact ⟨upd_of (h.s1 e).1, upd_of (h.s1 e).2⟩), (fun e => by rw [upd_ne (by decide)] at e; exact ⟨upd_of (h.s2 e).1, upd_of (h.s2 e).2⟩), (fun _ => upd_of hK), (fun _ => upd_of hK), (fun _ => upd_of hK), (fun _ => upd_of hK)⟩
theorem WRo.dep15 {Gd : World → Value → Prop} {W0 : World} {n : Nat} {Z0 Z1 Z2 : Array Value} {V0 V1 V2 : Value → Array Value} {c : (Option Addr × Nat) × Nat × Nat × Nat} {L : Nat → Bool} {W : World} (h : WRo Gd W0 n Z0 Z1 Z2 V0 V1 V2 c L W) (hK : L 13 = true) : WRo Gd W0 n Z0 Z1 Z2 V0 V1 V2 c (upd L 15) W :=
  ⟨h.be, (fun e => h.own hK), (fun e => by rw [upd_ne (by decide)] at e; rw [upd_ne (by decide)]; exact h.b0 e), (fun e => by rw [upd_ne (by decide)] at e; rw [upd_ne (by decide)]; exact h.b1 e), (fun e => by rw [upd_ne (by decide)] at e; rw [upd_ne (by decide)]; exact h.b2 e), (fun e1 e2 => by rw [upd_ne (by decide)] at e1 e2; exact h.n01 e1 e2), (fun e1 e2 => by rw [upd_ne (by decide)] at e1 e2; exact h.n02 e1 e2), (fun e1 e2 => by rw [upd_ne (by decide)] at e1 e2; exact h.n12 e1 e2), (fun e => by rw [upd_ne (by decide)] at e; exact ⟨upd_of (h.s0 e).1, upd_of (h.s0 e).2⟩), (fun e => by rw [upd_ne (by decide)] at e; exact ⟨upd_of (h.s1 e).1, upd_of (h.s1 e).2⟩), (fun e => by rw [upd_ne (by decide)] at e; exact ⟨upd_of (h.s2 e).1, upd_of (h.s2 e).2⟩), (fun _ => upd_of hK), (fun _ => upd_of hK), (fun _ => upd_of hK), (fun _ => upd_of hK)⟩
theorem WRo.dep16 {Gd : World → Value → Prop} {W0 : World} {n : Nat} {Z0 Z1 Z2 : Array Value} {V0 V1 V2 : Value → Array Value} {c : (Option Addr × Nat) × Nat × Nat × Nat} {L : Nat → Bool} {W : World} (h : WRo Gd W0 n Z0 Z1 Z2 V0 V1 V2 c L W) (hK : L 13 = true) : WRo Gd W0 n Z0 Z1 Z2 V0 V1 V2 c (upd L 16) W :=
  ⟨h.be, (fun e => h.own hK), (fun e => by rw [upd_ne (by decide)] at e; rw [upd_ne (by decide)]; exact h.b0 e), (fun e => by rw [upd_ne (by decide)] at e; rw [upd_ne (by decide)]; exact h.b1 e), (fun e => by rw [upd_ne (by decide)] at e; rw [upd_ne (by decide)]; exact h.b2 e), (fun e1 e2 => by rw [upd_ne (by decide)] at e1 e2; exact h.n01 e1 e2), (fun e1 e2 => by rw [upd_ne (by decide)] at e1 e2; exact h.n02 e1 e2), (fun e1 e2 => by rw [upd_ne (by decide)] at e1 e2; exact h.n12 e1 e2), (fun e => by rw [upd_ne (by decide)] at e; exact ⟨upd_of (h.s0 e).1, upd_of (h.s0 e).2⟩), (fun e => by rw [upd_ne (by decide)] at e; exact ⟨upd_of (h.s1 e).1, upd_of (h.s1 e).2⟩), (fun e => by rw [upd_ne (by decide)] at e; exact ⟨upd_of (h.s2 e).1, upd_of (h.s2 e).2⟩), (fun _ => upd_of hK), (fun _ => upd_of hK), (fun _ => upd_of hK), (fun _ => upd_of hK)⟩
theorem WRo.dep17 {Gd : World → Value → Prop} {W0 : World} {n : Nat} {Z0 Z1 Z2 : Array Value} {V0 V1 V2 : Value → Array Value} {c : (Option Addr × Nat) × Nat × Nat × Nat} {L : Nat → Bool} {W : World} (h : WRo Gd W0 n Z0 Z1 Z2 V0 V1 V2 c L W) (hK : L 13 = true) : WRo Gd W0 n Z0 Z1 Z2 V0 V1 V2 c (upd L 17) W :=
  ⟨h.be, (fun e => h.own hK), (fun e => by rw [upd_ne (by decide)] at e; rw [upd_ne (by decide)]; exact h.b0 e), (fun e => by rw [upd_ne (by decide)] at e; rw [upd_ne (by decide)]; exact h.b1 e), (fun e => by rw [upd_ne (by decide)] at e; rw [upd_ne (by decide)]; exact h.b2 e), (fun e1 e2 => by rw [upd_ne (by decide)] at e1 e2; exact h.n01 e1 e2), (fun e1 e2 => by rw [upd_ne (by decide)] at e1 e2; exact h.n02 e1 e2), (fun e1 e2 => by rw [upd_ne (by decide)] at e1 e2; exact h.n12 e1 e2), (fun e => by rw [upd_ne (by decide)] at e; exact ⟨upd_of (h.s0 e).1, upd_of (h.s0 e).2⟩), (fun e => by rw [upd_ne (by decide)] at e; exact ⟨upd_of (h.s1 e).1, upd_of (h.s1 e).2⟩), (fun e => by rw [upd_ne (by decide)] at e; exact ⟨upd_of (h.s2 e).1, upd_of (h.s2 e).2⟩), (fun _ => upd_of hK), (fun _ => upd_of hK), (fun _ => upd_of hK), (fun _ => upd_of hK)⟩
theorem WRo.al0 {Gd : World → Value → Prop} {W0 : World} {n : Nat} {Z0 Z1 Z2 : Array Value} {V0 V1 V2 : Value → Array Value} {c : (Option Addr × Nat) × Nat × Nat × Nat} {L : Nat → Bool} {W : World} (hG : ∀ W W2 v, Gd W v → Below W.heap.size W W2 → Gd W2 v) (h : WRo Gd W0 n Z0 Z1 Z2 V0 V1 V2 c L W) (hL : L 19 = false) : WRo Gd W0 n Z0 Z1 Z2 V0 V1 V2 (c.1, W.heap.size, c.2.2.1, c.2.2.2) (upd L 19) (W.alloc (.cells Z0 24)) := by
  have h2 := h.call hG ((Below.refl _ W).alloc (Nat.le_refl _) (.cells Z0 24))
  have f0 : L 22 = false := by cases q : L 22 with | false => rfl | true => rw [(h.s0 q).1] at hL; cases hL
  exact ⟨h2.be, (fun e => h2.own (by rw [upd_ne (by decide)] at e; exact e)), (fun _ => ⟨h.be.size, by rw [upd_ne (by decide), f0]; exact heap_alloc_new _ _⟩), (fun e => by rw [upd_ne (by decide)] at e; rw [upd_ne (by decide)]; exact h2.b1 e), (fun e => by rw [upd_ne (by decide)] at e; rw [upd_ne (by decide)]; exact h2.b2 e), (fun _ e2 => by rw [upd_ne (by decide)] at e2; have q := lt_of_row (h.b1 e2).2; exact Nat.ne_of_gt q), (fun _ e2 => by rw [upd_ne (by decide)] at e2; have q := lt_of_row (h.b2 e2).2; exact Nat.ne_of_gt q), (fun e1 e2 => by rw [upd_ne (by decide)] at e1 e2; exact h.n12 e1 e2), (fun e => by rw [upd_ne (by decide), f0] at e; cases e), (fun e => by rw [upd_ne (by decide)] at e; exact ⟨upd_of (h.s1 e).1, upd_of (h.s1 e).2⟩), (fun e => by rw [upd_ne (by decide)] at e; exact ⟨upd_of (h.s2 e).1, upd_of (h.s2 e).2⟩), (fun e => by rw [upd_ne (by decide)] at e; exact upd_of (h.e14 e)), (fun e => by rw [upd_ne (by decide)] at e; exact upd_of (h.e15 e)), (fun e => by rw [upd_ne (by decide)] at e; exact upd_of (h.e16 e)), (fun e => by rw [upd_ne (by decide)] at e; exact upd_of (h.e17 e))⟩
theorem WRo.al1 {Gd : World → Value → Prop} {W0 : World} {n : Nat} {Z0 Z1 Z2 : Array Value} {V0 V1 V2 : Value → Array Value} {c : (Option Addr × Nat) × Nat × Nat × Nat} {L : Nat → Bool} {W : World} (hG : ∀ W W2 v, Gd W v → Below W.heap.size W W2 → Gd W2 v) (h : WRo Gd W0 n Z0 Z1 Z2 V0 V1 V2 c L W) (hL : L 20 = false) : WRo Gd W0 n Z0 Z1 Z2 V0 V1 V2 (c.1, c.2.1, W.heap.size, c.2.2.2) (upd L 20) (W.alloc (.cells Z1 26)) := by
  have h2 := h.call hG ((Below.refl _ W).alloc (Nat.le_refl _) (.cells Z1 26))
  have f0 : L 23 = false := by cases q : L 23 with | false => rfl | true => rw [(h.s1 q).1] at hL; cases hL
  exact ⟨h2.be, (fun e => h2.own (by rw [upd_ne (by decide)] at e; exact e)), (fun e => by rw [upd_ne (by decide)] at e; rw [upd_ne (by decide)]; exact h2.b0 e), (fun _ => ⟨h.be.size, by rw [upd_ne (by decide), f0]; exact heap_alloc_new _ _⟩), (fun e => by rw [upd_ne (by decide)] at e; rw [upd_ne (by decide)]; exact h2.b2 e), (fun e1 _ => by rw [upd_ne (by decide)] at e1; have q := lt_of_row (h.b0 e1).2; exact Nat.ne_of_lt q), (fun e1 e2 => by rw [upd_ne (by decide)] at e1 e2; exact h.n02 e1 e2), (fun _ e2 => by rw [upd_ne (by decide)] at e2; have q := lt_of_row (h.b2 e2).2; exact Nat.ne_of_gt q), (fun e => by rw [upd_ne (by decide)] at e; exact ⟨upd_of (h.s0 e).1, upd_of (h.s0 e).2⟩), (fun e => by rw [upd_ne (by decide), f0] at e; cases e), (fun e => by rw [upd_ne (by decide)] at e; exact ⟨upd_of (h.s2 e).1, upd_of (h.s2 e).2⟩), (fun e => by rw [upd_ne (by decide)] at e; exact upd_of (h.e14 e)), (fun e => by rw [upd_ne (by decide)] at e; exact upd_of (h.e15 e)), (fun e => by rw [upd_ne (by decide)] at e; exact upd_of (h.e16 e)), (fun e => by rw [upd_ne (by decide)] at e; exact upd_of (h.e17 e))⟩
theorem WRo.al2 {Gd : World → Value → Prop} {W0 : World} {n : Nat} {Z0 Z1 Z2 : Array Value} {V0 V1 V2 : Value → Array Value} {c : (Option Addr × Nat) × Nat × Nat × Nat} {L : Nat → Bool} {W : World} (hG : ∀ W W2 v, Gd W v → Below W.heap.size W W2 → Gd W2 v) (h : WRo Gd W0 n Z0 Z1 Z2 V0 V1 V2 c L W) (hL : L 21 = false) : WRo Gd W0 n Z0 Z1 Z2 V0 V1 V2 (c.1, c.2.1, c.2.2.1, W.heap.size) (upd L 21) (W.alloc (.cells Z2 26)) := by
  have h2 := h.call hG ((Below.refl _ W).alloc (Nat.le_refl _) (.cells Z2 26))
  have f0 : L 24 = false := by cases q : L 24 with | false => rfl | true => rw [(h.s2 q).1] at hL; cases hL
  exact ⟨h2.be, (fun e => h2.own (by rw [upd_ne (by decide)] at e; exact e)), (fun e => by rw [upd_ne (by decide)] at e; rw [upd_ne (by decide)]; exact h2.b0 e), (fun e => by rw [upd_ne (by decide)] at e; rw [upd_ne (by decide)]; exact h2.b1 e), (fun _ => ⟨h.be.size, by rw [upd_ne (by decide), f0]; exact heap_alloc_new _ _⟩), (fun e1 e2 => by rw [upd_ne (by decide)] at e1 e2; exact h.n01 e1 e2), (fun e1 _ => by rw [upd_ne (by decide)] at e1; have q := lt_of_row (h.b0 e1).2; exact Nat.ne_of_lt q), (fun e1 _ => by rw [upd_ne (by decide)] at e1; have q := lt_of_row (h.b1 e1).2; exact Nat.ne_of_lt q), (fun e => by rw [upd_ne (by decide)] at e; exact ⟨upd_of (h.s0 e).1, upd_of (h.s0 e).2⟩), (fun e => by rw [upd_ne (by decide)] at e; exact ⟨upd_of (h.s1 e).1, upd_of (h.s1 e).2⟩), (fun e => by rw [upd_ne (by decide), f0] at e; cases e), (fun e => by rw [upd_ne (by decide)] at e; exact upd_of (h.e14 e)), (fun e => by rw [upd_ne (by decide)] at e; exact upd_of (h.e15 e)), (fun e => by rw [upd_ne (by decide)] at e; exact upd_of (h.e16 e)), (fun e => by rw [upd_ne (by decide)] at e; exact upd_of (h.e17 e))⟩
theorem WRo.st0 {Gd : World → Value → Prop} {W0 : World} {n : Nat} {Z0 Z1 Z2 : Array Value} {V0 V1 V2 : Value → Array Value} {c : (Option Addr × Nat) × Nat × Nat × Nat} {L : Nat → Bool} {W : World} (hG2 : ∀ W v k cs t vs, Gd W v → W.heap[k]? = some (.cells cs t (0, 0)) → t ≠ 9 → Gd (W.setRow k vs) v) (h : WRo Gd W0 n Z0 Z1 Z2 V0 V1 V2 c L W) (hA : L 19 = true) (hK : L 13 = true) : WRo Gd W0 n Z0 Z1 Z2 V0 V1 V2 c (upd L 22) (W.setRow (c.2.1) (V0 (.slice c.1.1 n c.1.2))) := by
  obtain ⟨k1, k2⟩ := h.b0 hA
  exact ⟨bel_set h.be _ _ k1 h.be.size, (fun e => hG2 _ _ _ _ _ _ (h.own (by rw [upd_ne (by decide)] at e; exact e)) k2 (by decide)), (fun _ => ⟨k1, by rw [upd_eq]; exact setRow_row k2⟩), (fun e => ⟨(h.b1 (by rw [upd_ne (by decide)] at e; exact e)).1, by rw [upd_ne (by decide)]; exact row_set (h.b1 (by rw [upd_ne (by decide)] at e; exact e)).2 (fun q => (h.n01 hA (by rw [upd_ne (by decide)] at e; exact e)) q.symm)⟩), (fun e => ⟨(h.b2 (by rw [upd_ne (by decide)] at e; exact e)).1, by rw [upd_ne (by decide)]; exact row_set (h.b2 (by rw [upd_ne (by decide)] at e; exact e)).2 (fun q => (h.n02 hA (by rw [upd_ne (by decide)] at e; exact e)) q.symm)⟩), (fun e1 e2 => by rw [upd_ne (by decide)] at e1 e2; exact h.n01 e1 e2), (fun e1 e2 => by rw [upd_ne (by decide)] at e1 e2; exact h.n02 e1 e2), (fun e1 e2 => by rw [upd_ne (by decide)] at e1 e2; exact h.n12 e1 e2), (fun _ => ⟨upd_of hA, upd_of hK⟩), (fun e => by rw [upd_ne (by decide)] at e; exact ⟨upd_of (h.s1 e).1, upd_of (h.s1 e).2⟩), (fun e => by rw [upd_ne (by decide)] at e; exact ⟨upd_of (h.s2 e).1, upd_of (h.s2 e).2⟩), (fun e => by rw [upd_ne (by decide)] at e; exact upd_of (h.e14 e)), (fun e => by rw [upd_ne (by decide)] at e; exact upd_of (h.e15 e)), (fun e => by rw [upd_ne (by decide)] at e; exact upd_of (h.e16 e)), (fun e => by rw [upd_ne (by decide)] at e; exact upd_of (h.e17 e))⟩
theorem WRo.st1 {Gd : World → Value → Prop} {W0 : World} {n : Nat} {Z0 Z1 Z2 : Array Value} {V0 V1 V2 : Value → Array Value} {c : (Option Addr × Nat) × Nat × Nat × Nat} {L : Nat → Bool} {W : World} (hG2 : ∀ W v k cs t vs, Gd W v → W.heap[k]? = some (.cells cs t (0, 0)) → t ≠ 9 → Gd (W.setRow k vs) v) (h : WRo Gd W0 n Z0 Z1 Z2 V0 V1 V2 c L W) (hA : L 20 = true) (hK : L 13 = true) : WRo Gd W0 n Z0 Z1 Z2 V0 V1 V2 c (upd L 23) (W.setRow (c.2.2.1) (V1 (.slice c.1.1 n c.1.2))) := by
  obtain ⟨k1, k2⟩ := h.b1 hA
  exact ⟨bel_set h.be _ _ k1 h.be.size, (fun e => hG2 _ _ _ _ _ _ (h.own (by rw [upd_ne (by decide)] at e; exact e)) k2 (by decide)), (fun e => ⟨(h.b0 (by rw [upd_ne (by decide)] at e; exact e)).1, by rw [upd_ne (by decide)]; exact row_set (h.b0 (by rw [upd_ne (by decide)] at e; exact e)).2 (h.n01 (by rw [upd_ne (by decide)] at e; exact e) hA)⟩), (fun _ => ⟨k1, by rw [upd_eq]; exact setRow_row k2⟩), (fun e => ⟨(h.b2 (by rw [upd_ne (by decide)] at e; exact e)).1, by rw [upd_ne (by decide)]; exact row_set (h.b2 (by rw [upd_ne (by decide)] at e; exact e)).2 (fun q => (h.n12 hA (by rw [upd_ne (by decide)] at e; exact e)) q.symm)⟩), (fun e1 e2 => by rw [upd_ne (by decide)] at e1 e2; exact h.n01 e1 e2), (fun e1 e2 => by rw [upd_ne (by decide)] at e1 e2; exact h.n02 e1 e2), (fun e1 e2 => by rw [upd_ne (by decide)] at e1 e2; exact h.n12 e1 e2), (fun e => by rw [upd_ne (by decide)] at e; exact ⟨upd_of (h.s0 e).1, upd_of (h.s0 e).2⟩), (fun _ => ⟨upd_of hA, upd_of hK⟩), (fun e => by rw [upd_ne (by decide)] at e; exact ⟨upd_of (h.s2 e).1, upd_of (h.s2 e).2⟩), (fun e => by rw [upd_ne (by decide)] at e; exact upd_of (h.e14 e)), (fun e => by rw [upd_ne (by decide)] at e; exact upd_of (h.e15 e)), (fun e => by rw [upd_ne (by decide)] at e; exact upd_of (h.e16 e)), (fun e => by rw [upd_ne (by decide)] at e; exact upd_of (h.e17 e))⟩
theorem WRo.st2 {Gd : World → Value → Prop} {W0 : World} {n : Nat} {Z0 Z1 Z2 : Array Value} {V0 V1 V2 : Value → Array Value} {c : (Option Addr × Nat) × Nat × Nat × Nat} {L : Nat → Bool} {W : World} (hG2 : ∀ W v k cs t vs, Gd W v → W.heap[k]? = some (.cells cs t (0, 0)) → t ≠ 9 → Gd (W.setRow k vs) v) (h : WRo Gd W0 n Z0 Z1 Z2 V0 V1 V2 c L W) (hA : L 21 = true) (hK : L 13 = true) : WRo Gd W0 n Z0 Z1 Z2 V0 V1 V2 c (upd L 24) (W.setRow (c.2.2.2) (V2 (.slice c.1.1 n c.1.2))) := by
  obtain ⟨k1, k2⟩ := h.b2 hA
  exact ⟨bel_set h.be _ _ k1 h.be.size, (fun e => hG2 _ _ _ _ _ _ (h.own (by rw [upd_ne (by decide)] at e; exact e)) k2 (by decide)), (fun e => ⟨(h.b0 (by rw [upd_ne (by decide)] at e; exact e)).1, by rw [upd_ne (by decide)]; exact row_set (h.b0 (by rw [upd_ne (by decide)] at e; exact e)).2 (h.n02 (by rw [upd_ne (by decide)] at e; exact e) hA)⟩), (fun e => ⟨(h.b1 (by rw [upd_ne (by decide)] at e; exact e)).1, by rw [upd_ne (by decide)]; exact row_set (h.b1 (by rw [upd_ne (by decide)] at e; exact e)).2 (h.n12 (by rw [upd_ne (by decide)] at e; exact e) hA)⟩), (fun _ => ⟨k1, by rw [upd_eq]; exact setRow_row k2⟩), (fun e1 e2 => by rw [upd_ne (by decide)] at e1 e2; exact h.n01 e1 e2), (fun e1 e2 => by rw [upd_ne (by decide)] at e1 e2; exact h.n02 e1 e2), (fun e1 e2 => by rw [upd_ne (by decide)] at e1 e2; exact h.n12 e1 e2), (fun e => by rw [upd_ne (by decide)] at e; exact ⟨upd_of (h.s0 e).1, upd_of (h.s0 e).2⟩), (fun e => by rw [upd_ne (by decide)] at e; exact ⟨upd_of (h.s1 e).1, upd_of (h.s1 e).2⟩), (fun _ => ⟨upd_of hA, upd_of hK⟩), (fun e => by rw [upd_ne (by decide)] at e; exact upd_of (h.e14 e)), (fun e => by rw [upd_ne (by decide)] at e; exact upd_of (h.e15 e)), (fun e => by rw [upd_ne (by decide)] at e; exact upd_of (h.e16 e)), (fun e => by rw [upd_ne (by decide)] at e; exact upd_of (h.e17 e))⟩
def ro6V (b1 b3 : Nat) (n : Nat) (nx : Int) (hh txt : Bs) (_ : Unit) : Nat → Value
  | 0 => .pointer (some ⟨b3, 0, none⟩)
  | 1 => I nx
  | 2 => I nx
  | 3 => .bool false
  | 4 => .bool false
  | 5 => .pointer (some ⟨b3, 5, none⟩)
  | 6 => .bool false
  | 7 => .bool false
  | 8 => .bool false
  | 9 => .pointer (some ⟨b3, 1, none⟩)
  | 10 => I 7
  | 11 => .pointer (some ⟨b1, 0, none⟩)
  | 12 => I 7
  | 13 => .bool false
  | 14 => .bool false
  | 15 => .bool false
  | 16 => .pointer (some ⟨b3, 3, none⟩)
  | 17 => S hh
  | 18 => S txt
  | 19 => S hh
  | 20 => .bool false
  | 21 => .bool false
  | 22 => .bool false
  | 23 => .pointer (some ⟨b3, 2, none⟩)
  | 24 => I ((n : Int) + 1)
  | 25 => .pointer (some ⟨b1, 9, none⟩)
  | 26 => I ((n : Int) + 1)
  | 27 => .bool false
  | 28 => .bool false
  | _ => undef
def ro9V (P gl n cap k : Nat) (T : Array Value) (_ : Unit) : Nat → Value
  | 0 => ptr P
  | 1 => ptr P
  | 2 => .pointer (some ⟨P, 14, none⟩)
  | 3 => .slice (some ⟨gl, 0, none⟩) n cap
  | 4 => I k
  | 5 => .agg T
  | 6 => .pointer (some ⟨gl, k * 9, none⟩)
  | 7 => undef
  | _ => undef
def ro10V (P : Nat) (vl : Value) (U : Array Value) (g : Nat) (v2 : Value) (_ : Unit) : Nat → Value
  | 0 => ptr P
  | 1 => ptr P
  | 2 => ptr P
  | 3 => .pointer (some ⟨P, 14, none⟩)
  | 4 => vl
  | 5 => .agg U
  | 6 => .slice (some ⟨g, 0, none⟩) 1 1
  | 7 => v2
  | 8 => ptr P
  | 9 => .pointer (some ⟨P, 14, none⟩)
  | 10 => undef
  | _ => undef
theorem rotated_any (B P : Nat) (cr us idl ab gr tk st en : Int) (l : List Tk) (sp : List Int) (ed : Bool) (u9 : Int) (v9 vl vs : Value) (k : Nat) (t : Tk) (now : Int) (mtx : Bs) (w : World) (h : BM B w P cr us idl ab gr (l.length : Int) tk st en l sp ed u9 v9 vl vs) (hk : l[k]? = some t) (hl : l.length ≤ 1000) (hsl : sp.length = l.length) (hnb : 0 ≤ now ∧ now ≤ 1099511627776) (hR : rotE (jdg 7 tApp tAnn [tRead] cr us idl ab gr (l.length : Int) tk st en 0 t.ti 7 t.tg t.ha t.mi t.sp t.at9 t.ne t.se now) us t.mi now (l.length : Int) (10 + (l.length : Int)) tSec = 0) (hM : mnt 1 (10 + (l.length : Int)) tSec = (mtx, 0)) (hH : hsh (10 + (l.length : Int)) tSec = Sha.sum mtx) (hmx : mtx.length ≤ 52) : Calls Tryz.prog 30 #[ptr P, I k, I now] w fun e w' => e = .returned (.bool true) ∧ (∃ v' vl' vs', BM B w' P cr now idl ab gr ((l.length : Int) + 1) (10 + (l.length : Int)) st en (l.set k ⟨t.ti, t.tg, t.ha, t.mi, true, now, 10 + (l.length : Int), tSec⟩ ++ [⟨10 + (l.length : Int), (l.length : Int) + 1, Sha.sum mtx, now, false, 0, 0, []⟩]) (sp.set k now ++ [0]) ed now v' vl' vs') ∧ (∀ w0, Below B w0 w → Below B w0 w') := by
  have hkl := (List.getElem?_eq_some_iff.1 hk).1
  obtain ⟨gl, cl, cur, rfl, hgB, hgl, hcs, hcur⟩ := row_form h.tok (by omega)
  obtain ⟨gs, csz, curs, rfl, hsB, hgs, hss, hcurs⟩ := row_form h.spr (by omega)
  obtain ⟨b9, q9, e9⟩ : ∃ a9 q9, v9 = .slice a9 1 q9 := by
    obtain ⟨a, c, e⟩ := h.own.form
    exact ⟨a, c, e⟩
  have hpart := tok_part hcur hk
  have hnr : nr now = now := nr_id hnb
  have XR : Hid (∀ W, Below w.heap.size w W → Calls Tryz.prog 14 #[.agg #[I 7, S tApp, S tAnn, v9, I cr, I us, I idl, I ab, I gr, I (l.length : Int), I tk, I st, I en, I 0], .agg #[I t.ti, I 7, I t.tg, S t.ha, I t.mi, .bool t.sp, I t.at9, I t.ne, S t.se], I (10 + (l.length : Int)), S tSec, I now] W (OutR W 0 [tRead] (fun v => #[I 7, S tApp, S tAnn, v, I cr, I now, I idl, I ab, I gr, I ((l.length : Int) + 1), I (10 + (l.length : Int)), I st, I en, I 0]) #[I t.ti, I 7, I t.tg, S t.ha, I t.mi, .bool true, I now, I (10 + (l.length : Int)), S tSec] #[I (10 + (l.length : Int)), I 7, I ((l.length : Int) + 1), S (Sha.sum mtx), I now, .bool false, I 0, I 0, S []])) := hide (fun W hb => by
    have hs : OwnS B W v9 [tRead] := h.own.below hb (Nat.le_refl _)
    subst e9
    have q := rotate_any 7 tApp tAnn b9 q9 [tRead] cr us idl ab gr (l.length : Int) tk st en 0 t.ti 7 t.tg t.ha t.mi t.sp t.at9 t.ne t.se (10 + (l.length : Int)) tSec now W (by decide) (by decide) hs.sts (by decide) lns_read
    rw [hnr, hR, hH] at q
    exact q)
  have XM : Hid (∀ W, Calls Tryz.prog 56 #[I 1, I (10 + (l.length : Int)), S tSec] W fun e w' => e = .returned (.tuple #[S mtx, I 0]) ∧ Below W.heap.size W w') := hide (fun W => by
    have q := mint_any 1 (10 + (l.length : Int)) tSec W
    rw [hM] at q
    exact q)
  have XH := hide (fun W => hash_any mtx W (by omega))
  have HBM := hide h
  have hrow := h.row
  clear hR hM hH h hmx hnr e9 hk
  obtain ⟨ti, tg, ha, mi, sp9, at9, ne, se⟩ := t
  simp only at hpart XR
  have HSL := hide hsl
  obtain ⟨n, hn⟩ : ∃ n, n = l.length := ⟨_, rfl⟩
  obtain ⟨nx, hnx⟩ : ∃ nx : Int, nx = 10 + (l.length : Int) := ⟨_, rfl⟩
  rw [← hnx] at XR XM
  rw [← hnx]
  generalize Sha.sum mtx = hh at *
  have HP9 := hide hpart
  have HG := hide hgl
  have HRow := hide hrow
  have HN := hide hn
  have hN2 : Hid (nx = 10 + (n : Int)) := hide (by rw [hnx, hn])
  rw [← hn] at XR hl hkl
  have HRow : Hid (w.heap[P]? = some (.cells (bkc cr us idl ab gr (n : Int) tk st en v9 (.slice (some ⟨gl, 0, none⟩) n cl) (.slice (some ⟨gs, 0, none⟩) sp.length csz) ed u9) 64 (0, 0))) := hide (by rw [hn]; exact unhide HRow)
  have c14 : w.cell? ⟨P, 14, none⟩ = some (.slice (some ⟨gl, 0, none⟩) n cl) := cellr (unhide HRow) rfl
  have HGS := hide hgs
  have HCUR := hide hcur
  clear hpart hgl hrow hn hnx hgs hcur hcurs hss hcs hgB hsB hsl
  have hkn' : (k : Int) < (n : Int) := by omega
  go_enter Tryz.func30, Tryz.ntmps30
  go_upto_region 2 with fail
  rw [← unhide hN2]
  refine region_tabG ro2T [(0, ptr P), (1, I (k : Int)), (2, I now), (7, I nx)] 176 [0, 1, 2, 4, 5, 6, 8, 11, 12, 18, 25] [] (ro2V P gl n cl k #[I 7, S tApp, S tAnn, v9, I cr, I us, I idl, I ab, I gr, I (n : Int), I tk, I st, I en, I 0] #[I ti, I 7, I tg, S ha, I mi, .bool sp9, I at9, I ne, S se] now nx (fun v => #[I 7, S tApp, S tAnn, v, I cr, I now, I idl, I ab, I gr, I ((n : Int) + 1), I nx, I st, I en, I 0]) #[I ti, I 7, I tg, S ha, I mi, .bool true, I now, I nx, S tSec] #[I nx, I 7, I ((n : Int) + 1), S hh, I now, .bool false, I 0, I 0, S []]) rfl (by rfl) (by rfl) rfl (fun c => by kernel_rfl) (fun c => by kernel_rfl) (fun c w => by kernel_rfl) _ w (Nat.le_of_ble_eq_true rfl) rfl (WRo (fun W v => OwnS w.heap.size W v [tRead]) w 1 #[I 0, S [], S [], .slice none 0 0, I 0, I 0, I 0, I 0, I 0, I 0, I 0, I 0, I 0, I 0] #[I 0, I 0, I 0, S [], I 0, .bool false, I 0, I 0, S []] #[I 0, I 0, I 0, S [], I 0, .bool false, I 0, I 0, S []] (fun v => #[I 7, S tApp, S tAnn, v, I cr, I now, I idl, I ab, I gr, I ((n : Int) + 1), I nx, I st, I en, I 0]) (fun _ => #[I ti, I 7, I tg, S ha, I mi, .bool true, I now, I nx, S tSec]) (fun _ => #[I nx, I 7, I ((n : Int) + 1), S hh, I now, .bool false, I 0, I 0, S []])) ⟨((none, 0), 0, 0, 0), ⟨(Below.refl _ _).drew, (fun e => by cases e), (fun e => by cases e), (fun e => by cases e), (fun e => by cases e), (fun e => by cases e), (fun e => by cases e), (fun e => by cases e), (fun e => by cases e), (fun e => by cases e), (fun e => by cases e), (fun e => by cases e), (fun e => by cases e), (fun e => by cases e), (fun e => by cases e)⟩⟩ (fun i hi c L W hW => hW.pure i (by intro e; subst e; simp at hi) (by intro e; subst e; simp at hi) (by intro e; subst e; simp at hi) (by intro e; subst e; simp at hi) (by intro e; subst e; simp at hi) (by intro e; subst e; simp at hi) (by intro e; subst e; simp at hi) (by intro e; subst e; simp at hi) (by intro e; subst e; simp at hi) (by intro e; subst e; simp at hi) (by intro e; subst e; simp at hi)) ?spc ?_
  case spc =>
    intro i hi hp hs c L W hW hL hd
    rcases (by simp [ro2T] at hi hp hs; omega : i = 3 ∨ i = 7 ∨ i = 9 ∨ i = 10 ∨ i = 13 ∨ i = 14 ∨ i = 15 ∨ i = 16 ∨ i = 17 ∨ i = 19 ∨ i = 20 ∨ i = 21 ∨ i = 22 ∨ i = 23 ∨ i = 24) with rfl | rfl | rfl | rfl | rfl | rfl | rfl | rfl | rfl | rfl | rfl | rfl | rfl | rfl | rfl
    · skip
      have f1 : (Instr.loadAt 24 (ptr P)).run Tryz.prog W = .ok (.agg #[I 7, S tApp, S tAnn, v9, I cr, I us, I idl, I ab, I gr, I (n : Int), I tk, I st, I en, I 0]) W := s_ldr (T := 24) (n := 14) (o := 0) (fun _ => by kernel_rfl) (fun _ => by kernel_rfl) ((hW.be.block _ (lt_of_row (unhide HRow))).trans (unhide HRow)) (#[I 7, S tApp, S tAnn, v9, I cr, I us, I idl, I ab, I gr, I (n : Int), I tk, I st, I en, I 0]).toList rfl rfl
      exact ⟨f1, hW.pure 3 (by decide) (by decide) (by decide) (by decide) (by decide) (by decide) (by decide) (by decide) (by decide) (by decide) (by decide)⟩
    · skip
      have f1 : (Instr.loadAt 61 (.pointer (some ⟨P, 14, none⟩))).run Tryz.prog W = .ok (.slice (some ⟨gl, 0, none⟩) n cl) W := s_ld (T := 61) (fun _ => by kernel_rfl) (cellr ((hW.be.block _ (lt_of_row (unhide HRow))).trans (unhide HRow)) rfl)
      exact ⟨f1, hW.pure 7 (by decide) (by decide) (by decide) (by decide) (by decide) (by decide) (by decide) (by decide) (by decide) (by decide) (by decide)⟩
    · skip
      exact ⟨⟨_, rfl, s_ix61 gl n cl k hkl⟩, hW.pure 9 (by decide) (by decide) (by decide) (by decide) (by decide) (by decide) (by decide) (by decide) (by decide) (by decide) (by decide)⟩
    · skip
      have f1 : (Instr.loadAt 26 (.pointer (some ⟨gl, k * 9, none⟩))).run Tryz.prog W = .ok (.agg #[I ti, I 7, I tg, S ha, I mi, .bool sp9, I at9, I ne, S se]) W := s_ldr (T := 26) (n := 9) (o := k * 9) (fun _ => by kernel_rfl) (fun _ => by kernel_rfl) ((hW.be.block _ (lt_of_row (unhide HG))).trans (unhide HG)) (#[I ti, I 7, I tg, S ha, I mi, .bool sp9, I at9, I ne, S se]).toList rfl (unhide HP9)
      exact ⟨f1, hW.pure 10 (by decide) (by decide) (by decide) (by decide) (by decide) (by decide) (by decide) (by decide) (by decide) (by decide) (by decide)⟩
    · skip
      refine ⟨⟨_, _, Tryz.func14, by kernel_rfl, rfl⟩, (unhide XR W hW.be).mono fun e w' q => ?_⟩
      rw [OutR, if_pos rfl] at q
      obtain ⟨a, cap, e1, e2, e3⟩ := q
      have x1 : L 14 = false := by cases q : L 14 with | false => rfl | true => rw [hW.e14 q] at hL; cases hL
      have x2 : L 15 = false := by cases q : L 15 with | false => rfl | true => rw [hW.e15 q] at hL; cases hL
      exact ⟨((a, cap), c.2), fun j hj => ro2V_ne (by intro e; subst e; rw [hL] at hj; cases hj) (by intro e; subst e; rw [x1] at hj; cases hj) (by intro e; subst e; rw [x2] at hj; cases hj), e1, hW.got (fun _ _ _ h hb => h.below hb (Nat.le_refl _)) hL (e2.below (Below.refl _ _) hW.be.size) e3⟩
    · skip
      exact ⟨⟨_, rfl, by kernel_rfl⟩, hW.dep14 (hd 13 (by rfl))⟩
    · skip
      exact ⟨⟨_, rfl, by kernel_rfl⟩, hW.dep15 (hW.e14 (hd 14 (by rfl)))⟩
    · skip
      exact ⟨⟨_, rfl, by kernel_rfl⟩, hW.dep16 (hW.e14 (hd 14 (by rfl)))⟩
    · skip
      exact ⟨⟨_, rfl, by kernel_rfl⟩, hW.dep17 (hW.e14 (hd 14 (by rfl)))⟩
    · skip
      exact ⟨(c.1, W.heap.size, c.2.2.1, c.2.2.2), _, fun j hj => ro2V_n0 (by intro e; subst e; rw [hL] at hj; cases hj), (show (Instr.alloc 24 true (.tuple #[])).run Tryz.prog W = .ok (ptr W.heap.size) (W.alloc (.cells #[I 0, S [], S [], .slice none 0 0, I 0, I 0, I 0, I 0, I 0, I 0, I 0, I 0, I 0, I 0] 24)) by kernel_rfl), hW.al0 (fun _ _ _ h hb => h.below hb (Nat.le_refl _)) hL⟩
    · skip
      exact ⟨(c.1, c.2.1, W.heap.size, c.2.2.2), _, fun j hj => ro2V_n1 (by intro e; subst e; rw [hL] at hj; cases hj), (show (Instr.alloc 26 true (.tuple #[])).run Tryz.prog W = .ok (ptr W.heap.size) (W.alloc (.cells #[I 0, I 0, I 0, S [], I 0, .bool false, I 0, I 0, S []] 26)) by kernel_rfl), hW.al1 (fun _ _ _ h hb => h.below hb (Nat.le_refl _)) hL⟩
    · skip
      exact ⟨(c.1, c.2.1, c.2.2.1, W.heap.size), _, fun j hj => ro2V_n2 (by intro e; subst e; rw [hL] at hj; cases hj), (show (Instr.alloc 26 true (.tuple #[])).run Tryz.prog W = .ok (ptr W.heap.size) (W.alloc (.cells #[I 0, I 0, I 0, S [], I 0, .bool false, I 0, I 0, S []] 26)) by kernel_rfl), hW.al2 (fun _ _ _ h hb => h.below hb (Nat.le_refl _)) hL⟩
    · skip
      have hA5 : L 19 = true := hd 19 (by rfl)
      have hK5 : L 13 = true := hW.e15 (hd 15 (by rfl))
      have hr := (hW.b0 hA5).2
      rw [hL] at hr
      have f1 : (Instr.storeAt 24 (ptr c.2.1) (.agg ((fun v => #[I 7, S tApp, S tAnn, v, I cr, I now, I idl, I ab, I gr, I ((n : Int) + 1), I nx, I st, I en, I 0]) (Value.slice c.1.1 1 c.1.2)))).run Tryz.prog W = .ok () (W.setRow (c.2.1) ((fun v => #[I 7, S tApp, S tAnn, v, I cr, I now, I idl, I ab, I gr, I ((n : Int) + 1), I nx, I st, I en, I 0]) (Value.slice c.1.1 1 c.1.2))) := st_all (T := 24) (n := 14) (fun _ => by kernel_rfl) (cs := #[I 0, S [], S [], .slice none 0 0, I 0, I 0, I 0, I 0, I 0, I 0, I 0, I 0, I 0, I 0]) hr rfl ((fun v => #[I 7, S tApp, S tAnn, v, I cr, I now, I idl, I ab, I gr, I ((n : Int) + 1), I nx, I st, I en, I 0]) (Value.slice c.1.1 1 c.1.2)) rfl (by simp [Value.oneCell'])
      exact ⟨rfl, _, f1, hW.st0 (fun _ _ _ _ _ _ h hk ht => own_set2 h hk ht _) hA5 hK5⟩
    · skip
      have hA5 : L 20 = true := hd 20 (by rfl)
      have hK5 : L 13 = true := hW.e16 (hd 16 (by rfl))
      have hr := (hW.b1 hA5).2
      rw [hL] at hr
      have f1 : (Instr.storeAt 26 (ptr c.2.2.1) (.agg #[I ti, I 7, I tg, S ha, I mi, .bool true, I now, I nx, S tSec])).run Tryz.prog W = .ok () (W.setRow (c.2.2.1) #[I ti, I 7, I tg, S ha, I mi, .bool true, I now, I nx, S tSec]) := st_all (T := 26) (n := 9) (fun _ => by kernel_rfl) (cs := #[I 0, I 0, I 0, S [], I 0, .bool false, I 0, I 0, S []]) hr rfl #[I ti, I 7, I tg, S ha, I mi, .bool true, I now, I nx, S tSec] rfl (by simp [Value.oneCell'])
      exact ⟨rfl, _, f1, hW.st1 (fun _ _ _ _ _ _ h hk ht => own_set2 h hk ht _) hA5 hK5⟩
    · skip
      have hA5 : L 21 = true := hd 21 (by rfl)
      have hK5 : L 13 = true := hW.e17 (hd 17 (by rfl))
      have hr := (hW.b2 hA5).2
      rw [hL] at hr
      have f1 : (Instr.storeAt 26 (ptr c.2.2.2) (.agg #[I nx, I 7, I ((n : Int) + 1), S hh, I now, .bool false, I 0, I 0, S []])).run Tryz.prog W = .ok () (W.setRow (c.2.2.2) #[I nx, I 7, I ((n : Int) + 1), S hh, I now, .bool false, I 0, I 0, S []]) := st_all (T := 26) (n := 9) (fun _ => by kernel_rfl) (cs := #[I 0, I 0, I 0, S [], I 0, .bool false, I 0, I 0, S []]) hr rfl #[I nx, I 7, I ((n : Int) + 1), S hh, I now, .bool false, I 0, I 0, S []] rfl (by simp [Value.oneCell'])
      exact ⟨rfl, _, f1, hW.st2 (fun _ _ _ _ _ _ h hk ht => own_set2 h hk ht _) hA5 hK5⟩
  intro c L W5 hall hW
  simp only [frmL, ro2T, ro2V, Act.put, List.setIfInBounds_toArray, List.set_cons_succ, List.set_cons_zero]
  obtain ⟨⟨a, cap⟩, b1, b2, b3⟩ := c
  obtain ⟨lb1, rb1⟩ := hW.b0 (hall 19 (by decide))
  rw [hall 22 (by decide)] at rb1
  obtain ⟨lb2, rb2⟩ := hW.b1 (hall 20 (by decide))
  rw [hall 23 (by decide)] at rb2
  obtain ⟨lb3, rb3⟩ := hW.b2 (hall 21 (by decide))
  rw [hall 24 (by decide)] at rb3
  have own5 := hW.own (hall 13 (by decide))
  have be5 := hW.be
  have rb1 : W5.heap[b1]? = some (.cells #[I 7, S tApp, S tAnn, .slice a 1 cap, I cr, I now, I idl, I ab, I gr, I ((n : Int) + 1), I nx, I st, I en, I 0] 24 (0, 0)) := rb1
  have rb2 : W5.heap[b2]? = some (.cells #[I ti, I 7, I tg, S ha, I mi, .bool true, I now, I nx, S tSec] 26 (0, 0)) := rb2
  have rb3 : W5.heap[b3]? = some (.cells #[I nx, I 7, I ((n : Int) + 1), S hh, I now, .bool false, I 0, I 0, S []] 26 (0, 0)) := rb3
  have hbm5 := (unhide HBM).keep be5
  have own5 : OwnS B W5 (.slice a 1 cap) [tRead] := own5.below (Below.refl _ _) (unhide HBM).size
  have hB5 : ∀ w0, Below B w0 w → Below B w0 W5 := fun w0 h0 => h0.trans (be5.mono (unhide HBM).size)
  have row5 := (be5.block _ (lt_of_row (unhide HRow))).trans (unhide HRow)
  have rg5 := (be5.block _ (lt_of_row (unhide HG))).trans (unhide HG)
  have nb3 : b3 ≠ gl := by have q1 := lt_of_row (unhide HG); have q2 : w.heap.size ≤ b3 := lb3; omega
  have H_nb3 := hide nb3
  clear nb3
  clear hall hW XR c14 be5 lb1 lb2 lb3 HRow HG HBM
  have H_rb1 := hide rb1
  have H_rb2 := hide rb2
  have H_rb3 := hide rb3
  have H_hbm5 := hide hbm5
  have H_own5 := hide own5
  have H_hB5 := hide hB5
  have H_row5 := hide row5
  have H_rg5 := hide rg5
  clear rb1 rb2 rb3 hbm5 own5 hB5 row5 rg5
  go_wp2_with fail
  refine (unhide XM W5).mono ?_
  rintro e W6 ⟨rfl, h6⟩
  clear XM
  have rb1 := unhide H_rb1
  have rb2 := unhide H_rb2
  have rb3 := unhide H_rb3
  have hbm5 := unhide H_hbm5
  have own5 := unhide H_own5
  have hB5 := unhide H_hB5
  have row5 := unhide H_row5
  have rg5 := unhide H_rg5
  clear H_rb1 H_rb2 H_rb3 H_hbm5 H_own5 H_hB5 H_row5 H_rg5
  have own5 : OwnS B W5 (.slice a 1 cap) [tRead] := own5
  have rb1 := (h6.block _ (lt_of_row rb1)).trans rb1
  have rb2 := (h6.block _ (lt_of_row rb2)).trans rb2
  have rb3 := (h6.block _ (lt_of_row rb3)).trans rb3
  have row5 := (h6.block _ (lt_of_row row5)).trans row5
  have rg5 := (h6.block _ (lt_of_row rg5)).trans rg5
  have own5 := own5.below h6 (Nat.le_refl _)
  have hB5 : ∀ w0, Below B w0 w → Below B w0 W6 := fun w0 h0 => (hB5 w0 h0).trans (h6.mono hbm5.size)
  have hbm5 := hbm5.keep h6
  clear h6
  have d1_4 : W6.cell? ⟨b1, 4, none⟩ = some (I cr) := cellr rb1 rfl
  have d1_9 : W6.cell? ⟨b1, 9, none⟩ = some (I ((n : Int) + 1)) := cellr rb1 rfl
  have d1_10 : W6.cell? ⟨b1, 10, none⟩ = some (I nx) := cellr rb1 rfl
  have d2_5 : W6.cell? ⟨b2, 5, none⟩ = some (.bool true) := cellr rb2 rfl
  have d2_0 : W6.cell? ⟨b2, 0, none⟩ = some (I ti) := cellr rb2 rfl
  have d2_7 : W6.cell? ⟨b2, 7, none⟩ = some (I nx) := cellr rb2 rfl
  have d2_8 : W6.cell? ⟨b2, 8, none⟩ = some (S tSec) := cellr rb2 rfl
  have dp4 : W6.cell? ⟨P, 4, none⟩ = some (I cr) := cellr row5 rfl
  have dp14 : W6.cell? ⟨P, 14, none⟩ = some (.slice (some ⟨gl, 0, none⟩) n cl) := cellr row5 rfl
  have dt0 : W6.cell? ⟨gl, k * 9, none⟩ = some (I ti) := part17 rg5 (unhide HP9) rfl (j := 0) rfl
  have z0 : (cr != cr) = false := by simp
  have z1 : (((n : Int) + 1) != ((n : Int) + 1)) = false := by simp
  have z2 : (nx != nx) = false := by simp
  have z3 : (ti != ti) = false := by simp
  have H_rb1 := hide rb1
  have H_rb2 := hide rb2
  have H_rb3 := hide rb3
  have H_hbm5 := hide hbm5
  have H_own5 := hide own5
  have H_hB5 := hide hB5
  have H_row5 := hide row5
  have H_rg5 := hide rg5
  clear rb1 rb2 rb3 hbm5 own5 hB5 row5 rg5
  go_upto_region 4 with fail
  go_quiet (fail)
  clear dp4 dp14 dt0 d1_4 d1_9 d1_10 d2_5 d2_0 d2_7 d2_8
  go_upto_region 6 with fail
  have hq6 : Below W6.heap.size W6 (W6.drewN nq) := Only.to_below (Only.drewN _ _ _)
  generalize W6.drewN nq = W7 at *
  have rb1 := unhide H_rb1
  have rb2 := unhide H_rb2
  have rb3 := unhide H_rb3
  have hbm5 := unhide H_hbm5
  have own5 := unhide H_own5
  have hB5 := unhide H_hB5
  have row5 := unhide H_row5
  have rg5 := unhide H_rg5
  clear H_rb1 H_rb2 H_rb3 H_hbm5 H_own5 H_hB5 H_row5 H_rg5
  have rb1 := (hq6.block _ (lt_of_row rb1)).trans rb1
  have rb2 := (hq6.block _ (lt_of_row rb2)).trans rb2
  have rb3 := (hq6.block _ (lt_of_row rb3)).trans rb3
  have row5 := (hq6.block _ (lt_of_row row5)).trans row5
  have rg5 := (hq6.block _ (lt_of_row rg5)).trans rg5
  have own5 := own5.below hq6 (Nat.le_refl _)
  have hB5 : ∀ w0, Below B w0 w → Below B w0 W7 := fun w0 h0 => (hB5 w0 h0).trans (hq6.mono hbm5.size)
  have hbm5 := hbm5.keep hq6
  clear hq6
  have H_rb1 := hide rb1
  have H_rb2 := hide rb2
  have H_rb3 := hide rb3
  have H_hbm5 := hide hbm5
  have H_own5 := hide own5
  have H_hB5 := hide hB5
  have H_row5 := hide row5
  have H_rg5 := hide rg5
  clear rb1 rb2 rb3 hbm5 own5 hB5 row5 rg5
  refine region_tabG ro6T [(10, ptr b3), (8, ptr b1), (7, I nx), (12, S mtx)] 176 [0, 2, 4, 5, 7, 8, 9, 11, 13, 14, 15, 16, 18, 21, 22, 23, 25, 28] [] (ro6V b1 b3 n nx hh mtx) rfl (by rfl) (by rfl) rfl (fun c => by kernel_rfl) (fun c => by kernel_rfl) (fun c w => by kernel_rfl) _ W7 (Nat.le_of_ble_eq_true rfl) rfl (fun _ _ W => Below W7.heap.size W7 W) ⟨(), (Below.refl _ _).drew⟩ (fun i hi c L W hW => hW) ?spc ?_
  case spc =>
    intro i hi hp hs c L W hW hL hd
    rcases (by simp [ro6T] at hi hp hs; omega : i = 1 ∨ i = 3 ∨ i = 6 ∨ i = 10 ∨ i = 12 ∨ i = 17 ∨ i = 19 ∨ i = 20 ∨ i = 24 ∨ i = 26 ∨ i = 27) with rfl | rfl | rfl | rfl | rfl | rfl | rfl | rfl | rfl | rfl | rfl
    · skip
      have f1 : (Instr.loadAt 3 (.pointer (some ⟨b3, 0, none⟩))).run Tryz.prog W = .ok (I nx) W := s_ld (T := 3) (fun _ => by kernel_rfl) (cellr ((hW.block _ (lt_of_row (unhide H_rb3))).trans (unhide H_rb3)) rfl)
      exact ⟨f1, hW⟩
    · skip
      have f0 : (do eqGuard .neq 3 (.tmp 107) (.tmp 108) (I nx) (I nx); binOp .neq 3 (I nx) (I nx) : Sem Value).run Tryz.prog W = .ok (.bool (nx != nx)) W := by kernel_rfl
      rw [bne_self_eq_false] at f0
      exact ⟨⟨_, rfl, f0⟩, hW⟩
    · skip
      have f1 : (Instr.loadAt 4 (.pointer (some ⟨b3, 5, none⟩))).run Tryz.prog W = .ok (.bool false) W := s_ld (T := 4) (fun _ => by kernel_rfl) (cellr ((hW.block _ (lt_of_row (unhide H_rb3))).trans (unhide H_rb3)) rfl)
      exact ⟨f1, hW⟩
    · skip
      have f1 : (Instr.loadAt 3 (.pointer (some ⟨b3, 1, none⟩))).run Tryz.prog W = .ok (I 7) W := s_ld (T := 3) (fun _ => by kernel_rfl) (cellr ((hW.block _ (lt_of_row (unhide H_rb3))).trans (unhide H_rb3)) rfl)
      exact ⟨f1, hW⟩
    · skip
      have f1 : (Instr.loadAt 3 (.pointer (some ⟨b1, 0, none⟩))).run Tryz.prog W = .ok (I 7) W := s_ld (T := 3) (fun _ => by kernel_rfl) (cellr ((hW.block _ (lt_of_row (unhide H_rb1))).trans (unhide H_rb1)) rfl)
      exact ⟨f1, hW⟩
    · skip
      have f1 : (Instr.loadAt 9 (.pointer (some ⟨b3, 3, none⟩))).run Tryz.prog W = .ok (S hh) W := s_ld (T := 9) (fun _ => by kernel_rfl) (cellr ((hW.block _ (lt_of_row (unhide H_rb3))).trans (unhide H_rb3)) rfl)
      exact ⟨f1, hW⟩
    · skip
      exact ⟨⟨_, _, Tryz.func57, by kernel_rfl, rfl⟩, (unhide XH W).mono fun e w' q => ⟨c, fun _ _ => rfl, q.1, hW.trans (q.2.mono hW.size)⟩⟩
    · skip
      have f0 : (do eqGuard .neq 9 (.tmp 123) (.tmp 125) (S hh) (S hh); binOp .neq 9 (S hh) (S hh) : Sem Value).run Tryz.prog W = .ok (.bool false) W := by simp [go_sem, eqGuard]
      exact ⟨⟨_, rfl, f0⟩, hW⟩
    · skip
      have f1 : (Instr.loadAt 3 (.pointer (some ⟨b3, 2, none⟩))).run Tryz.prog W = .ok (I ((n : Int) + 1)) W := s_ld (T := 3) (fun _ => by kernel_rfl) (cellr ((hW.block _ (lt_of_row (unhide H_rb3))).trans (unhide H_rb3)) rfl)
      exact ⟨f1, hW⟩
    · skip
      have f1 : (Instr.loadAt 3 (.pointer (some ⟨b1, 9, none⟩))).run Tryz.prog W = .ok (I ((n : Int) + 1)) W := s_ld (T := 3) (fun _ => by kernel_rfl) (cellr ((hW.block _ (lt_of_row (unhide H_rb1))).trans (unhide H_rb1)) rfl)
      exact ⟨f1, hW⟩
    · skip
      have f0 : (do eqGuard .neq 3 (.tmp 130) (.tmp 132) (I ((n : Int) + 1)) (I ((n : Int) + 1)); binOp .neq 3 (I ((n : Int) + 1)) (I ((n : Int) + 1)) : Sem Value).run Tryz.prog W = .ok (.bool (((n : Int) + 1) != ((n : Int) + 1))) W := by kernel_rfl
      rw [bne_self_eq_false] at f0
      exact ⟨⟨_, rfl, f0⟩, hW⟩
  intro c L W8 hall hW
  simp only [frmL, ro6T, ro6V, Act.put, List.setIfInBounds_toArray, List.set_cons_succ, List.set_cons_zero]
  have h8 := hW
  clear hall hW XH
  have rb1 := unhide H_rb1
  have rb2 := unhide H_rb2
  have rb3 := unhide H_rb3
  have hbm5 := unhide H_hbm5
  have own5 := unhide H_own5
  have hB5 := unhide H_hB5
  have row5 := unhide H_row5
  have rg5 := unhide H_rg5
  clear H_rb1 H_rb2 H_rb3 H_hbm5 H_own5 H_hB5 H_row5 H_rg5
  have rb1 := (h8.block _ (lt_of_row rb1)).trans rb1
  have rb2 := (h8.block _ (lt_of_row rb2)).trans rb2
  have rb3 := (h8.block _ (lt_of_row rb3)).trans rb3
  have row5 := (h8.block _ (lt_of_row row5)).trans row5
  have rg5 := (h8.block _ (lt_of_row rg5)).trans rg5
  have own5 := own5.below h8 (Nat.le_refl _)
  have hB5 : ∀ w0, Below B w0 w → Below B w0 W8 := fun w0 h0 => (hB5 w0 h0).trans (h8.mono hbm5.size)
  have hbm5 := hbm5.keep h8
  clear h8
  have ne1 : b1 ≠ P := ne_ty rb1 row5 (by decide)
  have ne2 : b2 ≠ P := ne_ty rb2 row5 (by decide)
  have ne3 : b3 ≠ P := ne_ty rb3 row5 (by decide)
  have neg : gl ≠ P := ne_ty rg5 row5 (by decide)
  have H_rb1 := hide rb1
  have H_rb2 := hide rb2
  have H_rb3 := hide rb3
  have H_hbm5 := hide hbm5
  have H_own5 := hide own5
  have H_hB5 := hide hB5
  have H_row5 := hide row5
  have H_rg5 := hide rg5
  clear rb1 rb2 rb3 hbm5 own5 hB5 row5 rg5
  go_upto_region 9 with (first | (refine wp_run rfl (g_load (t := 24) (a := .tmp 8) rfl (by rfl) (s_ldr (T := 24) (n := 14) (o := 0) (fun _ => by kernel_rfl) (fun _ => by kernel_rfl) (unhide H_rb1) (#[I 7, S tApp, S tAnn, .slice a 1 cap, I cr, I now, I idl, I ab, I gr, I ((n : Int) + 1), I nx, I st, I en, I 0]).toList rfl rfl)) ?_) | (refine wp_stP (T := 24) (n := 14) (fun _ => by kernel_rfl) rfl (.tmp 138) (.tmp 136) rfl P 0 (by rfl) (.agg #[I 7, S tApp, S tAnn, .slice a 1 cap, I cr, I now, I idl, I ab, I gr, I ((n : Int) + 1), I nx, I st, I en, I 0]) (by rfl) (by rfl) (by simp [Value.cells, Value.oneCell']) (bkc cr us idl ab gr (n : Int) tk st en v9 (.slice (some ⟨gl, 0, none⟩) n cl) (.slice (some ⟨gs, 0, none⟩) sp.length csz) ed u9) 64 (unhide H_row5) (by simp [bkc]) (bkc cr now idl ab gr ((n : Int) + 1) nx st en (.slice a 1 cap) (.slice (some ⟨gl, 0, none⟩) n cl) (.slice (some ⟨gs, 0, none⟩) sp.length csz) ed u9) (by rfl) ?_; generalize hW9 : W8.setRow P (bkc cr now idl ab gr ((n : Int) + 1) nx st en (.slice a 1 cap) (.slice (some ⟨gl, 0, none⟩) n cl) (.slice (some ⟨gs, 0, none⟩) sp.length csz) ed u9) = W9))
  have rb1 := unhide H_rb1
  have rb2 := unhide H_rb2
  have rb3 := unhide H_rb3
  have hbm5 := unhide H_hbm5
  have own5 := unhide H_own5
  have hB5 := unhide H_hB5
  have row5 := unhide H_row5
  have rg5 := unhide H_rg5
  clear H_rb1 H_rb2 H_rb3 H_hbm5 H_own5 H_hB5 H_row5 H_rg5
  have hn := unhide HN
  have hx2 := unhide hN2
  have hbm8 : BM B W8 P cr us idl ab gr (n : Int) tk st en l sp ed u9 v9 (.slice (some ⟨gl, 0, none⟩) n cl) (.slice (some ⟨gs, 0, none⟩) sp.length csz) := by rw [hn]; exact hbm5
  have hbm9 : BM B W9 P cr now idl ab gr ((n : Int) + 1) nx st en l sp ed u9 (.slice a 1 cap) (.slice (some ⟨gl, 0, none⟩) n cl) (.slice (some ⟨gs, 0, none⟩) sp.length csz) := by rw [← hW9]; exact hbm8.put cr now idl ab gr ((n : Int) + 1) nx st en ed u9 (.slice a 1 cap) own5
  have hB9 : ∀ w0, Below B w0 w → Below B w0 W9 := fun w0 h0 => by rw [← hW9]; exact hbm8.put_below (hB5 w0 h0) _
  have rg9 : W9.heap[gl]? = some (.cells cur 26 (0, 0)) := by rw [← hW9]; exact row_set rg5 neg
  have r2 : W9.heap[b2]? = some (.cells #[I ti, I 7, I tg, S ha, I mi, .bool true, I now, I nx, S tSec] 26 (0, 0)) := by rw [← hW9]; exact row_set rb2 ne2
  have r3 : W9.heap[b3]? = some (.cells #[I nx, I 7, I ((n : Int) + 1), S hh, I now, .bool false, I 0, I 0, S []] 26 (0, 0)) := by rw [← hW9]; exact row_set rb3 ne3
  clear rb1 rb2 rb3 hbm5 own5 hB5 row5 rg5 hW9 hbm8 ne1 ne2 ne3 neg
  generalize hX0 : W9.drew = X0 at *
  have hb0 : Below W9.heap.size W9 X0 := by rw [← hX0]; exact (Below.refl _ _).drew
  have hbmX := hbm9.keep hb0
  have rgX := (hb0.block _ (lt_of_row rg9)).trans rg9
  have r2X := (hb0.block _ (lt_of_row r2)).trans r2
  have r3X := (hb0.block _ (lt_of_row r3)).trans r3
  have hBX : ∀ w0, Below B w0 w → Below B w0 X0 := fun w0 h0 => (hB9 w0 h0).trans (hb0.mono hbm9.size)
  have hrowX := hbmX.row
  have hcs9 : k * 9 + 9 ≤ cur.size := by
    obtain ⟨g2, c2, cur2, e1, _, e3, e4, _⟩ := row_form hbmX.tok (by rw [← hn]; omega)
    obtain ⟨rfl, _, rfl⟩ : gl = g2 ∧ n = l.length ∧ cl = c2 := by simpa using e1
    rw [rgX] at e3
    obtain rfl : cur = cur2 := by simpa using e3
    rw [← hn] at e4
    omega
  obtain ⟨hbmY, hglB⟩ := hbmX.tset (by rw [← hn]) rgX k (by rw [← hn]; exact hkl) (⟨ti, tg, ha, mi, true, now, nx, tSec⟩ : Tk)
  have hne3 : b3 ≠ gl ∨ True := .inr trivial
  generalize hX1 : X0.setRow gl (cur.toList.take (k * 9) ++ tkc (⟨ti, tg, ha, mi, true, now, nx, tSec⟩ : Tk) ++ cur.toList.drop (k * 9 + 9)).toArray = X1 at *
  have hrow1 := hbmY.row
  have hBY : ∀ w0, Below B w0 w → Below B w0 X1 := fun w0 h0 => by rw [← hX1]; exact bel_set (hBX w0 h0) gl _ hglB hbmX.size
  have H_x1 := hide hX1
  have H_x0 := hide hX0
  have H_rgX := hide rgX
  have H_r2X := hide r2X
  have H_r3X := hide r3X
  have H_rowX := hide hrowX
  have H_row1 := hide hrow1
  have H_bmY := hide hbmY
  have H_BY := hide hBY
  have H_hn := hide hn
  have H_hx2 := hide hx2
  clear hX1 rgX r2X r3X hrowX hrow1 hbmY hBY hbmX hBX hb0 hbm9 hB9 rg9 r2 r3 hne3 hx2
  clear hn
  refine region_tabG ro9T [(0, ptr P), (1, I (k : Int)), (9, ptr b2)] 176 [0, 1, 2, 4] [] (ro9V P gl n cl k #[I ti, I 7, I tg, S ha, I mi, .bool true, I now, I nx, S tSec]) rfl (by rfl) (by rfl) rfl (fun c => by kernel_rfl) (fun c => by kernel_rfl) (fun c w => by kernel_rfl) _ W9 (Nat.le_of_ble_eq_true rfl) rfl (fun _ L W => ((L 7 = false → W = X0) ∧ (L 7 = true → W = X1)) ∧ (L 7 = true → L 5 = true)) ⟨(), ⟨⟨fun _ => unhide H_x0, (fun e => by cases e)⟩, (fun e => by cases e)⟩⟩ (fun i hi c L W hW => ⟨⟨fun e => hW.1.1 (by rw [upd_ne (by intro q; subst q; simp at hi)] at e; exact e), fun e => hW.1.2 (by rw [upd_ne (by intro q; subst q; simp at hi)] at e; exact e)⟩, fun e => upd_of (hW.2 (by rw [upd_ne (by intro q; subst q; simp at hi)] at e; exact e))⟩) ?spc ?_
  case spc =>
    intro i hi hp hs c L W hW hL hd
    rcases (by simp [ro9T] at hi hp hs; omega : i = 3 ∨ i = 5 ∨ i = 6 ∨ i = 7) with rfl | rfl | rfl | rfl
    · skip
      have f1 : (Instr.loadAt 61 (.pointer (some ⟨P, 14, none⟩))).run Tryz.prog W = .ok (.slice (some ⟨gl, 0, none⟩) n cl) W := by
        cases q : L 7
        · rw [hW.1.1 q]; exact s_ld (T := 61) (fun _ => by kernel_rfl) (cellr (unhide H_rowX) rfl)
        · rw [hW.1.2 q]; exact s_ld (T := 61) (fun _ => by kernel_rfl) (cellr (unhide H_row1) rfl)
      exact ⟨f1, ⟨⟨fun e => hW.1.1 (by rw [upd_ne (by decide)] at e; exact e), fun e => hW.1.2 (by rw [upd_ne (by decide)] at e; exact e)⟩, fun e => upd_of (hW.2 (by rw [upd_ne (by decide)] at e; exact e))⟩⟩
    · skip
      have q7 : L 7 = false := by cases q : L 7 with | false => rfl | true => rw [hW.2 q] at hL; cases hL
      have f1 : (Instr.loadAt 26 (ptr b2)).run Tryz.prog W = .ok (.agg #[I ti, I 7, I tg, S ha, I mi, .bool true, I now, I nx, S tSec]) W := by rw [hW.1.1 q7]; exact s_ldr (T := 26) (n := 9) (o := 0) (fun _ => by kernel_rfl) (fun _ => by kernel_rfl) (unhide H_r2X) (#[I ti, I 7, I tg, S ha, I mi, .bool true, I now, I nx, S tSec]).toList rfl rfl
      exact ⟨f1, ⟨⟨fun e => hW.1.1 (by rw [upd_ne (by decide)] at e; exact e), fun e => hW.1.2 (by rw [upd_ne (by decide)] at e; exact e)⟩, fun e => upd_of (hW.2 (by rw [upd_ne (by decide)] at e; exact e))⟩⟩
    · skip
      exact ⟨⟨_, rfl, s_ix61 gl n cl k hkl⟩, ⟨⟨fun e => hW.1.1 (by rw [upd_ne (by decide)] at e; exact e), fun e => hW.1.2 (by rw [upd_ne (by decide)] at e; exact e)⟩, fun e => upd_of (hW.2 (by rw [upd_ne (by decide)] at e; exact e))⟩⟩
    · skip
      have e0 := hW.1.1 hL
      subst e0
      have f1 : (Instr.storeAt 26 (.pointer (some ⟨gl, k * 9, none⟩)) (.agg #[I ti, I 7, I tg, S ha, I mi, .bool true, I now, I nx, S tSec])).run Tryz.prog W = .ok () X1 := by rw [← unhide H_x1]; exact s_sta (T := 26) (n := 9) (fun _ => by kernel_rfl) (unhide H_rgX) (.agg #[I ti, I 7, I tg, S ha, I mi, .bool true, I now, I nx, S tSec]) (by rfl) hcs9 (by simp [Value.cells, Value.oneCell'])
      exact ⟨rfl, _, f1, ⟨⟨(fun e => by rw [upd_eq] at e; cases e), (fun _ => rfl)⟩, (fun _ => upd_of (hd 5 (by rfl)))⟩⟩
  intro c L W10 hall hW
  simp only [frmL, ro9T, ro9V, Act.put, List.setIfInBounds_toArray, List.set_cons_succ, List.set_cons_zero]
  have e10 := hW.1.2 (hall 7 (by decide))
  clear hall hW
  subst e10
  have r3Y : W10.heap[b3]? = some (.cells #[I nx, I 7, I ((n : Int) + 1), S hh, I now, .bool false, I 0, I 0, S []] 26 (0, 0)) := by rw [← unhide H_x1]; exact row_set (unhide H_r3X) (unhide H_nb3)
  have hbm10 : BM B W10 P cr now idl ab gr ((n : Int) + 1) nx st en (l.set k (⟨ti, tg, ha, mi, true, now, nx, tSec⟩ : Tk)) sp ed u9 (.slice a 1 cap) (.slice (some ⟨gl, 0, none⟩) n cl) (.slice (some ⟨gs, 0, none⟩) sp.length csz) := unhide H_bmY
  have hB10 : ∀ w0, Below B w0 w → Below B w0 W10 := unhide H_BY
  clear H_x1 H_r3X H_rgX H_r2X H_rowX H_row1 H_bmY H_BY H_x0 hX0
  have hb0 : Below W10.heap.size W10 W10.drew := (Below.refl _ _).drew
  have hbmZ := hbm10.keep hb0
  have r3Z := (hb0.block _ (lt_of_row r3Y)).trans r3Y
  have hBZ : ∀ w0, Below B w0 w → Below B w0 W10.drew := fun w0 h0 => (hB10 w0 h0).trans (hb0.mono hbm10.size)
  obtain ⟨v2, Y2, happ, hP2, hbm11, hB11⟩ := hbmZ.appT (⟨nx, (n : Int) + 1, hh, now, false, 0, 0, []⟩ : Tk) (by rw [List.length_set]; have := unhide H_hn; omega)
  obtain ⟨gl2, cl2, -, ev2, -, -, -, -⟩ := row_form hbm11.tok (by simp)
  subst ev2
  have hl2 : (l.set k (⟨ti, tg, ha, mi, true, now, nx, tSec⟩ : Tk) ++ [(⟨nx, (n : Int) + 1, hh, now, false, 0, 0, []⟩ : Tk)]).length = n + 1 := by simp; exact (unhide H_hn).symm
  rw [hl2] at hbm11 hB11 happ
  have H_z := hide hbmZ.row
  have H_r3Z := hide r3Z
  have H_app := hide happ
  have H_P2 := hide hP2
  have H_bm11 := hide hbm11
  have H_B11 := hide (fun w0 h0 => hB11 w0 (hBZ w0 h0))
  have H_hl2 := hide hl2
  have hb01 : Below W10.drew.heap.size W10.drew (W10.drew.alloc (.cells (tkc (⟨nx, (n : Int) + 1, hh, now, false, 0, 0, []⟩ : Tk)).toArray 26)) := (Below.refl _ _).alloc (Nat.le_refl _) _
  have H_z1 := hide ((hb01.block _ (lt_of_row hbmZ.row)).trans hbmZ.row)
  clear hbmZ r3Z happ hP2 hbm11 hB11 hl2 hb01 hbm10 hB10 hb0 hBZ r3Y
  obtain ⟨Y1, hY1⟩ : ∃ Y1, Y1 = (W10.drew.alloc (.cells (tkc (⟨nx, (n : Int) + 1, hh, now, false, 0, 0, []⟩ : Tk)).toArray 26)) := ⟨_, rfl⟩
  obtain ⟨Y3, hY3⟩ : ∃ Y3, Y3 = (Y2.setRow P (bkc cr now idl ab gr ((n : Int) + 1) nx st en (.slice a 1 cap) (.slice (some ⟨gl2, 0, none⟩) (n + 1) cl2) (.slice (some ⟨gs, 0, none⟩) sp.length csz) ed u9)) := ⟨_, rfl⟩
  rw [← hY1] at H_app H_z1
  rw [← hY3] at H_bm11 H_B11
  have H_Y1 := hide hY1
  have H_Y3 := hide hY3
  clear hY1 hY3
  go_upto_region 10 with fail
  refine region_tabH ro10T [(0, ptr P), (10, ptr b3)] 176 [0, 1, 2, 3, 8, 9] [] (ro10V P (.slice (some ⟨gl, 0, none⟩) n cl) #[I nx, I 7, I ((n : Int) + 1), S hh, I now, .bool false, I 0, I 0, S []] W10.drew.heap.size (.slice (some ⟨gl2, 0, none⟩) (n + 1) cl2)) rfl (by rfl) (by rfl) rfl (fun c => by kernel_rfl) (fun c => by kernel_rfl) (fun c w => by kernel_rfl) _ W10 (Nat.le_of_ble_eq_true rfl) rfl (fun _ L W => W = (if L 10 then Y3 else if L 7 then Y2 else if L 6 then Y1 else W10.drew) ∧ (L 10 = true → L 7 = true) ∧ (L 7 = true → L 6 = true ∧ L 4 = true) ∧ (L 6 = true → L 5 = true)) ⟨(), ⟨rfl, (fun e => by cases e), (fun e => by cases e), (fun e => by cases e)⟩⟩ (fun i hi c L W hW => ⟨by rw [upd_ne (by intro q; subst q; simp at hi), upd_ne (by intro q; subst q; simp at hi), upd_ne (by intro q; subst q; simp at hi)]; exact hW.1, (fun e => by rw [upd_ne (by intro q; subst q; simp at hi)] at e; exact upd_of (hW.2.1 e)), (fun e => by rw [upd_ne (by intro q; subst q; simp at hi)] at e; exact ⟨upd_of (hW.2.2.1 e).1, upd_of (hW.2.2.1 e).2⟩), (fun e => by rw [upd_ne (by intro q; subst q; simp at hi)] at e; exact upd_of (hW.2.2.2 e))⟩) ?spc ?_
  case spc =>
    intro i hi hp hs c L W hW hL hd
    rcases (by simp [ro10T] at hi hp hs; omega : i = 4 ∨ i = 5 ∨ i = 6 ∨ i = 7 ∨ i = 10) with rfl | rfl | rfl | rfl | rfl
    · skip
      have q7 : L 7 = false := by cases q : L 7 with | false => rfl | true => rw [(hW.2.2.1 q).2] at hL; cases hL
      have q10 : L 10 = false := by cases q : L 10 with | false => rfl | true => rw [hW.2.1 q] at q7; cases q7
      have eW := hW.1
      rw [q10, q7] at eW
      have f1 : (Instr.loadAt 61 (.pointer (some ⟨P, 14, none⟩))).run Tryz.prog W = .ok (.slice (some ⟨gl, 0, none⟩) n cl) W := by
        cases q6 : L 6
        · rw [q6] at eW; rw [show W = W10.drew from eW]; exact s_ld (T := 61) (fun _ => by kernel_rfl) (cellr (unhide H_z) rfl)
        · rw [q6] at eW; rw [show W = Y1 from eW]; exact s_ld (T := 61) (fun _ => by kernel_rfl) (cellr (unhide H_z1) rfl)
      exact ⟨f1, ⟨by rw [upd_ne (by decide), upd_ne (by decide), upd_ne (by decide)]; exact hW.1, (fun e => by rw [upd_ne (by decide)] at e; exact upd_of (hW.2.1 e)), (fun e => by rw [upd_ne (by decide)] at e; exact ⟨upd_of (hW.2.2.1 e).1, upd_of (hW.2.2.1 e).2⟩), (fun e => by rw [upd_ne (by decide)] at e; exact upd_of (hW.2.2.2 e))⟩⟩
    · skip
      have q6 : L 6 = false := by cases q : L 6 with | false => rfl | true => rw [hW.2.2.2 q] at hL; cases hL
      have q7 : L 7 = false := by cases q : L 7 with | false => rfl | true => rw [(hW.2.2.1 q).1] at q6; cases q6
      have q10 : L 10 = false := by cases q : L 10 with | false => rfl | true => rw [hW.2.1 q] at q7; cases q7
      have eW := hW.1
      rw [q10, q7, q6] at eW
      have eW : W = W10.drew := eW
      have f1 : (Instr.loadAt 26 (ptr b3)).run Tryz.prog W = .ok (.agg #[I nx, I 7, I ((n : Int) + 1), S hh, I now, .bool false, I 0, I 0, S []]) W := by rw [eW]; exact s_ldr (T := 26) (n := 9) (o := 0) (fun _ => by kernel_rfl) (fun _ => by kernel_rfl) (unhide H_r3Z) (#[I nx, I 7, I ((n : Int) + 1), S hh, I now, .bool false, I 0, I 0, S []]).toList rfl rfl
      exact ⟨f1, ⟨by rw [upd_ne (by decide), upd_ne (by decide), upd_ne (by decide)]; exact hW.1, (fun e => by rw [upd_ne (by decide)] at e; exact upd_of (hW.2.1 e)), (fun e => by rw [upd_ne (by decide)] at e; exact ⟨upd_of (hW.2.2.1 e).1, upd_of (hW.2.2.1 e).2⟩), (fun e => by rw [upd_ne (by decide)] at e; exact upd_of (hW.2.2.2 e))⟩⟩
    · skip
      have q6 := hL
      have q7 : L 7 = false := by cases q : L 7 with | false => rfl | true => rw [(hW.2.2.1 q).1] at q6; cases q6
      have q10 : L 10 = false := by cases q : L 10 with | false => rfl | true => rw [hW.2.1 q] at q7; cases q7
      have eW := hW.1
      rw [q10, q7, q6] at eW
      have eW : W = W10.drew := eW
      refine ⟨c, Y1, fun _ _ => rfl, ?_, ?_⟩
      · rw [eW, unhide H_Y1]; kernel_rfl
      · refine ⟨?_, (fun e => ?_), (fun e => ?_), (fun e => upd_of (hd 5 (by rfl)))⟩
        · rw [upd_ne (by decide), upd_ne (by decide), upd_eq, q10, q7]; rfl
        · rw [upd_ne (by decide), q10] at e; cases e
        · rw [upd_ne (by decide), q7] at e; cases e
    · skip
      have q10 : L 10 = false := by cases q : L 10 with | false => rfl | true => rw [hW.2.1 q] at hL; cases hL
      have q6 : L 6 = true := hd 6 (by rfl)
      have q4 : L 4 = true := hd 4 (by rfl)
      have eW := hW.1
      rw [q10, hL, q6] at eW
      have eW : W = Y1 := eW
      refine ⟨c, Y2, fun _ _ => rfl, fun ty => by rw [eW]; exact unhide H_app ty, ?_⟩
      refine ⟨?_, (fun e => ?_), (fun e => ⟨upd_of q6, upd_of q4⟩), (fun e => upd_of (hW.2.2.2 q6))⟩
      · rw [upd_ne (by decide), upd_eq, q10]; rfl
      · exact upd_eq
    · skip
      have q7 : L 7 = true := hd 7 (by rfl)
      have eW := hW.1
      rw [hL, q7] at eW
      have eW : W = Y2 := eW
      have f1 : (Instr.storeAt 61 (.pointer (some ⟨P, 14, none⟩)) (.slice (some ⟨gl2, 0, none⟩) (n + 1) cl2)).run Tryz.prog W = .ok () Y3 := by rw [eW, unhide H_Y3]; exact st_cell (T := 61) (fun _ => by kernel_rfl) (unhide H_P2) (by simp [bkc]) _ rfl rfl _ rfl
      refine ⟨rfl, _, f1, ⟨?_, (fun e => upd_of q7), (fun e => ?_), (fun e => ?_)⟩⟩
      · rw [upd_eq]; rfl
      · rw [upd_ne (by decide)] at e; exact ⟨upd_of (hW.2.2.1 e).1, upd_of (hW.2.2.1 e).2⟩
      · rw [upd_ne (by decide)] at e; exact upd_of (hW.2.2.2 e)
  intro c L W11 hall hW
  simp only [frmL, ro10T, ro10V, Act.put, List.setIfInBounds_toArray, List.set_cons_succ, List.set_cons_zero]
  have e0 := hW.1
  rw [hall 10 (by decide)] at e0
  have e11 : W11 = Y3 := e0
  clear e0 hall hW
  subst e11
  clear H_z H_r3Z H_app H_P2 H_z1 H_Y1 H_Y3
  have hbm11 := unhide H_bm11
  have hB11 := unhide H_B11
  clear H_bm11 H_B11
  have hsn : sp.length = n := by rw [unhide HSL, unhide H_hn]
  obtain ⟨gs2, csz2, cur3, e3, -, rgs, -, -⟩ := row_form hbm11.spr (by omega)
  obtain ⟨rfl, rfl⟩ : gs = gs2 ∧ csz = csz2 := by simpa using e3
  clear e3
  obtain ⟨hbm12, hgsB, hk3⟩ := hbm11.nset rfl rgs k (by omega) now
  have hB12 : ∀ w0, Below B w0 w → Below B w0 (W11.setRow gs (cur3.setIfInBounds k (I now))) := fun w0 h0 => bel_set (hB11 w0 h0) gs _ hgsB hbm11.size
  have hks : (k : Int) < (sp.length : Int) := by omega
  have c15 : W11.cell? ⟨P, 15, none⟩ = some (.slice (some ⟨gs, 0, none⟩) sp.length csz) := cellr hbm11.row rfl
  have H_rgs := hide rgs
  have H_bm12 := hide hbm12
  have H_B12 := hide hB12
  have H_sn := hide hsn
  clear hbm11 hB11 rgs hbm12 hB12 hsn hgsB
  go_upto_region 12 with (refine wp_stC (T := 3) (fun _ => by kernel_rfl) rfl (.tmp 162) (.tmp 161) rfl gs k (by rfl) (I now) (by rfl) rfl rfl cur3 3 (unhide H_rgs) hk3 (cur3.setIfInBounds k (I now)) rfl ?_; generalize hW12 : W11.setRow gs (cur3.setIfInBounds k (I now)) = W12)
  rw [hW12] at H_bm12 H_B12
  clear hW12 H_rgs c15 hk3
  have hbm12 := unhide H_bm12
  have hB12 := unhide H_B12
  obtain ⟨v3, Y4, happ, hP4, hbm13, hB13⟩ := hbm12.appN 0 (by rw [List.length_set]; have := unhide H_sn; omega)
  obtain ⟨gs3, cs3, -, ev3, -, -, -, -⟩ := row_form hbm13.spr (by simp)
  subst ev3
  have hl3 : (sp.set k now ++ [0]).length = n + 1 := by simp; exact unhide H_sn
  rw [hl3] at hbm13 hB13 happ
  have c15 : W12.cell? ⟨P, 15, none⟩ = some (.slice (some ⟨gs, 0, none⟩) sp.length csz) := cellr hbm12.row rfl
  have H_app := hide happ
  have H_P4 := hide hP4
  have H_bm13 := hide hbm13
  have H_B13 := hide (fun w0 h0 => hB13 w0 (hB12 w0 h0))
  clear hbm12 hB12 happ hP4 hbm13 hB13 hl3 H_bm12 H_B12
  go_upto_region 13 with (first | (refine wp_apN rfl (.tmp 167) (.tmp 168) 62 rfl (.slice (some ⟨gs, 0, none⟩) sp.length csz) (.slice (some ⟨W12.heap.size, 0, none⟩) 1 1) (.slice (some ⟨gs3, 0, none⟩) (n + 1) cs3) (by rfl) (by rfl) (unhide H_app) ?_) | (refine wp_stC (T := 62) (fun _ => by kernel_rfl) rfl (.tmp 171) (.tmp 169) rfl P 15 (by rfl) (.slice (some ⟨gs3, 0, none⟩) (n + 1) cs3) (by rfl) rfl rfl (bkc cr now idl ab gr ((n : Int) + 1) nx st en (.slice a 1 cap) (.slice (some ⟨gl2, 0, none⟩) (n + 1) cl2) (.slice (some ⟨gs, 0, none⟩) sp.length csz) ed u9) 64 (unhide H_P4) (by simp [bkc]) (bkc cr now idl ab gr ((n : Int) + 1) nx st en (.slice a 1 cap) (.slice (some ⟨gl2, 0, none⟩) (n + 1) cl2) (.slice (some ⟨gs3, 0, none⟩) (n + 1) cs3) ed u9) rfl ?_; generalize hW13 : Y4.setRow P (bkc cr now idl ab gr ((n : Int) + 1) nx st en (.slice a 1 cap) (.slice (some ⟨gl2, 0, none⟩) (n + 1) cl2) (.slice (some ⟨gs3, 0, none⟩) (n + 1) cs3) ed u9) = W13))
  rw [hW13] at H_bm13 H_B13
  clear hW13 H_P4 c15 H_app
  have hbm13 := unhide H_bm13
  have hB13 := unhide H_B13
  have hbm14 := hbm13.put cr now idl ab gr ((n : Int) + 1) nx st en ed now (.slice a 1 cap) hbm13.own
  have hB14 := fun w0 h0 => hbm13.put_below (hB13 w0 h0) (bkc cr now idl ab gr ((n : Int) + 1) nx st en (.slice a 1 cap) (.slice (some ⟨gl2, 0, none⟩) (n + 1) cl2) (.slice (some ⟨gs3, 0, none⟩) (n + 1) cs3) ed now)
  have H_row := hide hbm13.row
  have H_bm14 := hide hbm14
  have H_B14 := hide hB14
  clear hbm13 hB13 hbm14 hB14 H_bm13 H_B13
  go_wp2_with (refine wp_stC (T := 3) (fun _ => by kernel_rfl) rfl (.tmp 175) (.tmp 173) rfl P 17 (by rfl) (I now) (by rfl) rfl rfl (bkc cr now idl ab gr ((n : Int) + 1) nx st en (.slice a 1 cap) (.slice (some ⟨gl2, 0, none⟩) (n + 1) cl2) (.slice (some ⟨gs3, 0, none⟩) (n + 1) cs3) ed u9) 64 (unhide H_row) (by simp [bkc]) (bkc cr now idl ab gr ((n : Int) + 1) nx st en (.slice a 1 cap) (.slice (some ⟨gl2, 0, none⟩) (n + 1) cl2) (.slice (some ⟨gs3, 0, none⟩) (n + 1) cs3) ed now) rfl ?_; generalize hW14 : W13.setRow P (bkc cr now idl ab gr ((n : Int) + 1) nx st en (.slice a 1 cap) (.slice (some ⟨gl2, 0, none⟩) (n + 1) cl2) (.slice (some ⟨gs3, 0, none⟩) (n + 1) cs3) ed now) = W14)
  rw [hW14] at H_bm14 H_B14
  go_ret
  have hbm := unhide H_bm14
  rw [unhide H_hn] at hbm
  exact ⟨rfl, ⟨_, _, _, hbm⟩, unhide H_B14⟩
end Go.Proofs.YtmjaobddgaglhaaGreatDoor
