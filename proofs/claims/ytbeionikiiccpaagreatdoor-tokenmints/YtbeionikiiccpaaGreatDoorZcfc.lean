import Derived.Test.YtbeionikiiccpaaGreatDoorRefa
import Derived.Test.YtbeionikiiccpaaGreatDoorUnf
import Derived.Deep.RegionLaw
namespace Go.Proofs.YtbeionikiiccpaaGreatDoor
open Go.RowKit Go.Lib
/-- Without the signs of filling at the end. -/
def unf (s : List UInt8) : List UInt8 := (s.reverse.dropWhile (· == 61)).reverse
theorem unf_nil : unf [] = [] := rfl
theorem unf_pad (x : List UInt8) : unf (x ++ [61]) = unf x := by simp [unf]
theorem unf_not (x : List UInt8) (c : UInt8) (h : c ≠ 61) : unf (x ++ [c]) = x ++ [c] := by
  simp [unf, h]
theorem ext_take (X : List UInt8) (a b : Nat) : (ByteArray.mk X.toArray).extract a b = ⟨((X.take b).drop a).toArray⟩ := by
  apply ByteArray.ext
  apply Array.ext'
  simp [ByteArray.data_extract, List.drop_take]
theorem split_last (X : List UInt8) (h : 0 < X.length) : X = X.take (X.length - 1) ++ [X[X.length - 1]'(by omega)] := by
  have := take_snoc X (X.length - 1) (by omega)
  rw [show X.length - 1 + 1 = X.length by omega, List.take_of_length_le (Nat.le_refl _)] at this
  exact this
theorem sgn_app2' (A : List UInt8) (x y : List Nat) : sgn A (x ++ y) = sgn A x ++ sgn A y := by simp [sgn]
abbrev hexs : List UInt8 := [48, 49, 50, 51, 52, 53, 54, 55, 56, 57, 97, 98, 99, 100, 101, 102]
theorem Own.drew {base : Nat} {v : Value} {X : List UInt8} {W0 w : World} (h : Own base v X W0 w) : Own base v X W0 w.drew := ⟨h.1, h.2.1.drew, h.2.2⟩
theorem step_push2 {ops : Array Oper} {o : Oper} {a : Act} {K : Act → World → Prop} {Q : Exit → Act → World → Prop} {E : Prop} (hgd : o.guard = none) (s x : Operand)
    (ho : o.op = .call { callee := .builtin .append, args := #[s, x], argTypes := #[49, 49] })
    (base : Nat) (v : Value) (X : List UInt8) (hs : a.eval s = v) (W0 w0 : World) (ci di : Int) (c d : UInt8) (hci : ci = (c.toNat : Int)) (hdi : di = (d.toNat : Int)) (hb : Own base v X W0 w0)
    (hx : a.eval x = .slice (some ⟨w0.heap.size, 0, none⟩) 2 2) (hlen : X.length + 2 ≤ 140737488355328)
    (h : ∀ v' w', Own base v' (X ++ [c, d]) W0 w' → K (a.put o.dst v') w') :
    if Region.wanted o (yielded ops a.tmps) = true then Oper.wp Tryz.prog o a (w0.alloc (.cells #[.int .u8 ci, .int .u8 di] 5)) K Q else E := by
  have hw : Region.wanted o (yielded ops a.tmps) = true := by simp [Region.wanted, hgd]
  rw [if_pos hw]
  subst hci hdi
  obtain ⟨i0, hi, hz0, hz1, hz2⟩ := info_parts info5
  have hb' := OwnBuf.alloc hb (.cells #[.int .u8 (c.toNat : Int), .int .u8 (d.toNat : Int)] 5)
  obtain ⟨v', w', hr, h2, h3, _⟩ := run_append_ownF (P := Tryz.prog) (w0.alloc (.cells #[.int .u8 (c.toNat : Int), .int .u8 (d.toNat : Int)] 5)) base 49 o.type 5 i0 (.int .u8 0) 1 1 Tryz.underlying49 hi hz0 hz1 hz2 rfl (by decide) v X.length (X.map B) hb'.1 ⟨w0.heap.size, 0, none⟩ 2 2 [B c, B d] rfl (by
      intro j u hj
      match j, hj with
      | 0, hj => simp at hj; subst hj; simp [Addr.add, B]
      | 1, hj => simp at hj; subst hj; simp [Addr.add, B]
      | (j + 2), hj => simp at hj) (by intro u hu; simp at hu; rcases hu with rfl | rfl <;> rfl) (by unfold maxLen; omega) (by omega) hb'.2.2
  unfold Oper.wp execOp
  simp only [ho, resolve, invoke, builtin, Sem.run_bind, Sem.run_pure, Result.andThen_ok, List.map_toArray, List.map_cons, List.map_nil, hs, hx, hr]
  refine h v' w' ?_
  have := OwnBuf.grown hb' h2 h3
  unfold Own
  rw [List.length_append, List.map_append]
  exact this
theorem sgn4 (c : UInt8) : sgn hexs [c.toNat / 16, c.toNat % 16] = [hexs.getD (c.toNat / 16) 0, hexs.getD (c.toNat % 16) 0] := rfl
end Go.Proofs.YtbeionikiiccpaaGreatDoor
namespace Go.Proofs.YtbeionikiiccpaaGreatDoor
open Go.RowKit Go.Lib
/-- Pairs of signs as bytes. -/
def pairs : List Nat → List UInt8
  | a :: b :: r => UInt8.ofNat (16 * a + b) :: pairs r
  | _ => []
theorem pairs_app (x y : List Nat) (h : x.length % 2 = 0) : pairs (x ++ y) = pairs x ++ pairs y := by
  induction x using pairs.induct with
  | case1 a b r ih => simp only [List.cons_append, pairs]; rw [ih (by simp only [List.length_cons] at h; omega)]
  | case2 x hx =>
    match x, h with
    | [], _ => rfl
    | [a], h => simp at h
    | a :: b :: r, _ => exact absurd rfl (hx a b r)
theorem pairs_len (x : List Nat) : (pairs x).length ≤ x.length := by
  induction x using pairs.induct with
  | case1 a b r ih => simp only [pairs, List.length_cons]; omega
  | case2 x hx =>
    match x with
    | [] => simp [pairs]
    | [a] => simp [pairs]
    | a :: b :: r => exact absurd rfl (hx a b r)
def refun4 (t : List UInt8) : Option (List UInt8) := if t.length % 2 = 0 ∧ allin hexs t then some (pairs (t.map (pl hexs))) else none
theorem refun4_no {t : List UInt8} (h : ¬ (t.length % 2 = 0 ∧ allin hexs t)) : refun4 t = none := by unfold refun4; rw [if_neg h]
theorem refun4_yes {t : List UInt8} (h : t.length % 2 = 0 ∧ allin hexs t) : refun4 t = some (pairs (t.map (pl hexs))) := by unfold refun4; rw [if_pos h]
theorem take2 (s : List UInt8) (i : Nat) (h : i + 1 < s.length) : s.take (i + 2) = s.take i ++ [s[i], s[i + 1]] := by
  have h1 := take_snoc s i (by omega)
  have h2 : s.take (i + 2) = s.take (i + 1) ++ [s[i + 1]] := take_snoc s (i + 1) (by omega)
  rw [h2, h1, List.append_assoc]; rfl
end Go.Proofs.YtbeionikiiccpaaGreatDoor
