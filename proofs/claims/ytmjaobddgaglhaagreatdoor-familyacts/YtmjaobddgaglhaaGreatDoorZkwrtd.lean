import Derived.Test.YtmjaobddgaglhaaGreatDoorZdsa
import Derived.Deep.RegionLaw
import Derived.Maps.AppendAt
import Derived.Lib.AppendStr
import Derived.BigQuiet
import Derived.Deep.QuietTactic
import Derived.Laws.CopyRow
import Derived.Laws.MakeOwn
namespace Go.Proofs.YtmjaobddgaglhaaGreatDoor
open Go.RowKit Go.Lib
/-- A block of values of one cell each. -/
def Rw (e : TypeId) (g : Nat) (xs : List Value) (w : World) : Prop := w.heap[g]? = some (.cells xs.toArray e (0, 0))
variable {e : TypeId} {g : Nat} {xs : List Value} {w w' : World}
theorem Rw.cell (h : Rw e g xs w) (k : Nat) : w.cell? ⟨g, k, none⟩ = xs[k]? := by
  rw [cell_of_row w g k _ e (0, 0) h]; simp
theorem Rw.fz (h : Rw e g xs w) (j : Nat) : w.frozen? ⟨g, j, none⟩ = false := frozen_of_row w g j _ e h
theorem Rw.set (h : Rw e g xs w) (k : Nat) (v : Value) : Rw e g (xs.set k v) (w.setCell ⟨g, k, none⟩ v) := by
  have hr := heap_setCell_same w g k _ e v h
  unfold Rw
  simpa using hr
theorem made1 (z : Value) (hz : z.cells = #[z]) (m : Nat) : (madeCells z.cells m).toList = List.replicate m z := by
  rw [hz]
  unfold madeCells
  apply List.ext_getElem
  · simp
  · intro i h1 h2
    simp [Nat.mod_one]
/-- make([]T, n), each of one cell. -/
theorem make1 {t : TypeId} {K : IntKind} (hinfo : (Tryz.prog.info? e).map (fun i => (i.zero, i.size, decide (i.bytes ≤ 8))) = some (some (.int K 0), 1, true)) (hu : Tryz.prog.underlying t = some (.slice e)) {ops : Array Oper} {rest : List Oper} {o : Oper} {a : Act} {Q : Exit → Act → World → Prop} (hgd : o.guard = none) (l c : Operand) (hop : o.op = Op.makeSlice t l c)
    (L C : Int) (n : Nat) (hl : a.eval l = .int .i64 L) (hc : a.eval c = .int .i64 C) (hL : L = (n : Int)) (hC : C = (n : Int)) (hn : n ≤ 1000000000000)
    (h : ∀ w', Rw e w.heap.size (List.replicate n (.int K 0)) w' → Below w.heap.size w w' → wpList Tryz.prog ops Q rest (a.put o.dst (.slice (some ⟨w.heap.size, 0, none⟩) n n)) w') : wpList Tryz.prog ops Q (o :: rest) a w := by
  obtain ⟨i0, hi, hz0, hz1, hz2⟩ : ∃ i, Tryz.prog.info? e = some i ∧ i.zero = some (.int K 0) ∧ i.size = 1 ∧ i.bytes ≤ 8 := by
    cases q : Tryz.prog.info? e with
    | none => rw [q] at hinfo; simp at hinfo
    | some i => rw [q] at hinfo; simp at hinfo; exact ⟨i, rfl, hinfo.1, hinfo.2.1, hinfo.2.2⟩
  refine wpList_make_full w hgd l c t hop w.heap.size e i0 _ 1 hu hi hz0 hz1 .i64 .i64 L C n hl hc hL hC ?_ (by unfold maxLen; omega) (Nat.le_refl _) ?_
  · have := Nat.mul_le_mul hz2 hn
    omega
  intro w' ho hg
  refine h w' ?_ ((Below.refl _ _).grown hg (Nat.le_refl _) (fun k e => by cases e))
  rcases ho.2 with ⟨e, _⟩ | ⟨g, cap, cur, e, _, hgg, _, _, hsz, htk⟩
  · cases e
  · simp only [Value.slice.injEq, Option.some.injEq, Addr.mk.injEq, and_true] at e
    obtain ⟨rfl, rfl⟩ : w.heap.size = g ∧ n = cap := ⟨e.1, e.2.2⟩
    unfold Rw
    rw [hgg]
    have h1 : cur.toList = List.replicate n (.int K 0) := by
      have h2 : cur.toList.take (n * 1) = cur.toList := List.take_of_length_le (by simp; omega)
      rw [← h2, htk, Nat.mul_one]
      exact made1 _ rfl n
    rw [← h1]
theorem inf5 : (Tryz.prog.info? 5).map (fun i => (i.zero, i.size, decide (i.bytes ≤ 8))) = some (some (.int .u8 0), 1, true) := by kernel_rfl
/-- How far By has come: the last k bytes are laid. -/
def bw (size n k j : Nat) : UInt8 := if size ≤ j + k then UInt8.ofNat (n / 256 ^ (size - 1 - j)) else 0
def bws (size n k : Nat) : List Value := (List.range size).map fun j => .int .u8 ((bw size n k j).toNat : Int)
theorem bws_zero (size n : Nat) : bws size n 0 = List.replicate size (.int .u8 0) := by
  unfold bws
  apply List.ext_getElem
  · simp
  · intro i h1 h2
    simp at h1
    simp [bw, show ¬ size ≤ i by omega]
theorem bws_step (size n k : Nat) (hk : k < size) : (bws size n k).set (size - 1 - k) (.int .u8 ((UInt8.ofNat (n / 256 ^ k)).toNat : Int)) = bws size n (k + 1) := by
  unfold bws
  apply List.ext_getElem
  · simp
  · intro i h1 h2
    simp at h1 h2
    rw [List.getElem_set]
    by_cases e : size - 1 - k = i
    · subst e
      simp [bw, show size ≤ size - 1 - k + (k + 1) by omega, show size - 1 - (size - 1 - k) = k by omega]
    · rw [if_neg e]
      simp [bw]
      by_cases q : size ≤ i + k
      · rw [if_pos q, if_pos (by omega)]
      · rw [if_neg q, if_neg (by omega)]
theorem bws_at (size n j : Nat) (hj : j < size) : (bws size n size)[j]? = some (.int .u8 (((be size n).getD j 0).toNat : Int)) := by
  unfold bws be
  simp [hj, bw]
end Go.Proofs.YtmjaobddgaglhaaGreatDoor
