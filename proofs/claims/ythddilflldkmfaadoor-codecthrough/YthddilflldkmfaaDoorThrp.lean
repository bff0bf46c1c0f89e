import Derived.Test.YthddilflldkmfaaDoorWghb
import Derived.Test.YthddilflldkmfaaDoorFive
import Derived.Test.YthddilflldkmfaaDoorDone
namespace Go.Proofs.YthddilflldkmfaaDoor
open Go.RowKit Go.Lib
/-- A text of what is light enough is short. -/
theorem wgt_text (os : List Raw) (h : wgt os ≤ 2147483647) (k : Nat) : (os.getD k it0).t.length ≤ 2147483647 := by
  suffices ∀ (l : List Raw) (n : Nat), l.foldl (fun n x => addN (addN n 100) x.t.length) n ≤ 2147483647 → n ≤ l.foldl (fun n x => addN (addN n 100) x.t.length) n ∧ ∀ x ∈ l, x.t.length ≤ l.foldl (fun n x => addN (addN n 100) x.t.length) n by
    by_cases hk : k < os.length
    · have e : os.getD k it0 = os[k] := by simp [hk]
      rw [e]
      have := (this os 0 h).2 os[k] (List.getElem_mem hk)
      unfold wgt at h
      omega
    · rw [List.getD_eq_getElem?_getD, List.getElem?_eq_none (by omega)]
      simp [it0]
  intro l
  induction l with
  | nil => intro n _; simp
  | cons x l ih =>
    intro n h
    rw [List.foldl_cons] at h ⊢
    have ih' := ih (addN (addN n 100) x.t.length) h
    have h1 : addN (addN n 100) x.t.length ≤ 2147483647 := by omega
    have h2 := addN_le h1
    have h3 := addN_le (n := n) (m := 100) (by omega)
    refine ⟨by omega, fun y hy => ?_⟩
    rcases List.mem_cons.1 hy with rfl | hy
    · omega
    · exact ih'.2 y hy
theorem lays_app (a b : List Itm) : lays (a ++ b) = lays a ++ lays b := by simp [lays]
theorem take_at (os : List Raw) (k : Nat) (h : k < os.length) : os.take (k + 1) = os.take k ++ [os.getD k it0] := by
  rw [List.take_succ_eq_append_getElem h]
  simp [h]
theorem drop_at' (os : List Raw) (k : Nat) (h : k < os.length) : os.drop k = os.getD k it0 :: os.drop (k + 1) := by
  rw [List.drop_eq_getElem_cons h]
  simp [h]
theorem lays_take (os : List Raw) (k : Nat) (h : k < os.length) : lays ((os.take (k + 1)).map Raw.itm) = lays ((os.take k).map Raw.itm) ++ (os.getD k it0).itm.laid := by
  rw [take_at os k h, List.map_append, lays_app]
  simp [lays]
theorem lays_take_le (os : List Raw) (k : Nat) : (lays ((os.take k).map Raw.itm)).length ≤ (lays (os.map Raw.itm)).length := by
  conv => rhs; rw [← List.take_append_drop k os, List.map_append, lays_app, List.length_append]
  omega
theorem lays_drop_le (os : List Raw) (k : Nat) : (lays ((os.drop k).map Raw.itm)).length ≤ (lays (os.map Raw.itm)).length := by
  conv => rhs; rw [← List.take_append_drop k os, List.map_append, lays_app, List.length_append]
  omega
theorem Only.far {P : Nat → Prop} {w0 w w' : World} (ho : Only P w w') (hb : Below w0.heap.size w0 w) (hp : ∀ k, P k → w0.heap.size ≤ k) : Below w0.heap.size w0 w' :=
  hb.trans ⟨ho.os, ho.tape, ho.output, ho.size, fun k hk => ho.block k (Nat.lt_of_lt_of_le hk hb.size) (fun q => by have := hp k q; omega)⟩
/-- Five objects that were made one behind the other. -/
theorem five_new {b1 g1 c1 b2 g2 c2 b3 g3 c3 b4 g4 c4 : Nat} {Y1 Y2 Y3 Y4 : List UInt8} {w7 w8 w9 w10 w11 : World}
    (r1 : RAt b1 g1 0 c1 Y1 0 w7)
    (x2 : w7.heap.size ≤ b2) (y2 : w7.heap.size ≤ g2) (r2 : RAt b2 g2 0 c2 Y2 0 w8) (h8 : Below w7.heap.size w7 w8)
    (x3 : w8.heap.size ≤ b3) (y3 : w8.heap.size ≤ g3) (r3 : RAt b3 g3 0 c3 Y3 0 w9) (h9 : Below w8.heap.size w8 w9)
    (x4 : w9.heap.size ≤ b4) (y4 : w9.heap.size ≤ g4) (r4 : RAt b4 g4 0 c4 Y4 0 w10) (h10 : Below w9.heap.size w9 w10)
    (hw : WAt w10.heap.size (.slice none 0 0) [] 0 w11) (h11 : Below w10.heap.size w10 w11) :
    Five ⟨b1, g1, b2, g2, b3, g3, b4, g4, w10.heap.size⟩ (.slice none 0 0) Y1 Y2 Y3 Y4 [] 0 0 0 0 0 w11 := by
  have l1 := lt_of_row r1.row
  have l2 := lt_of_row r2.row
  have l3 := lt_of_row r3.row
  have l4 := lt_of_row r4.row
  have m1 := r1.bys.lt
  have m2 := r2.bys.lt
  have m3 := r3.bys.lt
  have m4 := r4.bys.lt
  have s8 := h8.size
  have s9 := h9.size
  have s10 := h10.size
  have n1 := r1.ne
  have n2 := r2.ne
  have n3 := r3.ne
  have n4 := r4.ne
  have k8 := Only.of_below (P := fun _ => False) h8
  have k9 := Only.of_below (P := fun _ => False) h9
  have k10 := Only.of_below (P := fun _ => False) h10
  have k11 := Only.of_below (P := fun _ => False) h11
  refine ⟨⟨_, _, (((r1.keep k8 id id).keep k9 id id).keep k10 id id).keep k11 id id⟩, ⟨_, _, ((r2.keep k9 id id).keep k10 id id).keep k11 id id⟩, ⟨_, _, (r3.keep k10 id id).keep k11 id id⟩, ⟨_, _, r4.keep k11 id id⟩, hw, ?_, fun k _ => by simp [Value.ownBlock]⟩
  have d1 : b1 < b2 ∧ b1 < g2 ∧ b1 < b3 ∧ b1 < g3 ∧ b1 < b4 ∧ b1 < g4 ∧ b1 < w10.heap.size := ⟨by omega, by omega, by omega, by omega, by omega, by omega, by omega⟩
  have d2 : g1 < b2 ∧ g1 < g2 ∧ g1 < b3 ∧ g1 < g3 ∧ g1 < b4 ∧ g1 < g4 ∧ g1 < w10.heap.size := ⟨by omega, by omega, by omega, by omega, by omega, by omega, by omega⟩
  have d3 : b2 < b3 ∧ b2 < g3 ∧ b2 < b4 ∧ b2 < g4 ∧ b2 < w10.heap.size := ⟨by omega, by omega, by omega, by omega, by omega⟩
  have d4 : g2 < b3 ∧ g2 < g3 ∧ g2 < b4 ∧ g2 < g4 ∧ g2 < w10.heap.size := ⟨by omega, by omega, by omega, by omega, by omega⟩
  have d5 : b3 < b4 ∧ b3 < g4 ∧ b3 < w10.heap.size := ⟨by omega, by omega, by omega⟩
  have d6 : g3 < b4 ∧ g3 < g4 ∧ g3 < w10.heap.size := ⟨by omega, by omega, by omega⟩
  have d7 : b4 < w10.heap.size ∧ g4 < w10.heap.size := ⟨l4, m4⟩
  clear x2 y2 x3 y3 x4 y4 s8 s9 s10 l1 l2 l3 l4 m1 m2 m3 m4
  have ne : ∀ {a b : Nat}, a < b → a ≠ b := fun h => Nat.ne_of_lt h
  simp only [Spots.all, List.nodup_cons, List.mem_cons, List.not_mem_nil, or_false, not_or, not_false_eq_true, List.nodup_nil, and_true]
  exact ⟨⟨(ne d1.2.2.2.2.2.2).symm, (ne d2.2.2.2.2.2.2).symm, (ne d3.2.2.2.2).symm, (ne d4.2.2.2.2).symm, (ne d5.2.2).symm, (ne d6.2.2).symm, (ne d7.1).symm, (ne d7.2).symm⟩,
    ⟨n1.symm, ne d1.1, ne d1.2.1, ne d1.2.2.1, ne d1.2.2.2.1, ne d1.2.2.2.2.1, ne d1.2.2.2.2.2.1⟩,
    ⟨ne d2.1, ne d2.2.1, ne d2.2.2.1, ne d2.2.2.2.1, ne d2.2.2.2.2.1, ne d2.2.2.2.2.2.1⟩,
    ⟨n2.symm, ne d3.1, ne d3.2.1, ne d3.2.2.1, ne d3.2.2.2.1⟩,
    ⟨ne d4.1, ne d4.2.1, ne d4.2.2.1, ne d4.2.2.2.1⟩,
    ⟨n3.symm, ne d5.1, ne d5.2.1⟩, ⟨ne d6.1, ne d6.2.1⟩, n4.symm⟩
end Go.Proofs.YthddilflldkmfaaDoor
