import Derived.Test.YthddilflldkmfaaDoorWgha
namespace Go.Proofs.YthddilflldkmfaaDoor
open Go.RowKit Go.Lib
theorem Raw.laid_len (x : Raw) : x.itm.laid.length ≤ 8 + x.t.length := by
  have hs := x.size_bd
  rcases x.itm.kinds with hk | hk | ⟨h0, h1⟩
  · rw [(x.itm.e0 hk).1, be_len]
    show x.size ≤ _
    omega
  · rw [(x.itm.e1 hk).1, List.length_append, be_len]
    have h2 : x.itm.cut.length ≤ x.t.length := by
      show (x.t.take 65535).length ≤ _
      rw [List.length_take]; omega
    have := ahd_le x.itm.most
    omega
  · rw [(x.itm.e2 h0 h1).1]
    show x.t.length ≤ _
    omega
/-- What is light enough is short enough. -/
theorem wgt_sum (os : List Raw) (h : wgt os ≤ 2147483647) : (lays (os.map Raw.itm)).length ≤ wgt os ∧ 100 * os.length ≤ wgt os := by
  suffices ∀ (l : List Raw) (n : Nat), l.foldl (fun n x => addN (addN n 100) x.t.length) n ≤ 2147483647 → n + (lays (l.map Raw.itm)).length ≤ l.foldl (fun n x => addN (addN n 100) x.t.length) n ∧ n + 100 * l.length ≤ l.foldl (fun n x => addN (addN n 100) x.t.length) n by
    have := this os 0 h
    unfold wgt
    omega
  intro l
  induction l with
  | nil => intro n _; simp [lays]
  | cons x l ih =>
    intro n h
    rw [List.foldl_cons] at h ⊢
    have ih' := ih (addN (addN n 100) x.t.length) h
    have hx := x.laid_len
    have h1 : addN (addN n 100) x.t.length ≤ 2147483647 := by omega
    have h2 := addN_le h1
    have h3 := addN_le (n := n) (m := 100) (by omega)
    rw [List.map_cons, lays_cons, List.length_append, List.length_cons]
    omega
end Go.Proofs.YthddilflldkmfaaDoor
