import Derived.Test.YtpidmpefodnffaaGreatDoorSch
namespace Go.Proofs.YtpidmpefodnffaaGreatDoor
open Go.RowKit Go.Lib Go.Maps Go.Sort
theorem OwnS.below {B B' : Nat} {w w' : World} {v : Value} {l : List Bs} (h : OwnS B w v l) (hb : Below w.heap.size w w') (hB : B' ≤ B) : OwnS B' w' v l := by
  refine ⟨h.1, ?_⟩
  rcases h.2 with q | ⟨g, cap, cur, e1, e2, e3, e4⟩
  · exact .inl q
  · exact .inr ⟨g, cap, cur, e1, by omega, (hb.block g (Array.getElem?_eq_some_iff.1 e3).1).trans e3, e4⟩
theorem lns_one (x : Bs) (h : x.length ≤ 9223372036854775807) : Lns [x] := by
  intro j
  cases j with
  | zero => exact h
  | succ j => simp
end Go.Proofs.YtpidmpefodnffaaGreatDoor
