import Derived.Test.YtmjaobddgaglhaaGreatDoorSce
import Derived.Maps.OwnSet
import Derived.Maps.RangeWalk
import Derived.Sort.KeysCollected
import Derived.Sort.OwnSorted
import Derived.OwnWalk
import Derived.Maps.AppendAt
namespace Go.Proofs.YtmjaobddgaglhaaGreatDoor
open Go.RowKit Go.Lib Go.Maps Go.Sort
theorem clone_any (l : Bs) (w : World) (hl : l.length ≤ 281474976710656) : Calls Tryz.prog 49 #[S l] w fun e w' => e = .returned (S l) ∧ Below w.heap.size w w' := by
  go_enter Tryz.func49, Tryz.ntmps49
  go_wp2_with (go_at_call 69; refine (Tryz.stringslite_Clone _ _ (by rw [ba_len]; omega)).mono ?_; rintro e w' ⟨rfl, hb⟩)
  go_ret
  exact ⟨rfl, hb⟩
/-- Texts in memory of one's own. -/
def OwnS (B : Nat) (w : World) (v : Value) (l : List Bs) : Prop := w.ownsRow B 9 1 v l.length (l.map encStr)
theorem OwnS.form {B : Nat} {w : World} {v : Value} {l : List Bs} (h : OwnS B w v l) : ∃ a cap, v = .slice a l.length cap := by
  rcases h.2 with ⟨e, q⟩ | ⟨g, cap, cur, e1, _⟩
  · exact ⟨none, 0, by rw [e, q]⟩
  · exact ⟨_, cap, e1⟩
theorem OwnS.sts {B : Nat} {w : World} {a : Option Addr} {n cap : Nat} {l : List Bs} (h : OwnS B w (.slice a n cap) l) : Sts w a l.length l := by
  rcases h.2 with ⟨e, q⟩ | ⟨g, cap', cur, e1, _⟩
  · cases e
    have : l = [] := List.eq_nil_of_length_eq_zero q
    subst this
    exact Sts.nil _ _
  · cases e1
    refine ⟨rfl, fun _ => ⟨g, 0, rfl, fun j hj => ?_⟩⟩
    rw [Nat.zero_add]
    have := h.cellAt j (by omega)
    rw [this]
    simp [hj]
end Go.Proofs.YtmjaobddgaglhaaGreatDoor
namespace Go.Proofs.YtmjaobddgaglhaaGreatDoor
open Go.RowKit Go.Lib Go.Maps Go.Sort
theorem own_nil (B : Nat) (w : World) : OwnS B w (.slice none 0 0) [] := World.ownsRow_nil _ _ _ _
theorem OwnS.below {B B' : Nat} {w w' : World} {v : Value} {l : List Bs} (h : OwnS B w v l) (hb : Below w.heap.size w w') (hB : B' ≤ B) : OwnS B' w' v l := by
  refine ⟨h.1, ?_⟩
  rcases h.2 with q | ⟨g, cap, cur, e1, e2, e3, e4⟩
  · exact .inl q
  · exact .inr ⟨g, cap, cur, e1, by omega, (hb.block g (Array.getElem?_eq_some_iff.1 e3).1).trans e3, e4⟩
theorem lns_one (x : Bs) (h : x.length ≤ 9223372036854775807) : Lns [x] := by
  intro j
  cases j with
  | zero => exact h
  | succ j => simp
end Go.Proofs.YtmjaobddgaglhaaGreatDoor
