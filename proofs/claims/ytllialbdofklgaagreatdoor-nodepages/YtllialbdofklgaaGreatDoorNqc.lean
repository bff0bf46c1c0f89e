import Derived.Test.YtllialbdofklgaaGreatDoorZnpa
import Derived.Test.YtllialbdofklgaaGreatDoorNps
namespace Go.Proofs.YtllialbdofklgaaGreatDoor
open Go.RowKit
set_option maxHeartbeats 4000000
set_option maxRecDepth 8000
abbrev TE := Value × Value × List Bs
abbrev NE := Value × Value × List Int
def zT : TE := (.slice none 0 0, .slice none 0 0, [])
def zN : NE := (.slice none 0 0, .slice none 0 0, [])
theorem range_getD {α β : Type} (l : List α) (z : α) (f : α → β) : (List.range l.length).map (fun i => f (l.getD i z)) = l.map f := by
  apply List.ext_getElem
  · simp
  · intro i h1 h2
    simp at h1
    simp [h1]
/-- Whose a block of a book is. -/
def tgOf (b : Nat) (vT vN : Value) (T : List TE) (N : List NE) (k : Nat) : Tg :=
  if k = b then (0, 0) else if vT.ownBlock = some k then (0, 1) else if vN.ownBlock = some k then (0, 4)
  else if T.any (fun x => decide (x.1.ownBlock = some k)) = true then (3, T.findIdx (fun x => decide (x.1.ownBlock = some k)))
  else if N.any (fun x => decide (x.1.ownBlock = some k)) = true then (4, N.findIdx (fun x => decide (x.1.ownBlock = some k))) else (6, 0)
theorem find_own {α : Type} (l : List α) (f : α → Value) (k i : Nat) (h : i < l.length) (hk : (f l[i]).ownBlock = some k) (hp : l.Pairwise fun x y => dsj (f x) (f y)) :
    l.any (fun x => decide ((f x).ownBlock = some k)) = true ∧ l.findIdx (fun x => decide ((f x).ownBlock = some k)) = i := by
  refine ⟨List.any_eq_true.2 ⟨l[i], List.getElem_mem h, by simpa using hk⟩, ?_⟩
  rw [List.findIdx_eq h]
  refine ⟨by simpa using hk, fun j hj => ?_⟩
  rw [decide_eq_false_iff_not]
  intro q
  exact List.pairwise_iff_getElem.1 hp j i (by omega) h hj k q hk
theorem bok_s4 {B b : Nat} {T : List TE} {N : List NE} {w : World} {vT vU vN vM : Value} (h : Bok B b T N w) (hx : Bx B b vT vU vN vM (T.map (·.1)) (T.map (·.2.1)) (N.map (·.1)) (N.map (·.2.1)) w) :
    ∃ tag, S4 w tag b #[vT, vU, vN, vM] tag T.length (fun i => (T.getD i zT).1) (fun i => ((T.getD i zT).2.2).length) (fun i => ((T.getD i zT).2.2).map S) vT 0 (.slice none 0 0) [] (.slice none 0 0) 0
      N.length (fun i => (N.getD i zN).1) (fun i => ((N.getD i zN).2.2).length) (fun i => ((N.getD i zN).2.2).map fun z => I z) vN 0 (.slice none 0 0) [] (.slice none 0 0) 0 w ∧ ∀ k, Md (tag k) → B ≤ k := by
  have tb : tgOf b vT vN T N b = (0, 0) := if_pos rfl
  have nT := Bx.off (cs := [vT, vU, vN, vM]) hx.box hx.rT (by decide)
  have nN := Bx.off (cs := [vT, vU, vN, vM]) hx.box hx.rN (by decide)
  have tT : ∀ k, vT.ownBlock = some k → tgOf b vT vN T N k = (0, 1) := fun k hk => by
    unfold tgOf
    rw [if_neg (fun e : k = b => nT (e ▸ hk)), if_pos hk]
  have tN : ∀ k, vN.ownBlock = some k → tgOf b vT vN T N k = (0, 4) := fun k hk => by
    unfold tgOf
    rw [if_neg (fun e : k = b => nN (e ▸ hk)), if_neg (fun q => row_ne hx.rT hx.rN (by decide) k q hk), if_pos hk]
  have tt : ∀ i, i < T.length → ∀ k, (T.getD i zT).1.ownBlock = some k → tgOf b vT vN T N k = (3, i) := fun i hi k hk => by
    have e : T.getD i zT = T[i] := by simp [hi]
    rw [e] at hk
    have hr := (h.t T[i] (List.getElem_mem hi)).1
    obtain ⟨f1, f2⟩ := find_own T (·.1) k i hi hk h.td
    unfold tgOf
    rw [if_neg (fun e : k = b => Bx.off (cs := [vT, vU, vN, vM]) hx.box hr (by decide) (e ▸ hk)), if_neg (fun q => row_ne hx.rT hr (by decide) k q hk), if_neg (fun q => row_ne hx.rN hr (by decide) k q hk), if_pos f1, f2]
  have tn : ∀ i, i < N.length → ∀ k, (N.getD i zN).1.ownBlock = some k → tgOf b vT vN T N k = (4, i) := fun i hi k hk => by
    have e : N.getD i zN = N[i] := by simp [hi]
    rw [e] at hk
    have hr := (h.n N[i] (List.getElem_mem hi)).1
    obtain ⟨f1, f2⟩ := find_own N (·.1) k i hi hk h.nd
    have f3 : ¬ T.any (fun x => decide (x.1.ownBlock = some k)) = true := fun q => by
      obtain ⟨x, m, qx⟩ := List.any_eq_true.1 q
      exact row_ne (h.t x m).1 hr (by decide) k (by simpa using qx) hk
    unfold tgOf
    rw [if_neg (fun e : k = b => Bx.off (cs := [vT, vU, vN, vM]) hx.box hr (by decide) (e ▸ hk)), if_neg (fun q => row_ne hx.rT hr (by decide) k q hk), if_neg (fun q => row_ne hx.rN hr (by decide) k q hk), if_neg f3, if_pos f1, f2]
  refine ⟨tgOf b vT vN T N, ⟨⟨hx.box, tb, Only.refl _ _, fun _ _ => rfl⟩, ⟨?_, tT, ?_, fun i _ hi k hk => tt i hi k hk, ?_⟩, ⟨owns_nil _ _ _, (fun _ q => nomatch q), (fun j v q => nomatch q)⟩, ⟨?_, tN, ?_, fun i _ hi k hk => tn i hi k hk, ?_⟩, ⟨owns_nil _ _ _, (fun _ q => nomatch q), (fun j v q => nomatch q)⟩⟩, ?_⟩
  · rw [range_getD T zT (·.1)]
    simpa using hx.rT
  · intro i _ hi
    have e : T.getD i zT = T[i] := by simp [hi]
    rw [e]
    exact (h.t T[i] (List.getElem_mem hi)).1
  · intro i hi
    have e : T.getD i zT = T[i] := by simp [hi]
    rw [e]
    exact (h.t T[i] (List.getElem_mem hi)).2.2.2
  · rw [range_getD N zN (·.1)]
    simpa using hx.rN
  · intro i _ hi
    have e : N.getD i zN = N[i] := by simp [hi]
    rw [e]
    exact (h.n N[i] (List.getElem_mem hi)).1
  · intro i hi
    have e : N.getD i zN = N[i] := by simp [hi]
    rw [e]
    exact (h.n N[i] (List.getElem_mem hi)).2.2.2
  · intro k hk
    unfold tgOf at hk
    split at hk
    · next e => rw [e]; exact hx.lo.1
    split at hk
    · next e => exact hx.lo.2.1 k e
    split at hk
    · next e => exact hx.lo.2.2.2.1 k e
    split at hk
    · next e =>
      obtain ⟨x, m, qx⟩ := List.any_eq_true.1 e
      exact (h.t x m).2.2.1 k (by simpa using qx)
    split at hk
    · next e =>
      obtain ⟨x, m, qx⟩ := List.any_eq_true.1 e
      exact (h.n x m).2.2.1 k (by simpa using qx)
    · rcases hk with q | q | q | q | q
      · exact absurd q (by decide)
      · exact absurd q (by decide)
      · exact absurd q (by decide)
      · exact absurd q (by decide)
      · exact absurd q (by decide)
end Go.Proofs.YtllialbdofklgaaGreatDoor
