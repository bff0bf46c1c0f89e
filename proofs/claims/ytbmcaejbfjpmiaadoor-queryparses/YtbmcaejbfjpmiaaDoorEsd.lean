import Derived.Test.YtbmcaejbfjpmiaaDoorEsc
namespace Go.Proofs.YtbmcaejbfjpmiaaDoor
open Go.RowKit Go.Lib
theorem Bd.keep {B b : Nat} {acc : List UInt8} {W W' : World} (h : Bd B b acc W) (k : Below W.heap.size W W') : Bd B b acc W' := by
  have hh : ∀ (i : Nat) (o : Obj), W.heap[i]? = some o → W'.heap[i]? = some o := fun i o e => by
    rw [k.block i (Array.getElem?_eq_some_iff.1 e).1]
    exact e
  have key : ∀ p, BuilderAtF 50 5 B b p (byteCells acc) W → BuilderAtF 50 5 B b p (byteCells acc) W' := by
    rintro p ⟨hB, v, hb, hown, hne⟩
    refine ⟨hB, v, hh _ _ hb, ⟨hown.1, ?_⟩, hne⟩
    rcases hown.2 with hn | ⟨g, cap, cur, fz, hv, hbg, hg, rest⟩
    · exact .inl hn
    · exact .inr ⟨g, cap, cur, fz, hv, hbg, hh _ _ hg, rest⟩
  exact h.elim (fun x => .inl (key _ x)) (fun x => .inr (key _ x))
theorem OK.below {W W' : World} (b : Option Nat) (k : Below W.heap.size W W') : OthersKept 5 b W W' := by
  intro i o e _ _
  rw [k.block i (Array.getElem?_eq_some_iff.1 e).1]
  exact e
theorem OK.iterAt {w W : World} {b : Option Nat} (h : OthersKept 5 b w W) {k : Nat} (hk : w.heap.size ≤ k) (s : ByteArray) (pos : Nat) : OthersKept 5 b w (W.iterAt k s pos) := by
  intro i o e h1 h2
  have hi := (Array.getElem?_eq_some_iff.1 e).1
  rw [iterAt_other W k i s pos (by omega)]
  exact h i o e h1 h2
theorem esc_snoc (l : List UInt8) (k : Nat) (h : k < l.length) : esc (l.take (k + 1)) = esc (l.take k) ++ esc1 l[k] := by
  rw [take_snoc l k h, esc_append]
  simp [esc]
theorem esc_take_le (l : List UInt8) (k : Nat) (hk : k ≤ l.length) : (esc (l.take k)).length ≤ 3 * k := by
  have := esc_len (l.take k)
  rw [List.length_take] at this
  omega
/-- How far a text has been laid down, and where the range over it stands. -/
def Going (B b : Nat) (acc l : List UInt8) (w : World) (pos at' : Nat) (wr : World) : Prop :=
  Bd B b (acc ++ esc (l.take pos)) wr ∧ wr.heap[w.heap.size]? = some (.stringIter ⟨l.toArray⟩ at') ∧ Below B w wr ∧ OthersKept 5 (some b) w wr
theorem Going.size {B b : Nat} {acc l : List UInt8} {w : World} {pos at' : Nat} {wr : World} (h : Going B b acc l w pos at' wr) : w.heap.size < wr.heap.size := (Array.getElem?_eq_some_iff.1 h.2.1).1
theorem Going.start {B b : Nat} {acc l : List UInt8} {w : World} (h : Bd B b acc w) (hB : B ≤ w.heap.size) : Going B b acc l w 0 0 (w.iter ⟨l.toArray⟩ 0) := by
  refine ⟨?_, World.iter_heap w _ 0, (Below.refl _ w).alloc hB _, (OthersKept.refl _ _ w).alloc _⟩
  have : acc ++ esc (l.take 0) = acc := by simp [esc]
  rw [this]
  exact IsBuilderF.alloc h _
/-- The range steps on. -/
theorem Going.iter {B b : Nat} {acc l : List UInt8} {w : World} {pos at' : Nat} {wr : World} (h : Going B b acc l w pos at' wr) (hB : B ≤ w.heap.size) (q : Nat) : Going B b acc l w pos q (wr.iterAt w.heap.size ⟨l.toArray⟩ q) :=
  ⟨IsBuilderF.iterAt h.1 h.2.1 q, iterAt_heap wr _ _ at' q h.2.1, below_iterAt h.2.2.1 hB _ q, OK.iterAt h.2.2.2 (Nat.le_refl _) _ q⟩
/-- A call that writes on. -/
theorem Going.put {B b : Nat} {acc l : List UInt8} {w : World} {pos at' : Nat} {wr w' : World} (h : Going B b acc l w pos at' wr) (hb : b < w.heap.size) (pos' : Nat) (h1 : Bd B b (acc ++ esc (l.take pos')) w') (k : Below B wr w') (o : OthersKept 5 (some b) wr w') : Going B b acc l w pos' at' w' :=
  ⟨h1, o.iter h.2.1 (by omega), h.2.2.1.trans k, h.2.2.2.trans o⟩
theorem Going.keep {B b : Nat} {acc l : List UInt8} {w : World} {pos at' : Nat} {wr w' : World} (h : Going B b acc l w pos at' wr) (hB : B ≤ w.heap.size) (k : Below wr.heap.size wr w') : Going B b acc l w pos at' w' := by
  have hs := h.size
  refine ⟨h.1.keep k, ?_, h.2.2.1.trans (k.mono (by omega)), h.2.2.2.trans (OK.below _ k)⟩
  rw [k.block _ hs]
  exact h.2.1
end Go.Proofs.YtbmcaejbfjpmiaaDoor
