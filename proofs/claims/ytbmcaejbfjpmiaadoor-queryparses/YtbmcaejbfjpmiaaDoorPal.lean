import Derived.Test.YtbmcaejbfjpmiaaDoorAlw
import Derived.Test.YtbmcaejbfjpmiaaDoorRpb
import Derived.Test.YtbmcaejbfjpmiaaDoorSam
import Derived.Test.YtbmcaejbfjpmiaaDoorAwk
namespace Go.Proofs.YtbmcaejbfjpmiaaDoor
open Go.RowKit Go.Lib
/-- What Parse says of a text: its fields, what is wrong, and where. -/
def flds (l : List UInt8) : List Fl := match parse l with | .ok fs => fs | .error _ => []
def ecd (l : List UInt8) : Nat := match parse l with | .ok _ => 0 | .error (ec, _) => ec
def epl (l : List UInt8) : Nat := match parse l with | .ok _ => 0 | .error (_, p) => p
theorem flds_len (l : List UInt8) : (flds l).length ≤ 32 := by
  unfold flds
  cases h : parse l with
  | ok fs => exact parse_len l fs h
  | error x => simp
theorem Told.get {l : List UInt8} {e : Ending} {w w' : World} (h : Told l e w w') : ∃ p c, e = .returned (.tuple #[.slice p (flds l).length c, .int .i64 (ecd l : Nat), .int .i64 (epl l : Nat)]) ∧ Row w' (.slice p (flds l).length c) (flds l) ∧ (∀ g, (Value.slice p (flds l).length c).ownBlock = some g → w.heap.size ≤ g) ∧ Below w.heap.size w w' := by
  unfold Told at h
  unfold flds ecd epl
  cases hp : parse l with
  | ok fs =>
    rw [hp] at h
    obtain ⟨hb, v, he, ho⟩ := h
    obtain ⟨p, c, hv⟩ := ho.len
    subst hv
    refine ⟨p, c, he, ?_, ?_, hb⟩
    · refine ⟨ho.1.1, ?_⟩
      rcases ho.1.2 with q | ⟨g, cap, cur, e1, e2, e3⟩
      · exact .inl q
      · exact .inr ⟨g, cap, cur, e1, Nat.zero_le _, e3⟩
    · intro g hg
      exact (World.ownsRow.lt ho.1 g hg).1
  | error x =>
    obtain ⟨ec, p⟩ := x
    rw [hp] at h
    exact ⟨none, 0, h.2, World.ownsRow_nil _ _ _ _, (fun g hg => by simp [Value.ownBlock] at hg), h.1⟩
/-- k lists of fields, each in a block of its own from b on, and the row of them. -/
structure Lst (b : Nat) (f : Nat → List Fl) (vs : Nat → Value) (k : Nat) (lv : Value) (w : World) : Prop where
  seq : Seq b 31 w lv ((List.range k).map vs)
  row : ∀ j, j < k → Row w (vs j) (f j)
  high : ∀ j, j < k → ∀ g, (vs j).ownBlock = some g → b ≤ g
  apart : ∀ i j, i < k → j < k → i ≠ j → ∀ g, (vs i).ownBlock = some g → (vs j).ownBlock ≠ some g
  room : b ≤ w.heap.size
variable {b k : Nat} {f : Nat → List Fl} {vs : Nat → Value} {lv : Value} {w w' : World}
theorem Lst.start (b : Nat) (f : Nat → List Fl) (vs : Nat → Value) (w : World) (h : b ≤ w.heap.size) : Lst b f vs 0 (.slice none 0 0) w :=
  ⟨Seq.nil _ _ _, fun j h => by omega, fun j h => by omega, fun i j h => by omega, h⟩
theorem Lst.below (h : Lst b f vs k lv w) (q : Below w.heap.size w w') : Lst b f vs k lv w' :=
  ⟨h.seq.below q, fun j hj => (h.row j hj).below q, h.high, h.apart, Nat.le_trans h.room q.size⟩
theorem Lst.push {p : Option Addr} {n c : Nat} {lv' : Value} (h : Lst b f vs k lv w) (hr : Row w (.slice p n c) (f k)) (hn : ∀ g, (Value.slice p n c).ownBlock = some g → b ≤ g ∧ ∀ j, j < k → (vs j).ownBlock ≠ some g)
    (hs : Seq b 31 w' lv' ((List.range k).map vs ++ [.slice p n c])) (hg : (w.alloc (.cells #[.slice p n c] 31)).grownBy w' lv.ownBlock) : Lst b f (fun j => if j = k then .slice p n c else vs j) (k + 1) lv' w' ∧ Below b w w' := by
  have hsz : (w.alloc (.cells #[.slice p n c] 31)).heap.size = w.heap.size + 1 := by simp
  have hst : ∀ i, i < w.heap.size → lv.ownBlock ≠ some i → w'.heap[i]? = w.heap[i]? := fun i hi hne => (hg.block i (by omega) (Ne.symm hne)).trans (Below.heap_alloc w _ i hi)
  have hal : ∀ {v : Value} {L : List Fl}, Row w v L → Row w' v L := fun {v L} hv => hv.keep (fun g e => hst g (hv.lt g e) (fun e2 => by
    obtain ⟨c1, h1⟩ := h.seq.kind g e2
    obtain ⟨c2, h2⟩ := hv.kind g e
    rw [h1] at h2
    simp at h2))
  refine ⟨⟨?_, ?_, ?_, ?_, ?_⟩, ?_⟩
  · have e : (List.range (k + 1)).map (fun j => if j = k then Value.slice p n c else vs j) = (List.range k).map vs ++ [.slice p n c] := by
      rw [List.range_succ, List.map_append]
      congr 1
      · apply List.map_congr_left
        intro j hj
        rw [if_neg (by have := List.mem_range.1 hj; omega)]
      · simp
    rw [e]
    exact hs
  · intro j hj
    by_cases e : j = k
    · subst e
      rw [if_pos rfl]
      exact hal hr
    · rw [if_neg e]
      exact hal (h.row j (by omega))
  · intro j hj
    by_cases e : j = k
    · rw [if_pos e]
      exact fun g hg => (hn g hg).1
    · rw [if_neg e]
      exact h.high j (by omega)
  · intro i j hi hj hne g e1
    by_cases ei : i = k
    · rw [if_pos ei] at e1
      rw [if_neg (by omega)]
      exact (hn g e1).2 j (by omega)
    · rw [if_neg ei] at e1
      by_cases ej : j = k
      · rw [if_pos ej]
        exact fun e2 => (hn g e2).2 i (by omega) e1
      · rw [if_neg ej]
        exact h.apart i j (by omega) (by omega) hne g e1
  · have := hg.size
    have := h.room
    omega
  · exact ((Below.refl b w).alloc h.room _).grown hg (by have := h.room; omega) (fun i e => h.seq.high i e)
/-- The lists as apart takes them. -/
theorem Lst.rows (h : Lst b f vs k lv w) {g cap : Nat} (hv : lv = .slice (some ⟨g, 0, none⟩) k cap) {B : Nat} (hB : B ≤ b) : Rows B g k vs w f := by
  have ho : lv.ownBlock = some g := by rw [hv]; rfl
  refine ⟨h.seq.kind g ho, Nat.le_trans hB (h.seq.high g ho), fun i hi => ?_, h.row, h.apart, fun i hi g' e => Nat.le_trans hB (h.high i hi g' e)⟩
  obtain ⟨g2, cap2, e1, e2⟩ := h.seq.at i (by simpa using hi)
  rw [hv] at e1
  obtain rfl : g = g2 := by simpa [Value.ownBlock] using (congrArg Value.ownBlock e1)
  rw [e2]
  simp [hi]
theorem Lst.at (h : Lst b f vs k lv w) {i : Nat} (hi : i < k) : ∃ g cap p c, lv = .slice (some ⟨g, 0, none⟩) k cap ∧ w.cell? ⟨g, i, none⟩ = some (.slice p (f i).length c) ∧ Fls w p (f i).length (f i) := by
  obtain ⟨g2, cap2, e1, e2⟩ := h.seq.at i (by simpa using hi)
  obtain ⟨p, c, e3, e4⟩ := (h.row i hi).fls
  refine ⟨g2, cap2, p, c, by simpa using e1, ?_, e4⟩
  rw [e2, ← e3]
  simp [hi]
end Go.Proofs.YtbmcaejbfjpmiaaDoor
