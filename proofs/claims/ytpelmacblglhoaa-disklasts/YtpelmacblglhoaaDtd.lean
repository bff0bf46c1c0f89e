import Derived.Test.YtpelmacblglhoaaDtc
namespace Go.Proofs.Ytpelmacblglhoaa
open Go.RowKit
set_option maxHeartbeats 4000000
set_option maxRecDepth 8000
/-- Nine texts in a block. -/
structure Arr (A : Nat) (l : List Bs) (w : World) : Prop where
  blk : w.heap[A]? = some (.cells (l.map S).toArray 62 (0, 0))
  len : l.length = 9
theorem Arr.lt {A : Nat} {l : List Bs} {w : World} (h : Arr A l w) : A < w.heap.size := lt_of_row h.blk
theorem Arr.at {A : Nat} {l : List Bs} {w : World} (h : Arr A l w) (k : Nat) (hk : k < 9) : w.cell? ⟨A, k, none⟩ = some (S (l.getD k [])) := by
  rw [cell_of_row w A k _ 62 (0, 0) h.blk]
  have : k < l.length := by rw [h.len]; exact hk
  simp [this]
theorem Arr.fz {A : Nat} {l : List Bs} {w : World} (h : Arr A l w) (k : Nat) : w.frozen? ⟨A, k, none⟩ = false := frz h.blk k
theorem Arr.set {A : Nat} {l : List Bs} {w : World} (h : Arr A l w) (k : Nat) (x : Bs) : Arr A (l.set k x) (w.setCell ⟨A, k, none⟩ (S x)) := by
  refine ⟨?_, by simp [h.len]⟩
  rw [heap_setCell_same w A k _ 62 _ h.blk]
  simp [List.map_set]
theorem Arr.only {P : Nat → Prop} {A : Nat} {l : List Bs} {w w' : World} (h : Arr A l w) (o : Only P w w') (hp : ¬ P A) : Arr A l w' := ⟨(o.block A h.lt hp).trans h.blk, h.len⟩
theorem Arr.below {A : Nat} {l : List Bs} {w w' : World} (h : Arr A l w) (b : Below w.heap.size w w') : Arr A l w' := ⟨(b.block A h.lt).trans h.blk, h.len⟩
theorem Arr.other {A : Nat} {l : List Bs} {w : World} (h : Arr A l w) (g k : Nat) (v : Value) (hg : g ≠ A) : Arr A l (w.setCell ⟨g, k, none⟩ v) := h.only (Only.setCell w ⟨g, k, none⟩ v) (fun q => hg q.symm)
/-- The disk and the law's two arrays. -/
structure Lst (w : World) (D A N : Nat) (d : Ds) (vw vl : Value) (la nw : List Bs) (W : World) : Prop where
  dat : DAt D d vw vl W
  a : Arr A la W
  n : Arr N nw W
  ne : A ≠ N
  new : ∀ k, Of D vw vl k → w.heap.size ≤ k
  ha : w.heap.size ≤ A
  hn : w.heap.size ≤ N
  bel : Below w.heap.size w W
variable {w W W' : World} {D A N : Nat} {d d' : Ds} {vw vw' vl : Value} {la nw : List Bs}
theorem Lst.nd (h : Lst w D A N d vw vl la nw W) {X : Nat} {l : List Bs} (hx : Arr X l W) : ¬ Of D vw vl X := by
  rintro (q | q | q)
  · have := h.dat.blk
    rw [← q, hx.blk] at this
    have := Option.some.inj this
    injection this with e1 e2 e3
    cases e2
  · obtain ⟨cs, r⟩ := owns_lt h.dat.ws X q
    rw [hx.blk] at r
    cases r
  · obtain ⟨cs, r⟩ := owns_lt h.dat.ls X q
    rw [hx.blk] at r
    cases r
theorem Lst.below (h : Lst w D A N d vw vl la nw W) (b : Below W.heap.size W W') : Lst w D A N d vw vl la nw W' :=
  ⟨h.dat.below b, h.a.below b, h.n.below b, h.ne, h.new, h.ha, h.hn, h.bel.trans (b.mono h.bel.size)⟩
/-- The disk did something. -/
theorem Lst.step (h : Lst w D A N d vw vl la nw W) {P : Nat → Prop} (hp : ∀ k, P k → Of D vw vl k) (h2 : DAt D d' vw' vl W') (o : Only P W W') (hv : ∀ k, vw'.ownBlock = some k → vw.ownBlock = some k ∨ W.heap.size ≤ k) : Lst w D A N d' vw' vl la nw W' := by
  refine ⟨h2, h.a.only o (fun q => h.nd h.a (hp _ q)), h.n.only o (fun q => h.nd h.n (hp _ q)), h.ne, ?_, h.ha, h.hn, o.below h.bel h.bel.size (fun k q => h.new k (hp k q))⟩
  rintro k (q | q | q)
  · exact h.new k (.inl q)
  · rcases hv k q with r | r
    · exact h.new k (.inr (.inl r))
    · exact Nat.le_trans h.bel.size r
  · exact h.new k (.inr (.inr q))
theorem Lst.setN (h : Lst w D A N d vw vl la nw W) (k : Nat) (x : Bs) : Lst w D A N d vw vl la (nw.set k x) (W.setCell ⟨N, k, none⟩ (S x)) :=
  ⟨h.dat.only (Only.setCell W ⟨N, k, none⟩ (S x)) (fun i hi q => h.nd h.n (by have q' : i = N := q; rw [← q']; exact hi)), h.a.other N k _ (fun q => h.ne q.symm), h.n.set k x, h.ne, h.new, h.ha, h.hn, h.bel.setCell (p := ⟨N, k, none⟩) h.hn _⟩
theorem Lst.setA (h : Lst w D A N d vw vl la nw W) (k : Nat) (x : Bs) : Lst w D A N d vw vl (la.set k x) nw (W.setCell ⟨A, k, none⟩ (S x)) :=
  ⟨h.dat.only (Only.setCell W ⟨A, k, none⟩ (S x)) (fun i hi q => h.nd h.a (by have q' : i = A := q; rw [← q']; exact hi)), h.a.set k x, h.n.other A k _ h.ne, h.ne, h.new, h.ha, h.hn, h.bel.setCell (p := ⟨A, k, none⟩) h.ha _⟩
/-- What the law's book says of a disk. -/
structure Lgc (acts : Nat) (d : Ds) (la nw : List Bs) : Prop where
  ok : Ok d
  ws : d.ws = pnd nw 9
  ls : d.last = la
  la9 : la.length = 9
  nw9 : nw.length = 9
  txt : ∀ m, nw.getD m [] = [] ∨ (nw.getD m []).length = 512
  acts : d.acts = acts
/-- It lives, and dies in its n-th act (0: never). -/
structure Alv (n acts : Nat) (d : Ds) : Prop where
  live : d.dead = false
  fuse : d.fuse = if n = 0 then 0 else (n : Int) - acts
  lt : n ≠ 0 → acts < n
theorem Lgc.die {acts : Nat} (h : Lgc acts d la nw) : Lgc acts { d with dead := true } la nw :=
  ⟨⟨h.ok.srt, h.ok.lt, h.ok.sz, h.ok.len, h.ok.fuse⟩, h.ws, h.ls, h.la9, h.nw9, h.txt, h.acts⟩
end Go.Proofs.Ytpelmacblglhoaa
