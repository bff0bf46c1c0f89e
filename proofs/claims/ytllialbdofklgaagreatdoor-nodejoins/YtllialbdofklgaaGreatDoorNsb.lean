import Derived.Test.YtllialbdofklgaaGreatDoorZrgsd
import Derived.Test.YtllialbdofklgaaGreatDoorNpg
import Derived.Test.YtllialbdofklgaaGreatDoorZnok
namespace Go.Proofs.YtllialbdofklgaaGreatDoor
open Go.RowKit
set_option maxHeartbeats 4000000
set_option maxRecDepth 8000
/-- Between two operations of the region that copies a node: base W2; a box and three rows come up. -/
structure Wp3 (W2 : World) (lf : Bool) (K V : List Bs) (Z : List Int) (c : Ch3) (L : Nat → Bool) (W : World) : Prop where
  bel : Below W2.heap.size W2 W
  k : L 4 = true → W.ownsRow 0 9 1 (Value.slice c.p1 K.length c.c1) K.length (K.map S) ∧ ∀ i, (Value.slice c.p1 K.length c.c1).ownBlock = some i → W2.heap.size ≤ i
  v : L 7 = true → W.ownsRow 0 9 1 (Value.slice c.p2 V.length c.c2) V.length (V.map S) ∧ ∀ i, (Value.slice c.p2 V.length c.c2).ownBlock = some i → W2.heap.size ≤ i
  z : L 10 = true → W.ownsRow 0 3 1 (Value.slice c.p3 Z.length c.c3) Z.length (Z.map fun z => I z) ∧ ∀ i, (Value.slice c.p3 Z.length c.c3).ownBlock = some i → W2.heap.size ≤ i
  ap : L 4 = true → L 7 = true → ∀ i, (Value.slice c.p1 K.length c.c1).ownBlock = some i → (Value.slice c.p2 V.length c.c2).ownBlock ≠ some i
  g : L 12 = true → W.heap[c.g1]? = some (.cells (if L 13 then #[.bool lf, (Value.slice c.p1 K.length c.c1), (Value.slice c.p2 V.length c.c2), (Value.slice c.p3 Z.length c.c3)] else zbox) 25 (0, 0)) ∧ W2.heap.size ≤ c.g1
  dd : L 11 = true → L 4 = true ∧ L 7 = true ∧ L 10 = true
  ff : L 13 = true → L 11 = true ∧ L 12 = true
section
variable {W2 W W' : World} {lf : Bool} {K V : List Bs} {Z : List Int} {c : Ch3} {L : Nat → Bool}
theorem Wp3.grow (h : Wp3 W2 lf K V Z c L W) (q : Below W.heap.size W W') : Wp3 W2 lf K V Z c L W' :=
  ⟨h.bel.trans (q.mono h.bel.size), fun r => ⟨owns_below (h.k r).1 q, (h.k r).2⟩, fun r => ⟨owns_below (h.v r).1 q, (h.v r).2⟩, fun r => ⟨owns_below (h.z r).1 q, (h.z r).2⟩, h.ap, fun r => ⟨(q.block _ (lt_of_row (h.g r).1)).trans (h.g r).1, (h.g r).2⟩, h.dd, h.ff⟩
theorem Wp3.pure (h : Wp3 W2 lf K V Z c L W) (i : Nat) (h1 : i ≠ 4) (h2 : i ≠ 7) (h3 : i ≠ 10) (h4 : i ≠ 12) (h5 : i ≠ 13) (h6 : i = 11 → L 4 = true ∧ L 7 = true ∧ L 10 = true) : Wp3 W2 lf K V Z c (upd L i) W := by
  refine ⟨h.bel, fun q => h.k (by rwa [upd_ne h1.symm] at q), fun q => h.v (by rwa [upd_ne h2.symm] at q), fun q => h.z (by rwa [upd_ne h3.symm] at q), fun q r => h.ap (by rwa [upd_ne h1.symm] at q) (by rwa [upd_ne h2.symm] at r), fun q => ?_, fun q => ?_, fun q => ?_⟩
  · rw [upd_ne h5.symm]; exact h.g (by rwa [upd_ne h4.symm] at q)
  · rw [upd_ne h1.symm, upd_ne h2.symm, upd_ne h3.symm]
    by_cases r : i = 11
    · exact h6 r
    · exact h.dd (by rwa [upd_ne (Ne.symm r)] at q)
  · have q2 := h.ff (by rwa [upd_ne h5.symm] at q)
    rw [upd_ne h4.symm]
    refine ⟨?_, q2.2⟩
    by_cases r : i = 11
    · rw [r]; exact upd_eq _ _
    · rw [upd_ne (Ne.symm r)]; exact q2.1
theorem Wp3.call1 (h : Wp3 W2 lf K V Z c L W) (ha : L 4 = false) {p : Option Addr} {cp : Nat} (hr : W'.ownsRow 0 9 1 (.slice p K.length cp) K.length (K.map S)) (ho : ∀ i, (Value.slice p K.length cp).ownBlock = some i → W.heap.size ≤ i) (q : Below W.heap.size W W') :
    L 11 = false ∧ L 13 = false ∧ Wp3 W2 lf K V Z { c with p1 := p, c1 := cp } (upd L 4) W' := by
  have hg := h.grow q
  have hd : L 11 = false := fls fun r => by rw [(h.dd r).1] at ha; cases ha
  have hf : L 13 = false := fls fun r => by rw [(h.ff r).1] at hd; cases hd
  refine ⟨hd, hf, hg.bel, fun _ => ⟨hr, fun i hi => Nat.le_trans h.bel.size (ho i hi)⟩, fun r => hg.v (by rwa [upd_ne (by decide)] at r), fun r => hg.z (by rwa [upd_ne (by decide)] at r), fun _ r i hi e => by have := ho i hi; have := owns_blk (h.v (by rwa [upd_ne (by decide)] at r)).1 i e; omega, fun r => ?_, fun r => ?_, fun r => ?_⟩
  · have := hg.g (by rwa [upd_ne (by decide)] at r)
    rw [hf] at this
    rw [upd_ne (by decide), hf]
    exact this
  · rw [upd_ne (by decide), hd] at r; cases r
  · rw [upd_ne (by decide), hf] at r; cases r
theorem Wp3.call2 (h : Wp3 W2 lf K V Z c L W) (ha : L 7 = false) {p : Option Addr} {cp : Nat} (hr : W'.ownsRow 0 9 1 (.slice p V.length cp) V.length (V.map S)) (ho : ∀ i, (Value.slice p V.length cp).ownBlock = some i → W.heap.size ≤ i) (q : Below W.heap.size W W') :
    L 11 = false ∧ L 13 = false ∧ Wp3 W2 lf K V Z { c with p2 := p, c2 := cp } (upd L 7) W' := by
  have hg := h.grow q
  have hd : L 11 = false := fls fun r => by rw [(h.dd r).2.1] at ha; cases ha
  have hf : L 13 = false := fls fun r => by rw [(h.ff r).1] at hd; cases hd
  refine ⟨hd, hf, hg.bel, fun r => hg.k (by rwa [upd_ne (by decide)] at r), fun _ => ⟨hr, fun i hi => Nat.le_trans h.bel.size (ho i hi)⟩, fun r => hg.z (by rwa [upd_ne (by decide)] at r), fun r _ i hi e => by have := ho i e; have := owns_blk (h.k (by rwa [upd_ne (by decide)] at r)).1 i hi; omega, fun r => ?_, fun r => ?_, fun r => ?_⟩
  · have := hg.g (by rwa [upd_ne (by decide)] at r)
    rw [hf] at this
    rw [upd_ne (by decide), hf]
    exact this
  · rw [upd_ne (by decide), hd] at r; cases r
  · rw [upd_ne (by decide), hf] at r; cases r
theorem Wp3.call3 (h : Wp3 W2 lf K V Z c L W) (ha : L 10 = false) {p : Option Addr} {cp : Nat} (hr : W'.ownsRow 0 3 1 (.slice p Z.length cp) Z.length (Z.map fun z => I z)) (ho : ∀ i, (Value.slice p Z.length cp).ownBlock = some i → W.heap.size ≤ i) (q : Below W.heap.size W W') :
    L 11 = false ∧ L 13 = false ∧ Wp3 W2 lf K V Z { c with p3 := p, c3 := cp } (upd L 10) W' := by
  have hg := h.grow q
  have hd : L 11 = false := fls fun r => by rw [(h.dd r).2.2] at ha; cases ha
  have hf : L 13 = false := fls fun r => by rw [(h.ff r).1] at hd; cases hd
  refine ⟨hd, hf, hg.bel, fun r => hg.k (by rwa [upd_ne (by decide)] at r), fun r => hg.v (by rwa [upd_ne (by decide)] at r), fun _ => ⟨hr, fun i hi => Nat.le_trans h.bel.size (ho i hi)⟩, fun r s => h.ap (by rwa [upd_ne (by decide)] at r) (by rwa [upd_ne (by decide)] at s), fun r => ?_, fun r => ?_, fun r => ?_⟩
  · have := hg.g (by rwa [upd_ne (by decide)] at r)
    rw [hf] at this
    rw [upd_ne (by decide), hf]
    exact this
  · rw [upd_ne (by decide), hd] at r; cases r
  · rw [upd_ne (by decide), hf] at r; cases r
theorem Wp3.box (h : Wp3 W2 lf K V Z c L W) (he : L 12 = false) :
    L 13 = false ∧ Wp3 W2 lf K V Z { c with g1 := W.heap.size } (upd L 12) (W.alloc (.cells zbox 25)) := by
  have hg := h.grow ((Below.refl W.heap.size W).alloc (Nat.le_refl _) (.cells zbox 25))
  have hf : L 13 = false := fls fun r => by rw [(h.ff r).2] at he; cases he
  refine ⟨hf, hg.bel, fun r => hg.k (by rwa [upd_ne (by decide)] at r), fun r => hg.v (by rwa [upd_ne (by decide)] at r), fun r => hg.z (by rwa [upd_ne (by decide)] at r), fun r s => h.ap (by rwa [upd_ne (by decide)] at r) (by rwa [upd_ne (by decide)] at s), fun _ => ⟨?_, h.bel.size⟩, fun r => ?_, fun r => ?_⟩
  · rw [upd_ne (by decide), hf]
    exact heap_alloc_new _ _
  · rw [upd_ne (by decide), upd_ne (by decide), upd_ne (by decide)]; exact h.dd (by rwa [upd_ne (by decide)] at r)
  · rw [upd_ne (by decide), hf] at r; cases r
theorem Wp3.store (h : Wp3 W2 lf K V Z c L W) (hf : L 13 = false) (hd : L 11 = true) (he : L 12 = true) :
    Wp3 W2 lf K V Z c (upd L 13) ((((W.setCell ⟨c.g1, 0, none⟩ (.bool lf)).setCell ⟨c.g1, 1, none⟩ (Value.slice c.p1 K.length c.c1)).setCell ⟨c.g1, 2, none⟩ (Value.slice c.p2 V.length c.c2)).setCell ⟨c.g1, 3, none⟩ (Value.slice c.p3 Z.length c.c3)) ∧ W.heap[c.g1]? = some (.cells zbox 25 (0, 0)) := by
  obtain ⟨g1, g2⟩ := h.g he
  rw [hf] at g1
  have o := set4_only W c.g1 (.bool lf) (Value.slice c.p1 K.length c.c1) (Value.slice c.p2 V.length c.c2) (Value.slice c.p3 Z.length c.c3)
  have r4 := set4 g1 rfl (.bool lf) (Value.slice c.p1 K.length c.c1) (Value.slice c.p2 V.length c.c2) (Value.slice c.p3 Z.length c.c3)
  refine ⟨⟨o.below h.bel h.bel.size (fun k q => by rw [q]; exact g2), fun r => ?_, fun r => ?_, fun r => ?_, fun r s => h.ap (by rwa [upd_ne (by decide)] at r) (by rwa [upd_ne (by decide)] at s), fun _ => ⟨?_, g2⟩, fun _ => ?_, fun _ => ?_⟩, g1⟩
  · rw [upd_ne (by decide)] at r
    exact ⟨owns_only (h.k r).1 o (fun i hi q => not_T g1 (h.k r).1 (by decide) i hi q), (h.k r).2⟩
  · rw [upd_ne (by decide)] at r
    exact ⟨owns_only (h.v r).1 o (fun i hi q => not_T g1 (h.v r).1 (by decide) i hi q), (h.v r).2⟩
  · rw [upd_ne (by decide)] at r
    exact ⟨owns_only (h.z r).1 o (fun i hi q => not_T g1 (h.z r).1 (by decide) i hi q), (h.z r).2⟩
  · rw [upd_eq, if_pos rfl]; exact r4
  · rw [upd_ne (by decide), upd_ne (by decide), upd_ne (by decide)]; exact h.dd hd
  · rw [upd_ne (by decide), upd_ne (by decide)]; exact ⟨hd, he⟩
/-- All has come up. -/
theorem Wp3.ot (h : Wp3 W2 lf K V Z c L W) (hall : ∀ i, i < 14 → L i = true) : Ot W2 c.g1 lf K V Z (Value.slice c.p1 K.length c.c1) (Value.slice c.p2 V.length c.c2) (Value.slice c.p3 Z.length c.c3) W := by
  have h4 := h.k (hall 4 (by decide))
  have h7 := h.v (hall 7 (by decide))
  have h10 := h.z (hall 10 (by decide))
  obtain ⟨g1, g2⟩ := h.g (hall 12 (by decide))
  rw [hall 13 (by decide), if_pos rfl] at g1
  exact ⟨g1, h4.1, h7.1, h10.1, h.bel, g2, h4.2, h7.2, h10.2, h.ap (hall 4 (by decide)) (hall 7 (by decide))⟩
end
end Go.Proofs.YtllialbdofklgaaGreatDoor
