import Derived.Test.YtllialbdofklgaaGreatDoorZrgcq
import Derived.Test.YtllialbdofklgaaGreatDoorNpf
namespace Go.Proofs.YtllialbdofklgaaGreatDoor
open Go.RowKit
set_option maxHeartbeats 16000000
set_option maxRecDepth 8000
abbrev zbox : Array Value := #[.bool false, .slice none 0 0, .slice none 0 0, .slice none 0 0]
/-- Between two operations of a region of parts: base W2; a box and two rows come up. -/
structure Wpt (a b d e f : Nat) (W2 : World) (e2 m1 m2 : Nat) (xs1 xs2 : List Value) (mk : Value → Value → Array Value) (c : Ch3) (L : Nat → Bool) (W : World) : Prop where
  bel : Below W2.heap.size W2 W
  k : L a = true → W.ownsRow 0 9 1 (.slice c.p1 m1 c.c1) m1 xs1 ∧ ∀ i, (Value.slice c.p1 m1 c.c1).ownBlock = some i → W2.heap.size ≤ i
  v : L b = true → W.ownsRow 0 e2 1 (.slice c.p2 m2 c.c2) m2 xs2 ∧ ∀ i, (Value.slice c.p2 m2 c.c2).ownBlock = some i → W2.heap.size ≤ i
  g : L e = true → W.heap[c.g1]? = some (.cells (if L f then mk (.slice c.p1 m1 c.c1) (.slice c.p2 m2 c.c2) else zbox) 25 (0, 0)) ∧ W2.heap.size ≤ c.g1
  dd : L d = true → L a = true ∧ L b = true
  ff : L f = true → L d = true ∧ L e = true
variable {a b d e f : Nat} {W2 W W' : World} {e2 m1 m2 : Nat} {xs1 xs2 : List Value} {mk : Value → Value → Array Value} {c : Ch3} {L : Nat → Bool}
theorem Wpt.grow (h : Wpt a b d e f W2 e2 m1 m2 xs1 xs2 mk c L W) (q : Below W.heap.size W W') : Wpt a b d e f W2 e2 m1 m2 xs1 xs2 mk c L W' :=
  ⟨h.bel.trans (q.mono h.bel.size), fun r => ⟨owns_below (h.k r).1 q, (h.k r).2⟩, fun r => ⟨owns_below (h.v r).1 q, (h.v r).2⟩, fun r => ⟨(q.block _ (lt_of_row (h.g r).1)).trans (h.g r).1, (h.g r).2⟩, h.dd, h.ff⟩
theorem Wpt.pure (h : Wpt a b d e f W2 e2 m1 m2 xs1 xs2 mk c L W) (i : Nat) (h1 : i ≠ a) (h2 : i ≠ b) (h3 : i ≠ e) (h4 : i ≠ f) (h5 : i = d → L a = true ∧ L b = true) : Wpt a b d e f W2 e2 m1 m2 xs1 xs2 mk c (upd L i) W := by
  refine ⟨h.bel, fun q => h.k (by rwa [upd_ne h1.symm] at q), fun q => h.v (by rwa [upd_ne h2.symm] at q), fun q => ?_, fun q => ?_, fun q => ?_⟩
  · rw [upd_ne h4.symm]; exact h.g (by rwa [upd_ne h3.symm] at q)
  · rw [upd_ne h1.symm, upd_ne h2.symm]
    by_cases r : i = d
    · exact h5 r
    · exact h.dd (by rwa [upd_ne (Ne.symm r)] at q)
  · have q2 := h.ff (by rwa [upd_ne h4.symm] at q)
    rw [upd_ne h3.symm]
    refine ⟨?_, q2.2⟩
    by_cases r : i = d
    · rw [r]; exact upd_eq _ _
    · rw [upd_ne (Ne.symm r)]; exact q2.1
theorem Wpt.call1 (h : Wpt a b d e f W2 e2 m1 m2 xs1 xs2 mk c L W) (ha : L a = false) (nb : a ≠ b) (nd : a ≠ d) (ne : a ≠ e) (nf : a ≠ f) {p : Option Addr} {cp : Nat} (hr : W'.ownsRow 0 9 1 (.slice p m1 cp) m1 xs1) (ho : ∀ i, (Value.slice p m1 cp).ownBlock = some i → W.heap.size ≤ i) (q : Below W.heap.size W W') :
    L d = false ∧ L f = false ∧ Wpt a b d e f W2 e2 m1 m2 xs1 xs2 mk { c with p1 := p, c1 := cp } (upd L a) W' := by
  have hg := h.grow q
  have hd : L d = false := fls fun r => by rw [(h.dd r).1] at ha; cases ha
  have hf : L f = false := fls fun r => by rw [(h.ff r).1] at hd; cases hd
  refine ⟨hd, hf, hg.bel, fun _ => ⟨hr, fun i hi => Nat.le_trans h.bel.size (ho i hi)⟩, fun r => hg.v (by rwa [upd_ne nb.symm] at r), fun r => ?_, fun r => ?_, fun r => ?_⟩
  · have := hg.g (by rwa [upd_ne ne.symm] at r)
    rw [hf] at this
    rw [upd_ne nf.symm, hf]
    exact this
  · rw [upd_ne nd.symm, hd] at r; cases r
  · rw [upd_ne nf.symm, hf] at r; cases r
theorem Wpt.call2 (h : Wpt a b d e f W2 e2 m1 m2 xs1 xs2 mk c L W) (hb : L b = false) (na : b ≠ a) (nd : b ≠ d) (ne : b ≠ e) (nf : b ≠ f) {p : Option Addr} {cp : Nat} (hr : W'.ownsRow 0 e2 1 (.slice p m2 cp) m2 xs2) (ho : ∀ i, (Value.slice p m2 cp).ownBlock = some i → W.heap.size ≤ i) (q : Below W.heap.size W W') :
    L d = false ∧ L f = false ∧ Wpt a b d e f W2 e2 m1 m2 xs1 xs2 mk { c with p2 := p, c2 := cp } (upd L b) W' := by
  have hg := h.grow q
  have hd : L d = false := fls fun r => by rw [(h.dd r).2] at hb; cases hb
  have hf : L f = false := fls fun r => by rw [(h.ff r).1] at hd; cases hd
  refine ⟨hd, hf, hg.bel, fun r => hg.k (by rwa [upd_ne na.symm] at r), fun _ => ⟨hr, fun i hi => Nat.le_trans h.bel.size (ho i hi)⟩, fun r => ?_, fun r => ?_, fun r => ?_⟩
  · have := hg.g (by rwa [upd_ne ne.symm] at r)
    rw [hf] at this
    rw [upd_ne nf.symm, hf]
    exact this
  · rw [upd_ne nd.symm, hd] at r; cases r
  · rw [upd_ne nf.symm, hf] at r; cases r
theorem Wpt.box (h : Wpt a b d e f W2 e2 m1 m2 xs1 xs2 mk c L W) (he : L e = false) (na : e ≠ a) (nb : e ≠ b) (nd : e ≠ d) (nf : e ≠ f) :
    L f = false ∧ Wpt a b d e f W2 e2 m1 m2 xs1 xs2 mk { c with g1 := W.heap.size } (upd L e) (W.alloc (.cells zbox 25)) := by
  have hg := h.grow ((Below.refl W.heap.size W).alloc (Nat.le_refl _) (.cells zbox 25))
  have hf : L f = false := fls fun r => by rw [(h.ff r).2] at he; cases he
  refine ⟨hf, hg.bel, fun r => hg.k (by rwa [upd_ne na.symm] at r), fun r => hg.v (by rwa [upd_ne nb.symm] at r), fun _ => ⟨?_, h.bel.size⟩, fun r => ?_, fun r => ?_⟩
  · rw [upd_ne nf.symm, hf]
    exact heap_alloc_new _ _
  · rw [upd_ne na.symm, upd_ne nb.symm]; exact h.dd (by rwa [upd_ne nd.symm] at r)
  · rw [upd_ne nf.symm, hf] at r; cases r
theorem Wpt.store (h : Wpt a b d e f W2 e2 m1 m2 xs1 xs2 mk c L W) (hf : L f = false) (hd : L d = true) (he : L e = true) (na : f ≠ a) (nb : f ≠ b) (nd : f ≠ d) (ne : f ≠ e) (h25 : e2 ≠ 25) (x0 x1 x2 x3 : Value) (hm : mk (.slice c.p1 m1 c.c1) (.slice c.p2 m2 c.c2) = #[x0, x1, x2, x3]) :
    Wpt a b d e f W2 e2 m1 m2 xs1 xs2 mk c (upd L f) ((((W.setCell ⟨c.g1, 0, none⟩ x0).setCell ⟨c.g1, 1, none⟩ x1).setCell ⟨c.g1, 2, none⟩ x2).setCell ⟨c.g1, 3, none⟩ x3) ∧ W.heap[c.g1]? = some (.cells zbox 25 (0, 0)) := by
  obtain ⟨g1, g2⟩ := h.g he
  rw [hf] at g1
  have o := set4_only W c.g1 x0 x1 x2 x3
  have r4 := set4 g1 rfl x0 x1 x2 x3
  refine ⟨⟨o.below h.bel h.bel.size (fun k q => by rw [q]; exact g2), fun r => ?_, fun r => ?_, fun _ => ⟨?_, g2⟩, fun _ => ?_, fun _ => ?_⟩, g1⟩
  · rw [upd_ne na.symm] at r
    exact ⟨owns_only (h.k r).1 o (fun i hi q => not_T g1 (h.k r).1 (by decide) i hi q), (h.k r).2⟩
  · rw [upd_ne nb.symm] at r
    exact ⟨owns_only (h.v r).1 o (fun i hi q => not_T g1 (h.v r).1 h25 i hi q), (h.v r).2⟩
  · rw [upd_eq, if_pos rfl, hm]; exact r4
  · rw [upd_ne na.symm, upd_ne nb.symm]; exact h.dd hd
  · rw [upd_ne nd.symm, upd_ne ne.symm]; exact ⟨hd, he⟩
end Go.Proofs.YtllialbdofklgaaGreatDoor
