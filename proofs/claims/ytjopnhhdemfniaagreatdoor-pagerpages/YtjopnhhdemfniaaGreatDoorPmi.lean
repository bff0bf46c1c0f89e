import Derived.Test.YtjopnhhdemfniaaGreatDoorPmh
namespace Go.Proofs.YtjopnhhdemfniaaGreatDoor
open Go.RowKit
set_option maxHeartbeats 8000000
set_option maxRecDepth 8000
/-- What stands while lists are grown. -/
structure SG (w0 : World) (B b N : Nat) (v : Nat → Value) (n : Nat → Nat) (vL vG vH : Value) (G : List Value) (H : List Nat) (tag : Tgs) (used : Nat → Nat) (lo : Nat) (W : World) : Prop where
  blk : W.heap[b]? = some (.cells #[.slice none 0 0, .slice none 0 0, vL, vG, vH] 32 (0, 0))
  l : W.ownsRow 0 22 1 vL N ((List.range N).map v)
  g : W.ownsRow 0 22 1 vG G.length G
  h : W.ownsRow 0 3 1 vH H.length (H.map fun i : Nat => I (i : Int))
  lg : ∀ k, vL.ownBlock = some k → vG.ownBlock ≠ some k
  ht : ∀ k, vH.ownBlock = some k → tag k = none
  mg : MG tag used W
  vw : ∀ m, m < N → Vw tag used (v m) (n m) m
  gw : ∀ t, t < H.length → ∃ len, len ≤ 100000 ∧ Vw tag used (G.getD t undef) len (H.getD t 0)
  ow : ∀ m, lo ≤ m → m < N → W.ownsRow 0 3 1 (v m) (n m) (List.replicate (n m) (I (mk9 m))) ∧ ∀ k, (v m).ownBlock = some k → tag k = some m ∧ used k = n m
  few : ∀ m, n m ≤ 1000
  bB : B ≤ b ∧ B ≤ W.heap.size
  bl : ∀ k, vL.ownBlock = some k → B ≤ k
  bg : ∀ k, vG.ownBlock = some k → B ≤ k
  bh : ∀ k, vH.ownBlock = some k → B ≤ k
  bt : ∀ k i, tag k = some i → B ≤ k
  bel : Below B w0 W
variable {w0 : World} {B b N : Nat} {v : Nat → Value} {n : Nat → Nat} {vL vG vH : Value} {G : List Value} {H : List Nat} {tag : Tgs} {used : Nat → Nat} {lo : Nat} {W W' : World}
theorem SG.b0 (h : SG w0 B b N v n vL vG vH G H tag used lo W) : tag b = none := by
  cases q : tag b with
  | none => rfl
  | some i =>
    obtain ⟨cs, e, _⟩ := h.mg.row b i q
    rw [h.blk] at e
    cases e
theorem SG.t22 (h : SG w0 B b N v n vL vG vH G H tag used lo W) {u : Value} {m : Nat} {xs : List Value} (hu : W.ownsRow 0 22 1 u m xs) : ∀ k, u.ownBlock = some k → tag k = none := fun k hk => by
  cases q : tag k with
  | none => rfl
  | some i =>
    obtain ⟨cs, e, _⟩ := h.mg.row k i q
    obtain ⟨cs2, e2⟩ := owns_lt hu k hk
    rw [e2] at e
    cases e
theorem SG.below (h : SG w0 B b N v n vL vG vH G H tag used lo W) (q : Below W.heap.size W W') : SG w0 B b N v n vL vG vH G H tag used lo W' :=
  ⟨(q.block _ (lt_of_row h.blk)).trans h.blk, owns_below h.l q, owns_below h.g q, owns_below h.h q, h.lg, h.ht, h.mg.below q, h.vw, h.gw, fun m h1 h2 => ⟨owns_below (h.ow m h1 h2).1 q, (h.ow m h1 h2).2⟩, h.few, ⟨h.bB.1, Nat.le_trans h.bB.2 q.size⟩, h.bl, h.bg, h.bh, h.bt, h.bel.trans (q.mono h.bB.2)⟩
theorem SG.take (h : SG w0 B b N v n vL vG vH G H tag used lo W) : SG w0 B b N v n vL vG vH G H tag used (lo + 1) W :=
  ⟨h.blk, h.l, h.g, h.h, h.lg, h.ht, h.mg, h.vw, h.gw, fun m h1 h2 => h.ow m (by omega) h2, h.few, h.bB, h.bl, h.bg, h.bh, h.bt, h.bel⟩
theorem SG.grow (h : SG w0 B b N v n vL vG vH G H tag used lo W) {x x' : Value} {i len : Nat} (hi : i < lo) (hxt : ∀ k, x.ownBlock = some k → tag k = some i ∧ used k = len) (hg : Gr 3 1 x len W W') (ho : W'.ownsRow 0 3 1 x' (len + 1) (List.replicate (len + 1) (I (mk9 i)))) (hn : ∀ k, x'.ownBlock = some k → x.ownBlock = some k ∨ W.heap.size ≤ k) :
    SG w0 B b N v n vL vG vH G H (tgx tag x' i) (usx used x' (len + 1)) lo W' ∧ ∀ k, x'.ownBlock = some k → tgx tag x' i k = some i ∧ usx used x' (len + 1) k = len + 1 := by
  have o := hg.only
  have ex := grow_ext h.mg hxt hn
  have hxn : ∀ k, tag k = none → ¬ x.ownBlock = some k := fun k hk e => by rw [(hxt k e).1] at hk; cases hk
  have hx'n : ∀ k, k < W.heap.size → tag k ≠ some i → ¬ x'.ownBlock = some k := fun k hk ht e => by
    rcases hn k e with q | q
    · exact ht (hxt k q).1
    · omega
  refine ⟨⟨(o.block b (lt_of_row h.blk) (hxn b h.b0)).trans h.blk, owns_only h.l o (fun k hk => hxn k (h.t22 h.l k hk)), owns_only h.g o (fun k hk => hxn k (h.t22 h.g k hk)), owns_only h.h o (fun k hk => hxn k (h.ht k hk)), h.lg, ?_, grow_mg h.mg hg hxt ho, fun m hm => (h.vw m hm).ext ex, fun t ht => ?_, fun m h1 h2 => ⟨owns_only (h.ow m h1 h2).1 o (fun k hk e => ?_), fun k hk => ?_⟩, h.few, ⟨h.bB.1, Nat.le_trans h.bB.2 o.size⟩, h.bl, h.bg, h.bh, fun k i' hk => ?_, ?_⟩, fun k hk => ?_⟩
  · intro k hk
    unfold tgx
    rw [if_neg (hx'n k (owns_blk h.h k hk) (by rw [h.ht k hk]; simp))]
    exact h.ht k hk
  · obtain ⟨ln, h1, h2⟩ := h.gw t ht
    exact ⟨ln, h1, h2.ext ex⟩
  · have q1 := (h.ow m h1 h2).2 k hk
    have q2 := hxt k e
    rw [q1.1] at q2
    have := Option.some.inj q2.1
    omega
  · have q1 := (h.ow m h1 h2).2 k hk
    have hb := owns_blk (h.ow m h1 h2).1 k hk
    have hne := hx'n k hb (by rw [q1.1]; intro q; have := Option.some.inj q; omega)
    unfold tgx usx
    rw [if_neg hne, if_neg hne]
    exact q1
  · unfold tgx at hk
    by_cases hc : x'.ownBlock = some k
    · rcases hn k hc with q | q
      · exact h.bt k i (hxt k q).1
      · exact Nat.le_trans h.bB.2 q
    · rw [if_neg hc] at hk
      exact h.bt k i' hk
  · exact o.below h.bel h.bB.2 (fun k hk => h.bt k i (hxt k hk).1)
  · unfold tgx usx
    rw [if_pos hk, if_pos hk]
    exact ⟨rfl, rfl⟩
theorem SG.pushG (h : SG w0 B b N v n vL vG vH G H tag used lo W) {x vG' : Value} {w1 : World} (hr : w1.ownsRow 0 22 1 vG' (G.length + 1) (G ++ [x])) (o : Only (fun k => vG.ownBlock = some k) W w1) (hn : ∀ k, vG'.ownBlock = some k → vG.ownBlock = some k ∨ W.heap.size ≤ k) (hH : H.length ≤ G.length) :
    w1.heap[b]? = some (.cells #[.slice none 0 0, .slice none 0 0, vL, vG, vH] 32 (0, 0)) ∧ SG w0 B b N v n vL vG' vH (G ++ [x]) H tag used lo (w1.setCell ⟨b, 3, none⟩ vG') := by
  have h0 := h.t22 h.g
  have hb1 : w1.heap[b]? = some (.cells #[.slice none 0 0, .slice none 0 0, vL, vG, vH] 32 (0, 0)) := (o.block b (lt_of_row h.blk) (fun e => by
    obtain ⟨cs, q⟩ := owns_lt h.g b e
    rw [h.blk] at q
    cases q)).trans h.blk
  have o2 := Only.setCell w1 ⟨b, 3, none⟩ vG'
  have oo : Only (fun k => vG.ownBlock = some k ∨ k = b) W (w1.setCell ⟨b, 3, none⟩ vG') := (o.mono (fun k _ q => .inl q)).trans o2 (fun k _ q => .inr q)
  have nb : ∀ {e m : Nat} {u : Value} {xs : List Value}, W.ownsRow 0 e 1 u m xs → e ≠ 32 → ∀ k, u.ownBlock = some k → ¬ k = b := fun hu he k hk e' => by
    obtain ⟨cs, q⟩ := owns_lt hu k hk
    rw [e', h.blk] at q
    cases q
    exact he rfl
  have n3 : ∀ {m : Nat} {u : Value} {xs : List Value}, W.ownsRow 0 3 1 u m xs → ∀ k, u.ownBlock = some k → ¬ (vG.ownBlock = some k ∨ k = b) := fun hu k hk e' => by
    rcases e' with q | q
    · obtain ⟨cs, q1⟩ := owns_lt hu k hk
      obtain ⟨cs2, q2⟩ := owns_lt h.g k q
      rw [q1] at q2
      cases q2
    · exact nb hu (by decide) k hk q
  refine ⟨hb1, ⟨heap_setCell_same w1 b 3 _ 32 _ hb1, owns_only h.l oo (fun k hk e => e.elim (fun q => h.lg k hk q) (nb h.l (by decide) k hk)), ?_, owns_only h.h oo (n3 h.h), fun k hk e => ?_, h.ht, h.mg.only oo (fun k q => q.elim (h0 k) (fun e => by rw [e]; exact h.b0)), h.vw, fun t ht => ?_, fun m h1 h2 => ⟨owns_only (h.ow m h1 h2).1 oo (n3 (h.ow m h1 h2).1), (h.ow m h1 h2).2⟩, h.few, ⟨h.bB.1, Nat.le_trans h.bB.2 oo.size⟩, h.bl, fun k hk => ?_, h.bh, h.bt, ?_⟩⟩
  · rw [List.length_append, List.length_singleton]
    exact owns_only hr o2 (fun k hk e => by
      obtain ⟨cs, q⟩ := owns_lt hr k hk
      rw [show k = b from e, hb1] at q
      cases q)
  · rcases hn k e with q | q
    · exact h.lg k hk q
    · have := owns_blk h.l k hk
      omega
  · obtain ⟨ln, h1, h2⟩ := h.gw t ht
    refine ⟨ln, h1, ?_⟩
    rw [show (G ++ [x]).getD t undef = G.getD t undef by rw [List.getD_eq_getElem?_getD, List.getElem?_append_left (by omega), List.getD_eq_getElem?_getD]]
    exact h2
  · rcases hn k hk with q | q
    · exact h.bg k q
    · exact Nat.le_trans h.bB.2 q
  · exact oo.below h.bel h.bB.2 (fun k hk => hk.elim (h.bg k) (fun e => by rw [e]; exact h.bB.1))
theorem SG.pushH (h : SG w0 B b N v n vL vG vH G H tag used lo W) {i len : Nat} {vH' : Value} {w1 : World} (hr : w1.ownsRow 0 3 1 vH' (H.length + 1) ((H.map fun i : Nat => I (i : Int)) ++ [I (i : Int)])) (o : Only (fun k => vH.ownBlock = some k) W w1) (hn : ∀ k, vH'.ownBlock = some k → vH.ownBlock = some k ∨ W.heap.size ≤ k) (hl : len ≤ 100000) (hv : Vw tag used (G.getD H.length undef) len i) :
    w1.heap[b]? = some (.cells #[.slice none 0 0, .slice none 0 0, vL, vG, vH] 32 (0, 0)) ∧ SG w0 B b N v n vL vG vH' G (H ++ [i]) tag used lo (w1.setCell ⟨b, 4, none⟩ vH') := by
  have hb1 : w1.heap[b]? = some (.cells #[.slice none 0 0, .slice none 0 0, vL, vG, vH] 32 (0, 0)) := (o.block b (lt_of_row h.blk) (fun e => by
    obtain ⟨cs, q⟩ := owns_lt h.h b e
    rw [h.blk] at q
    cases q)).trans h.blk
  have o2 := Only.setCell w1 ⟨b, 4, none⟩ vH'
  have oo : Only (fun k => vH.ownBlock = some k ∨ k = b) W (w1.setCell ⟨b, 4, none⟩ vH') := (o.mono (fun k _ q => .inl q)).trans o2 (fun k _ q => .inr q)
  have nb : ∀ {e m : Nat} {u : Value} {xs : List Value}, W.ownsRow 0 e 1 u m xs → e ≠ 32 → ∀ k, u.ownBlock = some k → ¬ k = b := fun hu he k hk e' => by
    obtain ⟨cs, q⟩ := owns_lt hu k hk
    rw [e', h.blk] at q
    cases q
    exact he rfl
  have n22 : ∀ {m : Nat} {u : Value} {xs : List Value}, W.ownsRow 0 22 1 u m xs → ∀ k, u.ownBlock = some k → ¬ (vH.ownBlock = some k ∨ k = b) := fun hu k hk e' => by
    rcases e' with q | q
    · obtain ⟨cs, q1⟩ := owns_lt hu k hk
      obtain ⟨cs2, q2⟩ := owns_lt h.h k q
      rw [q1] at q2
      cases q2
    · exact nb hu (by decide) k hk q
  refine ⟨hb1, ⟨heap_setCell_same w1 b 4 _ 32 _ hb1, owns_only h.l oo (n22 h.l), owns_only h.g oo (n22 h.g), ?_, h.lg, fun k hk => ?_, h.mg.only oo (fun k q => q.elim (h.ht k) (fun e => by rw [e]; exact h.b0)), h.vw, fun t ht => ?_, fun m h1 h2 => ⟨owns_only (h.ow m h1 h2).1 oo (fun k hk e => ?_), (h.ow m h1 h2).2⟩, h.few, ⟨h.bB.1, Nat.le_trans h.bB.2 oo.size⟩, h.bl, h.bg, fun k hk => ?_, h.bt, ?_⟩⟩
  · rw [List.length_append, List.length_singleton, List.map_append]
    exact owns_only hr o2 (fun k hk e => by
      obtain ⟨cs, q⟩ := owns_lt hr k hk
      rw [show k = b from e, hb1] at q
      cases q)
  · rcases hn k hk with q | q
    · exact h.ht k q
    · cases e : tag k with
      | none => rfl
      | some i' => have := h.mg.lt e; omega
  · rw [List.length_append, List.length_singleton] at ht
    by_cases hc : t < H.length
    · obtain ⟨ln, h1, h2⟩ := h.gw t hc
      refine ⟨ln, h1, ?_⟩
      rw [show (H ++ [i]).getD t 0 = H.getD t 0 by rw [List.getD_eq_getElem?_getD, List.getElem?_append_left hc, List.getD_eq_getElem?_getD]]
      exact h2
    · obtain rfl : t = H.length := by omega
      refine ⟨len, hl, ?_⟩
      rw [show (H ++ [i]).getD H.length 0 = i by simp]
      exact hv
  · rcases e with q | q
    · have q1 := (h.ow m h1 h2).2 k hk
      rw [h.ht k q] at q1
      cases q1.1
    · exact nb (h.ow m h1 h2).1 (by decide) k hk q
  · rcases hn k hk with q | q
    · exact h.bh k q
    · exact Nat.le_trans h.bB.2 q
  · exact oo.below h.bel h.bB.2 (fun k hk => hk.elim (h.bh k) (fun e => by rw [e]; exact h.bB.1))
end Go.Proofs.YtjopnhhdemfniaaGreatDoor
