import Derived.Test.YtknlafgaagimjaaDoorFou
namespace Go.Proofs.YtknlafgaagimjaaDoor
open Go.RowKit Go.Lib
/-- The views laid so far, the list x of round i that grows, and the lists still to come (m j: how many marks the j-th has). -/
structure Vst (B G n : Nat) (vs : Nat → Value) (m : Nat → Nat) (lo i : Nat) (V : List View) (x : Value) (len : Nat) (w : World) : Prop where
  build ::
  kind : ∃ cur, w.heap[G]? = some (.cells cur 24 (0, 0))
  high : B ≤ G
  cell : ∀ j, j < n → w.cell? ⟨G, j, none⟩ = some (vs j)
  row : ∀ j, lo ≤ j → j < n → Row w (vs j) (List.replicate (m j) (mk j))
  apart : ∀ j k, lo ≤ j → lo ≤ k → j < n → k < n → j ≠ k → ∀ g, (vs j).ownBlock = some g → (vs k).ownBlock ≠ some g
  above : ∀ j, lo ≤ j → j < n → ∀ g, (vs j).ownBlock = some g → B ≤ g
  xrow : Row w x (List.replicate len (mk i))
  xapart : ∀ j, lo ≤ j → j < n → ∀ g, x.ownBlock = some g → (vs j).ownBlock ≠ some g
  xabove : ∀ g, x.ownBlock = some g → B ≤ g
  good : ∀ v ∈ V, v.good w
  flat : ∀ v ∈ V, ∀ p, v.p = some p → ∃ g cur, p = ⟨g, 0, none⟩ ∧ w.heap[g]? = some (.cells cur 9 (0, 0))
  vapart : ∀ v ∈ V, ∀ g, v.p = some ⟨g, 0, none⟩ → ∀ j, lo ≤ j → j < n → (vs j).ownBlock ≠ some g
  short : ∀ v ∈ V, ∀ g, v.p = some ⟨g, 0, none⟩ → x.ownBlock = some g → v.n ≤ len
  small : ∀ v ∈ V, v.i < n
  size : ∀ v ∈ V, v.n ≤ 1000000
variable {B G n : Nat} {vs : Nat → Value} {m : Nat → Nat} {lo i : Nat} {V : List View} {x : Value} {len : Nat} {w w' : World}
/-- What leaves every block of fields and the row itself leaves all of it. -/
theorem Vst.keep (h : Vst B G n vs m lo i V x len w) (hk : ∀ g cur e, (e = 9 ∨ g = G) → w.heap[g]? = some (.cells cur e (0, 0)) → w'.heap[g]? = w.heap[g]?) : Vst B G n vs m lo i V x len w' := by
  obtain ⟨c, hc⟩ := h.kind
  have eG := hk G c 24 (.inr rfl) hc
  refine ⟨⟨c, eG.trans hc⟩, h.high, fun j hj => (World.cell?_of_block eG).trans (h.cell j hj), fun j h1 h2 => (h.row j h1 h2).keep (fun g hg => ?_), h.apart, h.above, h.xrow.keep (fun g hg => ?_), h.xapart, h.xabove, fun v hv => ?_, fun v hv p hp => ?_, h.vapart, h.short, h.small, h.size⟩
  · obtain ⟨cur, e⟩ := (h.row j h1 h2).kind g hg
    exact hk g cur 9 (.inl rfl) e
  · obtain ⟨cur, e⟩ := h.xrow.kind g hg
    exact hk g cur 9 (.inl rfl) e
  · refine View.keep (h.good v hv) (fun g j hp hj => ?_) (fun g o hp => ?_)
    · obtain ⟨g', cur, e1, e2⟩ := h.flat v hv _ hp
      cases e1
      exact World.cell?_of_block (hk g cur 9 (.inl rfl) e2)
    · obtain ⟨g', cur, e1, e2⟩ := h.flat v hv _ hp
      cases e1
      rfl
  · obtain ⟨g, cur, e1, e2⟩ := h.flat v hv p hp
    exact ⟨g, cur, e1, (hk g cur 9 (.inl rfl) e2).trans e2⟩
/-- x itself becomes a view. -/
theorem Vst.view (h : Vst B G n vs m lo i V x len w) (hi : i < n) (hlen : len ≤ 1000000) : ∃ p c, x = .slice p len c ∧ Vst B G n vs m lo i (V ++ [⟨p, len, c, i⟩]) x len w := by
  obtain ⟨p, c, e, hf⟩ := h.xrow.fls
  rw [List.length_replicate] at e hf
  have hx : ∀ q, p = some q → ∃ g cur, q = ⟨g, 0, none⟩ ∧ x.ownBlock = some g ∧ w.heap[g]? = some (.cells cur 9 (0, 0)) := by
    intro q hq
    rcases h.xrow.form with ⟨e1, _⟩ | ⟨g, cap, cur, e1, e2, _⟩
    · rw [e1] at e; cases e; cases hq
    · have e0 := e1
      rw [e, List.length_replicate] at e1
      cases e1
      cases hq
      exact ⟨g, cur, rfl, by rw [e0]; rfl, e2⟩
  have key : ∀ {P : View → Prop}, (∀ v ∈ V, P v) → P ⟨p, len, c, i⟩ → ∀ v ∈ V ++ [⟨p, len, c, i⟩], P v := by
    intro P h1 h2 v hv
    rcases List.mem_append.1 hv with q | q
    · exact h1 v q
    · rw [List.mem_singleton.1 q]; exact h2
  refine ⟨p, c, e, h.kind, h.high, h.cell, h.row, h.apart, h.above, h.xrow, h.xapart, h.xabove, key h.good ?_, key h.flat ?_, key h.vapart ?_, key h.short ?_, key h.small hi, key h.size hlen⟩
  · exact hf
  · intro q hq
    obtain ⟨g, cur, e1, _, e3⟩ := hx q hq
    exact ⟨g, cur, e1, e3⟩
  · intro g hg j h1 h2
    obtain ⟨g', cur, e1, e2, e3⟩ := hx _ hg
    cases e1
    exact h.xapart j h1 h2 g e2
  · intro g _ _
    exact Nat.le_refl _
/-- x grows by one mark. -/
theorem Vst.grow (h : Vst B G n vs m lo i V x len w) (hB : B ≤ w.heap.size) {x' : Value} (hr : Row w' x' (List.replicate len (mk i) ++ [mk i])) (hg : Grown x len w w') (hx : (∃ g, x.ownBlock = some g ∧ x'.ownBlock = some g) ∨ x'.ownBlock = some w.heap.size) : Vst B G n vs m lo i V x' (len + 1) w' := by
  have hlt : ∀ {g : Nat} {o : Obj}, w.heap[g]? = some o → g < w.heap.size := fun e => (Array.getElem?_eq_some_iff.1 e).1
  obtain ⟨c, hc⟩ := h.kind
  have xG : x.ownBlock ≠ some G := fun e => by
    obtain ⟨cur, q⟩ := h.xrow.kind G e
    rw [hc] at q; cases q
  have eG := hg.block G (hlt hc) xG
  refine ⟨⟨c, eG.trans hc⟩, h.high, fun j hj => (World.cell?_of_block eG).trans (h.cell j hj), fun j h1 h2 => (h.row j h1 h2).keep (fun g hg' => hg.block g ((h.row j h1 h2).lt g hg') (fun e => h.xapart j h1 h2 g e hg')), h.apart, h.above, by rw [List.replicate_succ']; exact hr, fun j h1 h2 g e => ?_, fun g e => ?_, fun v hv => ?_, fun v hv p hp => ?_, h.vapart, fun v hv g hp e => ?_, h.small, h.size⟩
  · rcases hx with ⟨g', q1, q2⟩ | q
    · rw [q2] at e; cases e
      exact h.xapart j h1 h2 _ q1
    · rw [q] at e; cases e
      exact fun q => Nat.lt_irrefl _ ((h.row j h1 h2).lt _ q)
  · rcases hx with ⟨g', q1, q2⟩ | q
    · rw [q2] at e; cases e
      exact h.xabove _ q1
    · rw [q] at e; cases e
      exact hB
  · refine View.keep (h.good v hv) (fun g j hp hj => ?_) (fun g o hp => ?_)
    · obtain ⟨g', cur, e1, e2⟩ := h.flat v hv _ hp
      cases e1
      by_cases q : x.ownBlock = some g
      · have := h.short v hv g hp q
        exact hg.cell g j q (by omega)
      · exact World.cell?_of_block (hg.block g (hlt e2) q)
    · obtain ⟨g', cur, e1, e2⟩ := h.flat v hv _ hp
      cases e1
      rfl
  · obtain ⟨g, cur, e1, e2⟩ := h.flat v hv p hp
    by_cases q : x.ownBlock = some g
    · rcases hx with ⟨g', q1, q2⟩ | q'
      · rw [q] at q1; cases q1
        obtain ⟨cur', e⟩ := hr.kind g q2
        exact ⟨g, cur', e1, e⟩
      · obtain ⟨cur', e⟩ := hg.kind g cur q e2
        exact ⟨g, cur', e1, e⟩
    · exact ⟨g, cur, e1, (hg.block g (hlt e2) q).trans e2⟩
  · rcases hx with ⟨g', q1, q2⟩ | q
    · rw [q2] at e; cases e
      have := h.short v hv _ hp q1
      omega
    · rw [q] at e; cases e
      obtain ⟨g', cur, e1, e2⟩ := h.flat v hv _ hp
      cases e1
      exact absurd (hlt e2) (Nat.lt_irrefl _)
/-- Before the first round. -/
theorem Vst.start (h : Rows B G n vs w (fun j => List.replicate (m j) (mk j))) : Vst B G n vs m 0 0 [] (.slice none 0 0) 0 w :=
  ⟨h.kind, h.high, h.cell, fun j _ h2 => h.row j h2, fun j k _ _ h1 h2 h3 => h.apart j k h1 h2 h3, fun j _ h2 => h.above j h2, World.ownsRow_nil _ _ _ _, fun _ _ _ g e => (by cases e), fun g e => (by cases e), fun _ q => (by cases q), fun _ q => (by cases q), fun _ q => (by cases q), fun _ q => (by cases q), fun _ q => (by cases q), fun _ q => (by cases q)⟩
/-- x is the next list of the row. -/
theorem Vst.take (h : Vst B G n vs m lo i V x len w) (hl : lo < n) : Vst B G n vs m (lo + 1) lo V (vs lo) (m lo) w :=
  ⟨h.kind, h.high, h.cell, fun j h1 h2 => h.row j (by omega) h2, fun j k h1 h2 => h.apart j k (by omega) (by omega), fun j h1 => h.above j (by omega), h.row lo (Nat.le_refl _) hl, fun j h1 h2 g e => h.apart lo j (Nat.le_refl _) (by omega) hl h2 (by omega) g e, h.above lo (Nat.le_refl _) hl, h.good, h.flat, fun v hv g e j h1 h2 => h.vapart v hv g e j (by omega) h2, fun v hv g e e' => absurd e' (h.vapart v hv g e lo (Nat.le_refl _) hl), h.small, h.size⟩
end Go.Proofs.YtknlafgaagimjaaDoor
