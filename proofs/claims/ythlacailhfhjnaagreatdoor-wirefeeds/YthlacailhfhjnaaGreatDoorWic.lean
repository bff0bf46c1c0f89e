import Derived.Test.YthlacailhfhjnaaGreatDoorWib
namespace Go.Proofs.YthlacailhfhjnaaGreatDoor
open Go.RowKit Go.Lib
/-- A row of n lists of fields, in block G: each list has a block of its own, no two the same, none below B. -/
structure RwS (B G n : Nat) (vs : Nat → Value) (w : World) (Ls : Nat → List Fl) : Prop where
  kind : ∃ cur, w.heap[G]? = some (.cells cur 22 (0, 0))
  high : B ≤ G
  cell : ∀ i, i < n → w.cell? ⟨G, i, none⟩ = some (vs i)
  row : ∀ i, i < n → RwF w (vs i) (Ls i)
  apart : ∀ i j, i < n → j < n → i ≠ j → ∀ g, (vs i).ownBlock = some g → (vs j).ownBlock ≠ some g
  above : ∀ i, i < n → ∀ g, (vs i).ownBlock = some g → B ≤ g
variable {B G n : Nat} {vs : Nat → Value} {w w' : World} {Ls : Nat → List Fl}
theorem RwS.neG (h : RwS B G n vs w Ls) (i : Nat) (hi : i < n) : (vs i).ownBlock ≠ some G := by
  intro e
  obtain ⟨c1, h1⟩ := h.kind
  obtain ⟨c2, h2⟩ := (h.row i hi).kind G e
  rw [h1] at h2
  cases h2
theorem RwS.ltG (h : RwS B G n vs w Ls) : G < w.heap.size := by
  obtain ⟨c1, h1⟩ := h.kind
  exact (Array.getElem?_eq_some_iff.1 h1).1
theorem RwS.below (h : RwS B G n vs w Ls) (k : Below w.heap.size w w') : RwS B G n vs w' Ls := by
  obtain ⟨c1, h1⟩ := h.kind
  have e := k.block G h.ltG
  exact ⟨⟨c1, e.trans h1⟩, h.high, fun i hi => (World.cell?_of_block e).trans (h.cell i hi), fun i hi => (h.row i hi).below k, h.apart, h.above⟩
/-- A field of the i-th list is written over. -/
theorem RwS.set (h : RwS B G n vs w Ls) (i k g : Nat) (hi : i < n) (hg : (vs i).ownBlock = some g) (hk : k < (Ls i).length) (f : Fl) :
    RwS B G n vs ((w.setCell ⟨g, k * 2, none⟩ (S f.1)).setCell ⟨g, k * 2 + 1, none⟩ (S f.2)) (fun j => if j = i then (Ls i).set k f else Ls j) := by
  have hne : G ≠ g := fun e => h.neG i hi (by rw [hg, e])
  have e := setCells_other (w := w) (k := k * 2) (a := S f.1) (b := S f.2) hne
  obtain ⟨c1, h1⟩ := h.kind
  refine ⟨⟨c1, e.trans h1⟩, h.high, fun j hj => (World.cell?_of_block e).trans (h.cell j hj), fun j hj => ?_, h.apart, h.above⟩
  by_cases hji : j = i
  · subst hji
    rw [if_pos rfl]
    exact (h.row j hj).set g k hg hk f
  · rw [if_neg hji]
    exact (h.row j hj).keep (fun g' hg' => setCells_other (fun e' => h.apart j i hj hi hji g' hg' (by rw [hg, e'])))
/-- Where the i-th list lies, if it has a k-th field. -/
theorem RwS.at (h : RwS B G n vs w Ls) (i k : Nat) (hi : i < n) (hk : k < (Ls i).length) : ∃ g cap cur, vs i = .slice (some ⟨g, 0, none⟩) (Ls i).length cap ∧ (vs i).ownBlock = some g ∧ w.heap[g]? = some (.cells cur 35 (0, 0)) ∧ k * 2 + 1 < cur.size ∧ B ≤ g ∧ g < w.heap.size ∧ g ≠ G := by
  rcases (h.row i hi).form with ⟨_, q⟩ | ⟨g, cap, cur, e1, e2, e3, e4, e5, e6⟩
  · rw [q] at hk; simp at hk
  · have eo : (vs i).ownBlock = some g := by rw [e1]; rfl
    refine ⟨g, cap, cur, e1, eo, e2, by omega, h.above i hi g eo, (Array.getElem?_eq_some_iff.1 e2).1, fun e => h.neG i hi (by rw [eo, e])⟩
/-- What stands when i lists are all marks and k fields of the next one are. -/
def part (Ls : Nat → List Fl) (i k : Nat) : Nat → List Fl := fun j => if j < i then List.replicate (Ls j).length (mk j) else if j = i then List.replicate (min k (Ls j).length) (mk j) ++ (Ls j).drop k else Ls j
theorem part_zero (Ls : Nat → List Fl) : part Ls 0 0 = Ls := by
  funext j
  unfold part
  by_cases h : j = 0 <;> simp [h]
theorem part_len (Ls : Nat → List Fl) (i k j : Nat) : (part Ls i k j).length = (Ls j).length := by
  unfold part
  split
  · simp
  · split
    · simp; omega
    · rfl
theorem part_step (Ls : Nat → List Fl) (i k : Nat) (hk : k < (Ls i).length) : (fun j => if j = i then (part Ls i k i).set k (mk i) else part Ls i k j) = part Ls i (k + 1) := by
  funext j
  by_cases hj : j = i
  · subst hj
    rw [if_pos rfl]
    unfold part
    rw [if_neg (Nat.lt_irrefl _), if_pos rfl, if_neg (Nat.lt_irrefl _), if_pos rfl, Nat.min_eq_left (Nat.le_of_lt hk), Nat.min_eq_left hk, List.set_append_right _ _ (by simp)]
    simp [List.replicate_succ']
    rw [List.drop_eq_getElem_cons hk]
    rfl
  · rw [if_neg hj]
    unfold part
    simp [hj]
theorem part_next (Ls : Nat → List Fl) (i : Nat) : part Ls i (Ls i).length = part Ls (i + 1) 0 := by
  funext j
  unfold part
  by_cases h1 : j < i
  · rw [if_pos h1, if_pos (by omega)]
  · by_cases h2 : j = i
    · subst h2
      rw [if_neg h1, if_pos rfl, if_pos (by omega)]
      simp
    · rw [if_neg h1, if_neg h2, if_neg (by omega)]
      split <;> simp
/-- The views laid so far, the list x of round i that grows, and the lists still to come (m j: how many marks the j-th has). -/
structure Vst (B G n : Nat) (vs : Nat → Value) (m : Nat → Nat) (lo i : Nat) (V : List Vw) (x : Value) (len : Nat) (w : World) : Prop where
  build ::
  kind : ∃ cur, w.heap[G]? = some (.cells cur 22 (0, 0))
  high : B ≤ G
  cell : ∀ j, j < n → w.cell? ⟨G, j, none⟩ = some (vs j)
  row : ∀ j, lo ≤ j → j < n → RwF w (vs j) (List.replicate (m j) (mk j))
  apart : ∀ j k, lo ≤ j → lo ≤ k → j < n → k < n → j ≠ k → ∀ g, (vs j).ownBlock = some g → (vs k).ownBlock ≠ some g
  above : ∀ j, lo ≤ j → j < n → ∀ g, (vs j).ownBlock = some g → B ≤ g
  xrow : RwF w x (List.replicate len (mk i))
  xapart : ∀ j, lo ≤ j → j < n → ∀ g, x.ownBlock = some g → (vs j).ownBlock ≠ some g
  xabove : ∀ g, x.ownBlock = some g → B ≤ g
  good : ∀ v ∈ V, v.good w
  flat : ∀ v ∈ V, ∀ p, v.p = some p → ∃ g cur, p = ⟨g, 0, none⟩ ∧ w.heap[g]? = some (.cells cur 35 (0, 0))
  vapart : ∀ v ∈ V, ∀ g, v.p = some ⟨g, 0, none⟩ → ∀ j, lo ≤ j → j < n → (vs j).ownBlock ≠ some g
  short : ∀ v ∈ V, ∀ g, v.p = some ⟨g, 0, none⟩ → x.ownBlock = some g → v.n ≤ len
  small : ∀ v ∈ V, v.i < n
  size : ∀ v ∈ V, v.n ≤ 1000000
variable {B G n : Nat} {vs : Nat → Value} {m : Nat → Nat} {lo i : Nat} {V : List Vw} {x : Value} {len : Nat} {w w' : World}
/-- What leaves every block of fields and the row itself leaves all of it. -/
theorem Vst.keep (h : Vst B G n vs m lo i V x len w) (hk : ∀ g cur e, (e = 35 ∨ g = G) → w.heap[g]? = some (.cells cur e (0, 0)) → w'.heap[g]? = w.heap[g]?) : Vst B G n vs m lo i V x len w' := by
  obtain ⟨c, hc⟩ := h.kind
  have eG := hk G c 22 (.inr rfl) hc
  refine ⟨⟨c, eG.trans hc⟩, h.high, fun j hj => (World.cell?_of_block eG).trans (h.cell j hj), fun j h1 h2 => (h.row j h1 h2).keep (fun g hg => ?_), h.apart, h.above, h.xrow.keep (fun g hg => ?_), h.xapart, h.xabove, fun v hv => ?_, fun v hv p hp => ?_, h.vapart, h.short, h.small, h.size⟩
  · obtain ⟨cur, e⟩ := (h.row j h1 h2).kind g hg
    exact hk g cur 35 (.inl rfl) e
  · obtain ⟨cur, e⟩ := h.xrow.kind g hg
    exact hk g cur 35 (.inl rfl) e
  · refine Vw.keep (h.good v hv) (fun g j hp hj => ?_) (fun g o hp => ?_)
    · obtain ⟨g', cur, e1, e2⟩ := h.flat v hv _ hp
      cases e1
      exact World.cell?_of_block (hk g cur 35 (.inl rfl) e2)
    · obtain ⟨g', cur, e1, e2⟩ := h.flat v hv _ hp
      cases e1
      rfl
  · obtain ⟨g, cur, e1, e2⟩ := h.flat v hv p hp
    exact ⟨g, cur, e1, (hk g cur 35 (.inl rfl) e2).trans e2⟩
/-- x itself becomes a view. -/
theorem Vst.view (h : Vst B G n vs m lo i V x len w) (hi : i < n) (hlen : len ≤ 1000000) : ∃ p c, x = .slice p len c ∧ Vst B G n vs m lo i (V ++ [⟨p, len, c, i⟩]) x len w := by
  obtain ⟨p, c, e, hf⟩ := h.xrow.fls
  rw [List.length_replicate] at e hf
  have hx : ∀ q, p = some q → ∃ g cur, q = ⟨g, 0, none⟩ ∧ x.ownBlock = some g ∧ w.heap[g]? = some (.cells cur 35 (0, 0)) := by
    intro q hq
    rcases h.xrow.form with ⟨e1, _⟩ | ⟨g, cap, cur, e1, e2, _⟩
    · rw [e1] at e; cases e; cases hq
    · have e0 := e1
      rw [e, List.length_replicate] at e1
      cases e1
      cases hq
      exact ⟨g, cur, rfl, by rw [e0]; rfl, e2⟩
  have key : ∀ {P : Vw → Prop}, (∀ v ∈ V, P v) → P ⟨p, len, c, i⟩ → ∀ v ∈ V ++ [⟨p, len, c, i⟩], P v := by
    intro P h1 h2 v hv
    rcases List.mem_append.1 hv with q | q
    · exact h1 v q
    · rw [List.mem_singleton.1 q]; exact h2
  refine ⟨p, c, e, h.kind, h.high, h.cell, h.row, h.apart, h.above, h.xrow, h.xapart, h.xabove, key h.good ?_, key h.flat ?_, key h.vapart ?_, key h.short ?_, key h.small hi, key h.size hlen⟩
  · exact hf
  · intro q hq
    obtain ⟨g, cur, e1, _, e3⟩ := hx q hq
    exact ⟨g, cur, e1, e3⟩
  · intro g hg j h1 h2
    obtain ⟨g', cur, e1, e2, e3⟩ := hx _ hg
    cases e1
    exact h.xapart j h1 h2 g e2
  · intro g _ _
    exact Nat.le_refl _
/-- x grows by one mark. -/
theorem Vst.grow (h : Vst B G n vs m lo i V x len w) (hB : B ≤ w.heap.size) {x' : Value} (hr : RwF w' x' (List.replicate len (mk i) ++ [mk i])) (hg : GrF x len w w') (hx : (∃ g, x.ownBlock = some g ∧ x'.ownBlock = some g) ∨ x'.ownBlock = some w.heap.size) : Vst B G n vs m lo i V x' (len + 1) w' := by
  have hlt : ∀ {g : Nat} {o : Obj}, w.heap[g]? = some o → g < w.heap.size := fun e => (Array.getElem?_eq_some_iff.1 e).1
  obtain ⟨c, hc⟩ := h.kind
  have xG : x.ownBlock ≠ some G := fun e => by
    obtain ⟨cur, q⟩ := h.xrow.kind G e
    rw [hc] at q; cases q
  have eG := hg.block G (hlt hc) xG
  refine ⟨⟨c, eG.trans hc⟩, h.high, fun j hj => (World.cell?_of_block eG).trans (h.cell j hj), fun j h1 h2 => (h.row j h1 h2).keep (fun g hg' => hg.block g ((h.row j h1 h2).lt g hg') (fun e => h.xapart j h1 h2 g e hg')), h.apart, h.above, by rw [List.replicate_succ']; exact hr, fun j h1 h2 g e => ?_, fun g e => ?_, fun v hv => ?_, fun v hv p hp => ?_, h.vapart, fun v hv g hp e => ?_, h.small, h.size⟩
  · rcases hx with ⟨g', q1, q2⟩ | q
    · rw [q2] at e; cases e
      exact h.xapart j h1 h2 _ q1
    · rw [q] at e; cases e
      exact fun q => Nat.lt_irrefl _ ((h.row j h1 h2).lt _ q)
  · rcases hx with ⟨g', q1, q2⟩ | q
    · rw [q2] at e; cases e
      exact h.xabove _ q1
    · rw [q] at e; cases e
      exact hB
  · refine Vw.keep (h.good v hv) (fun g j hp hj => ?_) (fun g o hp => ?_)
    · obtain ⟨g', cur, e1, e2⟩ := h.flat v hv _ hp
      cases e1
      by_cases q : x.ownBlock = some g
      · have := h.short v hv g hp q
        exact hg.cell g j q (by omega)
      · exact World.cell?_of_block (hg.block g (hlt e2) q)
    · obtain ⟨g', cur, e1, e2⟩ := h.flat v hv _ hp
      cases e1
      rfl
  · obtain ⟨g, cur, e1, e2⟩ := h.flat v hv p hp
    by_cases q : x.ownBlock = some g
    · rcases hx with ⟨g', q1, q2⟩ | q'
      · rw [q] at q1; cases q1
        obtain ⟨cur', e⟩ := hr.kind g q2
        exact ⟨g, cur', e1, e⟩
      · obtain ⟨cur', e⟩ := hg.kind g cur q e2
        exact ⟨g, cur', e1, e⟩
    · exact ⟨g, cur, e1, (hg.block g (hlt e2) q).trans e2⟩
  · rcases hx with ⟨g', q1, q2⟩ | q
    · rw [q2] at e; cases e
      have := h.short v hv _ hp q1
      omega
    · rw [q] at e; cases e
      obtain ⟨g', cur, e1, e2⟩ := h.flat v hv _ hp
      cases e1
      exact absurd (hlt e2) (Nat.lt_irrefl _)
/-- Before the first round. -/
theorem Vst.start (h : RwS B G n vs w (fun j => List.replicate (m j) (mk j))) : Vst B G n vs m 0 0 [] (.slice none 0 0) 0 w :=
  ⟨h.kind, h.high, h.cell, fun j _ h2 => h.row j h2, fun j k _ _ h1 h2 h3 => h.apart j k h1 h2 h3, fun j _ h2 => h.above j h2, World.ownsRow_nil _ _ _ _, fun _ _ _ g e => (by cases e), fun g e => (by cases e), fun _ q => (by cases q), fun _ q => (by cases q), fun _ q => (by cases q), fun _ q => (by cases q), fun _ q => (by cases q), fun _ q => (by cases q)⟩
/-- x is the next list of the row. -/
theorem Vst.take (h : Vst B G n vs m lo i V x len w) (hl : lo < n) : Vst B G n vs m (lo + 1) lo V (vs lo) (m lo) w :=
  ⟨h.kind, h.high, h.cell, fun j h1 h2 => h.row j (by omega) h2, fun j k h1 h2 => h.apart j k (by omega) (by omega), fun j h1 => h.above j (by omega), h.row lo (Nat.le_refl _) hl, fun j h1 h2 g e => h.apart lo j (Nat.le_refl _) (by omega) hl h2 (by omega) g e, h.above lo (Nat.le_refl _) hl, h.good, h.flat, fun v hv g e j h1 h2 => h.vapart v hv g e j (by omega) h2, fun v hv g e e' => absurd e' (h.vapart v hv g e lo (Nat.le_refl _) hl), h.small, h.size⟩
def who (v : Vw) : Value := .int .i64 (v.i : Int)
/-- The views, the row of them (al), and the row of whose they are (wh). -/
structure Alw (B b G n : Nat) (vs : Nat → Value) (m : Nat → Nat) (w0 : World) (lo i : Nat) (U V V2 : List Vw) (x : Value) (len : Nat) (al wh : Value) (w : World) : Prop where
  build ::
  vst : Vst B G n vs m lo i U x len w
  s1 : Sq b 22 w al (V.map Vw.val)
  s2 : Sq b 3 w wh (V2.map who)
  below : Below B w0 w
  room : b ≤ w.heap.size
  lowG : G < b
  lowB : B ≤ b
variable {B b G n : Nat} {vs : Nat → Value} {m : Nat → Nat} {w0 : World} {lo i : Nat} {U V V2 : List Vw} {x al wh : Value} {len : Nat} {w w' : World}
theorem lt_heap {w : World} {g : Nat} {o : Obj} (e : w.heap[g]? = some o) : g < w.heap.size := (Array.getElem?_eq_some_iff.1 e).1
theorem Alw.push1 {p : Option Addr} {c : Nat} {al' : Value} (h : Alw B b G n vs m w0 lo i U V V2 x len al wh w) (hv : Vst B G n vs m lo i (U ++ [⟨p, len, c, i⟩]) x len w)
    (hs : Sq b 22 w' al' (V.map Vw.val ++ [.slice p len c])) (hg : (w.alloc (.cells #[.slice p len c] 22)).grownBy w' al.ownBlock) : Alw B b G n vs m w0 lo i (U ++ [⟨p, len, c, i⟩]) (V ++ [⟨p, len, c, i⟩]) V2 x len al' wh w' := by
  have hsz : (w.alloc (.cells #[.slice p len c] 22)).heap.size = w.heap.size + 1 := by simp
  have hst : ∀ k, k < w.heap.size → al.ownBlock ≠ some k → w'.heap[k]? = w.heap[k]? := fun k hk hne => (hg.block k (by omega) (Ne.symm hne)).trans (Below.heap_alloc w _ k hk)
  have hal : ∀ g cur e, e ≠ 22 → w.heap[g]? = some (.cells cur e (0, 0)) → al.ownBlock ≠ some g := by
    intro g cur e he hc q
    obtain ⟨cur', e'⟩ := h.s1.kind g q
    rw [hc] at e'
    cases e'
    exact he rfl
  refine ⟨hv.keep ?_, by rw [List.map_append]; exact hs, h.s2.keep ?_, h.below.trans ⟨hg.os, hg.tape, hg.output, by have := hg.size; omega, fun k hk => hst k ?_ ?_⟩, by have := hg.size; have := h.room; omega, h.lowG, h.lowB⟩
  · intro g cur e he hc
    rcases he with rfl | rfl
    · exact hst g (lt_heap hc) (hal g cur 35 (by decide) hc)
    · exact hst g (lt_heap hc) (fun q => by have := h.s1.high g q; have := h.lowG; omega)
  · intro g hg'
    obtain ⟨cur, e⟩ := h.s2.kind g hg'
    exact hst g (lt_heap e) (hal g cur 3 (by decide) e)
  · have := h.lowB; have := h.room; omega
  · intro q
    have := h.s1.high k q; have := h.lowB; omega
theorem Alw.push2 {y : Vw} {wh' : Value} (h : Alw B b G n vs m w0 lo i U V V2 x len al wh w)
    (hs : Sq b 3 w' wh' (V2.map who ++ [who y])) (hg : (w.alloc (.cells #[who y] 3)).grownBy w' wh.ownBlock) : Alw B b G n vs m w0 lo i U V (V2 ++ [y]) x len al wh' w' := by
  have hsz : (w.alloc (.cells #[who y] 3)).heap.size = w.heap.size + 1 := by simp
  have hst : ∀ k, k < w.heap.size → wh.ownBlock ≠ some k → w'.heap[k]? = w.heap[k]? := fun k hk hne => (hg.block k (by omega) (Ne.symm hne)).trans (Below.heap_alloc w _ k hk)
  have hal : ∀ g cur e, e ≠ 3 → w.heap[g]? = some (.cells cur e (0, 0)) → wh.ownBlock ≠ some g := by
    intro g cur e he hc q
    obtain ⟨cur', e'⟩ := h.s2.kind g q
    rw [hc] at e'
    cases e'
    exact he rfl
  refine ⟨h.vst.keep ?_, h.s1.keep ?_, by rw [List.map_append]; exact hs, h.below.trans ⟨hg.os, hg.tape, hg.output, by have := hg.size; omega, fun k hk => hst k ?_ ?_⟩, by have := hg.size; have := h.room; omega, h.lowG, h.lowB⟩
  · intro g cur e he hc
    rcases he with rfl | rfl
    · exact hst g (lt_heap hc) (hal g cur 35 (by decide) hc)
    · exact hst g (lt_heap hc) (fun q => by have := h.s2.high g q; have := h.lowG; omega)
  · intro g hg'
    obtain ⟨cur, e⟩ := h.s1.kind g hg'
    exact hst g (lt_heap e) (hal g cur 22 (by decide) e)
  · have := h.lowB; have := h.room; omega
  · intro q
    have := h.s2.high k q; have := h.lowB; omega
/-- What leaves every old block leaves all of it. -/
theorem Alw.keep (h : Alw B b G n vs m w0 lo i U V V2 x len al wh w) (k : Below w.heap.size w w') : Alw B b G n vs m w0 lo i U V V2 x len al wh w' :=
  ⟨h.vst.keep (fun g _ _ _ hc => k.block g (lt_heap hc)), h.s1.below k, h.s2.below k, h.below.trans (k.mono (Nat.le_trans h.lowB h.room)), Nat.le_trans h.room k.size, h.lowG, h.lowB⟩
theorem Alw.take (h : Alw B b G n vs m w0 lo i U V V2 x len al wh w) (hl : lo < n) : Alw B b G n vs m w0 (lo + 1) lo U V V2 (vs lo) (m lo) al wh w := ⟨h.vst.take hl, h.s1, h.s2, h.below, h.room, h.lowG, h.lowB⟩
theorem Alw.grow {x' : Value} (h : Alw B b G n vs m w0 lo i U V V2 x len al wh w) (hr : RwF w' x' (List.replicate len (mk i) ++ [mk i])) (hg : GrF x len (w.alloc (.cells #[S (mk i).1, S (mk i).2] 35)) w') (hx : (∃ g, x.ownBlock = some g ∧ x'.ownBlock = some g) ∨ x'.ownBlock = some (w.heap.size + 1)) : Alw B b G n vs m w0 lo i U V V2 x' (len + 1) al wh w' := by
  have ha := h.keep (((Below.refl w.heap.size w).alloc (Nat.le_refl _) (.cells #[S (mk i).1, S (mk i).2] 35)))
  have hsz : (w.alloc (.cells #[S (mk i).1, S (mk i).2] 35)).heap.size = w.heap.size + 1 := by simp
  rw [← hsz] at hx
  generalize w.alloc (.cells #[S (mk i).1, S (mk i).2] 35) = w1 at *
  have hne : ∀ g cur e, e ≠ 35 → w1.heap[g]? = some (.cells cur e (0, 0)) → x.ownBlock ≠ some g := by
    intro g cur e he hc q
    obtain ⟨cur', e'⟩ := ha.vst.xrow.kind g q
    rw [hc] at e'
    cases e'
    exact he rfl
  have hB1 : B ≤ w1.heap.size := Nat.le_trans ha.lowB ha.room
  refine ⟨ha.vst.grow hB1 hr hg hx, ha.s1.keep ?_, ha.s2.keep ?_, ha.below.trans ⟨hg.os, hg.tape, hg.output, hg.size, fun k hk => hg.block k (by omega) (fun q => ?_)⟩, Nat.le_trans ha.room hg.size, ha.lowG, ha.lowB⟩
  · intro g q
    obtain ⟨cur, e⟩ := ha.s1.kind g q
    exact hg.block g (lt_heap e) (hne g cur 22 (by decide) e)
  · intro g q
    obtain ⟨cur, e⟩ := ha.s2.kind g q
    exact hg.block g (lt_heap e) (hne g cur 3 (by decide) e)
  · have := ha.vst.xabove k q
    omega
end Go.Proofs.YthlacailhfhjnaaGreatDoor
