import Derived.Test.YthlacailhfhjnaaGreatDoorWjb
namespace Go.Proofs.YthlacailhfhjnaaGreatDoor
open Go.RowKit Go.Lib
/-- A book's cells, with the lists of messages. -/
def bk8 (fr wa gr wh mm mw ml : Value) : Array Value := #[fr, wa, .slice none 0 0, gr, wh, mm, mw, ml]
/-- What outer leaves: all below B, and every block that is none of messages, none of lists of them, and not the book. -/
structure KpM (B Z : Nat) (w w' : World) : Prop where
  os : w'.os = w.os
  tape : w'.tape = w.tape
  output : w'.output = w.output
  size : w.heap.size ≤ w'.heap.size
  low : ∀ k, k < B → w'.heap[k]? = w.heap[k]?
  kind : ∀ k cur e, w.heap[k]? = some (.cells cur e (0, 0)) → e ≠ 24 → e ≠ 54 → k ≠ Z → w'.heap[k]? = w.heap[k]?
theorem KpM.refl (B Z : Nat) (w : World) : KpM B Z w w := ⟨rfl, rfl, rfl, Nat.le_refl _, fun _ _ => rfl, fun _ _ _ _ _ _ _ => rfl⟩
theorem KpM.trans {B Z : Nat} {a b c : World} (h1 : KpM B Z a b) (h2 : KpM B Z b c) : KpM B Z a c :=
  ⟨h2.os.trans h1.os, h2.tape.trans h1.tape, h2.output.trans h1.output, Nat.le_trans h1.size h2.size, fun k hk => (h2.low k hk).trans (h1.low k hk), fun k cur e he n1 n2 n3 => by
    have q := h1.kind k cur e he n1 n2 n3
    exact (h2.kind k cur e (q.trans he) n1 n2 n3).trans q⟩
theorem KpM.of_below {B Z : Nat} {w w' : World} (h : Below w.heap.size w w') (hB : B ≤ w.heap.size) : KpM B Z w w' :=
  ⟨h.os, h.tape, h.output, h.size, fun k hk => h.block k (by omega), fun k cur e he _ _ _ => h.block k (lt_heap he)⟩
theorem KpM.below {B Z : Nat} {w w' : World} (h : KpM B Z w w') : Below B w w' := ⟨h.os, h.tape, h.output, h.size, h.low⟩
/-- A row of n lists of messages, in block G: each list has a block of its own, no two the same, none below B. -/
structure RwN (B G n : Nat) (vs : Nat → Value) (w : World) (Ls : Nat → List M4) : Prop where
  kind : ∃ cur, w.heap[G]? = some (.cells cur 54 (0, 0))
  high : B ≤ G
  cell : ∀ i, i < n → w.cell? ⟨G, i, none⟩ = some (vs i)
  row : ∀ i, i < n → RwM w (vs i) (Ls i)
  apart : ∀ i j, i < n → j < n → i ≠ j → ∀ g, (vs i).ownBlock = some g → (vs j).ownBlock ≠ some g
  above : ∀ i, i < n → ∀ g, (vs i).ownBlock = some g → B ≤ g
section
variable {B G n : Nat} {vs : Nat → Value} {w w' : World} {Ls : Nat → List M4}
theorem RwN.neG (h : RwN B G n vs w Ls) (i : Nat) (hi : i < n) : (vs i).ownBlock ≠ some G := by
  intro e
  obtain ⟨c1, h1⟩ := h.kind
  obtain ⟨c2, h2⟩ := (h.row i hi).kind G e
  rw [h1] at h2
  cases h2
theorem RwN.ltG (h : RwN B G n vs w Ls) : G < w.heap.size := by
  obtain ⟨c1, h1⟩ := h.kind
  exact (Array.getElem?_eq_some_iff.1 h1).1
theorem RwN.below (h : RwN B G n vs w Ls) (k : Below w.heap.size w w') : RwN B G n vs w' Ls := by
  obtain ⟨c1, h1⟩ := h.kind
  have e := k.block G h.ltG
  exact ⟨⟨c1, e.trans h1⟩, h.high, fun i hi => (World.cell?_of_block e).trans (h.cell i hi), fun i hi => (h.row i hi).below k, h.apart, h.above⟩
/-- A message of the i-th list is written over. -/
theorem RwN.set (h : RwN B G n vs w Ls) (i k g : Nat) (hi : i < n) (hg : (vs i).ownBlock = some g) (hk : k < (Ls i).length) (f : M4) {cur : Array Value} (hc : w.heap[g]? = some (.cells cur 24 (0, 0))) :
    RwN B G n vs (w.setRow g (spm4 cur k f)) (fun j => if j = i then (Ls i).set k f else Ls j) := by
  have hne : G ≠ g := fun e => h.neG i hi (by rw [hg, e])
  have e := setRow_other w g G (spm4 cur k f) hne
  obtain ⟨c1, h1⟩ := h.kind
  refine ⟨⟨c1, e.trans h1⟩, h.high, fun j hj => (World.cell?_of_block e).trans (h.cell j hj), fun j hj => ?_, h.apart, h.above⟩
  by_cases hji : j = i
  · subst hji
    rw [if_pos rfl]
    exact ((h.row j hj).set g k hg hk f hc).1
  · rw [if_neg hji]
    exact (h.row j hj).keep (fun g' hg' => setRow_other w g g' _ (fun e' => h.apart j i hj hi hji g' hg' (by rw [hg, e'])))
theorem RwN.at (h : RwN B G n vs w Ls) (i k : Nat) (hi : i < n) (hk : k < (Ls i).length) : ∃ g cap cur, vs i = .slice (some ⟨g, 0, none⟩) (Ls i).length cap ∧ (vs i).ownBlock = some g ∧ w.heap[g]? = some (.cells cur 24 (0, 0)) ∧ k * 4 + 4 ≤ cur.size ∧ B ≤ g ∧ g < w.heap.size ∧ g ≠ G := by
  rcases (h.row i hi).form with ⟨_, q⟩ | ⟨g, cap, cur, e1, e2, e3, e4, e5, e6⟩
  · rw [q] at hk; simp at hk
  · have eo : (vs i).ownBlock = some g := by rw [e1]; rfl
    refine ⟨g, cap, cur, e1, eo, e2, by omega, h.above i hi g eo, (Array.getElem?_eq_some_iff.1 e2).1, fun e => h.neG i hi (by rw [eo, e])⟩
end
/-- What stands when i lists are all marks and k messages of the next one are. -/
def parM (Ls : Nat → List M4) (i k : Nat) : Nat → List M4 := fun j => if j < i then List.replicate (Ls j).length (mm4 j) else if j = i then List.replicate (min k (Ls j).length) (mm4 j) ++ (Ls j).drop k else Ls j
theorem parM_zero (Ls : Nat → List M4) : parM Ls 0 0 = Ls := by
  funext j
  unfold parM
  by_cases h : j = 0 <;> simp [h]
theorem parM_len (Ls : Nat → List M4) (i k j : Nat) : (parM Ls i k j).length = (Ls j).length := by
  unfold parM
  split
  · simp
  · split
    · simp; omega
    · rfl
theorem parM_step (Ls : Nat → List M4) (i k : Nat) (hk : k < (Ls i).length) : (fun j => if j = i then (parM Ls i k i).set k (mm4 i) else parM Ls i k j) = parM Ls i (k + 1) := by
  funext j
  by_cases hj : j = i
  · subst hj
    rw [if_pos rfl]
    unfold parM
    rw [if_neg (Nat.lt_irrefl _), if_pos rfl, if_neg (Nat.lt_irrefl _), if_pos rfl, Nat.min_eq_left (Nat.le_of_lt hk), Nat.min_eq_left hk, List.set_append_right _ _ (by simp)]
    simp [List.replicate_succ']
    rw [List.drop_eq_getElem_cons hk]
    rfl
  · rw [if_neg hj]
    unfold parM
    simp [hj]
theorem parM_next (Ls : Nat → List M4) (i : Nat) : parM Ls i (Ls i).length = parM Ls (i + 1) 0 := by
  funext j
  unfold parM
  by_cases h1 : j < i
  · rw [if_pos h1, if_pos (by omega)]
  · by_cases h2 : j = i
    · subst h2
      rw [if_neg h1, if_pos rfl, if_pos (by omega)]
      simp
    · rw [if_neg h1, if_neg h2, if_neg (by omega)]
      split <;> simp
/-- A view of messages, all marks. -/
def Vw.gM (w : World) (x : Vw) : Prop := ∀ j, j < x.n → ∃ g, x.p = some ⟨g, 0, none⟩ ∧ w.cell? ⟨g, j * 4 + 3, none⟩ = some (S (Go.Proofs.YthlacailhfhjnaaGreatDoor.mk x.i).2)
/-- The views laid so far, the list x of round i that grows, and the lists still to come. -/
structure VsM (B G n : Nat) (vs : Nat → Value) (m : Nat → Nat) (lo i : Nat) (V : List Vw) (x : Value) (len : Nat) (w : World) : Prop where
  build ::
  kind : ∃ cur, w.heap[G]? = some (.cells cur 54 (0, 0))
  high : B ≤ G
  cell : ∀ j, j < n → w.cell? ⟨G, j, none⟩ = some (vs j)
  row : ∀ j, lo ≤ j → j < n → RwM w (vs j) (List.replicate (m j) (mm4 j))
  apart : ∀ j k, lo ≤ j → lo ≤ k → j < n → k < n → j ≠ k → ∀ g, (vs j).ownBlock = some g → (vs k).ownBlock ≠ some g
  above : ∀ j, lo ≤ j → j < n → ∀ g, (vs j).ownBlock = some g → B ≤ g
  xrow : RwM w x (List.replicate len (mm4 i))
  xapart : ∀ j, lo ≤ j → j < n → ∀ g, x.ownBlock = some g → (vs j).ownBlock ≠ some g
  xabove : ∀ g, x.ownBlock = some g → B ≤ g
  good : ∀ v ∈ V, v.gM w
  flat : ∀ v ∈ V, ∀ p, v.p = some p → ∃ g cur, p = ⟨g, 0, none⟩ ∧ w.heap[g]? = some (.cells cur 24 (0, 0))
  vapart : ∀ v ∈ V, ∀ g, v.p = some ⟨g, 0, none⟩ → ∀ j, lo ≤ j → j < n → (vs j).ownBlock ≠ some g
  short : ∀ v ∈ V, ∀ g, v.p = some ⟨g, 0, none⟩ → x.ownBlock = some g → v.n ≤ len
  small : ∀ v ∈ V, v.i < n
  size : ∀ v ∈ V, v.n ≤ 10000000000
section
variable {B G n : Nat} {vs : Nat → Value} {m : Nat → Nat} {lo i : Nat} {V : List Vw} {x : Value} {len : Nat} {w w' : World}
theorem gM_keep {x : Vw} (h : x.gM w) (hc : ∀ g j, x.p = some ⟨g, 0, none⟩ → j < x.n * 4 → w'.cell? ⟨g, j, none⟩ = w.cell? ⟨g, j, none⟩) : x.gM w' := by
  intro j hj
  obtain ⟨g, e, c⟩ := h j hj
  exact ⟨g, e, (hc g _ e (by omega)).trans c⟩
theorem VsM.keep (h : VsM B G n vs m lo i V x len w) (hk : ∀ g cur e, (e = 24 ∨ g = G) → w.heap[g]? = some (.cells cur e (0, 0)) → w'.heap[g]? = w.heap[g]?) : VsM B G n vs m lo i V x len w' := by
  obtain ⟨c, hc⟩ := h.kind
  have eG := hk G c 54 (.inr rfl) hc
  refine ⟨⟨c, eG.trans hc⟩, h.high, fun j hj => (World.cell?_of_block eG).trans (h.cell j hj), fun j h1 h2 => (h.row j h1 h2).keep (fun g hg => ?_), h.apart, h.above, h.xrow.keep (fun g hg => ?_), h.xapart, h.xabove, fun v hv => ?_, fun v hv p hp => ?_, h.vapart, h.short, h.small, h.size⟩
  · obtain ⟨cur, e⟩ := (h.row j h1 h2).kind g hg
    exact hk g cur 24 (.inl rfl) e
  · obtain ⟨cur, e⟩ := h.xrow.kind g hg
    exact hk g cur 24 (.inl rfl) e
  · refine gM_keep (h.good v hv) (fun g j hp hj => ?_)
    obtain ⟨g', cur, e1, e2⟩ := h.flat v hv _ hp
    cases e1
    exact World.cell?_of_block (hk g cur 24 (.inl rfl) e2)
  · obtain ⟨g, cur, e1, e2⟩ := h.flat v hv p hp
    exact ⟨g, cur, e1, (hk g cur 24 (.inl rfl) e2).trans e2⟩
theorem rep_cell (len i j : Nat) (hj : j < len) : (c4 (List.replicate len (mm4 i)))[j * 4 + 3]? = some (S (mk i).2) := by
  rw [c4_get, show (j * 4 + 3) / 4 = j by omega, show (j * 4 + 3) % 4 = 3 by omega, List.getElem?_replicate, if_pos hj]
  rfl
/-- x itself becomes a view. -/
theorem VsM.view (h : VsM B G n vs m lo i V x len w) (hi : i < n) (hlen : len ≤ 10000000000) : ∃ p c, x = .slice p len c ∧ VsM B G n vs m lo i (V ++ [⟨p, len, c, i⟩]) x len w := by
  obtain ⟨p, c, e⟩ := h.xrow.sl
  rw [List.length_replicate] at e
  have hx : ∀ q, p = some q → ∃ g cur, q = ⟨g, 0, none⟩ ∧ x.ownBlock = some g ∧ w.heap[g]? = some (.cells cur 24 (0, 0)) := by
    intro q hq
    rcases h.xrow.form with ⟨e1, _⟩ | ⟨g, cap, cur, e1, e2, _⟩
    · rw [e1] at e; cases e; cases hq
    · have e0 := e1
      rw [e, List.length_replicate] at e1
      cases e1
      cases hq
      exact ⟨g, cur, rfl, by rw [e0]; rfl, e2⟩
  have hg : Vw.gM w ⟨p, len, c, i⟩ := by
    intro j hj
    rcases h.xrow.form with ⟨e1, e2⟩ | ⟨g, cap, cur, e1, e2, _⟩
    · have := congrArg List.length e2
      simp at this
      simp only at hj
      omega
    · rw [e, List.length_replicate] at e1
      cases e1
      exact ⟨g, rfl, h.xrow.cell g (by rw [e]; rfl) _ _ (rep_cell len i j hj)⟩
  have key : ∀ {P : Vw → Prop}, (∀ v ∈ V, P v) → P ⟨p, len, c, i⟩ → ∀ v ∈ V ++ [⟨p, len, c, i⟩], P v := by
    intro P h1 h2 v hv
    rcases List.mem_append.1 hv with q | q
    · exact h1 v q
    · rw [List.mem_singleton.1 q]; exact h2
  refine ⟨p, c, e, h.kind, h.high, h.cell, h.row, h.apart, h.above, h.xrow, h.xapart, h.xabove, key h.good hg, key h.flat ?_, key h.vapart ?_, key h.short ?_, key h.small hi, key h.size hlen⟩
  · intro q hq
    obtain ⟨g, cur, e1, _, e3⟩ := hx q hq
    exact ⟨g, cur, e1, e3⟩
  · intro g hg j h1 h2
    obtain ⟨g', cur, e1, e2, e3⟩ := hx _ hg
    cases e1
    exact h.xapart j h1 h2 g e2
  · intro g _ _
    exact Nat.le_refl _
/-- x grows by one mark. -/
theorem VsM.grow (h : VsM B G n vs m lo i V x len w) (hB : B ≤ w.heap.size) {x' : Value} (hr : RwM w' x' (List.replicate len (mm4 i) ++ [mm4 i])) (hg : GrM x len w w') (hx : (∃ g, x.ownBlock = some g ∧ x'.ownBlock = some g) ∨ x'.ownBlock = some w.heap.size) : VsM B G n vs m lo i V x' (len + 1) w' := by
  have hlt : ∀ {g : Nat} {o : Obj}, w.heap[g]? = some o → g < w.heap.size := fun e => (Array.getElem?_eq_some_iff.1 e).1
  obtain ⟨c, hc⟩ := h.kind
  have xG : x.ownBlock ≠ some G := fun e => by
    obtain ⟨cur, q⟩ := h.xrow.kind G e
    rw [hc] at q; cases q
  have eG := hg.block G (hlt hc) xG
  refine ⟨⟨c, eG.trans hc⟩, h.high, fun j hj => (World.cell?_of_block eG).trans (h.cell j hj), fun j h1 h2 => (h.row j h1 h2).keep (fun g hg' => hg.block g ((h.row j h1 h2).lt g hg') (fun e => h.xapart j h1 h2 g e hg')), h.apart, h.above, by rw [List.replicate_succ']; exact hr, fun j h1 h2 g e => ?_, fun g e => ?_, fun v hv => ?_, fun v hv p hp => ?_, h.vapart, fun v hv g hp e => ?_, h.small, h.size⟩
  · rcases hx with ⟨g', q1, q2⟩ | q
    · rw [q2] at e; cases e
      exact h.xapart j h1 h2 _ q1
    · rw [q] at e; cases e
      exact fun q => Nat.lt_irrefl _ ((h.row j h1 h2).lt _ q)
  · rcases hx with ⟨g', q1, q2⟩ | q
    · rw [q2] at e; cases e
      exact h.xabove _ q1
    · rw [q] at e; cases e
      exact hB
  · refine gM_keep (h.good v hv) (fun g j hp hj => ?_)
    obtain ⟨g', cur, e1, e2⟩ := h.flat v hv _ hp
    cases e1
    by_cases q : x.ownBlock = some g
    · have := h.short v hv g hp q
      exact hg.cell g j q (by omega)
    · exact World.cell?_of_block (hg.block g (hlt e2) q)
  · obtain ⟨g, cur, e1, e2⟩ := h.flat v hv p hp
    by_cases q : x.ownBlock = some g
    · rcases hx with ⟨g', q1, q2⟩ | q'
      · rw [q] at q1; cases q1
        obtain ⟨cur', e⟩ := hr.kind g q2
        exact ⟨g, cur', e1, e⟩
      · obtain ⟨cur', e⟩ := hg.kind g cur q e2
        exact ⟨g, cur', e1, e⟩
    · exact ⟨g, cur, e1, (hg.block g (hlt e2) q).trans e2⟩
  · rcases hx with ⟨g', q1, q2⟩ | q
    · rw [q2] at e; cases e
      have := h.short v hv _ hp q1
      omega
    · rw [q] at e; cases e
      obtain ⟨g', cur, e1, e2⟩ := h.flat v hv _ hp
      cases e1
      exact absurd (hlt e2) (Nat.lt_irrefl _)
theorem VsM.start (h : RwN B G n vs w (fun j => List.replicate (m j) (mm4 j))) : VsM B G n vs m 0 0 [] (.slice none 0 0) 0 w :=
  ⟨h.kind, h.high, h.cell, fun j _ h2 => h.row j h2, fun j k _ _ h1 h2 h3 => h.apart j k h1 h2 h3, fun j _ h2 => h.above j h2, World.ownsRow_nil _ _ _ _, fun _ _ _ g e => (by cases e), fun g e => (by cases e), fun _ q => (by cases q), fun _ q => (by cases q), fun _ q => (by cases q), fun _ q => (by cases q), fun _ q => (by cases q), fun _ q => (by cases q)⟩
theorem VsM.take (h : VsM B G n vs m lo i V x len w) (hl : lo < n) : VsM B G n vs m (lo + 1) lo V (vs lo) (m lo) w :=
  ⟨h.kind, h.high, h.cell, fun j h1 h2 => h.row j (by omega) h2, fun j k h1 h2 => h.apart j k (by omega) (by omega), fun j h1 => h.above j (by omega), h.row lo (Nat.le_refl _) hl, fun j h1 h2 g e => h.apart lo j (Nat.le_refl _) (by omega) hl h2 (by omega) g e, h.above lo (Nat.le_refl _) hl, h.good, h.flat, fun v hv g e j h1 h2 => h.vapart v hv g e j (by omega) h2, fun v hv g e e' => absurd e' (h.vapart v hv g e lo (Nat.le_refl _) hl), h.small, h.size⟩
end
/-- The views, the row of them, and the book that holds it. -/
structure AlM (B b G n : Nat) (vs : Nat → Value) (m : Nat → Nat) (w0 : World) (lo i : Nat) (V : List Vw) (x : Value) (len : Nat) (al : Value) (Z : Nat) (fr wa gr wh mm mw : Value) (w : World) : Prop where
  build ::
  vst : VsM B G n vs m lo i V x len w
  s1 : Sq b 54 w al (V.map Vw.val)
  kp : KpM B Z w0 w
  room : b ≤ w.heap.size
  lowG : G < b
  lowB : B ≤ b
  blk : w.heap[Z]? = some (.cells (bk8 fr wa gr wh mm mw al) 53 (0, 0))
  hz : B ≤ Z
section
variable {B b G n : Nat} {vs : Nat → Value} {m : Nat → Nat} {w0 : World} {lo i : Nat} {V : List Vw} {x al : Value} {len : Nat} {w w' : World} {Z : Nat} {fr wa gr wh mm mw : Value}
theorem AlM.keep (h : AlM B b G n vs m w0 lo i V x len al Z fr wa gr wh mm mw w) (k : Below w.heap.size w w') : AlM B b G n vs m w0 lo i V x len al Z fr wa gr wh mm mw w' :=
  ⟨h.vst.keep (fun g _ _ _ hc => k.block g (lt_heap hc)), h.s1.below k, h.kp.trans (KpM.of_below k (Nat.le_trans h.lowB h.room)), Nat.le_trans h.room k.size, h.lowG, h.lowB, (k.block _ (lt_heap h.blk)).trans h.blk, h.hz⟩
theorem AlM.take (h : AlM B b G n vs m w0 lo i V x len al Z fr wa gr wh mm mw w) (hl : lo < n) : AlM B b G n vs m w0 (lo + 1) lo V (vs lo) (m lo) al Z fr wa gr wh mm mw w := ⟨h.vst.take hl, h.s1, h.kp, h.room, h.lowG, h.lowB, h.blk, h.hz⟩
theorem AlM.neK (h : AlM B b G n vs m w0 lo i V x len al Z fr wa gr wh mm mw w) {g : Nat} {cur : Array Value} {e : TypeId} (hc : w.heap[g]? = some (.cells cur e (0, 0))) (he : e ≠ 53) : g ≠ Z := fun q => by
  subst q
  rw [h.blk] at hc
  cases hc
  exact he rfl
theorem AlM.blk1 {o : Obj} (h : AlM B b G n vs m w0 lo i V x len al Z fr wa gr wh mm mw w) (hg : (w.alloc o).grownBy w' al.ownBlock) : w'.heap[Z]? = some (.cells (bk8 fr wa gr wh mm mw al) 53 (0, 0)) :=
  (hg.block Z (by have := lt_heap h.blk; simp; omega) (fun q => by
    obtain ⟨cur, e⟩ := h.s1.kind Z q.symm
    exact h.neK e (by decide) rfl)).trans ((Below.heap_alloc w _ Z (lt_heap h.blk)).trans h.blk)
/-- x is noted as a view. -/
theorem AlM.push {p : Option Addr} {c : Nat} {al' : Value} (h : AlM B b G n vs m w0 lo i V x len al Z fr wa gr wh mm mw w) (hv : VsM B G n vs m lo i (V ++ [⟨p, len, c, i⟩]) x len w)
    (hs : Sq b 54 w' al' (V.map Vw.val ++ [.slice p len c])) (hg : (w.alloc (.cells #[.slice p len c] 54)).grownBy w' al.ownBlock) : AlM B b G n vs m w0 lo i (V ++ [⟨p, len, c, i⟩]) x len al' Z fr wa gr wh mm mw (w'.setCell ⟨Z, 7, none⟩ al') := by
  have hZ := lt_heap h.blk
  have e1 := h.blk1 hg
  have hsz : (w.alloc (.cells #[.slice p len c] 54)).heap.size = w.heap.size + 1 := by simp
  have hst : ∀ k, k < w.heap.size → al.ownBlock ≠ some k → k ≠ Z → (w'.setCell ⟨Z, 7, none⟩ al').heap[k]? = w.heap[k]? := fun k hk hne hkZ => (heap_setCell_other _ _ _ _ hkZ).trans ((hg.block k (by omega) (Ne.symm hne)).trans (Below.heap_alloc w _ k hk))
  have hal : ∀ g cur e, e ≠ 54 → w.heap[g]? = some (.cells cur e (0, 0)) → al.ownBlock ≠ some g := by
    intro g cur e he hc q
    obtain ⟨cur', e'⟩ := h.s1.kind g q
    rw [hc] at e'
    cases e'
    exact he rfl
  obtain ⟨cG, hG⟩ := h.vst.kind
  have sal : ∀ g, al'.ownBlock = some g → g ≠ Z := fun g q e => by
    subst e
    obtain ⟨cur, e2⟩ := hs.kind _ q
    rw [e1] at e2
    cases e2
  refine ⟨hv.keep ?_, ?_, h.kp.trans ⟨hg.os, hg.tape, hg.output, by have := hg.size; simp; omega, fun k hk => hst k ?_ ?_ ?_, fun k cur e he n1 n2 n3 => hst k (lt_heap he) (hal k cur e n2 he) n3⟩, by have := hg.size; have := h.room; simp; omega, h.lowG, h.lowB, ?_, h.hz⟩
  · intro g cur e he hc
    rcases he with rfl | rfl
    · exact hst g (lt_heap hc) (hal g cur 24 (by decide) hc) (h.neK hc (by decide))
    · exact hst g (lt_heap hc) (fun q => by have := h.s1.high g q; have := h.lowG; omega) (h.neK hG (by decide))
  · rw [List.map_append]
    exact hs.keep (fun g q => heap_setCell_other _ _ _ _ (sal g q))
  · have := h.lowB; have := h.room; omega
  · intro q
    have := h.s1.high k q; have := h.lowB; omega
  · have := h.hz; omega
  · rw [heap_setCell_same _ _ _ _ 53 _ e1]
    rfl
theorem AlM.grow {x' : Value} (h : AlM B b G n vs m w0 lo i V x len al Z fr wa gr wh mm mw w) (hr : RwM w' x' (List.replicate len (mm4 i) ++ [mm4 i])) (hg : GrM x len (w.alloc (.cells #[S [], S [], .slice none 0 0, S (mk i).2] 24)) w') (hx : (∃ g, x.ownBlock = some g ∧ x'.ownBlock = some g) ∨ x'.ownBlock = some (w.heap.size + 1)) : AlM B b G n vs m w0 lo i V x' (len + 1) al Z fr wa gr wh mm mw w' := by
  have ha := h.keep (((Below.refl w.heap.size w).alloc (Nat.le_refl _) (.cells #[S [], S [], .slice none 0 0, S (mk i).2] 24)))
  have hsz : (w.alloc (.cells #[S [], S [], .slice none 0 0, S (mk i).2] 24)).heap.size = w.heap.size + 1 := by simp
  rw [← hsz] at hx
  generalize w.alloc (.cells #[S [], S [], .slice none 0 0, S (mk i).2] 24) = w1 at *
  have hne : ∀ g cur e, e ≠ 24 → w1.heap[g]? = some (.cells cur e (0, 0)) → x.ownBlock ≠ some g := by
    intro g cur e he hc q
    obtain ⟨cur', e'⟩ := ha.vst.xrow.kind g q
    rw [hc] at e'
    cases e'
    exact he rfl
  have hB1 : B ≤ w1.heap.size := Nat.le_trans ha.lowB ha.room
  refine ⟨ha.vst.grow hB1 hr hg hx, ha.s1.keep ?_, ha.kp.trans ⟨hg.os, hg.tape, hg.output, hg.size, fun k hk => hg.block k (by omega) (fun q => ?_), fun k cur e he n1 n2 n3 => hg.block k (lt_heap he) (hne k cur e n1 he)⟩, Nat.le_trans ha.room hg.size, ha.lowG, ha.lowB, (hg.block Z (lt_heap ha.blk) (hne Z _ 53 (by decide) ha.blk)).trans ha.blk, ha.hz⟩
  · intro g q
    obtain ⟨cur, e⟩ := ha.s1.kind g q
    exact hg.block g (lt_heap e) (hne g cur 54 (by decide) e)
  · have := ha.vst.xabove k q
    omega
end
end Go.Proofs.YthlacailhfhjnaaGreatDoor
