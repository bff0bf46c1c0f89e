import Derived.Test.YtfaahjbkdlkmjaaDoorJep
/- Jot: an object in the making. -/
namespace Go.Proofs.YtfaahjbkdlkmjaaDoor
open Go Go.RowKit Go.Lib
set_option linter.unusedVariables false
set_option linter.unusedSimpArgs false
/-- An object in the making: its box ob, its names vn, its values vx; rb is where the result is to lie. -/
structure ObS (B ob rb : Nat) (w : World) (ns : List Bs) (its : List It) (vn vx : Value) : Prop where
  hob : B ≤ ob
  hrb : B ≤ rb
  hne : rb ≠ ob
  box : w.heap[ob]? = some (.cells #[vn, vx] 61 (0, 0))
  res : w.heap[rb]? = some (.cells #[.slice none 0 0, .slice none 0 0] 61 (0, 0))
  names : w.ownsRow B 9 1 vn ns.length (ns.flatMap encS)
  items : w.ownsRow B 25 5 vx its.length (its.flatMap It.cells)
  foot : ∀ x ∈ its, JD w (fun k => B ≤ k ∧ k < w.heap.size ∧ k ≠ ob ∧ k ≠ rb ∧ vn.ownBlock ≠ some k ∧ vx.ownBlock ≠ some k) x.na x.xa x.j
  short : ∀ a ∈ ns, a.length ≤ 20000
theorem owns_row {w : World} {B e sz n : Nat} {v : Value} {xs : List Value} (h : w.ownsRow B e sz v n xs) : ∀ k, v.ownBlock = some k → ∃ cs, w.heap[k]? = some (.cells cs e (0, 0)) := by
  intro k hk
  rcases h.2 with ⟨rfl, _⟩ | ⟨g, cap, cur, rfl, _, hg, _⟩
  · cases hk
  · cases hk
    exact ⟨cur, hg⟩
theorem owns_move {w w' : World} {B e sz n : Nat} {v : Value} {xs : List Value} (h : w.ownsRow B e sz v n xs) (hk : ∀ k, v.ownBlock = some k → w'.heap[k]? = w.heap[k]?) : w'.ownsRow B e sz v n xs := by
  refine ⟨h.1, ?_⟩
  rcases h.2 with hn | ⟨g, cap, cur, hv, hbg, hg, rest⟩
  · exact .inl hn
  · exact .inr ⟨g, cap, cur, hv, hbg, (hk g (by rw [hv]; rfl)).trans hg, rest⟩
theorem row_ne {w : World} {a b : Nat} {cs ds : Array Value} {s t : TypeId} (h1 : w.heap[a]? = some (.cells cs s (0, 0))) (h2 : w.heap[b]? = some (.cells ds t (0, 0))) (hst : s ≠ t) : a ≠ b := by
  intro e
  rw [e, h2] at h1
  cases h1
  exact hst rfl
variable {B ob rb : Nat} {w : World} {ns : List Bs} {its : List It} {vn vx : Value}
theorem ObS.n_ob (h : ObS B ob rb w ns its vn vx) : vn.ownBlock ≠ some ob := fun q => by
  obtain ⟨cs, hc⟩ := owns_row h.names _ q
  exact row_ne hc h.box (by decide) rfl
theorem ObS.x_ob (h : ObS B ob rb w ns its vn vx) : vx.ownBlock ≠ some ob := fun q => by
  obtain ⟨cs, hc⟩ := owns_row h.items _ q
  exact row_ne hc h.box (by decide) rfl
theorem ObS.n_rb (h : ObS B ob rb w ns its vn vx) : vn.ownBlock ≠ some rb := fun q => by
  obtain ⟨cs, hc⟩ := owns_row h.names _ q
  exact row_ne hc h.res (by decide) rfl
theorem ObS.x_rb (h : ObS B ob rb w ns its vn vx) : vx.ownBlock ≠ some rb := fun q => by
  obtain ⟨cs, hc⟩ := owns_row h.items _ q
  exact row_ne hc h.res (by decide) rfl
theorem ObS.n_x (h : ObS B ob rb w ns its vn vx) : ∀ k, vn.ownBlock = some k → vx.ownBlock ≠ some k := fun k q r => by
  obtain ⟨cs, hc⟩ := owns_row h.names _ q
  obtain ⟨ds, hd⟩ := owns_row h.items _ r
  exact row_ne hc hd (by decide) rfl
theorem ObS.lt (h : ObS B ob rb w ns its vn vx) : ob < w.heap.size := lt_of_row h.box
theorem ObS.only {P : Nat → Prop} {w' : World} (h : ObS B ob rb w ns its vn vx) (ho : Only P w w') (hP : ∀ k, P k → k < B) : ObS B ob rb w' ns its vn vx := by
  have hk : ∀ k, B ≤ k → k < w.heap.size → w'.heap[k]? = w.heap[k]? := fun k h1 h2 => ho.block k h2 (fun q => by have := hP k q; omega)
  refine ⟨h.hob, h.hrb, h.hne, (hk _ h.hob h.lt).trans h.box, (hk _ h.hrb (lt_of_row h.res)).trans h.res, owns_move h.names (fun k q => ?_), owns_move h.items (fun k q => ?_), fun x hx => JD.keep (fun k q => hk k q.1 q.2.1) (fun k q => ⟨q.1, Nat.lt_of_lt_of_le q.2.1 ho.size, q.2.2⟩) _ (h.foot x hx), h.short⟩
  · obtain ⟨h1, h2⟩ := World.ownsRow.lt h.names k q
    exact hk k h1 h2
  · obtain ⟨h1, h2⟩ := World.ownsRow.lt h.items k q
    exact hk k h1 h2
theorem Only.of_onl {b : Nat} {w w' : World} (h : Onl b w w') : Only (fun k => k = b) w w' := ⟨h.os, h.tape, h.output, h.size, fun k hk hp => h.block k hk hp⟩
theorem Only.to_onl {b : Nat} {w w' : World} (h : Only (fun k => k = b) w w') : Onl b w w' := ⟨h.os, h.tape, h.output, h.size, fun k hk hp => h.block k hk hp⟩
theorem ObS.onl {b : Nat} {w' : World} (h : ObS B ob rb w ns its vn vx) (ho : Onl b w w') (hb : b < B) : ObS B ob rb w' ns its vn vx := h.only (.of_onl ho) (fun k q => by omega)
theorem setb_other (w : World) (ob i k : Nat) (v : Value) (hk : k ≠ ob) : (w.setCell ⟨ob, i, none⟩ v).heap[k]? = w.heap[k]? := heap_setCell_other w ⟨ob, i, none⟩ k v hk
/-- What is new and stands nowhere near. -/
def Far (B ob rb : Nat) (vn vx : Value) (w : World) (k : Nat) : Prop := B ≤ k ∧ k < w.heap.size ∧ k ≠ ob ∧ k ≠ rb ∧ vn.ownBlock ≠ some k ∧ vx.ownBlock ≠ some k
theorem ObS.name {ns' : List Bs} {V : Value} {w' : World} (h : ObS B ob rb w ns its vn vx) (hi : InsdS B w vn ns' V w') (hs : ∀ a ∈ ns', a.length ≤ 20000) :
    ObS B ob rb (w'.setCell ⟨ob, 0, none⟩ V) ns' its V vx ∧ Below B w (w'.setCell ⟨ob, 0, none⟩ V) ∧ (∀ k, Far B ob rb vn vx w k → (w'.setCell ⟨ob, 0, none⟩ V).heap[k]? = w.heap[k]? ∧ Far B ob rb V vx (w'.setCell ⟨ob, 0, none⟩ V) k) := by
  obtain ⟨h1, h2, h3⟩ := hi
  have hbox : w'.heap[ob]? = some (.cells #[vn, vx] 61 (0, 0)) := (h2.block ob h.lt h.n_ob).trans h.box
  have hsz : (w'.setCell ⟨ob, 0, none⟩ V).heap.size = w'.heap.size := by simp [World.setCell]
  have hVob : V.ownBlock ≠ some ob := fun q => by
    obtain ⟨cs, hc⟩ := owns_row h1 _ q
    exact row_ne hc hbox (by decide) rfl
  have hnew : ∀ k, k < w.heap.size → vn.ownBlock ≠ some k → V.ownBlock ≠ some k := fun k hk hn q => by
    rcases h3 k q with r | r
    · exact hn r
    · omega
  have keep : ∀ k, k < w.heap.size → k ≠ ob → vn.ownBlock ≠ some k → (w'.setCell ⟨ob, 0, none⟩ V).heap[k]? = w.heap[k]? := fun k hk hko hn =>
    (setb_other w' ob 0 k V hko).trans (h2.block k hk hn)
  have far : ∀ k, Far B ob rb vn vx w k → (w'.setCell ⟨ob, 0, none⟩ V).heap[k]? = w.heap[k]? ∧ Far B ob rb V vx (w'.setCell ⟨ob, 0, none⟩ V) k := fun k q =>
    ⟨keep k q.2.1 q.2.2.1 q.2.2.2.2.1, q.1, by rw [hsz]; exact Nat.lt_of_lt_of_le q.2.1 h2.size, q.2.2.1, q.2.2.2.1, hnew k q.2.1 q.2.2.2.2.1, q.2.2.2.2.2⟩
  refine ⟨⟨h.hob, h.hrb, h.hne, ?_, (keep rb (lt_of_row h.res) h.hne h.n_rb).trans h.res, owns_move h1 (fun k q => setb_other w' ob 0 k V (fun e => hVob (e ▸ q))), owns_move h.items (fun k q => ?_), fun x hx => JD.keep (fun k q => (far k q).1) (fun k q => (far k q).2) _ (h.foot x hx), hs⟩, ⟨h2.os, h2.tape, h2.output, by rw [hsz]; exact h2.size, fun k hk => ?_⟩, far⟩
  · rw [heap_setCell_same w' ob 0 _ 61 V hbox]
    rfl
  · exact keep k (World.ownsRow.lt h.items k q).2 (fun e => h.x_ob (e ▸ q)) (fun r => h.n_x k r q)
  · exact keep k (by have := h.hob; have := h.lt; omega) (by have := h.hob; omega) (fun q => by have := (World.ownsRow.lt h.names k q).1; omega)
theorem ObS.item {it : It} {i : Nat} {V : Value} {w' : World} (h : ObS B ob rb w ns its vn vx) (hi : InsdJ B w vx (insAt its i it) V w') (hj : JD w (Far B ob rb vn vx w) it.na it.xa it.j) :
    ObS B ob rb (w'.setCell ⟨ob, 1, none⟩ V) ns (insAt its i it) vn V ∧ Below B w (w'.setCell ⟨ob, 1, none⟩ V) := by
  obtain ⟨h1, h2, h3⟩ := hi
  have hbox : w'.heap[ob]? = some (.cells #[vn, vx] 61 (0, 0)) := (h2.block ob h.lt h.x_ob).trans h.box
  have hsz : (w'.setCell ⟨ob, 1, none⟩ V).heap.size = w'.heap.size := by simp [World.setCell]
  have hVob : V.ownBlock ≠ some ob := fun q => by
    obtain ⟨cs, hc⟩ := owns_row h1 _ q
    exact row_ne hc hbox (by decide) rfl
  have hnew : ∀ k, k < w.heap.size → vx.ownBlock ≠ some k → V.ownBlock ≠ some k := fun k hk hn q => by
    rcases h3 k q with r | r
    · exact hn r
    · omega
  have keep : ∀ k, k < w.heap.size → k ≠ ob → vx.ownBlock ≠ some k → (w'.setCell ⟨ob, 1, none⟩ V).heap[k]? = w.heap[k]? := fun k hk hko hn =>
    (setb_other w' ob 1 k V hko).trans (h2.block k hk hn)
  have far : ∀ k, Far B ob rb vn vx w k → (w'.setCell ⟨ob, 1, none⟩ V).heap[k]? = w.heap[k]? ∧ Far B ob rb vn V (w'.setCell ⟨ob, 1, none⟩ V) k := fun k q =>
    ⟨keep k q.2.1 q.2.2.1 q.2.2.2.2.2, q.1, by rw [hsz]; exact Nat.lt_of_lt_of_le q.2.1 h2.size, q.2.2.1, q.2.2.2.1, q.2.2.2.2.1, hnew k q.2.1 q.2.2.2.2.2⟩
  refine ⟨⟨h.hob, h.hrb, h.hne, ?_, (keep rb (lt_of_row h.res) h.hne h.x_rb).trans h.res, owns_move h.names (fun k q => ?_), owns_move h1 (fun k q => setb_other w' ob 1 k V (fun e => hVob (e ▸ q))), fun x hx => ?_, h.short⟩, ⟨h2.os, h2.tape, h2.output, by rw [hsz]; exact h2.size, fun k hk => ?_⟩⟩
  · rw [heap_setCell_same w' ob 1 _ 61 V hbox]
    rfl
  · exact keep k (World.ownsRow.lt h.names k q).2 (fun e => h.n_ob (e ▸ q)) (h.n_x k q)
  · rcases mem_insAt.1 hx with rfl | hx
    · exact JD.keep (fun k q => (far k q).1) (fun k q => (far k q).2) _ hj
    · exact JD.keep (fun k q => (far k q).1) (fun k q => (far k q).2) _ (h.foot x hx)
  · exact keep k (by have := h.hob; have := h.lt; omega) (by have := h.hob; omega) (fun q => by have := (World.ownsRow.lt h.items k q).1; omega)
theorem encS_map : ∀ l : List Bs, l.flatMap encS = l.map S
  | [] => rfl
  | a :: l => by rw [List.flatMap_cons, encS_map l]; rfl
/-- The names, as they lie. -/
theorem names_nms {v : Value} (h : w.ownsRow B 9 1 v ns.length (ns.flatMap encS)) (hl : ns.length ≤ 1000000) (hs : ∀ a ∈ ns, a.length ≤ 20000) : ∃ a c, v = .slice a ns.length c ∧ Nms w a ns ∧ (0 < ns.length → ∀ p, a = some p → B ≤ p.block ∧ p.block < w.heap.size) := by
  have hcells := @World.ownsRow.cells _ _ _ _ _ _ _ h
  have hlt := World.ownsRow.lt h
  rcases h.2 with ⟨hv, hn⟩ | ⟨g, cap, cur, hv, hbg, hg, hnc, hcm, hcs, htake⟩
  · exact ⟨none, 0, by rw [hv, hn], ⟨by omega, fun x hx => by have := hs x hx; omega, fun h0 => by omega⟩, fun h0 => by omega⟩
  · refine ⟨some ⟨g, 0, none⟩, cap, hv, ⟨by omega, fun x hx => by have := hs x hx; omega, fun h0 => ⟨g, 0, rfl, fun k x hx => ?_⟩⟩, fun h0 p q => by cases q; exact hlt g (by rw [hv]; rfl)⟩
    have := hcells (g := g) (by rw [hv]; rfl) k (S x) (by
      rw [encS_map, List.getElem?_map, hx]
      rfl)
    rwa [add_at, ← Nat.zero_add k] at this
end Go.Proofs.YtfaahjbkdlkmjaaDoor
