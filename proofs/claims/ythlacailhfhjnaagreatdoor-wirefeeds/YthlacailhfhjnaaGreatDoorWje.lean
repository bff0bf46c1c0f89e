import Derived.Test.YthlacailhfhjnaaGreatDoorWid
import Derived.Test.YthlacailhfhjnaaGreatDoorWjd
namespace Go.Proofs.YthlacailhfhjnaaGreatDoor
open Go.RowKit Go.Lib
/-- A book in block Z: the lists of fields and of messages that came out, and what they must be. -/
structure BkM (Z : Nat) (xs ys us zs : List Value) (fr wa mm mw : Value) (w : World) : Prop where
  blk : w.heap[Z]? = some (.cells (bk8 fr wa (.slice none 0 0) (.slice none 0 0) mm mw (.slice none 0 0)) 53 (0, 0))
  f : w.ownsRow 0 22 1 fr xs.length xs
  a : w.ownsRow 0 22 1 wa ys.length ys
  m : w.ownsRow 0 54 1 mm us.length us
  n : w.ownsRow 0 54 1 mw zs.length zs
  ap : ∀ k, fr.ownBlock = some k → wa.ownBlock ≠ some k
  bp : ∀ k, mm.ownBlock = some k → mw.ownBlock ≠ some k
section
variable {Z : Nat} {xs ys us zs : List Value} {fr wa mm mw x v' : Value} {w w1 w' : World}
theorem owns_kind {e : TypeId} {n sz : Nat} {v : Value} {cs : List Value} (o : w.ownsRow 0 e sz v n cs) : ∀ k, v.ownBlock = some k → ∃ c, w.heap[k]? = some (.cells c e (0, 0)) := fun k hk => owns_lt o k hk
theorem kind_ne {g k : Nat} {c1 c2 : Array Value} {e1 e2 : TypeId} (h1 : w.heap[g]? = some (.cells c1 e1 (0, 0))) (h2 : w.heap[k]? = some (.cells c2 e2 (0, 0))) (h : e1 ≠ e2) : g ≠ k := fun q => by
  subst q
  rw [h1] at h2
  cases h2
  exact h rfl
/-- The blocks that a book's calls may turn. -/
def bkb (Z : Nat) (fr wa mm mw : Value) (k : Nat) : Prop := k = Z ∨ fr.ownBlock = some k ∨ wa.ownBlock = some k ∨ mm.ownBlock = some k ∨ mw.ownBlock = some k
theorem BkM.kinds (h : BkM Z xs ys us zs fr wa mm mw w) {k : Nat} (hk : bkb Z fr wa mm mw k) : ∃ c e, w.heap[k]? = some (.cells c e (0, 0)) ∧ (e = 53 ∨ e = 22 ∨ e = 54) := by
  rcases hk with rfl | q | q | q | q
  · exact ⟨_, _, h.blk, .inl rfl⟩
  · obtain ⟨c, e⟩ := owns_kind h.f k q; exact ⟨c, _, e, .inr (.inl rfl)⟩
  · obtain ⟨c, e⟩ := owns_kind h.a k q; exact ⟨c, _, e, .inr (.inl rfl)⟩
  · obtain ⟨c, e⟩ := owns_kind h.m k q; exact ⟨c, _, e, .inr (.inr rfl)⟩
  · obtain ⟨c, e⟩ := owns_kind h.n k q; exact ⟨c, _, e, .inr (.inr rfl)⟩
theorem BkM.lt (h : BkM Z xs ys us zs fr wa mm mw w) {k : Nat} (hk : bkb Z fr wa mm mw k) : k < w.heap.size := by
  obtain ⟨c, e, q, _⟩ := h.kinds hk
  exact lt_of_row q
theorem BkM.keep (h : BkM Z xs ys us zs fr wa mm mw w) {X : Nat → Prop} (ho : Only X w w') (hx : ∀ k, bkb Z fr wa mm mw k → ¬ X k) : BkM Z xs ys us zs fr wa mm mw w' := by
  have hk : ∀ k, bkb Z fr wa mm mw k → w'.heap[k]? = w.heap[k]? := fun k q => ho.block k (h.lt q) (hx k q)
  exact ⟨(hk Z (.inl rfl)).trans h.blk, owns_same h.f (fun k q => hk k (.inr (.inl q))), owns_same h.a (fun k q => hk k (.inr (.inr (.inl q)))), owns_same h.m (fun k q => hk k (.inr (.inr (.inr (.inl q))))), owns_same h.n (fun k q => hk k (.inr (.inr (.inr (.inr q))))), h.ap, h.bp⟩
/-- One of the rows has grown, and is laid into its cell. -/
theorem BkM.put0 (h : BkM Z xs ys us zs fr wa mm mw w) (r1 : w1.ownsRow 0 22 1 v' (xs.length + 1) (xs ++ [x])) (r2 : Only (fun k => fr.ownBlock = some k) w w1) (r3 : ∀ k, v'.ownBlock = some k → fr.ownBlock = some k ∨ w.heap.size ≤ k) :
    BkM Z (xs ++ [x]) ys us zs v' wa mm mw (w1.setCell ⟨Z, 0, none⟩ v') ∧ Only (fun k => k = Z ∨ fr.ownBlock = some k) w (w1.setCell ⟨Z, 0, none⟩ v') := by
  have fk := owns_kind h.f
  have eZ := (r2.block Z (lt_of_row h.blk) (fun q => by obtain ⟨c, e⟩ := fk Z q; exact kind_ne e h.blk (by decide) rfl)).trans h.blk
  have vZ : ∀ k, v'.ownBlock = some k → k ≠ Z := fun k q => by obtain ⟨c, e⟩ := owns_kind r1 k q; exact kind_ne e eZ (by decide)
  have st : ∀ k, k < w.heap.size → k ≠ Z → ¬ fr.ownBlock = some k → (w1.setCell ⟨Z, 0, none⟩ v').heap[k]? = w.heap[k]? := fun k hk h1 h2 => (heap_setCell_other _ _ _ _ h1).trans (r2.block k hk h2)
  refine ⟨⟨?_, ?_, ?_, ?_, ?_, ?_, h.bp⟩, (r2.mono (fun k _ q => .inr q)).put _ _ (.inl (.inl rfl))⟩
  · rw [heap_setCell_same _ _ _ _ 53 _ eZ]; rfl
  · rw [List.length_append]
    exact owns_same r1 (fun k hk => heap_setCell_other _ _ _ _ (vZ k hk))
  · exact owns_same h.a (fun k hk => by obtain ⟨c, e⟩ := owns_kind h.a k hk; exact st k (lt_of_row e) (kind_ne e h.blk (by decide)) (fun q => h.ap k q hk))
  · exact owns_same h.m (fun k hk => by obtain ⟨c, e⟩ := owns_kind h.m k hk; exact st k (lt_of_row e) (kind_ne e h.blk (by decide)) (fun q => by obtain ⟨c2, e2⟩ := fk k q; exact kind_ne e e2 (by decide) rfl))
  · exact owns_same h.n (fun k hk => by obtain ⟨c, e⟩ := owns_kind h.n k hk; exact st k (lt_of_row e) (kind_ne e h.blk (by decide)) (fun q => by obtain ⟨c2, e2⟩ := fk k q; exact kind_ne e e2 (by decide) rfl))
  · intro k hk e
    rcases r3 k hk with q | q
    · exact h.ap k q e
    · obtain ⟨c, e2⟩ := owns_kind h.a k e; have := lt_of_row e2; omega
theorem BkM.put1 (h : BkM Z xs ys us zs fr wa mm mw w) (r1 : w1.ownsRow 0 22 1 v' (ys.length + 1) (ys ++ [x])) (r2 : Only (fun k => wa.ownBlock = some k) w w1) (r3 : ∀ k, v'.ownBlock = some k → wa.ownBlock = some k ∨ w.heap.size ≤ k) :
    BkM Z xs (ys ++ [x]) us zs fr v' mm mw (w1.setCell ⟨Z, 1, none⟩ v') ∧ Only (fun k => k = Z ∨ wa.ownBlock = some k) w (w1.setCell ⟨Z, 1, none⟩ v') := by
  have fk := owns_kind h.a
  have eZ := (r2.block Z (lt_of_row h.blk) (fun q => by obtain ⟨c, e⟩ := fk Z q; exact kind_ne e h.blk (by decide) rfl)).trans h.blk
  have vZ : ∀ k, v'.ownBlock = some k → k ≠ Z := fun k q => by obtain ⟨c, e⟩ := owns_kind r1 k q; exact kind_ne e eZ (by decide)
  have st : ∀ k, k < w.heap.size → k ≠ Z → ¬ wa.ownBlock = some k → (w1.setCell ⟨Z, 1, none⟩ v').heap[k]? = w.heap[k]? := fun k hk h1 h2 => (heap_setCell_other _ _ _ _ h1).trans (r2.block k hk h2)
  refine ⟨⟨?_, ?_, ?_, ?_, ?_, ?_, h.bp⟩, (r2.mono (fun k _ q => .inr q)).put _ _ (.inl (.inl rfl))⟩
  · rw [heap_setCell_same _ _ _ _ 53 _ eZ]; rfl
  · exact owns_same h.f (fun k hk => by obtain ⟨c, e⟩ := owns_kind h.f k hk; exact st k (lt_of_row e) (kind_ne e h.blk (by decide)) (fun q => h.ap k hk q))
  · rw [List.length_append]
    exact owns_same r1 (fun k hk => heap_setCell_other _ _ _ _ (vZ k hk))
  · exact owns_same h.m (fun k hk => by obtain ⟨c, e⟩ := owns_kind h.m k hk; exact st k (lt_of_row e) (kind_ne e h.blk (by decide)) (fun q => by obtain ⟨c2, e2⟩ := fk k q; exact kind_ne e e2 (by decide) rfl))
  · exact owns_same h.n (fun k hk => by obtain ⟨c, e⟩ := owns_kind h.n k hk; exact st k (lt_of_row e) (kind_ne e h.blk (by decide)) (fun q => by obtain ⟨c2, e2⟩ := fk k q; exact kind_ne e e2 (by decide) rfl))
  · intro k hk e
    rcases r3 k e with q | q
    · exact h.ap k hk q
    · obtain ⟨c, e2⟩ := owns_kind h.f k hk; have := lt_of_row e2; omega
theorem BkM.put5 (h : BkM Z xs ys us zs fr wa mm mw w) (r1 : w1.ownsRow 0 54 1 v' (us.length + 1) (us ++ [x])) (r2 : Only (fun k => mm.ownBlock = some k) w w1) (r3 : ∀ k, v'.ownBlock = some k → mm.ownBlock = some k ∨ w.heap.size ≤ k) :
    BkM Z xs ys (us ++ [x]) zs fr wa v' mw (w1.setCell ⟨Z, 5, none⟩ v') ∧ Only (fun k => k = Z ∨ mm.ownBlock = some k) w (w1.setCell ⟨Z, 5, none⟩ v') := by
  have fk := owns_kind h.m
  have eZ := (r2.block Z (lt_of_row h.blk) (fun q => by obtain ⟨c, e⟩ := fk Z q; exact kind_ne e h.blk (by decide) rfl)).trans h.blk
  have vZ : ∀ k, v'.ownBlock = some k → k ≠ Z := fun k q => by obtain ⟨c, e⟩ := owns_kind r1 k q; exact kind_ne e eZ (by decide)
  have st : ∀ k, k < w.heap.size → k ≠ Z → ¬ mm.ownBlock = some k → (w1.setCell ⟨Z, 5, none⟩ v').heap[k]? = w.heap[k]? := fun k hk h1 h2 => (heap_setCell_other _ _ _ _ h1).trans (r2.block k hk h2)
  refine ⟨⟨?_, ?_, ?_, ?_, ?_, h.ap, ?_⟩, (r2.mono (fun k _ q => .inr q)).put _ _ (.inl (.inl rfl))⟩
  · rw [heap_setCell_same _ _ _ _ 53 _ eZ]; rfl
  · exact owns_same h.f (fun k hk => by obtain ⟨c, e⟩ := owns_kind h.f k hk; exact st k (lt_of_row e) (kind_ne e h.blk (by decide)) (fun q => by obtain ⟨c2, e2⟩ := fk k q; exact kind_ne e e2 (by decide) rfl))
  · exact owns_same h.a (fun k hk => by obtain ⟨c, e⟩ := owns_kind h.a k hk; exact st k (lt_of_row e) (kind_ne e h.blk (by decide)) (fun q => by obtain ⟨c2, e2⟩ := fk k q; exact kind_ne e e2 (by decide) rfl))
  · rw [List.length_append]
    exact owns_same r1 (fun k hk => heap_setCell_other _ _ _ _ (vZ k hk))
  · exact owns_same h.n (fun k hk => by obtain ⟨c, e⟩ := owns_kind h.n k hk; exact st k (lt_of_row e) (kind_ne e h.blk (by decide)) (fun q => h.bp k q hk))
  · intro k hk e
    rcases r3 k hk with q | q
    · exact h.bp k q e
    · obtain ⟨c, e2⟩ := owns_kind h.n k e; have := lt_of_row e2; omega
theorem BkM.put6 (h : BkM Z xs ys us zs fr wa mm mw w) (r1 : w1.ownsRow 0 54 1 v' (zs.length + 1) (zs ++ [x])) (r2 : Only (fun k => mw.ownBlock = some k) w w1) (r3 : ∀ k, v'.ownBlock = some k → mw.ownBlock = some k ∨ w.heap.size ≤ k) :
    BkM Z xs ys us (zs ++ [x]) fr wa mm v' (w1.setCell ⟨Z, 6, none⟩ v') ∧ Only (fun k => k = Z ∨ mw.ownBlock = some k) w (w1.setCell ⟨Z, 6, none⟩ v') := by
  have fk := owns_kind h.n
  have eZ := (r2.block Z (lt_of_row h.blk) (fun q => by obtain ⟨c, e⟩ := fk Z q; exact kind_ne e h.blk (by decide) rfl)).trans h.blk
  have vZ : ∀ k, v'.ownBlock = some k → k ≠ Z := fun k q => by obtain ⟨c, e⟩ := owns_kind r1 k q; exact kind_ne e eZ (by decide)
  have st : ∀ k, k < w.heap.size → k ≠ Z → ¬ mw.ownBlock = some k → (w1.setCell ⟨Z, 6, none⟩ v').heap[k]? = w.heap[k]? := fun k hk h1 h2 => (heap_setCell_other _ _ _ _ h1).trans (r2.block k hk h2)
  refine ⟨⟨?_, ?_, ?_, ?_, ?_, h.ap, ?_⟩, (r2.mono (fun k _ q => .inr q)).put _ _ (.inl (.inl rfl))⟩
  · rw [heap_setCell_same _ _ _ _ 53 _ eZ]; rfl
  · exact owns_same h.f (fun k hk => by obtain ⟨c, e⟩ := owns_kind h.f k hk; exact st k (lt_of_row e) (kind_ne e h.blk (by decide)) (fun q => by obtain ⟨c2, e2⟩ := fk k q; exact kind_ne e e2 (by decide) rfl))
  · exact owns_same h.a (fun k hk => by obtain ⟨c, e⟩ := owns_kind h.a k hk; exact st k (lt_of_row e) (kind_ne e h.blk (by decide)) (fun q => by obtain ⟨c2, e2⟩ := fk k q; exact kind_ne e e2 (by decide) rfl))
  · exact owns_same h.m (fun k hk => by obtain ⟨c, e⟩ := owns_kind h.m k hk; exact st k (lt_of_row e) (kind_ne e h.blk (by decide)) (fun q => h.bp k hk q))
  · rw [List.length_append]
    exact owns_same r1 (fun k hk => heap_setCell_other _ _ _ _ (vZ k hk))
  · intro k hk e
    rcases r3 k e with q | q
    · exact h.bp k hk q
    · obtain ⟨c, e2⟩ := owns_kind h.m k hk; have := lt_of_row e2; omega
end
theorem wp_push22b {ops : Array Oper} {rest : List Oper} {o : Oper} {ac : Act} {Q : Exit → Act → World → Prop} {wr : World} {V : Value} {xs : List Value} {p0 : Option Addr} {n0 c0 : Nat} (hgd : o.guard = none) (p q : Operand) (ho : o.op = .call { callee := .builtin .append, args := #[p, q], argTypes := #[49, 49] })
    (hp : ac.eval p = V) (hq : ac.eval q = .slice (some ⟨wr.heap.size, 0, none⟩) 1 1) (h : wr.ownsRow 0 22 1 V xs.length xs) (hs : xs.length ≤ 100000000000)
    (hn : ∀ pp cap w', w'.ownsRow 0 22 1 (.slice pp (xs.length + 1) cap) (xs.length + 1) (xs ++ [.slice p0 n0 c0]) → Only (fun k => V.ownBlock = some k) wr w' → (∀ k, (Value.slice pp (xs.length + 1) cap).ownBlock = some k → V.ownBlock = some k ∨ wr.heap.size ≤ k) → wpList Tryz.prog ops Q rest (ac.put o.dst (.slice pp (xs.length + 1) cap)) w') : wpList Tryz.prog ops Q (o :: rest) ac (wr.alloc (.cells #[.slice p0 n0 c0] 22)) := by
  refine push_own 49 22 _ 1 24 Tryz.underlying49 info22 rfl (by decide) hgd p q ho V xs.length xs hp wr h [.slice p0 n0 c0] rfl (by intro u hu; obtain rfl := List.mem_singleton.1 hu; rfl) hq (by omega) (by omega) ?_
  intro pp cap w' r1 r2 r3
  exact hn _ _ w' r1 r2 r3
theorem wp_push54b {ops : Array Oper} {rest : List Oper} {o : Oper} {ac : Act} {Q : Exit → Act → World → Prop} {wr : World} {V : Value} {xs : List Value} {p0 : Option Addr} {n0 c0 : Nat} (hgd : o.guard = none) (p q : Operand) (ho : o.op = .call { callee := .builtin .append, args := #[p, q], argTypes := #[51, 51] })
    (hp : ac.eval p = V) (hq : ac.eval q = .slice (some ⟨wr.heap.size, 0, none⟩) 1 1) (h : wr.ownsRow 0 54 1 V xs.length xs) (hs : xs.length ≤ 100000000000)
    (hn : ∀ pp cap w', w'.ownsRow 0 54 1 (.slice pp (xs.length + 1) cap) (xs.length + 1) (xs ++ [.slice p0 n0 c0]) → Only (fun k => V.ownBlock = some k) wr w' → (∀ k, (Value.slice pp (xs.length + 1) cap).ownBlock = some k → V.ownBlock = some k ∨ wr.heap.size ≤ k) → wpList Tryz.prog ops Q rest (ac.put o.dst (.slice pp (xs.length + 1) cap)) w') : wpList Tryz.prog ops Q (o :: rest) ac (wr.alloc (.cells #[.slice p0 n0 c0] 54)) := by
  refine push_own 51 54 _ 1 24 Tryz.underlying51 info54 rfl (by decide) hgd p q ho V xs.length xs hp wr h [.slice p0 n0 c0] rfl (by intro u hu; obtain rfl := List.mem_singleton.1 hu; rfl) hq (by omega) (by omega) ?_
  intro pp cap w' r1 r2 r3
  exact hn _ _ w' r1 r2 r3
set_option maxHeartbeats 8000000 in
set_option maxRecDepth 8000 in
/-- fields of a book: a list, and what it must be, are noted. -/
theorem bookFields2 (Z : Nat) (xs ys us zs : List Value) (fr wa mm mw : Value) (p1 p2 : Option Addr) (n1 c1 n2 c2 : Nat) (w : World) (h : BkM Z xs ys us zs fr wa mm mw w) (hx : xs.length ≤ 10000000000) (hy : ys.length ≤ 10000000000) :
    Calls Tryz.prog 52 #[.pointer (some ⟨Z, 0, none⟩), .slice p1 n1 c1, .slice p2 n2 c2] w fun e w' => e = .returned (.tuple #[]) ∧ ∃ fr' wa', BkM Z (xs ++ [.slice p1 n1 c1]) (ys ++ [.slice p2 n2 c2]) us zs fr' wa' mm mw w' ∧ Only (fun k => k = Z ∨ fr.ownBlock = some k ∨ wa.ownBlock = some k) w w' ∧ (∀ k, fr'.ownBlock = some k → fr.ownBlock = some k ∨ w.heap.size ≤ k) ∧ (∀ k, wa'.ownBlock = some k → wa.ownBlock = some k ∨ w.heap.size ≤ k) := by
  have h0 : w.cell? ⟨Z, 0, none⟩ = some fr := cell_of_row w _ 0 _ 53 (0, 0) h.blk
  have H := hide h
  clear h
  go_enter Tryz.func52, Tryz.ntmps52
  go_wp2_with (first
    | (at_builtin; refine wp_push22b rfl (.tmp 10) (.tmp 12) rfl (by rfl) (by rfl) (unhide H).f (by omega) ?_; intro q1 k1 w1 r1 r2 r3
       have e1 := (r2.block Z (lt_of_row (unhide H).blk) (fun q => by obtain ⟨c, e⟩ := owns_kind (unhide H).f Z q; exact kind_ne e (unhide H).blk (by decide) rfl)).trans (unhide H).blk
       have fz1 : w1.frozen? ⟨Z, 0, none⟩ = false := by simp [World.frozen?, e1]
       have g1 : w1.cell? ⟨Z, 1, none⟩ = some wa := cell_of_row w1 _ 1 _ 53 (0, 0) e1
       have g0 : w1.cell? ⟨Z, 0, none⟩ = some fr := cell_of_row w1 _ 0 _ 53 (0, 0) e1
       have HS := hide (show (w1.setCell ⟨Z, 0, none⟩ (.slice q1 (xs.length + 1) k1)).heap.size = w1.heap.size by simp)
       have HP := hide ((unhide H).put0 r1 r2 r3)
       have HR3 := hide r3
       clear r1 r2 r3 e1)
    | (at_builtin; refine wp_push22b rfl (.tmp 20) (.tmp 22) rfl (by rfl) (by rw [unhide HS]; rfl) (unhide HP).1.a (by omega) ?_; intro q2 k2 w2 r1 r2 r3
       have e1 := (r2.block Z (lt_of_row (unhide HP).1.blk) (fun q => by obtain ⟨c, e⟩ := owns_kind (unhide HP).1.a Z q; exact kind_ne e (unhide HP).1.blk (by decide) rfl)).trans (unhide HP).1.blk
       have fz2 : w2.frozen? ⟨Z, 1, none⟩ = false := by simp [World.frozen?, e1]
       have g2 : w2.cell? ⟨Z, 1, none⟩ = some wa := cell_of_row w2 _ 1 _ 53 (0, 0) e1
       have HP2 := hide ((unhide HP).1.put1 r1 r2 r3)
       have HR4 := hide r3
       clear r1 r2 r3 e1)
    | fail)
  go_end0
  have hO := (unhide HP).2
  refine ⟨rfl, _, _, (unhide HP2).1, ?_, unhide HR3, fun k hk => ?_⟩
  · refine (hO.mono (fun k _ q => q.elim .inl (fun q => .inr (.inl q)))).trans (unhide HP2).2 (fun k _ q => q.elim .inl (fun q => .inr (.inr q)))
  · rcases unhide HR4 k hk with q | q
    · exact .inl q
    · exact .inr (Nat.le_trans hO.size q)
end Go.Proofs.YthlacailhfhjnaaGreatDoor
