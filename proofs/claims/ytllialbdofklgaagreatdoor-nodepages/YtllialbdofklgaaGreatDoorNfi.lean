import Derived.Test.YtllialbdofklgaaGreatDoorZndb
import Derived.BigQuiet
import Derived.Deep.QuietTactic
import Derived.Test.YtllialbdofklgaaGreatDoorZnff
import Derived.Test.YtllialbdofklgaaGreatDoorZndn
import Derived.Laws.OwnMore
namespace Go.Proofs.YtllialbdofklgaaGreatDoor
open Go.RowKit
set_option maxHeartbeats 4000000
set_option maxRecDepth 8000
/-- A node that is being built: its box T, its lists behind w0. -/
structure Ot (w0 : World) (T : Nat) (lf : Bool) (K V : List Bs) (L : List Int) (vK vV vI : Value) (w : World) : Prop where
  blk : w.heap[T]? = some (.cells #[.bool lf, vK, vV, vI] 25 (0, 0))
  rK : w.ownsRow 0 9 1 vK K.length (K.map S)
  rV : w.ownsRow 0 9 1 vV V.length (V.map S)
  rI : w.ownsRow 0 3 1 vI L.length (L.map fun z => I z)
  bel : Below w0.heap.size w0 w
  hT : w0.heap.size ≤ T
  hK : ∀ i, vK.ownBlock = some i → w0.heap.size ≤ i
  hV : ∀ i, vV.ownBlock = some i → w0.heap.size ≤ i
  hI : ∀ i, vI.ownBlock = some i → w0.heap.size ≤ i
  ne : ∀ i, vK.ownBlock = some i → vV.ownBlock ≠ some i
variable {w0 : World} {T : Nat} {lf : Bool} {K V : List Bs} {L : List Int} {vK vV vI : Value} {w w' : World}
theorem not_T {e m : Nat} {v : Value} {xs : List Value} {cs : Array Value} (hb : w.heap[T]? = some (.cells cs 25 (0, 0))) (hr : w.ownsRow 0 e 1 v m xs) (h1 : e ≠ 25) : ∀ i, v.ownBlock = some i → i ≠ T := by
  rintro i hi rfl
  obtain ⟨cs', q⟩ := owns_lt hr i hi
  rw [hb] at q
  injection q with q
  injection q with _ e2
  exact h1 e2.symm
theorem Ot.below (h : Ot w0 T lf K V L vK vV vI w) (q : Below w.heap.size w w') : Ot w0 T lf K V L vK vV vI w' :=
  ⟨(q.block T (lt_of_row h.blk)).trans h.blk, owns_below h.rK q, owns_below h.rV q, owns_below h.rI q, h.bel.trans (q.mono h.bel.size), h.hT, h.hK, h.hV, h.hI, h.ne⟩
theorem Ot.cells (h : Ot w0 T lf K V L vK vV vI w) : w.cell? ⟨T, 0, none⟩ = some (.bool lf) ∧ w.cell? ⟨T, 1, none⟩ = some vK ∧ w.cell? ⟨T, 2, none⟩ = some vV ∧ w.cell? ⟨T, 3, none⟩ = some vI :=
  box4 h.blk (Below.refl _ _) (lt_of_row h.blk)
theorem Ot.blk1 (h : Ot w0 T lf K V L vK vV vI w) {w1 : World} {v : Value} (hv : ∀ i, v.ownBlock = some i → i ≠ T) (o : Only (fun i => v.ownBlock = some i) w w1) : w1.heap[T]? = some (.cells #[.bool lf, vK, vV, vI] 25 (0, 0)) :=
  (o.block T (lt_of_row h.blk) (fun e => hv T e rfl)).trans h.blk
theorem Ot.setK (h : Ot w0 T lf K V L vK vV vI w) {w1 : World} {v' : Value} {m : Nat} (K' : List Bs) (hm : m = K'.length) (hr : w1.ownsRow 0 9 1 v' m (K'.map S)) (o : Only (fun i => vK.ownBlock = some i) w w1) (hn : ∀ i, v'.ownBlock = some i → vK.ownBlock = some i ∨ w.heap.size ≤ i) : Ot w0 T lf K' V L v' vV vI (w1.setCell ⟨T, 1, none⟩ v') := by
  subst hm
  have hb1 := h.blk1 (not_T h.blk h.rK (by decide)) o
  have o2 := Only.setCell w1 ⟨T, 1, none⟩ v'
  have bel1 : Below w0.heap.size w0 w1 := o.below h.bel h.bel.size (fun k hk => h.hK k hk)
  have hK' : ∀ i, v'.ownBlock = some i → w0.heap.size ≤ i := fun i hi => by
    rcases hn i hi with e | e
    · exact h.hK i e
    · exact Nat.le_trans h.bel.size e
  refine ⟨?_, owns_only hr o2 (fun i hi e => not_T hb1 hr (by decide) i hi e), owns_only (owns_only h.rV o (fun i hi e => h.ne i e hi)) o2 (fun i hi e => not_T h.blk h.rV (by decide) i hi e), owns_only (owns_only h.rI o (fun i hi e => ?_)) o2 (fun i hi e => not_T h.blk h.rI (by decide) i hi e), o2.below bel1 bel1.size (fun k e => by rw [e]; exact h.hT), h.hT, hK', h.hV, h.hI, fun i hi e => ?_⟩
  · rw [heap_setCell_same w1 T 1 _ 25 v' hb1]; rfl
  · obtain ⟨c1, e1⟩ := owns_lt h.rK i e
    obtain ⟨c2, e2⟩ := owns_lt h.rI i hi
    rw [e1] at e2
    cases e2
  · rcases hn i hi with e2 | e2
    · exact h.ne i e2 e
    · have := owns_blk h.rV i e; omega
theorem Ot.setV (h : Ot w0 T lf K V L vK vV vI w) {w1 : World} {v' : Value} {m : Nat} (V' : List Bs) (hm : m = V'.length) (hr : w1.ownsRow 0 9 1 v' m (V'.map S)) (o : Only (fun i => vV.ownBlock = some i) w w1) (hn : ∀ i, v'.ownBlock = some i → vV.ownBlock = some i ∨ w.heap.size ≤ i) : Ot w0 T lf K V' L vK v' vI (w1.setCell ⟨T, 2, none⟩ v') := by
  subst hm
  have hb1 := h.blk1 (not_T h.blk h.rV (by decide)) o
  have o2 := Only.setCell w1 ⟨T, 2, none⟩ v'
  have bel1 : Below w0.heap.size w0 w1 := o.below h.bel h.bel.size (fun k hk => h.hV k hk)
  have hV' : ∀ i, v'.ownBlock = some i → w0.heap.size ≤ i := fun i hi => by
    rcases hn i hi with e | e
    · exact h.hV i e
    · exact Nat.le_trans h.bel.size e
  refine ⟨?_, owns_only (owns_only h.rK o (fun i hi e => h.ne i hi e)) o2 (fun i hi e => not_T h.blk h.rK (by decide) i hi e), owns_only hr o2 (fun i hi e => not_T hb1 hr (by decide) i hi e), owns_only (owns_only h.rI o (fun i hi e => ?_)) o2 (fun i hi e => not_T h.blk h.rI (by decide) i hi e), o2.below bel1 bel1.size (fun k e => by rw [e]; exact h.hT), h.hT, h.hK, hV', h.hI, fun i hi e => ?_⟩
  · rw [heap_setCell_same w1 T 2 _ 25 v' hb1]; rfl
  · obtain ⟨c1, e1⟩ := owns_lt h.rV i e
    obtain ⟨c2, e2⟩ := owns_lt h.rI i hi
    rw [e1] at e2
    cases e2
  · rcases hn i e with e2 | e2
    · exact h.ne i hi e2
    · have := owns_blk h.rK i hi; omega
theorem Ot.setI (h : Ot w0 T lf K V L vK vV vI w) {w1 : World} {v' : Value} {m : Nat} (L' : List Int) (hm : m = L'.length) (hr : w1.ownsRow 0 3 1 v' m (L'.map fun z => I z)) (o : Only (fun i => vI.ownBlock = some i) w w1) (hn : ∀ i, v'.ownBlock = some i → vI.ownBlock = some i ∨ w.heap.size ≤ i) : Ot w0 T lf K V L' vK vV v' (w1.setCell ⟨T, 3, none⟩ v') := by
  subst hm
  have hb1 := h.blk1 (not_T h.blk h.rI (by decide)) o
  have o2 := Only.setCell w1 ⟨T, 3, none⟩ v'
  have bel1 : Below w0.heap.size w0 w1 := o.below h.bel h.bel.size (fun k hk => h.hI k hk)
  have ap : ∀ {v : Value} {m : Nat} {xs : List Value}, w.ownsRow 0 9 1 v m xs → w1.ownsRow 0 9 1 v m xs := fun {v m xs} hr => owns_only hr o (fun i hi e => by
    obtain ⟨c1, e1⟩ := owns_lt h.rI i e
    obtain ⟨c2, e2⟩ := owns_lt hr i hi
    rw [e1] at e2
    cases e2)
  refine ⟨?_, owns_only (ap h.rK) o2 (fun i hi e => not_T h.blk h.rK (by decide) i hi e), owns_only (ap h.rV) o2 (fun i hi e => not_T h.blk h.rV (by decide) i hi e), owns_only hr o2 (fun i hi e => not_T hb1 hr (by decide) i hi e), o2.below bel1 bel1.size (fun k e => by rw [e]; exact h.hT), h.hT, h.hK, h.hV, fun i hi => ?_, h.ne⟩
  · rw [heap_setCell_same w1 T 3 _ 25 v' hb1]; rfl
  · rcases hn i hi with e | e
    · exact h.hI i e
    · exact Nat.le_trans h.bel.size e
theorem app_rowS {tt : Nat} (v : Value) (n : Nat) (l : List Bs) (hown : w.ownsRow 0 9 1 v n (l.map S)) (g q m c : Nat) (u : List Bs) (hu : Sts w (some ⟨g, q, none⟩) m u) (hl : n + m ≤ 8589934592) :
    ∃ p cap w', (Builtin.append_ #[22, 22] tt #[v, .slice (some ⟨g, q, none⟩) m c]).run Tryz.prog w = .ok (.slice p (n + m) cap) w' ∧ w'.ownsRow 0 9 1 (.slice p (n + m) cap) (n + m) ((l ++ u).map S) ∧ Only (fun k => v.ownBlock = some k) w w' ∧ (∀ k, (Value.slice p (n + m) cap).ownBlock = some k → v.ownBlock = some k ∨ w.heap.size ≤ k) := by
  obtain ⟨i0, hi, hz0, hz1, hz2⟩ := info_parts info9
  obtain ⟨v', w', hr, h2, h3, _, h5⟩ := run_append_own_at (P := Tryz.prog) w 0 22 tt 9 i0 (.string ⟨#[]⟩) 1 16 Tryz.underlying22 hi hz0 hz1 hz2 rfl (by decide) v n (l.map S) hown ⟨g, q, none⟩ m c (u.map S) (by rw [List.length_map, ← hu.1]; omega) (fun j z hj => by
      rw [add_off]
      obtain ⟨hj1, hj2⟩ := List.getElem?_eq_some_iff.1 hj
      rw [List.length_map] at hj1
      obtain ⟨p, o, e, hcs⟩ := hu.2 (by rw [hu.1]; omega)
      cases e
      rw [hcs j (by rw [hu.1]; exact hj1), ← hj2, List.getElem_map, List.getD_eq_getElem?_getD, List.getElem?_eq_getElem hj1]
      rfl) (by intro z hz; obtain ⟨y, _, rfl⟩ := List.mem_map.1 hz; rfl) (by unfold maxLen; omega) (by omega) (Nat.zero_le _)
  rw [← List.map_append] at h2
  obtain ⟨p, cap, rfl⟩ := owns_form h2
  refine ⟨p, cap, w', hr, h2, Only.of_grown h3, ?_⟩
  intro k hk
  rcases h5 with h5 | h5
  · left; rw [← h5]; exact hk
  · right; rw [hk] at h5; have := Option.some.inj h5; omega
theorem app_rowI {tt : Nat} (v : Value) (n : Nat) (l : List Int) (hown : w.ownsRow 0 3 1 v n (l.map fun z => I z)) (g q m c : Nat) (u : List Int) (hu : Ins w (some ⟨g, q, none⟩) m u) (hl : n + m ≤ 8589934592) :
    ∃ p cap w', (Builtin.append_ #[23, 23] tt #[v, .slice (some ⟨g, q, none⟩) m c]).run Tryz.prog w = .ok (.slice p (n + m) cap) w' ∧ w'.ownsRow 0 3 1 (.slice p (n + m) cap) (n + m) ((l ++ u).map fun z => I z) ∧ Only (fun k => v.ownBlock = some k) w w' ∧ (∀ k, (Value.slice p (n + m) cap).ownBlock = some k → v.ownBlock = some k ∨ w.heap.size ≤ k) := by
  obtain ⟨i0, hi, hz0, hz1, hz2⟩ := info_parts info3
  obtain ⟨v', w', hr, h2, h3, _, h5⟩ := run_append_own_at (P := Tryz.prog) w 0 23 tt 3 i0 (.int .i64 0) 1 8 Tryz.underlying23 hi hz0 hz1 hz2 rfl (by decide) v n (l.map fun z => I z) hown ⟨g, q, none⟩ m c (u.map fun z => I z) (by rw [List.length_map, ← hu.1]; omega) (fun j z hj => by
      rw [add_off]
      obtain ⟨hj1, hj2⟩ := List.getElem?_eq_some_iff.1 hj
      rw [List.length_map] at hj1
      obtain ⟨p, o, e, hcs⟩ := hu.2 (by rw [hu.1]; omega)
      cases e
      rw [hcs j (by rw [hu.1]; exact hj1), ← hj2, List.getElem_map, List.getD_eq_getElem?_getD, List.getElem?_eq_getElem hj1]
      rfl) (by intro z hz; obtain ⟨y, _, rfl⟩ := List.mem_map.1 hz; rfl) (by unfold maxLen; omega) (by omega) (Nat.zero_le _)
  rw [← List.map_append] at h2
  obtain ⟨p, cap, rfl⟩ := owns_form h2
  refine ⟨p, cap, w', hr, h2, Only.of_grown h3, ?_⟩
  intro k hk
  rcases h5 with h5 | h5
  · left; rw [← h5]; exact hk
  · right; rw [hk] at h5; have := Option.some.inj h5; omega
theorem wp_appI {ops : Array Oper} {rest : List Oper} {o : Oper} {a : Act} {Q : Exit → Act → World → Prop} (hgd : o.guard = none) (s x : Operand) (ho : o.op = .call { callee := .builtin .append, args := #[s, x], argTypes := #[23, 23] })
    (v : Value) (n : Nat) (l : List Int) (hs : a.eval s = v) (hown : w.ownsRow 0 3 1 v n (l.map fun z => I z)) (g q m c : Nat) (u : List Int) (hu : Ins w (some ⟨g, q, none⟩) m u) (hx : a.eval x = .slice (some ⟨g, q, none⟩) m c) (hl : n + m ≤ 8589934592)
    (h : ∀ p cap w', w'.ownsRow 0 3 1 (.slice p (n + m) cap) (n + m) ((l ++ u).map fun z => I z) → Only (fun k => v.ownBlock = some k) w w' → (∀ k, (Value.slice p (n + m) cap).ownBlock = some k → v.ownBlock = some k ∨ w.heap.size ≤ k) → wpList Tryz.prog ops Q rest (a.put o.dst (.slice p (n + m) cap)) w') :
    wpList Tryz.prog ops Q (o :: rest) a w := by
  obtain ⟨p, cap, w', hr, h2, h3, h4⟩ := app_rowI (tt := o.type) v n l hown g q m c u hu hl
  refine wpList_plain hgd fun K hK => ?_
  unfold Oper.wp execOp
  simp only [ho, resolve, invoke, builtin, Sem.run_bind, Sem.run_pure, Result.andThen_ok, List.map_toArray, List.map_cons, List.map_nil, hs, hx, hr]
  exact hK _ _ (h p cap w' h2 h3 h4)
end Go.Proofs.YtllialbdofklgaaGreatDoor
