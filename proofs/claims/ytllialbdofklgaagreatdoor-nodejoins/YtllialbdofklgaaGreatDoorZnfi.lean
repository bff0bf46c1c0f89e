import Derived.Test.YtllialbdofklgaaGreatDoorZndb
import Derived.BigQuiet
import Derived.Deep.QuietTactic
import Derived.Test.YtllialbdofklgaaGreatDoorNfd
import Derived.Test.YtllialbdofklgaaGreatDoorProg
import Derived.WalkKit
import Derived.LaidEql
import Derived.Stop.Asserts
import Derived.RowKitTokens
import Derived.Test.YtllialbdofklgaaGreatDoorNrd
import Derived.Test.YtllialbdofklgaaGreatDoorZndg
import Derived.Test.YtllialbdofklgaaGreatDoorZndn
import Derived.Laws.OwnMore
namespace Go.Proofs.YtllialbdofklgaaGreatDoor
open Go.RowKit
set_option maxHeartbeats 4000000
set_option maxRecDepth 8000
/-- A node that is being built: its box T, its lists behind w0. -/
structure Ot (w0 : World) (T : Nat) (lf : Bool) (K V : List Bs) (L : List Int) (vK vV vI : Value) (w : World) : Prop where
  blk : w.heap[T]? = some (.cells #[.bool lf, vK, vV, vI] 25 (0, 0))
  rK : w.ownsRow 0 9 1 vK K.length (K.map S)
  rV : w.ownsRow 0 9 1 vV V.length (V.map S)
  rI : w.ownsRow 0 3 1 vI L.length (L.map fun z => I z)
  bel : Below w0.heap.size w0 w
  hT : w0.heap.size ≤ T
  hK : ∀ i, vK.ownBlock = some i → w0.heap.size ≤ i
  hV : ∀ i, vV.ownBlock = some i → w0.heap.size ≤ i
  hI : ∀ i, vI.ownBlock = some i → w0.heap.size ≤ i
  ne : ∀ i, vK.ownBlock = some i → vV.ownBlock ≠ some i
variable {w0 : World} {T : Nat} {lf : Bool} {K V : List Bs} {L : List Int} {vK vV vI : Value} {w w' : World}
theorem not_T {e m : Nat} {v : Value} {xs : List Value} {cs : Array Value} (hb : w.heap[T]? = some (.cells cs 25 (0, 0))) (hr : w.ownsRow 0 e 1 v m xs) (h1 : e ≠ 25) : ∀ i, v.ownBlock = some i → i ≠ T := by
  rintro i hi rfl
  obtain ⟨cs', q⟩ := owns_lt hr i hi
  rw [hb] at q
  injection q with q
  injection q with _ e2
  exact h1 e2.symm
theorem Ot.below (h : Ot w0 T lf K V L vK vV vI w) (q : Below w.heap.size w w') : Ot w0 T lf K V L vK vV vI w' :=
  ⟨(q.block T (lt_of_row h.blk)).trans h.blk, owns_below h.rK q, owns_below h.rV q, owns_below h.rI q, h.bel.trans (q.mono h.bel.size), h.hT, h.hK, h.hV, h.hI, h.ne⟩
theorem Ot.cells (h : Ot w0 T lf K V L vK vV vI w) : w.cell? ⟨T, 0, none⟩ = some (.bool lf) ∧ w.cell? ⟨T, 1, none⟩ = some vK ∧ w.cell? ⟨T, 2, none⟩ = some vV ∧ w.cell? ⟨T, 3, none⟩ = some vI :=
  box4 h.blk (Below.refl _ _) (lt_of_row h.blk)
theorem Ot.blk1 (h : Ot w0 T lf K V L vK vV vI w) {w1 : World} {v : Value} (hv : ∀ i, v.ownBlock = some i → i ≠ T) (o : Only (fun i => v.ownBlock = some i) w w1) : w1.heap[T]? = some (.cells #[.bool lf, vK, vV, vI] 25 (0, 0)) :=
  (o.block T (lt_of_row h.blk) (fun e => hv T e rfl)).trans h.blk
theorem Ot.setK (h : Ot w0 T lf K V L vK vV vI w) {w1 : World} {v' : Value} {m : Nat} (K' : List Bs) (hm : m = K'.length) (hr : w1.ownsRow 0 9 1 v' m (K'.map S)) (o : Only (fun i => vK.ownBlock = some i) w w1) (hn : ∀ i, v'.ownBlock = some i → vK.ownBlock = some i ∨ w.heap.size ≤ i) : Ot w0 T lf K' V L v' vV vI (w1.setCell ⟨T, 1, none⟩ v') := by
  subst hm
  have hb1 := h.blk1 (not_T h.blk h.rK (by decide)) o
  have o2 := Only.setCell w1 ⟨T, 1, none⟩ v'
  have bel1 : Below w0.heap.size w0 w1 := o.below h.bel h.bel.size (fun k hk => h.hK k hk)
  have hK' : ∀ i, v'.ownBlock = some i → w0.heap.size ≤ i := fun i hi => by
    rcases hn i hi with e | e
    · exact h.hK i e
    · exact Nat.le_trans h.bel.size e
  refine ⟨?_, owns_only hr o2 (fun i hi e => not_T hb1 hr (by decide) i hi e), owns_only (owns_only h.rV o (fun i hi e => h.ne i e hi)) o2 (fun i hi e => not_T h.blk h.rV (by decide) i hi e), owns_only (owns_only h.rI o (fun i hi e => ?_)) o2 (fun i hi e => not_T h.blk h.rI (by decide) i hi e), o2.below bel1 bel1.size (fun k e => by rw [e]; exact h.hT), h.hT, hK', h.hV, h.hI, fun i hi e => ?_⟩
  · rw [heap_setCell_same w1 T 1 _ 25 v' hb1]; rfl
  · obtain ⟨c1, e1⟩ := owns_lt h.rK i e
    obtain ⟨c2, e2⟩ := owns_lt h.rI i hi
    rw [e1] at e2
    cases e2
  · rcases hn i hi with e2 | e2
    · exact h.ne i e2 e
    · have := owns_blk h.rV i e; omega
theorem Ot.setV (h : Ot w0 T lf K V L vK vV vI w) {w1 : World} {v' : Value} {m : Nat} (V' : List Bs) (hm : m = V'.length) (hr : w1.ownsRow 0 9 1 v' m (V'.map S)) (o : Only (fun i => vV.ownBlock = some i) w w1) (hn : ∀ i, v'.ownBlock = some i → vV.ownBlock = some i ∨ w.heap.size ≤ i) : Ot w0 T lf K V' L vK v' vI (w1.setCell ⟨T, 2, none⟩ v') := by
  subst hm
  have hb1 := h.blk1 (not_T h.blk h.rV (by decide)) o
  have o2 := Only.setCell w1 ⟨T, 2, none⟩ v'
  have bel1 : Below w0.heap.size w0 w1 := o.below h.bel h.bel.size (fun k hk => h.hV k hk)
  have hV' : ∀ i, v'.ownBlock = some i → w0.heap.size ≤ i := fun i hi => by
    rcases hn i hi with e | e
    · exact h.hV i e
    · exact Nat.le_trans h.bel.size e
  refine ⟨?_, owns_only (owns_only h.rK o (fun i hi e => h.ne i hi e)) o2 (fun i hi e => not_T h.blk h.rK (by decide) i hi e), owns_only hr o2 (fun i hi e => not_T hb1 hr (by decide) i hi e), owns_only (owns_only h.rI o (fun i hi e => ?_)) o2 (fun i hi e => not_T h.blk h.rI (by decide) i hi e), o2.below bel1 bel1.size (fun k e => by rw [e]; exact h.hT), h.hT, h.hK, hV', h.hI, fun i hi e => ?_⟩
  · rw [heap_setCell_same w1 T 2 _ 25 v' hb1]; rfl
  · obtain ⟨c1, e1⟩ := owns_lt h.rV i e
    obtain ⟨c2, e2⟩ := owns_lt h.rI i hi
    rw [e1] at e2
    cases e2
  · rcases hn i e with e2 | e2
    · exact h.ne i hi e2
    · have := owns_blk h.rK i hi; omega
theorem Ot.setI (h : Ot w0 T lf K V L vK vV vI w) {w1 : World} {v' : Value} {m : Nat} (L' : List Int) (hm : m = L'.length) (hr : w1.ownsRow 0 3 1 v' m (L'.map fun z => I z)) (o : Only (fun i => vI.ownBlock = some i) w w1) (hn : ∀ i, v'.ownBlock = some i → vI.ownBlock = some i ∨ w.heap.size ≤ i) : Ot w0 T lf K V L' vK vV v' (w1.setCell ⟨T, 3, none⟩ v') := by
  subst hm
  have hb1 := h.blk1 (not_T h.blk h.rI (by decide)) o
  have o2 := Only.setCell w1 ⟨T, 3, none⟩ v'
  have bel1 : Below w0.heap.size w0 w1 := o.below h.bel h.bel.size (fun k hk => h.hI k hk)
  have ap : ∀ {v : Value} {m : Nat} {xs : List Value}, w.ownsRow 0 9 1 v m xs → w1.ownsRow 0 9 1 v m xs := fun {v m xs} hr => owns_only hr o (fun i hi e => by
    obtain ⟨c1, e1⟩ := owns_lt h.rI i e
    obtain ⟨c2, e2⟩ := owns_lt hr i hi
    rw [e1] at e2
    cases e2)
  refine ⟨?_, owns_only (ap h.rK) o2 (fun i hi e => not_T h.blk h.rK (by decide) i hi e), owns_only (ap h.rV) o2 (fun i hi e => not_T h.blk h.rV (by decide) i hi e), owns_only hr o2 (fun i hi e => not_T hb1 hr (by decide) i hi e), o2.below bel1 bel1.size (fun k e => by rw [e]; exact h.hT), h.hT, h.hK, h.hV, fun i hi => ?_, h.ne⟩
  · rw [heap_setCell_same w1 T 3 _ 25 v' hb1]; rfl
  · rcases hn i hi with e | e
    · exact h.hI i e
    · exact Nat.le_trans h.bel.size e
theorem app_rowS {tt : Nat} (v : Value) (n : Nat) (l : List Bs) (hown : w.ownsRow 0 9 1 v n (l.map S)) (g q m c : Nat) (u : List Bs) (hu : Sts w (some ⟨g, q, none⟩) m u) (hl : n + m ≤ 8589934592) :
    ∃ p cap w', (Builtin.append_ #[22, 22] tt #[v, .slice (some ⟨g, q, none⟩) m c]).run Tryz.prog w = .ok (.slice p (n + m) cap) w' ∧ w'.ownsRow 0 9 1 (.slice p (n + m) cap) (n + m) ((l ++ u).map S) ∧ Only (fun k => v.ownBlock = some k) w w' ∧ (∀ k, (Value.slice p (n + m) cap).ownBlock = some k → v.ownBlock = some k ∨ w.heap.size ≤ k) := by
  obtain ⟨i0, hi, hz0, hz1, hz2⟩ := info_parts info9
  obtain ⟨v', w', hr, h2, h3, _, h5⟩ := run_append_own_at (P := Tryz.prog) w 0 22 tt 9 i0 (.string ⟨#[]⟩) 1 16 Tryz.underlying22 hi hz0 hz1 hz2 rfl (by decide) v n (l.map S) hown ⟨g, q, none⟩ m c (u.map S) (by rw [List.length_map, ← hu.1]; omega) (fun j z hj => by
      rw [add_off]
      obtain ⟨hj1, hj2⟩ := List.getElem?_eq_some_iff.1 hj
      rw [List.length_map] at hj1
      obtain ⟨p, o, e, hcs⟩ := hu.2 (by rw [hu.1]; omega)
      cases e
      rw [hcs j (by rw [hu.1]; exact hj1), ← hj2, List.getElem_map, List.getD_eq_getElem?_getD, List.getElem?_eq_getElem hj1]
      rfl) (by intro z hz; obtain ⟨y, _, rfl⟩ := List.mem_map.1 hz; rfl) (by unfold maxLen; omega) (by omega) (Nat.zero_le _)
  rw [← List.map_append] at h2
  obtain ⟨p, cap, rfl⟩ := owns_form h2
  refine ⟨p, cap, w', hr, h2, Only.of_grown h3, ?_⟩
  intro k hk
  rcases h5 with h5 | h5
  · left; rw [← h5]; exact hk
  · right; rw [hk] at h5; have := Option.some.inj h5; omega
theorem app_rowI {tt : Nat} (v : Value) (n : Nat) (l : List Int) (hown : w.ownsRow 0 3 1 v n (l.map fun z => I z)) (g q m c : Nat) (u : List Int) (hu : Ins w (some ⟨g, q, none⟩) m u) (hl : n + m ≤ 8589934592) :
    ∃ p cap w', (Builtin.append_ #[23, 23] tt #[v, .slice (some ⟨g, q, none⟩) m c]).run Tryz.prog w = .ok (.slice p (n + m) cap) w' ∧ w'.ownsRow 0 3 1 (.slice p (n + m) cap) (n + m) ((l ++ u).map fun z => I z) ∧ Only (fun k => v.ownBlock = some k) w w' ∧ (∀ k, (Value.slice p (n + m) cap).ownBlock = some k → v.ownBlock = some k ∨ w.heap.size ≤ k) := by
  obtain ⟨i0, hi, hz0, hz1, hz2⟩ := info_parts info3
  obtain ⟨v', w', hr, h2, h3, _, h5⟩ := run_append_own_at (P := Tryz.prog) w 0 23 tt 3 i0 (.int .i64 0) 1 8 Tryz.underlying23 hi hz0 hz1 hz2 rfl (by decide) v n (l.map fun z => I z) hown ⟨g, q, none⟩ m c (u.map fun z => I z) (by rw [List.length_map, ← hu.1]; omega) (fun j z hj => by
      rw [add_off]
      obtain ⟨hj1, hj2⟩ := List.getElem?_eq_some_iff.1 hj
      rw [List.length_map] at hj1
      obtain ⟨p, o, e, hcs⟩ := hu.2 (by rw [hu.1]; omega)
      cases e
      rw [hcs j (by rw [hu.1]; exact hj1), ← hj2, List.getElem_map, List.getD_eq_getElem?_getD, List.getElem?_eq_getElem hj1]
      rfl) (by intro z hz; obtain ⟨y, _, rfl⟩ := List.mem_map.1 hz; rfl) (by unfold maxLen; omega) (by omega) (Nat.zero_le _)
  rw [← List.map_append] at h2
  obtain ⟨p, cap, rfl⟩ := owns_form h2
  refine ⟨p, cap, w', hr, h2, Only.of_grown h3, ?_⟩
  intro k hk
  rcases h5 with h5 | h5
  · left; rw [← h5]; exact hk
  · right; rw [hk] at h5; have := Option.some.inj h5; omega
theorem wp_appI {ops : Array Oper} {rest : List Oper} {o : Oper} {a : Act} {Q : Exit → Act → World → Prop} (hgd : o.guard = none) (s x : Operand) (ho : o.op = .call { callee := .builtin .append, args := #[s, x], argTypes := #[23, 23] })
    (v : Value) (n : Nat) (l : List Int) (hs : a.eval s = v) (hown : w.ownsRow 0 3 1 v n (l.map fun z => I z)) (g q m c : Nat) (u : List Int) (hu : Ins w (some ⟨g, q, none⟩) m u) (hx : a.eval x = .slice (some ⟨g, q, none⟩) m c) (hl : n + m ≤ 8589934592)
    (h : ∀ p cap w', w'.ownsRow 0 3 1 (.slice p (n + m) cap) (n + m) ((l ++ u).map fun z => I z) → Only (fun k => v.ownBlock = some k) w w' → (∀ k, (Value.slice p (n + m) cap).ownBlock = some k → v.ownBlock = some k ∨ w.heap.size ≤ k) → wpList Tryz.prog ops Q rest (a.put o.dst (.slice p (n + m) cap)) w') :
    wpList Tryz.prog ops Q (o :: rest) a w := by
  obtain ⟨p, cap, w', hr, h2, h3, h4⟩ := app_rowI (tt := o.type) v n l hown g q m c u hu hl
  refine wpList_plain hgd fun K hK => ?_
  unfold Oper.wp execOp
  simp only [ho, resolve, invoke, builtin, Sem.run_bind, Sem.run_pure, Result.andThen_ok, List.map_toArray, List.map_cons, List.map_nil, hs, hx, hr]
  exact hK _ _ (h p cap w' h2 h3 h4)
end Go.Proofs.YtllialbdofklgaaGreatDoor
namespace Go.Proofs.YtllialbdofklgaaGreatDoor
open Go.RowKit
theorem tot_split (l : List Bs) (i : Nat) : tot l = tot (l.take i) + tot (l.drop i) := by
  rw [← tot_app, List.take_append_drop]
end Go.Proofs.YtllialbdofklgaaGreatDoor
namespace Go.Proofs.YtllialbdofklgaaGreatDoor
open Go.RowKit
set_option maxHeartbeats 8000000
set_option maxRecDepth 8000
theorem zero3 (k : Nat) : (Builtin.zeroCells (Value.int .i64 0).cells k).size = k := by
  simp [Builtin.zeroCells, Value.cells]
theorem wp_gzI {ops : Array Oper} {rest : List Oper} {o : Oper} {a : Act} {Q : Exit → Act → World → Prop} {w w1 : World} {v : Value} {n : Nat} (hgd : o.guard = none) (s x : Operand) (ho : o.op = .call { callee := .builtin .append, args := #[s, x], argTypes := #[23, 3] })
    (hs : a.eval s = .slice none 0 0) (hx : a.eval x = I n) (hr : ∀ ty, (Builtin.append_ #[23, 3] ty #[.slice none 0 0, I n]).run Tryz.prog w = .ok v w1) (h : wpList Tryz.prog ops Q rest (a.put o.dst v) w1) : wpList Tryz.prog ops Q (o :: rest) a w := by
  refine wpList_plain hgd fun K hK => ?_
  unfold Oper.wp execOp
  simp only [ho, resolve, invoke, builtin, Sem.run_bind, Sem.run_pure, Result.andThen_ok, List.map_toArray, List.map_cons, List.map_nil, hs, hx, hr]
  exact hK _ _ h
/-- slices.Grow of nil. -/
theorem growI_nil (n : Nat) (w : World) (hn : n ≤ 4294967296) :
    Calls Tryz.prog 125 #[.slice none 0 0, I n] w fun e w' => ∃ V, e = .returned V ∧ w'.ownsRow 0 3 1 V 0 [] ∧ (∀ k, V.ownBlock = some k → w.heap.size ≤ k) ∧ Below w.heap.size w w' := by
  by_cases h0 : n = 0
  · subst h0
    go_enter Tryz.func125, Tryz.ntmps125
    go_wp2
    go_ret
    exact ⟨_, rfl, owns_nil _ _ _, (fun k hk => nomatch hk), Below.refl _ _⟩
  · obtain ⟨i0, hi0, hz0, hz1, hz2⟩ := info_parts info3
    have hold : (Builtin.firstCells i0.size 0 (.slice none 0 0)).run Tryz.prog w.drew = .ok ([] : List Value).toArray w.drew := by
      simp [Builtin.firstCells]
    have hr0 := fun ty => Lib.run_append_grow_zeros w 23 3 ty 3 i0 _ .i64 .i64 Tryz.underlying23 Tryz.underlying3 hi0 hz0 none 0 0 [] hold n (by omega) (by rw [hz1]; omega) (by omega) (by omega) (by rw [hz2]; omega) (by rw [hz2, Nat.zero_add, nextslicecap_zero (by omega)]; omega)
    simp only [Nat.zero_add] at hr0
    have hG1 := grownCap_ge w n 0 3
    have hG2 := grownCap_le_maxLen w n 0 3 (by unfold maxLen; omega)
    generalize grownCap w n 0 3 = G at *
    have hG3 : G ≤ 9223372036854775807 := by unfold maxLen at hG2; omega
    obtain ⟨ROW, hROW⟩ : ∃ ROW : Array Value, ROW = ([] : List Value).toArray ++ Builtin.zeroCells (Value.int .i64 0).cells n ++ Builtin.zeroCells (Value.int .i64 0).cells (G - n) := ⟨_, rfl⟩
    simp only [← hROW] at hr0
    have hRs : ROW.size = G * 1 := by
      rw [hROW]
      simp only [Array.size_append, zero3, List.size_toArray, List.length_nil]
      omega
    obtain ⟨w1, e1⟩ : ∃ w1, w1 = w.drew.alloc (.cells ROW 3) := ⟨_, rfl⟩
    simp only [← e1] at hr0
    have HR0 := hide hr0
    clear hr0
    have B1 : Below w.heap.size w w1 := by rw [e1]; exact (Below.refl _ _).drew.alloc (Nat.le_refl _) _
    have hg1 : w1.heap[w.heap.size]? = some (.cells ROW 3 (0, 0)) := by rw [e1]; exact heap_alloc_new w.drew _
    have HO : Hid (w1.ownsRow 0 3 1 (.slice (some ⟨w.heap.size, 0, none⟩) 0 G) 0 []) := ⟨rfl, .inr ⟨w.heap.size, G, ROW, rfl, Nat.zero_le _, hg1, Nat.zero_le _, hG2, hRs, rfl⟩⟩
    have HB := hide B1
    have hn' : (0 : Int) < (n : Int) := by omega
    clear hold hROW hRs e1 B1 hg1 hG2
    go_enter Tryz.func125, Tryz.ntmps125
    go_wp2_with (at_builtin; refine wp_gzI (n := n) rfl (.tmp 20) (.tmp 21) rfl (by rfl) (by rfl) (unhide HR0) ?_)
    go_ret
    exact ⟨_, rfl, unhide HO, fun k hk => by cases hk; exact Nat.le_refl _, unhide HB⟩
/-- slices.Concat of two rows of numbers. -/
theorem concatI2 (g g1 o1 n1 c1 g2 o2 n2 c2 : Nat) (l1 l2 : List Int) (w : World) (hg : w.heap[g]? = some (.cells #[.slice (some ⟨g1, o1, none⟩) n1 c1, .slice (some ⟨g2, o2, none⟩) n2 c2] 23 (0, 0)))
    (h1 : Ins w (some ⟨g1, o1, none⟩) n1 l1) (h2 : Ins w (some ⟨g2, o2, none⟩) n2 l2) (b1 : n1 ≤ 2147483648) (b2 : n2 ≤ 2147483648) :
    Calls Tryz.prog 104 #[.slice (some ⟨g, 0, none⟩) 2 2] w fun e w' => ∃ V, e = .returned V ∧ w'.ownsRow 0 3 1 V (n1 + n2) ((l1 ++ l2).map fun z => I z) ∧ (∀ k, V.ownBlock = some k → w.heap.size ≤ k) ∧ Below w.heap.size w w' := by
  have k0 : w.cell? ⟨g, 0, none⟩ = some (.slice (some ⟨g1, o1, none⟩) n1 c1) := by rw [cell_of_row w g 0 _ 23 (0, 0) hg]; rfl
  have k1 : w.cell? ⟨g, 1, none⟩ = some (.slice (some ⟨g2, o2, none⟩) n2 c2) := by rw [cell_of_row w g 1 _ 23 (0, 0) hg]; rfl
  have hgl := lt_of_row hg
  have HG := hide hg
  have S1 := hide h1
  have S2 := hide h2
  have H0 := hide (growI_nil (n1 + n2) w (by omega))
  clear h1 h2 hg
  go_enter Tryz.func104, Tryz.ntmps104
  go_wp2
  go_loopw [3, 11] (fun s i wr => ∃ k : Nat, k ≤ 2 ∧ i = .int .i64 k ∧ s = .int .i64 ((if k = 0 then 0 else if k = 1 then n1 else n1 + n2 : Nat) : Int) ∧ wr = w) (fun _ i _ => 2 - (Go.RowKit.intOf i).toNat)
  case atStart => exact ⟨0, by omega, rfl, rfl, rfl⟩
  case round =>
    obtain ⟨k, hk, rfl, rfl, rfl⟩ := hrel
    match k, hk with
    | 0, _ =>
      simp only [if_true]
      go_wp2
      go_round
      case measure => simp [Go.RowKit.intOf]
      case rel => exact ⟨1, by omega, by simp, by simp, by first | trivial | rfl⟩
    | 1, _ =>
      simp only [if_true, Nat.one_ne_zero, if_false]
      go_wp2
      go_round
      case measure => simp [Go.RowKit.intOf]
      case rel => exact ⟨2, by omega, by simp, by simp, by first | trivial | rfl⟩
    | 2, _ =>
      simp only [show (2 : Nat) = 0 ↔ False by decide, show (2 : Nat) = 1 ↔ False by decide, if_false]
      go_wp2_with fail
      refine (unhide H0).mono ?_
      rintro e w2 ⟨V, rfl, r2, o2', b2'⟩
      have HR := hide r2
      have HV := hide o2'
      have HB := hide b2'
      clear r2 o2' b2' H0
      go_wp2
      go_loopw [6, 27] (fun v i W => ∃ k : Nat, k ≤ 2 ∧ i = .int .i64 k ∧ W.ownsRow 0 3 1 v (if k = 0 then 0 else if k = 1 then n1 else n1 + n2) ((if k = 0 then [] else if k = 1 then l1 else l1 ++ l2 : List Int).map fun z => I z) ∧ (∀ j, v.ownBlock = some j → wr.heap.size ≤ j) ∧ Below wr.heap.size wr W) (fun _ i _ => 2 - (Go.RowKit.intOf i).toNat)
      case atStart => exact ⟨0, by omega, rfl, unhide HR, unhide HV, unhide HB⟩
      case round =>
        clear HR HV HB
        obtain ⟨k, hk, rfl, hr, hv, hb⟩ := hrel
        have HB := hide hb
        have HV := hide hv
        match k, hk with
        | 0, _ =>
          simp only [if_true] at hr
          obtain ⟨p, c, rfl⟩ := owns_form hr
          have HR := hide hr
          have k0' := (hb.cell hgl).trans k0
          have T1 := hide ((unhide S1).below hb)
          have hgl' := Nat.lt_of_lt_of_le hgl hb.size
          clear hr hv hb
          go_wp2_with (at_builtin; refine wp_appI rfl (.tmp 31) (.tmp 32) rfl (.slice p 0 c) 0 [] (by rfl) (unhide HR) g1 o1 n1 c1 l1 (unhide T1) (by rfl) (by omega) ?_; intro p3 c3 w3 r3 o3 n3; have HR3 := hide r3; have HO3 := hide o3; have HN3 := hide n3; clear r3 o3 n3)
          go_round
          case measure => simp [Go.RowKit.intOf]
          case rel =>
            refine ⟨1, by omega, by simp, by simpa using unhide HR3, fun j hj => ?_, (unhide HO3).below (unhide HB) (unhide HB).size (fun j hj => unhide HV j hj)⟩
            rcases unhide HN3 j (by rw [Nat.zero_add]; exact hj) with q | q
            · exact unhide HV j q
            · exact Nat.le_trans (unhide HB).size q
        | 1, _ =>
          simp only [if_true, Nat.one_ne_zero, if_false] at hr
          obtain ⟨p, c, rfl⟩ := owns_form hr
          have HR := hide hr
          have k1' := (hb.cell hgl).trans k1
          have T1 := hide ((unhide S2).below hb)
          have hgl' := Nat.lt_of_lt_of_le hgl hb.size
          clear hr hv hb
          go_wp2_with (at_builtin; refine wp_appI rfl (.tmp 31) (.tmp 32) rfl (.slice p n1 c) n1 l1 (by rfl) (unhide HR) g2 o2 n2 c2 l2 (unhide T1) (by rfl) (by omega) ?_; intro p3 c3 w3 r3 o3 n3; have HR3 := hide r3; have HO3 := hide o3; have HN3 := hide n3; clear r3 o3 n3)
          go_round
          case measure => simp [Go.RowKit.intOf]
          case rel =>
            refine ⟨2, by omega, by simp, unhide HR3, fun j hj => ?_, (unhide HO3).below (unhide HB) (unhide HB).size (fun j hj => unhide HV j hj)⟩
            rcases unhide HN3 j hj with q | q
            · exact unhide HV j q
            · exact Nat.le_trans (unhide HB).size q
        | 2, _ =>
          simp only [show (2 : Nat) = 0 ↔ False by decide, show (2 : Nat) = 1 ↔ False by decide, if_false] at hr
          have HR := hide hr
          clear hr hv hb
          go_wp2
          go_ret
          exact ⟨_, rfl, unhide HR, unhide HV, unhide HB⟩
/-- slices.Concat of three rows of texts. -/
theorem concat3 (g g1 o1 n1 c1 g2 o2 n2 c2 g3 o3 n3 c3 : Nat) (l1 l2 l3 : List Bs) (w : World) (hg : w.heap[g]? = some (.cells #[.slice (some ⟨g1, o1, none⟩) n1 c1, .slice (some ⟨g2, o2, none⟩) n2 c2, .slice (some ⟨g3, o3, none⟩) n3 c3] 22 (0, 0)))
    (h1 : Sts w (some ⟨g1, o1, none⟩) n1 l1) (h2 : Sts w (some ⟨g2, o2, none⟩) n2 l2) (h3 : Sts w (some ⟨g3, o3, none⟩) n3 l3) (b1 : n1 ≤ 1073741824) (b2 : n2 ≤ 1073741824) (b3 : n3 ≤ 1073741824) :
    Calls Tryz.prog 105 #[.slice (some ⟨g, 0, none⟩) 3 3] w fun e w' => ∃ V, e = .returned V ∧ w'.ownsRow 0 9 1 V (n1 + n2 + n3) ((l1 ++ l2 ++ l3).map S) ∧ (∀ k, V.ownBlock = some k → w.heap.size ≤ k) ∧ Below w.heap.size w w' := by
  have k0 : w.cell? ⟨g, 0, none⟩ = some (.slice (some ⟨g1, o1, none⟩) n1 c1) := by rw [cell_of_row w g 0 _ 22 (0, 0) hg]; rfl
  have k1 : w.cell? ⟨g, 1, none⟩ = some (.slice (some ⟨g2, o2, none⟩) n2 c2) := by rw [cell_of_row w g 1 _ 22 (0, 0) hg]; rfl
  have k2 : w.cell? ⟨g, 2, none⟩ = some (.slice (some ⟨g3, o3, none⟩) n3 c3) := by rw [cell_of_row w g 2 _ 22 (0, 0) hg]; rfl
  have hgl := lt_of_row hg
  have S1 := hide h1
  have S2 := hide h2
  have S3 := hide h3
  have H0 := hide (grow_nil (n1 + n2 + n3) w (by omega))
  clear h1 h2 h3 hg
  go_enter Tryz.func105, Tryz.ntmps105
  go_wp2
  go_loopw [3, 11] (fun s i wr => ∃ k : Nat, k ≤ 3 ∧ i = .int .i64 k ∧ s = .int .i64 ((if k = 0 then 0 else if k = 1 then n1 else if k = 2 then n1 + n2 else n1 + n2 + n3 : Nat) : Int) ∧ wr = w) (fun _ i _ => 3 - (Go.RowKit.intOf i).toNat)
  case atStart => exact ⟨0, by omega, rfl, rfl, rfl⟩
  case round =>
    obtain ⟨k, hk, rfl, rfl, rfl⟩ := hrel
    match k, hk with
    | 0, _ =>
      simp only [if_true]
      go_wp2
      go_round
      case measure => simp [Go.RowKit.intOf]
      case rel => exact ⟨1, by omega, by simp, by simp, by first | trivial | rfl⟩
    | 1, _ =>
      simp only [if_true, Nat.one_ne_zero, if_false]
      go_wp2
      go_round
      case measure => simp [Go.RowKit.intOf]
      case rel => exact ⟨2, by omega, by simp, by simp, by first | trivial | rfl⟩
    | 2, _ =>
      simp only [if_true, show (2 : Nat) = 0 ↔ False by decide, show (2 : Nat) = 1 ↔ False by decide, if_false]
      go_wp2
      go_round
      case measure => simp [Go.RowKit.intOf]
      case rel => exact ⟨3, by omega, by simp, by simp, by first | trivial | rfl⟩
    | 3, _ =>
      simp only [show (3 : Nat) = 0 ↔ False by decide, show (3 : Nat) = 1 ↔ False by decide, show (3 : Nat) = 2 ↔ False by decide, if_false]
      go_wp2_with fail
      refine (unhide H0).mono ?_
      rintro e w2 ⟨V, rfl, r2, o2', b2'⟩
      have HR := hide r2
      have HV := hide o2'
      have HB := hide b2'
      clear r2 o2' b2' H0
      go_wp2
      go_loopw [6, 27] (fun v i W => ∃ k : Nat, k ≤ 3 ∧ i = .int .i64 k ∧ W.ownsRow 0 9 1 v (if k = 0 then 0 else if k = 1 then n1 else if k = 2 then n1 + n2 else n1 + n2 + n3 : Nat) ((if k = 0 then [] else if k = 1 then l1 else if k = 2 then l1 ++ l2 else l1 ++ l2 ++ l3 : List Bs).map S) ∧ (∀ j, v.ownBlock = some j → wr.heap.size ≤ j) ∧ Below wr.heap.size wr W) (fun _ i _ => 3 - (Go.RowKit.intOf i).toNat)
      case atStart => exact ⟨0, by omega, rfl, unhide HR, unhide HV, unhide HB⟩
      case round =>
        clear HR HV HB
        obtain ⟨k, hk, rfl, hr, hv, hb⟩ := hrel
        have HB := hide hb
        have HV := hide hv
        match k, hk with
        | 0, _ =>
          simp only [if_true] at hr
          obtain ⟨p, c, rfl⟩ := owns_form hr
          have HR := hide hr
          have k0' := (hb.cell hgl).trans k0
          have T1 := hide ((unhide S1).below hb)
          have hgl' := Nat.lt_of_lt_of_le hgl hb.size
          clear hr hv hb
          go_wp2_with (at_builtin; refine wp_appS rfl (.tmp 31) (.tmp 32) rfl (.slice p 0 c) 0 [] (by rfl) (unhide HR) g1 o1 n1 c1 l1 (unhide T1) (by rfl) (by omega) ?_; intro p4 c4 w4 r4 o4 m4; have HR3 := hide r4; have HO3 := hide o4; have HN3 := hide m4; clear r4 o4 m4)
          go_round
          case measure => simp [Go.RowKit.intOf]
          case rel =>
            refine ⟨1, by omega, by simp, by simpa using unhide HR3, fun j hj => ?_, (unhide HO3).below (unhide HB) (unhide HB).size (fun j hj => unhide HV j hj)⟩
            rcases unhide HN3 j (by simpa using hj) with q | q
            · exact unhide HV j q
            · exact Nat.le_trans (unhide HB).size q
        | 1, _ =>
          simp only [if_true, Nat.one_ne_zero, if_false] at hr
          obtain ⟨p, c, rfl⟩ := owns_form hr
          have HR := hide hr
          have k1' := (hb.cell hgl).trans k1
          have T1 := hide ((unhide S2).below hb)
          have hgl' := Nat.lt_of_lt_of_le hgl hb.size
          clear hr hv hb
          go_wp2_with (at_builtin; refine wp_appS rfl (.tmp 31) (.tmp 32) rfl (.slice p n1 c) n1 l1 (by rfl) (unhide HR) g2 o2 n2 c2 l2 (unhide T1) (by rfl) (by omega) ?_; intro p4 c4 w4 r4 o4 m4; have HR3 := hide r4; have HO3 := hide o4; have HN3 := hide m4; clear r4 o4 m4)
          go_round
          case measure => simp [Go.RowKit.intOf]
          case rel =>
            refine ⟨2, by omega, by simp, by simpa using unhide HR3, fun j hj => ?_, (unhide HO3).below (unhide HB) (unhide HB).size (fun j hj => unhide HV j hj)⟩
            rcases unhide HN3 j (by simpa using hj) with q | q
            · exact unhide HV j q
            · exact Nat.le_trans (unhide HB).size q
        | 2, _ =>
          simp only [if_true, show (2 : Nat) = 0 ↔ False by decide, show (2 : Nat) = 1 ↔ False by decide, if_false] at hr
          obtain ⟨p, c, rfl⟩ := owns_form hr
          have HR := hide hr
          have k2' := (hb.cell hgl).trans k2
          have T1 := hide ((unhide S3).below hb)
          have hgl' := Nat.lt_of_lt_of_le hgl hb.size
          clear hr hv hb
          go_wp2_with (at_builtin; refine wp_appS rfl (.tmp 31) (.tmp 32) rfl (.slice p (n1 + n2) c) (n1 + n2) (l1 ++ l2) (by rfl) (unhide HR) g3 o3 n3 c3 l3 (unhide T1) (by rfl) (by omega) ?_; intro p4 c4 w4 r4 o4 m4; have HR3 := hide r4; have HO3 := hide o4; have HN3 := hide m4; clear r4 o4 m4)
          go_round
          case measure => simp [Go.RowKit.intOf]
          case rel =>
            refine ⟨3, by omega, by simp, by simpa using unhide HR3, fun j hj => ?_, (unhide HO3).below (unhide HB) (unhide HB).size (fun j hj => unhide HV j hj)⟩
            rcases unhide HN3 j (by simpa using hj) with q | q
            · exact unhide HV j q
            · exact Nat.le_trans (unhide HB).size q
        | 3, _ =>
          simp only [show (3 : Nat) = 0 ↔ False by decide, show (3 : Nat) = 1 ↔ False by decide, show (3 : Nat) = 2 ↔ False by decide, if_false] at hr
          have HR := hide hr
          clear hr hv hb
          go_wp2
          go_ret
          exact ⟨_, rfl, unhide HR, unhide HV, unhide HB⟩
end Go.Proofs.YtllialbdofklgaaGreatDoor
