import Derived.Test.YtllialbdofklgaaGreatDoorZndb
import Derived.Test.YtllialbdofklgaaGreatDoorZnff
import Derived.Test.YtllialbdofklgaaGreatDoorZndm
import Derived.Laws.OwnMore
namespace Go.Proofs.YtllialbdofklgaaGreatDoor
open Go.RowKit
set_option maxHeartbeats 4000000
set_option maxRecDepth 8000
/-- A node whose lists are rows of one's own. -/
structure NR (n : Nd) (vK vV vI : Value) (w : World) : Prop where
  rK : w.ownsRow 0 9 1 vK n.keys.length (n.keys.map S)
  rV : w.ownsRow 0 9 1 vV n.vals.length (n.vals.map S)
  rI : w.ownsRow 0 3 1 vI n.kids.length (n.kids.map fun z => I z)
  nl : n.keys = [] → vK = .slice none 0 0 ∧ vV = .slice none 0 0
theorem NR.below {n : Nd} {vK vV vI : Value} {w w' : World} (h : NR n vK vV vI w) (hb : Below w.heap.size w w') : NR n vK vV vI w' := ⟨owns_below h.rK hb, owns_below h.rV hb, owns_below h.rI hb, h.nl⟩
theorem NR.na {n : Nd} {vK vV vI : Value} {w : World} (h : NR n vK vV vI w) : ∃ ka va ia kc vc ic, vK = .slice ka n.keys.length kc ∧ vV = .slice va n.vals.length vc ∧ vI = .slice ia n.kids.length ic ∧ NA n ka va ia w := by
  obtain ⟨p, c, e1, s1, _⟩ := Sts.of h.rK
  obtain ⟨p', c', e2, s2, _⟩ := Sts.of h.rV
  obtain ⟨p'', c'', e3, s3, _⟩ := Ins.of h.rI
  exact ⟨p, p', p'', c, c', c'', e1, e2, e3, s1, s2, s3⟩
/-- A node that is being built: its box T, its lists behind w0. -/
structure Ot (w0 : World) (T : Nat) (lf : Bool) (K V : List Bs) (L : List Int) (vK vV vI : Value) (w : World) : Prop where
  blk : w.heap[T]? = some (.cells #[.bool lf, vK, vV, vI] 25 (0, 0))
  rK : w.ownsRow 0 9 1 vK K.length (K.map S)
  rV : w.ownsRow 0 9 1 vV V.length (V.map S)
  rI : w.ownsRow 0 3 1 vI L.length (L.map fun z => I z)
  bel : Below w0.heap.size w0 w
  hT : w0.heap.size ≤ T
  hK : ∀ i, vK.ownBlock = some i → w0.heap.size ≤ i
  hV : ∀ i, vV.ownBlock = some i → w0.heap.size ≤ i
  hI : ∀ i, vI.ownBlock = some i → w0.heap.size ≤ i
  ne : ∀ i, vK.ownBlock = some i → vV.ownBlock ≠ some i
variable {w0 : World} {T : Nat} {lf : Bool} {K V : List Bs} {L : List Int} {vK vV vI : Value} {w w' : World}
theorem not_T {e m : Nat} {v : Value} {xs : List Value} {cs : Array Value} (hb : w.heap[T]? = some (.cells cs 25 (0, 0))) (hr : w.ownsRow 0 e 1 v m xs) (h1 : e ≠ 25) : ∀ i, v.ownBlock = some i → i ≠ T := by
  rintro i hi rfl
  obtain ⟨cs', q⟩ := owns_lt hr i hi
  rw [hb] at q
  injection q with q
  injection q with _ e2
  exact h1 e2.symm
theorem Ot.below (h : Ot w0 T lf K V L vK vV vI w) (q : Below w.heap.size w w') : Ot w0 T lf K V L vK vV vI w' :=
  ⟨(q.block T (lt_of_row h.blk)).trans h.blk, owns_below h.rK q, owns_below h.rV q, owns_below h.rI q, h.bel.trans (q.mono h.bel.size), h.hT, h.hK, h.hV, h.hI, h.ne⟩
theorem Ot.cells (h : Ot w0 T lf K V L vK vV vI w) : w.cell? ⟨T, 0, none⟩ = some (.bool lf) ∧ w.cell? ⟨T, 1, none⟩ = some vK ∧ w.cell? ⟨T, 2, none⟩ = some vV ∧ w.cell? ⟨T, 3, none⟩ = some vI :=
  box4 h.blk (Below.refl _ _) (lt_of_row h.blk)
theorem Ot.blk1 (h : Ot w0 T lf K V L vK vV vI w) {w1 : World} {v : Value} (hv : ∀ i, v.ownBlock = some i → i ≠ T) (o : Only (fun i => v.ownBlock = some i) w w1) : w1.heap[T]? = some (.cells #[.bool lf, vK, vV, vI] 25 (0, 0)) :=
  (o.block T (lt_of_row h.blk) (fun e => hv T e rfl)).trans h.blk
theorem Ot.setK (h : Ot w0 T lf K V L vK vV vI w) {w1 : World} {v' : Value} {m : Nat} (K' : List Bs) (hm : m = K'.length) (hr : w1.ownsRow 0 9 1 v' m (K'.map S)) (o : Only (fun i => vK.ownBlock = some i) w w1) (hn : ∀ i, v'.ownBlock = some i → vK.ownBlock = some i ∨ w.heap.size ≤ i) : Ot w0 T lf K' V L v' vV vI (w1.setCell ⟨T, 1, none⟩ v') := by
  subst hm
  have hb1 := h.blk1 (not_T h.blk h.rK (by decide)) o
  have o2 := Only.setCell w1 ⟨T, 1, none⟩ v'
  have bel1 : Below w0.heap.size w0 w1 := o.below h.bel h.bel.size (fun k hk => h.hK k hk)
  have hK' : ∀ i, v'.ownBlock = some i → w0.heap.size ≤ i := fun i hi => by
    rcases hn i hi with e | e
    · exact h.hK i e
    · exact Nat.le_trans h.bel.size e
  refine ⟨?_, owns_only hr o2 (fun i hi e => not_T hb1 hr (by decide) i hi e), owns_only (owns_only h.rV o (fun i hi e => h.ne i e hi)) o2 (fun i hi e => not_T h.blk h.rV (by decide) i hi e), owns_only (owns_only h.rI o (fun i hi e => ?_)) o2 (fun i hi e => not_T h.blk h.rI (by decide) i hi e), o2.below bel1 bel1.size (fun k e => by rw [e]; exact h.hT), h.hT, hK', h.hV, h.hI, fun i hi e => ?_⟩
  · rw [heap_setCell_same w1 T 1 _ 25 v' hb1]; rfl
  · obtain ⟨c1, e1⟩ := owns_lt h.rK i e
    obtain ⟨c2, e2⟩ := owns_lt h.rI i hi
    rw [e1] at e2
    cases e2
  · rcases hn i hi with e2 | e2
    · exact h.ne i e2 e
    · have := owns_blk h.rV i e; omega
theorem Ot.setV (h : Ot w0 T lf K V L vK vV vI w) {w1 : World} {v' : Value} {m : Nat} (V' : List Bs) (hm : m = V'.length) (hr : w1.ownsRow 0 9 1 v' m (V'.map S)) (o : Only (fun i => vV.ownBlock = some i) w w1) (hn : ∀ i, v'.ownBlock = some i → vV.ownBlock = some i ∨ w.heap.size ≤ i) : Ot w0 T lf K V' L vK v' vI (w1.setCell ⟨T, 2, none⟩ v') := by
  subst hm
  have hb1 := h.blk1 (not_T h.blk h.rV (by decide)) o
  have o2 := Only.setCell w1 ⟨T, 2, none⟩ v'
  have bel1 : Below w0.heap.size w0 w1 := o.below h.bel h.bel.size (fun k hk => h.hV k hk)
  have hV' : ∀ i, v'.ownBlock = some i → w0.heap.size ≤ i := fun i hi => by
    rcases hn i hi with e | e
    · exact h.hV i e
    · exact Nat.le_trans h.bel.size e
  refine ⟨?_, owns_only (owns_only h.rK o (fun i hi e => h.ne i hi e)) o2 (fun i hi e => not_T h.blk h.rK (by decide) i hi e), owns_only hr o2 (fun i hi e => not_T hb1 hr (by decide) i hi e), owns_only (owns_only h.rI o (fun i hi e => ?_)) o2 (fun i hi e => not_T h.blk h.rI (by decide) i hi e), o2.below bel1 bel1.size (fun k e => by rw [e]; exact h.hT), h.hT, h.hK, hV', h.hI, fun i hi e => ?_⟩
  · rw [heap_setCell_same w1 T 2 _ 25 v' hb1]; rfl
  · obtain ⟨c1, e1⟩ := owns_lt h.rV i e
    obtain ⟨c2, e2⟩ := owns_lt h.rI i hi
    rw [e1] at e2
    cases e2
  · rcases hn i e with e2 | e2
    · exact h.ne i hi e2
    · have := owns_blk h.rK i hi; omega
theorem Ot.setI (h : Ot w0 T lf K V L vK vV vI w) {w1 : World} {v' : Value} {m : Nat} (L' : List Int) (hm : m = L'.length) (hr : w1.ownsRow 0 3 1 v' m (L'.map fun z => I z)) (o : Only (fun i => vI.ownBlock = some i) w w1) (hn : ∀ i, v'.ownBlock = some i → vI.ownBlock = some i ∨ w.heap.size ≤ i) : Ot w0 T lf K V L' vK vV v' (w1.setCell ⟨T, 3, none⟩ v') := by
  subst hm
  have hb1 := h.blk1 (not_T h.blk h.rI (by decide)) o
  have o2 := Only.setCell w1 ⟨T, 3, none⟩ v'
  have bel1 : Below w0.heap.size w0 w1 := o.below h.bel h.bel.size (fun k hk => h.hI k hk)
  have ap : ∀ {v : Value} {m : Nat} {xs : List Value}, w.ownsRow 0 9 1 v m xs → w1.ownsRow 0 9 1 v m xs := fun {v m xs} hr => owns_only hr o (fun i hi e => by
    obtain ⟨c1, e1⟩ := owns_lt h.rI i e
    obtain ⟨c2, e2⟩ := owns_lt hr i hi
    rw [e1] at e2
    cases e2)
  refine ⟨?_, owns_only (ap h.rK) o2 (fun i hi e => not_T h.blk h.rK (by decide) i hi e), owns_only (ap h.rV) o2 (fun i hi e => not_T h.blk h.rV (by decide) i hi e), owns_only hr o2 (fun i hi e => not_T hb1 hr (by decide) i hi e), o2.below bel1 bel1.size (fun k e => by rw [e]; exact h.hT), h.hT, h.hK, h.hV, fun i hi => ?_, h.ne⟩
  · rw [heap_setCell_same w1 T 3 _ 25 v' hb1]; rfl
  · rcases hn i hi with e | e
    · exact h.hI i e
    · exact Nat.le_trans h.bel.size e
theorem app_rowS {tt : Nat} (v : Value) (n : Nat) (l : List Bs) (hown : w.ownsRow 0 9 1 v n (l.map S)) (g q m c : Nat) (u : List Bs) (hu : Sts w (some ⟨g, q, none⟩) m u) (hl : n + m ≤ 8589934592) :
    ∃ p cap w', (Builtin.append_ #[22, 22] tt #[v, .slice (some ⟨g, q, none⟩) m c]).run Tryz.prog w = .ok (.slice p (n + m) cap) w' ∧ w'.ownsRow 0 9 1 (.slice p (n + m) cap) (n + m) ((l ++ u).map S) ∧ Only (fun k => v.ownBlock = some k) w w' ∧ (∀ k, (Value.slice p (n + m) cap).ownBlock = some k → v.ownBlock = some k ∨ w.heap.size ≤ k) := by
  obtain ⟨i0, hi, hz0, hz1, hz2⟩ := info_parts info9
  obtain ⟨v', w', hr, h2, h3, _, h5⟩ := run_append_own_at (P := Tryz.prog) w 0 22 tt 9 i0 (.string ⟨#[]⟩) 1 16 Tryz.underlying22 hi hz0 hz1 hz2 rfl (by decide) v n (l.map S) hown ⟨g, q, none⟩ m c (u.map S) (by rw [List.length_map, ← hu.1]; omega) (fun j z hj => by
      rw [add_off]
      obtain ⟨hj1, hj2⟩ := List.getElem?_eq_some_iff.1 hj
      rw [List.length_map] at hj1
      obtain ⟨p, o, e, hcs⟩ := hu.2 (by rw [hu.1]; omega)
      cases e
      rw [hcs j (by rw [hu.1]; exact hj1), ← hj2, List.getElem_map, List.getD_eq_getElem?_getD, List.getElem?_eq_getElem hj1]
      rfl) (by intro z hz; obtain ⟨y, _, rfl⟩ := List.mem_map.1 hz; rfl) (by unfold maxLen; omega) (by omega) (Nat.zero_le _)
  rw [← List.map_append] at h2
  obtain ⟨p, cap, rfl⟩ := owns_form h2
  refine ⟨p, cap, w', hr, h2, Only.of_grown h3, ?_⟩
  intro k hk
  rcases h5 with h5 | h5
  · left; rw [← h5]; exact hk
  · right; rw [hk] at h5; have := Option.some.inj h5; omega
theorem app_rowI {tt : Nat} (v : Value) (n : Nat) (l : List Int) (hown : w.ownsRow 0 3 1 v n (l.map fun z => I z)) (g q m c : Nat) (u : List Int) (hu : Ins w (some ⟨g, q, none⟩) m u) (hl : n + m ≤ 8589934592) :
    ∃ p cap w', (Builtin.append_ #[23, 23] tt #[v, .slice (some ⟨g, q, none⟩) m c]).run Tryz.prog w = .ok (.slice p (n + m) cap) w' ∧ w'.ownsRow 0 3 1 (.slice p (n + m) cap) (n + m) ((l ++ u).map fun z => I z) ∧ Only (fun k => v.ownBlock = some k) w w' ∧ (∀ k, (Value.slice p (n + m) cap).ownBlock = some k → v.ownBlock = some k ∨ w.heap.size ≤ k) := by
  obtain ⟨i0, hi, hz0, hz1, hz2⟩ := info_parts info3
  obtain ⟨v', w', hr, h2, h3, _, h5⟩ := run_append_own_at (P := Tryz.prog) w 0 23 tt 3 i0 (.int .i64 0) 1 8 Tryz.underlying23 hi hz0 hz1 hz2 rfl (by decide) v n (l.map fun z => I z) hown ⟨g, q, none⟩ m c (u.map fun z => I z) (by rw [List.length_map, ← hu.1]; omega) (fun j z hj => by
      rw [add_off]
      obtain ⟨hj1, hj2⟩ := List.getElem?_eq_some_iff.1 hj
      rw [List.length_map] at hj1
      obtain ⟨p, o, e, hcs⟩ := hu.2 (by rw [hu.1]; omega)
      cases e
      rw [hcs j (by rw [hu.1]; exact hj1), ← hj2, List.getElem_map, List.getD_eq_getElem?_getD, List.getElem?_eq_getElem hj1]
      rfl) (by intro z hz; obtain ⟨y, _, rfl⟩ := List.mem_map.1 hz; rfl) (by unfold maxLen; omega) (by omega) (Nat.zero_le _)
  rw [← List.map_append] at h2
  obtain ⟨p, cap, rfl⟩ := owns_form h2
  refine ⟨p, cap, w', hr, h2, Only.of_grown h3, ?_⟩
  intro k hk
  rcases h5 with h5 | h5
  · left; rw [← h5]; exact hk
  · right; rw [hk] at h5; have := Option.some.inj h5; omega
/-- Texts behind texts, within a region that draws its order. -/
theorem step_appS {ops : Array Oper} {o : Oper} {a : Act} {K : Act → World → Prop} {Q : Exit → Act → World → Prop} {R : Prop} (hgd : o.guard = none) (s x : Operand)
    (ho : o.op = .call { callee := .builtin .append, args := #[s, x], argTypes := #[22, 22] })
    (v : Value) (n : Nat) (l : List Bs) (hs : a.eval s = v) (hown : w.ownsRow 0 9 1 v n (l.map S)) (g q m c : Nat) (u : List Bs) (hu : Sts w (some ⟨g, q, none⟩) m u) (hx : a.eval x = .slice (some ⟨g, q, none⟩) m c) (hl : n + m ≤ 8589934592)
    (h : ∀ p cap w', w'.ownsRow 0 9 1 (.slice p (n + m) cap) (n + m) ((l ++ u).map S) → Only (fun k => v.ownBlock = some k) w w' → (∀ k, (Value.slice p (n + m) cap).ownBlock = some k → v.ownBlock = some k ∨ w.heap.size ≤ k) → K (a.put o.dst (.slice p (n + m) cap)) w') :
    if Region.wanted o (yielded ops a.tmps) = true then Oper.wp Tryz.prog o a w K Q else R := by
  have hw : Region.wanted o (yielded ops a.tmps) = true := by simp [Region.wanted, hgd]
  rw [if_pos hw]
  obtain ⟨p, cap, w', hr, h2, h3, h4⟩ := app_rowS (tt := o.type) v n l hown g q m c u hu hl
  unfold Oper.wp execOp
  simp only [ho, resolve, invoke, builtin, Sem.run_bind, Sem.run_pure, Result.andThen_ok, List.map_toArray, List.map_cons, List.map_nil, hs, hx, hr]
  exact h p cap w' h2 h3 h4
theorem step_appN {ops : Array Oper} {o : Oper} {a : Act} {K : Act → World → Prop} {Q : Exit → Act → World → Prop} {R : Prop} (hgd : o.guard = none) (s x : Operand)
    (ho : o.op = .call { callee := .builtin .append, args := #[s, x], argTypes := #[22, 22] })
    (v : Value) (n : Nat) (l : List Bs) (hs : a.eval s = v) (hown : w.ownsRow 0 9 1 v n (l.map S)) (hx : a.eval x = .slice none 0 0) (h : K (a.put o.dst v) w) :
    if Region.wanted o (yielded ops a.tmps) = true then Oper.wp Tryz.prog o a w K Q else R := by
  have hw : Region.wanted o (yielded ops a.tmps) = true := by simp [Region.wanted, hgd]
  rw [if_pos hw]
  obtain ⟨i0, hi, hz0, hz1, hz2⟩ := info_parts info9
  have hr := run_append_owned_none (P := Tryz.prog) (w := w) 0 22 o.type 9 i0 1 Tryz.underlying22 hi v n _ hown
  unfold Oper.wp execOp
  simp only [ho, resolve, invoke, builtin, Sem.run_bind, Sem.run_pure, Result.andThen_ok, List.map_toArray, List.map_cons, List.map_nil, hs, hx, hr]
  exact h
theorem wp_appI {ops : Array Oper} {rest : List Oper} {o : Oper} {a : Act} {Q : Exit → Act → World → Prop} (hgd : o.guard = none) (s x : Operand) (ho : o.op = .call { callee := .builtin .append, args := #[s, x], argTypes := #[23, 23] })
    (v : Value) (n : Nat) (l : List Int) (hs : a.eval s = v) (hown : w.ownsRow 0 3 1 v n (l.map fun z => I z)) (g q m c : Nat) (u : List Int) (hu : Ins w (some ⟨g, q, none⟩) m u) (hx : a.eval x = .slice (some ⟨g, q, none⟩) m c) (hl : n + m ≤ 8589934592)
    (h : ∀ p cap w', w'.ownsRow 0 3 1 (.slice p (n + m) cap) (n + m) ((l ++ u).map fun z => I z) → Only (fun k => v.ownBlock = some k) w w' → (∀ k, (Value.slice p (n + m) cap).ownBlock = some k → v.ownBlock = some k ∨ w.heap.size ≤ k) → wpList Tryz.prog ops Q rest (a.put o.dst (.slice p (n + m) cap)) w') :
    wpList Tryz.prog ops Q (o :: rest) a w := by
  obtain ⟨p, cap, w', hr, h2, h3, h4⟩ := app_rowI (tt := o.type) v n l hown g q m c u hu hl
  refine wpList_plain hgd fun K hK => ?_
  unfold Oper.wp execOp
  simp only [ho, resolve, invoke, builtin, Sem.run_bind, Sem.run_pure, Result.andThen_ok, List.map_toArray, List.map_cons, List.map_nil, hs, hx, hr]
  exact hK _ _ (h p cap w' h2 h3 h4)
/-! ### A cell more -/
def ky (c : Bs) : Bs := if c.take 36 = [] then [107] else c.take 36
def mor (lf : Bool) (key val : Bs) : Nat := if lf then 2 + key.length + val.length else 5 + key.length
def wth (n : Nd) (k v : Bs) (z : Int) (most : Nat) : Nd :=
  if isat n.keys (ky k) = true ∨ most < lsz n + mor n.leaf (ky k) (v.take 200) then n
  else if n.leaf then ⟨true, n.keys.take (blw n.keys (ky k)) ++ [ky k] ++ n.keys.drop (blw n.keys (ky k)), n.vals.take (blw n.keys (ky k)) ++ [v.take 200] ++ n.vals.drop (blw n.keys (ky k)), []⟩
  else ⟨false, n.keys.take (blw n.keys (ky k)) ++ [ky k] ++ n.keys.drop (blw n.keys (ky k)), [], n.kids ++ [z]⟩
end Go.Proofs.YtllialbdofklgaaGreatDoor
namespace Go.Proofs.YtllialbdofklgaaGreatDoor
open Go.RowKit
/-! ### A node of raw cells -/
structure Mk (lf : Bool) (most : Nat) (n : Nd) : Prop where
  leaf : n.leaf = lf
  vl : lf = true → n.vals.length = n.keys.length ∧ n.kids = [] ∧ ∀ x ∈ n.vals, x.length ≤ 200
  il : lf = false → n.vals = [] ∧ n.kids.length = n.keys.length + 1 ∧ ∀ j, j < n.kids.length → (2 + 1000 * j : Int) ≤ n.kids.getD j 0 ∧ n.kids.getD j 0 < 2 + 1000 * (j + 1)
  ks : Rs n.keys
  kl : ∀ x ∈ n.keys, 1 ≤ x.length ∧ x.length ≤ 36
  sz : lsz n ≤ most
theorem ky_pos (k : Bs) : 1 ≤ (ky k).length ∧ (ky k).length ≤ 36 := by
  unfold ky
  split
  · simp
  · rename_i h
    refine ⟨List.length_pos_iff.2 h, by rw [List.length_take]; omega⟩
theorem blw_split : ∀ (l : List Bs) (key : Bs), Rs l → isat l key = false → (∀ x ∈ l.take (blw l key), x < key) ∧ ∀ x ∈ l.drop (blw l key), key < x
  | [], _, _, _ => by simp
  | a :: r, key, hs, ha => by
    by_cases h : a < key
    · have hb : blw (a :: r) key = blw r key + 1 := by rw [blw, if_pos h]
      have hr := (List.pairwise_cons.1 hs).2
      have ha' : isat r key = false := by
        unfold isat at ha ⊢
        rw [hb] at ha
        simpa using ha
      obtain ⟨h1, h2⟩ := blw_split r key hr ha'
      rw [hb]
      refine ⟨fun x hx => ?_, by simpa using h2⟩
      rw [List.take_succ_cons] at hx
      rcases List.mem_cons.1 hx with rfl | hx
      · exact h
      · exact h1 x hx
    · have hb : blw (a :: r) key = 0 := by rw [blw, if_neg h]
      rw [hb]
      refine ⟨by simp, fun x hx => ?_⟩
      have hne : a ≠ key := by
        intro e
        unfold isat at ha
        rw [hb] at ha
        simp [e] at ha
      have hlt : key < a := lt_total' h hne
      rw [List.drop_zero] at hx
      rcases List.mem_cons.1 hx with rfl | hx
      · exact hlt
      · exact lt_trans' hlt ((List.pairwise_cons.1 hs).1 x hx)
theorem ins_rs {l : List Bs} {key : Bs} (hs : Rs l) (ha : isat l key = false) : Rs (l.take (blw l key) ++ [key] ++ l.drop (blw l key)) := by
  obtain ⟨h1, h2⟩ := blw_split l key hs ha
  have h3 : Rs (l.take (blw l key)) := hs.sublist (List.take_sublist _ _)
  have h4 : Rs (l.drop (blw l key)) := hs.sublist (List.drop_sublist _ _)
  refine List.pairwise_append.2 ⟨List.pairwise_append.2 ⟨h3, List.pairwise_singleton _ _, fun a ha b hb => ?_⟩, h4, fun a ha b hb => ?_⟩
  · rw [List.mem_singleton.1 hb]; exact h1 a ha
  · rcases List.mem_append.1 ha with ha | ha
    · exact lt_trans' (h1 a ha) (h2 b hb)
    · rw [List.mem_singleton.1 ha]; exact h2 b hb
theorem ins_tot (l : List Bs) (i : Nat) (x : Bs) : tot (l.take i ++ [x] ++ l.drop i) = tot l + x.length := by
  have := tot_app (l.take i) (l.drop i)
  rw [List.take_append_drop] at this
  rw [tot_app, tot_app]
  simp only [tot, List.map_cons, List.map_nil, List.sum_cons, List.sum_nil] at *
  omega
theorem ins_len (l : List Bs) (i : Nat) (x : Bs) : (l.take i ++ [x] ++ l.drop i).length = l.length + 1 := by
  have : (l.take i ++ l.drop i).length = l.length := by rw [List.take_append_drop]
  simp only [List.length_append, List.length_cons, List.length_nil] at *
  omega
theorem ins_mem {l : List Bs} {i : Nat} {x y : Bs} (h : y ∈ l.take i ++ [x] ++ l.drop i) : y ∈ l ∨ y = x := by
  rcases List.mem_append.1 h with h | h
  · rcases List.mem_append.1 h with h | h
    · exact .inl (List.mem_of_mem_take h)
    · exact .inr (List.mem_singleton.1 h)
  · exact .inl (List.mem_of_mem_drop h)
theorem Mk.with {lf : Bool} {most : Nat} {n : Nd} (h : Mk lf most n) (k v : Bs) (r : Nat) (hr : r < 1000) : Mk lf most (wth n k v ((2 + 1000 * n.kids.length + r : Nat) : Int) most) := by
  unfold wth
  split
  · exact h
  · rename_i hq
    rw [not_or] at hq
    have ha : isat n.keys (ky k) = false := by simpa using hq.1
    have hz := hq.2
    have hky := ky_pos k
    have hv200 : (v.take 200).length ≤ 200 := by rw [List.length_take]; omega
    rw [h.leaf] at hz ⊢
    unfold mor at hz
    have hs := h.sz
    cases lf
    · obtain ⟨h1, h2, h3⟩ := h.il rfl
      rw [if_neg (by simp)] at hz ⊢
      refine ⟨rfl, fun q => (by cases q), fun _ => ⟨rfl, ?_, ?_⟩, ins_rs h.ks ha, ?_, ?_⟩
      · have hl := ins_len n.keys (blw n.keys (ky k)) (ky k)
        simp only [List.length_append, List.length_cons, List.length_nil] at hl ⊢
        omega
      · intro j hj
        simp only [List.length_append, List.length_cons, List.length_nil] at hj
        by_cases e : j < n.kids.length
        · have := h3 j e
          simp only [List.getD_eq_getElem?_getD, List.getElem?_append_left e] at this ⊢
          exact this
        · obtain rfl : j = n.kids.length := by omega
          simp only [List.getD_eq_getElem?_getD, List.getElem?_append_right (Nat.le_refl _), Nat.sub_self, List.getElem?_cons_zero, Option.getD_some]
          omega
      · intro x hx
        rcases ins_mem hx with hx | rfl
        · exact h.kl x hx
        · exact hky
      · have hl := ins_len n.keys (blw n.keys (ky k)) (ky k)
        have ht := ins_tot n.keys (blw n.keys (ky k)) (ky k)
        have hk1 : (n.kids ++ [((2 + 1000 * n.kids.length + r : Nat) : Int)]).length = n.kids.length + 1 := by simp
        have t0 : tot [] = 0 := rfl
        unfold lsz at hs hz ⊢
        rw [h1] at hz
        dsimp only
        rw [hl, ht, hk1]
        simp only [List.length_nil, t0] at hz ⊢
        omega
    · obtain ⟨h1, h2, h3⟩ := h.vl rfl
      rw [if_pos rfl] at hz ⊢
      refine ⟨rfl, fun _ => ⟨?_, rfl, ?_⟩, fun q => (by cases q), ins_rs h.ks ha, ?_, ?_⟩
      · rw [ins_len, ins_len]; omega
      · intro x hx
        rcases ins_mem hx with hx | rfl
        · exact h3 x hx
        · exact hv200
      · intro x hx
        rcases ins_mem hx with hx | rfl
        · exact h.kl x hx
        · exact hky
      · have hl := ins_len n.keys (blw n.keys (ky k)) (ky k)
        have ht := ins_tot n.keys (blw n.keys (ky k)) (ky k)
        have hl2 := ins_len n.vals (blw n.keys (ky k)) (v.take 200)
        have ht2 := ins_tot n.vals (blw n.keys (ky k)) (v.take 200)
        unfold lsz at hs hz ⊢
        dsimp only
        rw [hl, ht, hl2, ht2, List.length_nil]
        omega
theorem kids_nodup {l : List Int} (h : ∀ j, j < l.length → (2 + 1000 * j : Int) ≤ l.getD j 0 ∧ l.getD j 0 < 2 + 1000 * (j + 1)) : l.Nodup := by
  refine List.pairwise_iff_getElem.2 fun i j hi hj hij => ?_
  have h1 := (h i hi).2
  have h2 := (h j hj).1
  rw [List.getD_eq_getElem?_getD, List.getElem?_eq_getElem hi] at h1
  rw [List.getD_eq_getElem?_getD, List.getElem?_eq_getElem hj] at h2
  simp only [Option.getD_some] at h1 h2
  omega
/-- Such a node is right, if it has a key and no more than 480 bytes. -/
theorem Mk.right {lf : Bool} {most : Nat} {n : Nd} (h : Mk lf most n) (hm : most ≤ 480) (hk : n.keys ≠ []) : wrv n = 0 := by
  have hp : 0 < n.keys.length := List.length_pos_iff.2 hk
  have hs := h.sz
  have hkok : kok n.keys = true := by
    unfold kok
    rw [Bool.and_eq_true, (up_iff _).2 h.ks]
    refine ⟨List.all_eq_true.2 fun x hx => ?_, rfl⟩
    have := h.kl x hx
    unfold noKey
    simp only [Bool.not_eq_true', Bool.or_eq_false_iff, decide_eq_false_iff_not]
    omega
  have hag : agv n = true ∧ n.siz ≤ 480 := by
    unfold agv
    have hl := h.leaf
    cases lf
    · obtain ⟨h1, h2, h3⟩ := h.il rfl
      rw [hl, if_neg (by simp)]
      unfold lsz at hs
      rw [h1] at hs
      simp only [List.length_nil, tot, List.map_nil, List.sum_nil] at hs
      constructor
      · unfold agi
        simp only [Bool.and_eq_true, decide_eq_true_eq, Bool.not_eq_true']
        refine ⟨⟨⟨h2, by rw [h1]; rfl⟩, ?_⟩, unl_nodup (kids_nodup h3)⟩
        unfold anyI
        rw [List.any_eq_false]
        intro x hx
        obtain ⟨j, hj, rfl⟩ := List.mem_iff_getElem.1 hx
        have := h3 j hj
        rw [List.getD_eq_getElem?_getD, List.getElem?_eq_getElem hj] at this
        simp only [Option.getD_some] at this
        unfold nki
        simp only [Bool.or_eq_true, decide_eq_true_eq, not_or]
        omega
      · unfold Nd.siz
        rw [hl, if_neg (by simp)]
        simp only [tot]
        omega
    · obtain ⟨h1, h2, h3⟩ := h.vl rfl
      rw [hl, if_pos rfl]
      unfold lsz at hs
      rw [h2] at hs
      simp only [List.length_nil] at hs
      constructor
      · unfold agl
        simp only [Bool.and_eq_true, decide_eq_true_eq, Bool.not_eq_true']
        refine ⟨⟨h1, by rw [h2]; rfl⟩, ?_⟩
        unfold anyB
        rw [List.any_eq_false]
        intro x hx
        have := h3 x hx
        unfold lng
        simp only [decide_eq_true_eq]
        omega
      · unfold Nd.siz
        rw [hl, if_pos rfl]
        omega
  unfold wrv hfv
  rw [hag.1, decide_eq_true hp, hkok, Bool.and_self, if_pos rfl, if_pos rfl, if_neg (by have := hag.2; omega)]
/-- The first node, without keys. -/
theorem Mk.first (most : Nat) (h : 4 ≤ most) (lf : Bool) : Mk lf most ⟨lf, [], [], if lf then [] else [2]⟩ := by
  cases lf
  · refine ⟨rfl, fun q => (by cases q), fun _ => ⟨rfl, rfl, fun j hj => ?_⟩, List.Pairwise.nil, by simp, by simp [lsz, tot]; omega⟩
    simp only [Bool.false_eq_true, if_false, List.length_cons, List.length_nil] at hj
    obtain rfl : j = 0 := by omega
    simp
  · exact ⟨rfl, fun _ => ⟨rfl, rfl, by simp⟩, fun q => (by cases q), List.Pairwise.nil, by simp, by simp [lsz, tot]⟩
end Go.Proofs.YtllialbdofklgaaGreatDoor
