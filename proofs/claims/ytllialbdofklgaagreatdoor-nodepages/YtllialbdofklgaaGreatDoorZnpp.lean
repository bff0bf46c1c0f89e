import Derived.Test.YtllialbdofklgaaGreatDoorNpl
import Derived.Test.YtllialbdofklgaaGreatDoorNon
import Derived.Test.YtllialbdofklgaaGreatDoorZnok
import Derived.Deep.RegionLaw
import Derived.Deep.CutRange
namespace Go.Proofs.YtllialbdofklgaaGreatDoor
open Go.RowKit
set_option maxHeartbeats 16000000
set_option maxRecDepth 8000
theorem und33 : Tryz.prog.underlying 33 = some (.slice 22) := by kernel_rfl
theorem und34 : Tryz.prog.underlying 34 = some (.slice 23) := by kernel_rfl
theorem info22 : (Tryz.prog.info? 22).map (fun i => (i.zero, i.size, i.bytes)) = some (some (.slice none 0 0), 1, 24) := by kernel_rfl
theorem info23 : (Tryz.prog.info? 23).map (fun i => (i.zero, i.size, i.bytes)) = some (some (.slice none 0 0), 1, 24) := by kernel_rfl
/-- append of things that were just laid. -/
theorem app_many (T e tt : Nat) (z : Value) (bys : Nat) (ht : Tryz.prog.underlying T = some (.slice e)) (hinfo : (Tryz.prog.info? e).map (fun i => (i.zero, i.size, i.bytes)) = some (some z, 1, bys)) (hzs : z.cells.size = 1)
    (v : Value) (n : Nat) (xs : List Value) (w0 : World) (hown : w0.ownsRow 0 e 1 v n xs) (news : List Value) (m : Nat) (hl : news.length = m) (h1 : ∀ u ∈ news, u.oneCell' = true) (hn : n + m ≤ 140737488355328) (hby : (n + m) * bys ≤ 140737488355328) :
    ∃ p cap w', (Builtin.append_ #[T, T] tt #[v, .slice (some ⟨w0.heap.size, 0, none⟩) m m]).run Tryz.prog (w0.alloc (.cells news.toArray e)) = .ok (.slice p (n + m) cap) w' ∧ w'.ownsRow 0 e 1 (.slice p (n + m) cap) (n + m) (xs ++ news) ∧ Only (fun k => v.ownBlock = some k) w0 w' ∧ (∀ k, (Value.slice p (n + m) cap).ownBlock = some k → v.ownBlock = some k ∨ w0.heap.size ≤ k) := by
  obtain ⟨i0, hi, hz0, hz1, hz2⟩ := info_parts hinfo
  have hown' := owns_alloc hown (.cells news.toArray e)
  have hnew : ∀ j u, news[j]? = some u → (w0.alloc (.cells news.toArray e)).cell? ((⟨w0.heap.size, 0, none⟩ : Addr).add j) = some u := by
    intro j u hj
    rw [add_at, cell_of_row _ _ j _ e (0, 0) (heap_alloc_new _ _)]
    simpa using hj
  obtain ⟨v', w', hr, h2, h3, _, h5⟩ := run_append_own_at (P := Tryz.prog) (w0.alloc (.cells news.toArray e)) 0 T tt e i0 z 1 bys ht hi hz0 hz1 hz2 hzs (by decide) v n xs hown' ⟨w0.heap.size, 0, none⟩ m m news (by omega) hnew h1 (by unfold maxLen; omega) hby (Nat.zero_le _)
  obtain ⟨p, cap, rfl⟩ := owns_form h2
  refine ⟨p, cap, w', hr, h2, (Only.alloc _ w0 _).trans (Only.of_grown h3) (fun k _ q => q), ?_⟩
  intro k hk
  rcases h5 with h5 | h5
  · left; rw [← h5]; exact hk
  · right; rw [hk] at h5; have := Option.some.inj h5; simp at this; omega
/-- append, as one step of a region that draws. -/
theorem step_app_run {P : Program} {ops : Array Oper} {o : Oper} {a : Act} {w : World} {K : Act → World → Prop} {Q : Exit → Act → World → Prop} {E : Prop}
    (hg : o.guard = none) (s x : Operand) (t : TypeId) (hop : o.op = Op.call { callee := Callee.builtin Builtin.append, args := #[s, x], argTypes := #[t, t] })
    (v y : Value) (hs : a.eval s = v) (hx : a.eval x = y) (r : Value) (w' : World) (hrun : (Builtin.append_ #[t, t] o.type #[v, y]).run P w = .ok r w') (hK : K (a.put o.dst r) w') :
    if Region.wanted o (yielded ops a.tmps) = true then Oper.wp P o a w K Q else E := by
  have hw : Region.wanted o (yielded ops a.tmps) = true := by simp [Region.wanted, hg]
  rw [if_pos hw]
  unfold Oper.wp
  simp [execOp, hop, resolve, invoke, builtin, hs, hx, hrun, Result.andThen]
  exact hK
/-- Blocks of the kinds of which a book is made. -/
def bkt (B : Nat) (w : World) (k : Nat) : Prop := B ≤ k ∧ ∃ cs t, w.heap[k]? = some (.cells cs t (0, 0)) ∧ (t = 36 ∨ t = 22 ∨ t = 23)
theorem bkt_trans {B : Nat} {a b c : World} (h1 : Only (bkt B a) a b) (h2 : Only (bkt B b) b c) : Only (bkt B a) a c := by
  classical
  refine h1.trans h2 (fun k hk q => ?_)
  by_cases p : bkt B a k
  · exact p
  · obtain ⟨hB, cs, t, e, ht⟩ := q
    exact ⟨hB, cs, t, (h1.block k hk p).symm.trans e, ht⟩
/-- Rows of texts and of numbers stay. -/
theorem bkt_row {B : Nat} {a b : World} {e n m : Nat} {v : Value} {xs : List Value} (h : a.ownsRow 0 e n v m xs) (o : Only (bkt B a) a b) (he : e ≠ 36 ∧ e ≠ 22 ∧ e ≠ 23) : b.ownsRow 0 e n v m xs :=
  owns_only h o (fun k hk q => by
    obtain ⟨_, cs, t, e1, ht⟩ := q
    obtain ⟨ds, e2⟩ := owns_lt h k hk
    rw [e2] at e1
    cases e1
    exact ht.elim he.1 (fun x => x.elim he.2.1 he.2.2))
/-- A book's own memory. -/
structure Bx (B b : Nat) (vT vU vN vM : Value) (tT tU tN tM : List Value) (w : World) : Prop where
  box : w.heap[b]? = some (.cells #[vT, vU, vN, vM] 36 (0, 0))
  rT : w.ownsRow 0 22 1 vT tT.length tT
  rU : w.ownsRow 0 22 1 vU tU.length tU
  rN : w.ownsRow 0 23 1 vN tN.length tN
  rM : w.ownsRow 0 23 1 vM tM.length tM
  d1 : dsj vT vU
  d2 : dsj vN vM
  lo : B ≤ b ∧ (∀ k, vT.ownBlock = some k → B ≤ k) ∧ (∀ k, vU.ownBlock = some k → B ≤ k) ∧ (∀ k, vN.ownBlock = some k → B ≤ k) ∧ (∀ k, vM.ownBlock = some k → B ≤ k)
theorem Bx.off {b : Nat} {w : World} {e m : Nat} {v : Value} {xs cs : List Value} (hb : w.heap[b]? = some (.cells cs.toArray 36 (0, 0))) (h : w.ownsRow 0 e 1 v m xs) (he : e ≠ 36) : ¬ v.ownBlock = some b := fun q => by
  obtain ⟨ds, e2⟩ := owns_lt h b q
  rw [e2] at hb
  cases hb
  exact he rfl
theorem row_ne {w : World} {e f m k : Nat} {v u : Value} {xs ys : List Value} (h : w.ownsRow 0 e 1 v m xs) (g : w.ownsRow 0 f 1 u k ys) (he : e ≠ f) : dsj v u := fun i a b => by
  obtain ⟨ds, e2⟩ := owns_lt h i a
  obtain ⟨es, e3⟩ := owns_lt g i b
  rw [e2] at e3
  cases e3
  exact he rfl
theorem Bx.pushT {B b : Nat} {vT vU vN vM : Value} {tT tU tN tM : List Value} {w w1 : World} {V : Value} {news : List Value} (h : Bx B b vT vU vN vM tT tU tN tM w) (o : Only (fun k => vT.ownBlock = some k) w w1) (r : w1.ownsRow 0 22 1 V (tT ++ news).length (tT ++ news)) (hn : ∀ k, V.ownBlock = some k → vT.ownBlock = some k ∨ w.heap.size ≤ k) :
    Bx B b V vU vN vM (tT ++ news) tU tN tM (w1.setCell ⟨b, 0, none⟩ V) ∧ Only (bkt B w) w (w1.setCell ⟨b, 0, none⟩ V) ∧ w1.heap[b]? = some (.cells #[vT, vU, vN, vM] 36 (0, 0)) := by
  have hbl := lt_of_row h.box
  have nT := Bx.off (cs := [vT, vU, vN, vM]) h.box h.rT (by decide)
  have nU := Bx.off (cs := [vT, vU, vN, vM]) h.box h.rU (by decide)
  have nN := Bx.off (cs := [vT, vU, vN, vM]) h.box h.rN (by decide)
  have nM := Bx.off (cs := [vT, vU, vN, vM]) h.box h.rM (by decide)
  have hb1 : w1.heap[b]? = some (.cells #[vT, vU, vN, vM] 36 (0, 0)) := (o.block b hbl nT).trans h.box
  have oc := Only.setCell w1 ⟨b, 0, none⟩ V
  have nV : ¬ V.ownBlock = some b := fun q => by
    rcases hn b q with e | e
    · exact nT e
    · omega
  have dTN := row_ne h.rT h.rN (by decide)
  have dTM := row_ne h.rT h.rM (by decide)
  have dUN := row_ne h.rU h.rN (by decide)
  have dUM := row_ne h.rU h.rM (by decide)
  have fr : ∀ {e : Nat} {u : Value} {ys : List Value}, w.ownsRow 0 e 1 u ys.length ys → dsj vT u → ¬ u.ownBlock = some b → (w1.setCell ⟨b, 0, none⟩ V).ownsRow 0 e 1 u ys.length ys := fun {e u ys} g d n => owns_only (owns_only g o (fun k hk q => d k q hk)) oc (fun k hk q => n (by rw [← (show k = b from q)]; exact hk))
  obtain ⟨l0, lT, lU, lN, lM⟩ := h.lo
  have lV : ∀ k, V.ownBlock = some k → B ≤ k := fun k q => by
    rcases hn k q with e | e
    · exact lT k e
    · omega
  refine ⟨⟨?_, owns_only r oc (fun k hk q => nV (by rw [← (show k = b from q)]; exact hk)), fr h.rU (h.d1) nU, fr h.rN (dTN) nN, fr h.rM (dTM) nM, ?_, h.d2, ⟨l0, lV, lU, lN, lM⟩⟩, ?_, hb1⟩
  · rw [heap_setCell_same w1 b 0 _ 36 V hb1]; rfl
  · exact fun k a c => by
      rcases hn k a with e | e
      · exact h.d1 k e c
      · have := owns_blk h.rU k c; omega
  · refine (o.mono (fun k hk q => ?_)).put ⟨b, 0, none⟩ V (.inl ⟨l0, _, _, h.box, .inl rfl⟩)
    obtain ⟨ds, e2⟩ := owns_lt h.rT k q
    exact ⟨lT k q, ds, _, e2, .inr (.inl rfl)⟩
theorem Bx.pushU {B b : Nat} {vT vU vN vM : Value} {tT tU tN tM : List Value} {w w1 : World} {V : Value} {news : List Value} (h : Bx B b vT vU vN vM tT tU tN tM w) (o : Only (fun k => vU.ownBlock = some k) w w1) (r : w1.ownsRow 0 22 1 V (tU ++ news).length (tU ++ news)) (hn : ∀ k, V.ownBlock = some k → vU.ownBlock = some k ∨ w.heap.size ≤ k) :
    Bx B b vT V vN vM tT (tU ++ news) tN tM (w1.setCell ⟨b, 1, none⟩ V) ∧ Only (bkt B w) w (w1.setCell ⟨b, 1, none⟩ V) ∧ w1.heap[b]? = some (.cells #[vT, vU, vN, vM] 36 (0, 0)) := by
  have hbl := lt_of_row h.box
  have nT := Bx.off (cs := [vT, vU, vN, vM]) h.box h.rT (by decide)
  have nU := Bx.off (cs := [vT, vU, vN, vM]) h.box h.rU (by decide)
  have nN := Bx.off (cs := [vT, vU, vN, vM]) h.box h.rN (by decide)
  have nM := Bx.off (cs := [vT, vU, vN, vM]) h.box h.rM (by decide)
  have hb1 : w1.heap[b]? = some (.cells #[vT, vU, vN, vM] 36 (0, 0)) := (o.block b hbl nU).trans h.box
  have oc := Only.setCell w1 ⟨b, 1, none⟩ V
  have nV : ¬ V.ownBlock = some b := fun q => by
    rcases hn b q with e | e
    · exact nU e
    · omega
  have dTN := row_ne h.rT h.rN (by decide)
  have dTM := row_ne h.rT h.rM (by decide)
  have dUN := row_ne h.rU h.rN (by decide)
  have dUM := row_ne h.rU h.rM (by decide)
  have fr : ∀ {e : Nat} {u : Value} {ys : List Value}, w.ownsRow 0 e 1 u ys.length ys → dsj vU u → ¬ u.ownBlock = some b → (w1.setCell ⟨b, 1, none⟩ V).ownsRow 0 e 1 u ys.length ys := fun {e u ys} g d n => owns_only (owns_only g o (fun k hk q => d k q hk)) oc (fun k hk q => n (by rw [← (show k = b from q)]; exact hk))
  obtain ⟨l0, lT, lU, lN, lM⟩ := h.lo
  have lV : ∀ k, V.ownBlock = some k → B ≤ k := fun k q => by
    rcases hn k q with e | e
    · exact lU k e
    · omega
  refine ⟨⟨?_, fr h.rT (h.d1.symm) nT, owns_only r oc (fun k hk q => nV (by rw [← (show k = b from q)]; exact hk)), fr h.rN (dUN) nN, fr h.rM (dUM) nM, ?_, h.d2, ⟨l0, lT, lV, lN, lM⟩⟩, ?_, hb1⟩
  · rw [heap_setCell_same w1 b 1 _ 36 V hb1]; rfl
  · exact fun k a c => by
      rcases hn k c with e | e
      · exact h.d1 k a e
      · have := owns_blk h.rT k a; omega
  · refine (o.mono (fun k hk q => ?_)).put ⟨b, 1, none⟩ V (.inl ⟨l0, _, _, h.box, .inl rfl⟩)
    obtain ⟨ds, e2⟩ := owns_lt h.rU k q
    exact ⟨lU k q, ds, _, e2, .inr (.inl rfl)⟩
theorem Bx.pushN {B b : Nat} {vT vU vN vM : Value} {tT tU tN tM : List Value} {w w1 : World} {V : Value} {news : List Value} (h : Bx B b vT vU vN vM tT tU tN tM w) (o : Only (fun k => vN.ownBlock = some k) w w1) (r : w1.ownsRow 0 23 1 V (tN ++ news).length (tN ++ news)) (hn : ∀ k, V.ownBlock = some k → vN.ownBlock = some k ∨ w.heap.size ≤ k) :
    Bx B b vT vU V vM tT tU (tN ++ news) tM (w1.setCell ⟨b, 2, none⟩ V) ∧ Only (bkt B w) w (w1.setCell ⟨b, 2, none⟩ V) ∧ w1.heap[b]? = some (.cells #[vT, vU, vN, vM] 36 (0, 0)) := by
  have hbl := lt_of_row h.box
  have nT := Bx.off (cs := [vT, vU, vN, vM]) h.box h.rT (by decide)
  have nU := Bx.off (cs := [vT, vU, vN, vM]) h.box h.rU (by decide)
  have nN := Bx.off (cs := [vT, vU, vN, vM]) h.box h.rN (by decide)
  have nM := Bx.off (cs := [vT, vU, vN, vM]) h.box h.rM (by decide)
  have hb1 : w1.heap[b]? = some (.cells #[vT, vU, vN, vM] 36 (0, 0)) := (o.block b hbl nN).trans h.box
  have oc := Only.setCell w1 ⟨b, 2, none⟩ V
  have nV : ¬ V.ownBlock = some b := fun q => by
    rcases hn b q with e | e
    · exact nN e
    · omega
  have dTN := row_ne h.rT h.rN (by decide)
  have dTM := row_ne h.rT h.rM (by decide)
  have dUN := row_ne h.rU h.rN (by decide)
  have dUM := row_ne h.rU h.rM (by decide)
  have fr : ∀ {e : Nat} {u : Value} {ys : List Value}, w.ownsRow 0 e 1 u ys.length ys → dsj vN u → ¬ u.ownBlock = some b → (w1.setCell ⟨b, 2, none⟩ V).ownsRow 0 e 1 u ys.length ys := fun {e u ys} g d n => owns_only (owns_only g o (fun k hk q => d k q hk)) oc (fun k hk q => n (by rw [← (show k = b from q)]; exact hk))
  obtain ⟨l0, lT, lU, lN, lM⟩ := h.lo
  have lV : ∀ k, V.ownBlock = some k → B ≤ k := fun k q => by
    rcases hn k q with e | e
    · exact lN k e
    · omega
  refine ⟨⟨?_, fr h.rT (dTN.symm) nT, fr h.rU (dUN.symm) nU, owns_only r oc (fun k hk q => nV (by rw [← (show k = b from q)]; exact hk)), fr h.rM (h.d2) nM, h.d1, ?_, ⟨l0, lT, lU, lV, lM⟩⟩, ?_, hb1⟩
  · rw [heap_setCell_same w1 b 2 _ 36 V hb1]; rfl
  · exact fun k a c => by
      rcases hn k a with e | e
      · exact h.d2 k e c
      · have := owns_blk h.rM k c; omega
  · refine (o.mono (fun k hk q => ?_)).put ⟨b, 2, none⟩ V (.inl ⟨l0, _, _, h.box, .inl rfl⟩)
    obtain ⟨ds, e2⟩ := owns_lt h.rN k q
    exact ⟨lN k q, ds, _, e2, .inr (.inr rfl)⟩
theorem Bx.pushM {B b : Nat} {vT vU vN vM : Value} {tT tU tN tM : List Value} {w w1 : World} {V : Value} {news : List Value} (h : Bx B b vT vU vN vM tT tU tN tM w) (o : Only (fun k => vM.ownBlock = some k) w w1) (r : w1.ownsRow 0 23 1 V (tM ++ news).length (tM ++ news)) (hn : ∀ k, V.ownBlock = some k → vM.ownBlock = some k ∨ w.heap.size ≤ k) :
    Bx B b vT vU vN V tT tU tN (tM ++ news) (w1.setCell ⟨b, 3, none⟩ V) ∧ Only (bkt B w) w (w1.setCell ⟨b, 3, none⟩ V) ∧ w1.heap[b]? = some (.cells #[vT, vU, vN, vM] 36 (0, 0)) := by
  have hbl := lt_of_row h.box
  have nT := Bx.off (cs := [vT, vU, vN, vM]) h.box h.rT (by decide)
  have nU := Bx.off (cs := [vT, vU, vN, vM]) h.box h.rU (by decide)
  have nN := Bx.off (cs := [vT, vU, vN, vM]) h.box h.rN (by decide)
  have nM := Bx.off (cs := [vT, vU, vN, vM]) h.box h.rM (by decide)
  have hb1 : w1.heap[b]? = some (.cells #[vT, vU, vN, vM] 36 (0, 0)) := (o.block b hbl nM).trans h.box
  have oc := Only.setCell w1 ⟨b, 3, none⟩ V
  have nV : ¬ V.ownBlock = some b := fun q => by
    rcases hn b q with e | e
    · exact nM e
    · omega
  have dTN := row_ne h.rT h.rN (by decide)
  have dTM := row_ne h.rT h.rM (by decide)
  have dUN := row_ne h.rU h.rN (by decide)
  have dUM := row_ne h.rU h.rM (by decide)
  have fr : ∀ {e : Nat} {u : Value} {ys : List Value}, w.ownsRow 0 e 1 u ys.length ys → dsj vM u → ¬ u.ownBlock = some b → (w1.setCell ⟨b, 3, none⟩ V).ownsRow 0 e 1 u ys.length ys := fun {e u ys} g d n => owns_only (owns_only g o (fun k hk q => d k q hk)) oc (fun k hk q => n (by rw [← (show k = b from q)]; exact hk))
  obtain ⟨l0, lT, lU, lN, lM⟩ := h.lo
  have lV : ∀ k, V.ownBlock = some k → B ≤ k := fun k q => by
    rcases hn k q with e | e
    · exact lM k e
    · omega
  refine ⟨⟨?_, fr h.rT (dTM.symm) nT, fr h.rU (dUM.symm) nU, fr h.rN (h.d2.symm) nN, owns_only r oc (fun k hk q => nV (by rw [← (show k = b from q)]; exact hk)), h.d1, ?_, ⟨l0, lT, lU, lN, lV⟩⟩, ?_, hb1⟩
  · rw [heap_setCell_same w1 b 3 _ 36 V hb1]; rfl
  · exact fun k a c => by
      rcases hn k c with e | e
      · exact h.d2 k a e
      · have := owns_blk h.rN k a; omega
  · refine (o.mono (fun k hk q => ?_)).put ⟨b, 3, none⟩ V (.inl ⟨l0, _, _, h.box, .inl rfl⟩)
    obtain ⟨ds, e2⟩ := owns_lt h.rM k q
    exact ⟨lM k q, ds, _, e2, .inr (.inr rfl)⟩
end Go.Proofs.YtllialbdofklgaaGreatDoor
namespace Go.Proofs.YtllialbdofklgaaGreatDoor
open Go.RowKit
set_option maxHeartbeats 16000000
set_option maxRecDepth 8000
theorem box36 {B g : Nat} {a b c d : Value} {w0 w : World} (h : w0.heap[g]? = some (.cells #[a, b, c, d] 36 (0, 0))) (hb : Below B w0 w) (hg : g < B) : w.cell? ⟨g, 0, none⟩ = some a ∧ w.cell? ⟨g, 1, none⟩ = some b ∧ w.cell? ⟨g, 2, none⟩ = some c ∧ w.cell? ⟨g, 3, none⟩ = some d := by
  have h2 : w.heap[g]? = some (.cells #[a, b, c, d] 36 (0, 0)) := (hb.block g hg).trans h
  have := fun j => cell_of_row w g j _ 36 (0, 0) h2
  refine ⟨?_, ?_, ?_, ?_⟩ <;> (rw [this]; rfl)
theorem Bx.below {B b : Nat} {vT vU vN vM : Value} {tT tU tN tM : List Value} {w w' : World} (h : Bx B b vT vU vN vM tT tU tN tM w) (q : Below w.heap.size w w') : Bx B b vT vU vN vM tT tU tN tM w' :=
  ⟨(q.block _ (lt_of_row h.box)).trans h.box, owns_below h.rT q, owns_below h.rU q, owns_below h.rN q, owns_below h.rM q, h.d1, h.d2, h.lo⟩
/-- A box of a node stays. -/
theorem bkt_box {B : Nat} {a b : World} {k e : Nat} {cs : Array Value} (h : a.heap[k]? = some (.cells cs e (0, 0))) (o : Only (bkt B a) a b) (he : e ≠ 36 ∧ e ≠ 22 ∧ e ≠ 23) : b.heap[k]? = some (.cells cs e (0, 0)) := (o.block k (lt_of_row h) (fun q => by
    obtain ⟨_, ds, t, e1, ht⟩ := q
    rw [h] at e1
    cases e1
    exact ht.elim he.1 (fun x => x.elim he.2.1 he.2.2))).trans h
theorem Rws.bkt {B B0 : Nat} {n : Nd} {vK vV vI : Value} {w w' : World} (h : Rws B n vK vV vI w) (o : Only (bkt B0 w) w w') : Rws B n vK vV vI w' := ⟨bkt_row h.rK o (by decide), bkt_row h.rV o (by decide), bkt_row h.rI o (by decide), h.bK, h.bV, h.bI⟩
theorem bookNode_any (n : Nd) (B b : Nat) (ka va ia : Option Addr) (kc vc ic : Nat) (vT vU vN vM : Value) (tT tU tN tM : List Value) (w : World) (h : NA n ka va ia w) (hb : NB n) (z1 : ka = none → kc = 0) (z2 : va = none → vc = 0) (z3 : ia = none → ic = 0)
    (hB : Bx B b vT vU vN vM tT tU tN tM w) (lT : tT.length ≤ 1000000) (lU : tU.length ≤ 1000000) (lN : tN.length ≤ 1000000) (lM : tM.length ≤ 1000000) :
    Calls Tryz.prog 48 #[.pointer (some ⟨b, 0, none⟩), nda n ka va ia kc vc ic] w fun e w' => e = .returned (.tuple #[]) ∧ ∃ vT' vU' vN' vM' cK cV cI, Bx B b vT' vU' vN' vM' (tT ++ [.slice ka n.keys.length kc, .slice va n.vals.length vc]) (tU ++ [cK, cV]) (tN ++ [.slice ia n.kids.length ic]) (tM ++ [cI]) w' ∧ Rws w.heap.size n cK cV cI w' ∧ Only (bkt B w) w w' := by
  have hA := (Below.refl w.heap.size w).alloc (Nat.le_refl _) (.cells #[.bool n.leaf, .slice ka n.keys.length kc, .slice va n.vals.length vc, .slice ia n.kids.length ic] 25)
  have hg := heap_alloc_new w (.cells #[.bool n.leaf, .slice ka n.keys.length kc, .slice va n.vals.length vc, .slice ia n.kids.length ic] 25)
  have hs1 := size_alloc w (.cells #[.bool n.leaf, .slice ka n.keys.length kc, .slice va n.vals.length vc, .slice ia n.kids.length ic] 25)
  generalize hW1 : w.alloc (.cells #[.bool n.leaf, .slice ka n.keys.length kc, .slice va n.vals.length vc, .slice ia n.kids.length ic] 25) = W1 at hA hg hs1
  obtain ⟨c0, c1, c2, c3⟩ := box4 hg (Below.refl _ _) (lt_of_row hg)
  have X1 := hide (lcopied_any n ka va ia kc vc ic W1 (h.below hA) hb z1 z2 z3)
  have HA := hide hA
  have HG := hide hg
  have HS := hide hs1
  have HBx := hide hB
  have HL := hide (And.intro lT (And.intro lU (And.intro lN lM)))
  clear hA hg hs1 h hb z1 z2 z3 hB lT lU lN lM
  unfold nda at X1 ⊢
  have HRf := hide (fun (B : Nat) (vK vV vI : Value) (W : World) (q : Rws B n vK vV vI W) => q.form)
  generalize hlf : n.leaf = lf at *
  generalize hkl : n.keys.length = kl at *
  generalize hvl : n.vals.length = vl at *
  generalize hil : n.kids.length = il at *
  have HN := hide (And.intro hlf (And.intro hkl (And.intro hvl hil)))
  clear hlf hkl hvl hil
  go_enter Tryz.func48, Tryz.ntmps48
  go_upto_region 1 with fail
  go_wp2_with fail
  refine (unhide X1).mono ?_
  rintro e w2 ⟨cK, cV, cI, rfl, r2, b2⟩
  obtain ⟨x1, y1, x2, y2, x3, y3, rfl, rfl, rfl⟩ := unhide HRf _ _ _ _ _ r2
  clear X1 c0 c1 c2 c3 hW1 HRf
  have HR2 := hide r2
  have hB2 := ((unhide HBx).below (unhide HA)).below b2
  have B2 := hide ((unhide HA).trans (b2.mono (unhide HA).size))
  have hG2 := (b2.block _ (lt_of_row (unhide HG))).trans (unhide HG)
  have HB2 := hide hB2
  have HG2 := hide hG2
  clear r2 b2 hB2 hG2
  have hA3 := (Below.refl w2.heap.size w2).alloc (Nat.le_refl _) (.cells #[.bool lf, .slice x1 kl y1, .slice x2 vl y2, .slice x3 il y3] 25)
  have hg3 := heap_alloc_new w2 (.cells #[.bool lf, .slice x1 kl y1, .slice x2 vl y2, .slice x3 il y3] 25)
  generalize hW3 : w2.alloc (.cells #[.bool lf, .slice x1 kl y1, .slice x2 vl y2, .slice x3 il y3] 25) = W3 at hA3 hg3
  have HB3 := hide ((unhide HB2).below hA3)
  have HG3 := hide ((hA3.block _ (lt_of_row (unhide HG2))).trans (unhide HG2))
  have HK3 := hide hg3
  have HR3 := hide ((unhide HR2).below hA3)
  have HA3 := hide ((unhide B2).trans (hA3.mono (unhide B2).size))
  clear hA3 hg3
  go_upto_region 2 with fail
  clear hW3
  go_cut [] from 5 to 54 (fun wx => ∃ V, Bx B b V vU vN vM (tT ++ [.slice ka kl kc, .slice va vl vc]) tU tN tM wx ∧ Only (bkt B W3) W3 wx)
  case first =>
    have dr := (Below.refl W3.heap.size W3).drew
    have hBx := (unhide HB3).below dr
    obtain ⟨f0, f1, f2, f3⟩ := box36 (unhide HB3).box (Below.refl _ _) (lt_of_row (unhide HB3).box)
    obtain ⟨g0, g1, g2, g3⟩ := box36 hBx.box (Below.refl _ _) (lt_of_row hBx.box)
    obtain ⟨c0, c1, c2, c3⟩ := box4 (unhide HG3) (Below.refl _ _) (lt_of_row (unhide HG3))
    obtain ⟨d0, d1, d2, d3⟩ := box4 (unhide HG3) dr (lt_of_row (unhide HG3))
    obtain ⟨p5, q5, w5, hr5, ro5, on5, nw5⟩ := app_many 33 22 33 _ 24 und33 info22 rfl _ _ _ W3.drew hBx.rT [.slice ka kl kc, .slice va vl vc] 2 rfl (by intro u hu; simp at hu; first | (rcases hu with rfl | rfl <;> rfl) | (rw [hu]; rfl)) (by have := unhide HL; simp at *; omega) (by have := unhide HL; simp at *; omega)
    have hal := heap_alloc_old W3 (.cells #[.slice ka kl kc, .slice va vl vc] 22) (lt_of_row (unhide HB3).box)
    have hal2 := hal.trans (unhide HB3).box
    have lj5 := lt_of_row hal2
    obtain ⟨a0, a1, a2, a3⟩ := box36 hal2 (Below.refl _ _) (lt_of_row hal2)
    have hs5 : (Builtin.append_ #[33, 33] 33 #[vT, .slice (some ⟨W3.heap.size, 0, none⟩) 2 2]).run Tryz.prog (W3.alloc (.cells #[.slice ka kl kc, .slice va vl vc] 22)).drew = .ok (.slice p5 (tT.length + 2) q5) w5 := hr5
    obtain ⟨P5, bk5, bx5⟩ := hBx.pushT on5 (by rw [List.length_append]; exact ro5) nw5
    have fz := frz bx5 0
    obtain ⟨m0, m1, m2, m3⟩ := box36 bx5 (Below.refl _ _) (lt_of_row bx5)
    have HP5 := hide P5
    have HK5 := hide bk5
    clear dr hBx hal hal2 hr5 ro5 on5 nw5 bx5 P5 bk5
    go_region_law (first
    | refine step_app_run rfl (.tmp 11) (.tmp 16) 33 rfl vT (.slice (some ⟨W3.heap.size, 0, none⟩) 2 2) (by rfl) (by rfl) (.slice p5 (tT.length + 2) q5) w5 hs5 ?_)
    all_goals (
      go_wp2
      go_meet
      case rel => exact ⟨_, unhide HP5, (unhide HK5).left_drew⟩)
  obtain ⟨vT5, hB, o⟩ := hcut
  have HB5b := hide hB
  have HO5b := hide o
  have HG5b := hide (bkt_box (unhide HG3) o (by decide))
  have HQ5b := hide (bkt_box (unhide HK3) o (by decide))
  clear hB o
  go_upto_region 3 with fail
  generalize wc = W5 at *
  go_cut [] from 5 to 54 (fun wx => ∃ V, Bx B b vT5 V vN vM (tT ++ [.slice ka kl kc, .slice va vl vc]) (tU ++ [.slice x1 kl y1, .slice x2 vl y2]) tN tM wx ∧ Only (bkt B W5) W5 wx)
  case first =>
    have dr := (Below.refl W5.heap.size W5).drew
    have hBx := (unhide HB5b).below dr
    obtain ⟨f0, f1, f2, f3⟩ := box36 (unhide HB5b).box (Below.refl _ _) (lt_of_row (unhide HB5b).box)
    obtain ⟨g0, g1, g2, g3⟩ := box36 hBx.box (Below.refl _ _) (lt_of_row hBx.box)
    obtain ⟨c0, c1, c2, c3⟩ := box4 (unhide HQ5b) (Below.refl _ _) (lt_of_row (unhide HQ5b))
    obtain ⟨d0, d1, d2, d3⟩ := box4 (unhide HQ5b) dr (lt_of_row (unhide HQ5b))
    obtain ⟨p6, q6, w6, hr6, ro6, on6, nw6⟩ := app_many 33 22 33 _ 24 und33 info22 rfl _ _ _ W5.drew hBx.rU [.slice x1 kl y1, .slice x2 vl y2] 2 rfl (by intro u hu; simp at hu; first | (rcases hu with rfl | rfl <;> rfl) | (rw [hu]; rfl)) (by have := unhide HL; simp at *; omega) (by have := unhide HL; simp at *; omega)
    have hal := heap_alloc_old W5 (.cells #[.slice x1 kl y1, .slice x2 vl y2] 22) (lt_of_row (unhide HB5b).box)
    have hal2 := hal.trans (unhide HB5b).box
    have lj6 := lt_of_row hal2
    obtain ⟨a0, a1, a2, a3⟩ := box36 hal2 (Below.refl _ _) (lt_of_row hal2)
    have hs6 : (Builtin.append_ #[33, 33] 33 #[vU, .slice (some ⟨W5.heap.size, 0, none⟩) 2 2]).run Tryz.prog (W5.alloc (.cells #[.slice x1 kl y1, .slice x2 vl y2] 22)).drew = .ok (.slice p6 (tU.length + 2) q6) w6 := hr6
    obtain ⟨P6, bk6, bx6⟩ := hBx.pushU on6 (by rw [List.length_append]; exact ro6) nw6
    have fz := frz bx6 1
    obtain ⟨m0, m1, m2, m3⟩ := box36 bx6 (Below.refl _ _) (lt_of_row bx6)
    have HP6 := hide P6
    have HK6 := hide bk6
    clear dr hBx hal hal2 hr6 ro6 on6 nw6 bx6 P6 bk6
    go_region_law (first
    | refine step_app_run rfl (.tmp 24) (.tmp 29) 33 rfl vU (.slice (some ⟨W5.heap.size, 0, none⟩) 2 2) (by rfl) (by rfl) (.slice p6 (tU.length + 2) q6) w6 hs6 ?_)
    all_goals (
      go_wp2
      go_meet
      case rel => exact ⟨_, unhide HP6, (unhide HK6).left_drew⟩)
  obtain ⟨vU6, hB, o⟩ := hcut
  have HB6b := hide hB
  have HO6b := hide o
  have HG6b := hide (bkt_box (unhide HG5b) o (by decide))
  have HQ6b := hide (bkt_box (unhide HQ5b) o (by decide))
  clear hB o
  go_upto_region 4 with fail
  generalize wc = W6 at *
  go_cut [] from 5 to 54 (fun wx => ∃ V, Bx B b vT5 vU6 V vM (tT ++ [.slice ka kl kc, .slice va vl vc]) (tU ++ [.slice x1 kl y1, .slice x2 vl y2]) (tN ++ [.slice ia il ic]) tM wx ∧ Only (bkt B W6) W6 wx)
  case first =>
    have dr := (Below.refl W6.heap.size W6).drew
    have hBx := (unhide HB6b).below dr
    obtain ⟨f0, f1, f2, f3⟩ := box36 (unhide HB6b).box (Below.refl _ _) (lt_of_row (unhide HB6b).box)
    obtain ⟨g0, g1, g2, g3⟩ := box36 hBx.box (Below.refl _ _) (lt_of_row hBx.box)
    obtain ⟨c0, c1, c2, c3⟩ := box4 (unhide HG6b) (Below.refl _ _) (lt_of_row (unhide HG6b))
    obtain ⟨d0, d1, d2, d3⟩ := box4 (unhide HG6b) dr (lt_of_row (unhide HG6b))
    obtain ⟨p7, q7, w7, hr7, ro7, on7, nw7⟩ := app_many 34 23 34 _ 24 und34 info23 rfl _ _ _ W6.drew hBx.rN [.slice ia il ic] 1 rfl (by intro u hu; simp at hu; first | (rcases hu with rfl | rfl <;> rfl) | (rw [hu]; rfl)) (by have := unhide HL; simp at *; omega) (by have := unhide HL; simp at *; omega)
    have hal := heap_alloc_old W6 (.cells #[.slice ia il ic] 23) (lt_of_row (unhide HB6b).box)
    have hal2 := hal.trans (unhide HB6b).box
    have lj7 := lt_of_row hal2
    obtain ⟨a0, a1, a2, a3⟩ := box36 hal2 (Below.refl _ _) (lt_of_row hal2)
    have hs7 : (Builtin.append_ #[34, 34] 34 #[vN, .slice (some ⟨W6.heap.size, 0, none⟩) 1 1]).run Tryz.prog (W6.alloc (.cells #[.slice ia il ic] 23)).drew = .ok (.slice p7 (tN.length + 1) q7) w7 := hr7
    obtain ⟨P7, bk7, bx7⟩ := hBx.pushN on7 (by rw [List.length_append]; exact ro7) nw7
    have fz := frz bx7 2
    obtain ⟨m0, m1, m2, m3⟩ := box36 bx7 (Below.refl _ _) (lt_of_row bx7)
    have HP7 := hide P7
    have HK7 := hide bk7
    clear dr hBx hal hal2 hr7 ro7 on7 nw7 bx7 P7 bk7
    go_region_law (first
    | refine step_app_run rfl (.tmp 37) (.tmp 40) 34 rfl vN (.slice (some ⟨W6.heap.size, 0, none⟩) 1 1) (by rfl) (by rfl) (.slice p7 (tN.length + 1) q7) w7 hs7 ?_)
    all_goals (
      go_wp2
      go_meet
      case rel => exact ⟨_, unhide HP7, (unhide HK7).left_drew⟩)
  obtain ⟨vN7, hB, o⟩ := hcut
  have HB7b := hide hB
  have HO7b := hide o
  have HG7b := hide (bkt_box (unhide HG6b) o (by decide))
  have HQ7b := hide (bkt_box (unhide HQ6b) o (by decide))
  clear hB o
  go_upto_region 5 with fail
  generalize wc = W7 at *
  have dr := (Below.refl W7.heap.size W7).drew
  have hBx := (unhide HB7b).below dr
  obtain ⟨f0, f1, f2, f3⟩ := box36 (unhide HB7b).box (Below.refl _ _) (lt_of_row (unhide HB7b).box)
  obtain ⟨g0, g1, g2, g3⟩ := box36 hBx.box (Below.refl _ _) (lt_of_row hBx.box)
  obtain ⟨c0, c1, c2, c3⟩ := box4 (unhide HQ7b) (Below.refl _ _) (lt_of_row (unhide HQ7b))
  obtain ⟨d0, d1, d2, d3⟩ := box4 (unhide HQ7b) dr (lt_of_row (unhide HQ7b))
  obtain ⟨p8, q8, w8, hr8, ro8, on8, nw8⟩ := app_many 34 23 34 _ 24 und34 info23 rfl _ _ _ W7.drew hBx.rM [.slice x3 il y3] 1 rfl (by intro u hu; simp at hu; first | (rcases hu with rfl | rfl <;> rfl) | (rw [hu]; rfl)) (by have := unhide HL; simp at *; omega) (by have := unhide HL; simp at *; omega)
  have hal := heap_alloc_old W7 (.cells #[.slice x3 il y3] 23) (lt_of_row (unhide HB7b).box)
  have hal2 := hal.trans (unhide HB7b).box
  have lj8 := lt_of_row hal2
  obtain ⟨a0, a1, a2, a3⟩ := box36 hal2 (Below.refl _ _) (lt_of_row hal2)
  have hs8 : (Builtin.append_ #[34, 34] 34 #[vM, .slice (some ⟨W7.heap.size, 0, none⟩) 1 1]).run Tryz.prog (W7.alloc (.cells #[.slice x3 il y3] 23)).drew = .ok (.slice p8 (tM.length + 1) q8) w8 := hr8
  obtain ⟨P8, bk8, bx8⟩ := hBx.pushM on8 (by rw [List.length_append]; exact ro8) nw8
  have fz := frz bx8 3
  obtain ⟨m0, m1, m2, m3⟩ := box36 bx8 (Below.refl _ _) (lt_of_row bx8)
  have HP8 := hide P8
  have HK8 := hide bk8
  clear dr hBx hal hal2 hr8 ro8 on8 nw8 bx8 P8 bk8
  go_region_law (first
    | refine step_app_run rfl (.tmp 48) (.tmp 51) 34 rfl vM (.slice (some ⟨W7.heap.size, 0, none⟩) 1 1) (by rfl) (by rfl) (.slice p8 (tM.length + 1) q8) w8 hs8 ?_)
  all_goals (
    go_wp2
    have oA := bkt_trans (bkt_trans (bkt_trans (unhide HO5b) (unhide HO6b)) (unhide HO7b)) (unhide HK8).left_drew
    have hs := unhide HS
    refine bodyPost_end (results_none rfl _ _ _) rfl ⟨rfl, _, _, _, _, .slice x1 kl y1, .slice x2 vl y2, .slice x3 il y3, unhide HP8, ((unhide HR3).bkt oA).mono (by omega), bkt_trans (Only.of_below (unhide HA3)) oA⟩)
end Go.Proofs.YtllialbdofklgaaGreatDoor
