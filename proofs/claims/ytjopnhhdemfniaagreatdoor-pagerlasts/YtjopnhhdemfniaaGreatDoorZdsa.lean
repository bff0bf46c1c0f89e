import Derived.Test.YtjopnhhdemfniaaGreatDoorProg
import Derived.WalkKit
import Derived.BigQuiet
import Derived.Deep.QuietTactic
import Derived.Laws.CopyRow
import Derived.Laws.MakeOwn
import Derived.Maps.AppendAt
namespace Go.Proofs.YtjopnhhdemfniaaGreatDoor
open Go.RowKit
theorem hide {p : Prop} (h : p) : Hid p := h
theorem unhide {p : Prop} (h : Hid p) : p := h
theorem ret_int {k : IntKind} {a b : Int} (h : a = b) : Ending.returned (.int k a) = .returned (.int k b) := by rw [h]
theorem ret_bool {a b : Bool} (h : a = b) : Ending.returned (.bool a) = .returned (.bool b) := by rw [h]
abbrev Bs := List UInt8
abbrev I (n : Int) : Value := .int .i64 n
abbrev S (l : Bs) : Value := .string ⟨l.toArray⟩
abbrev ptr (b : Nat) : Value := .pointer (some ⟨b, 0, none⟩)
/-- Of the old blocks none but these may have turned. -/
structure Only (P : Nat → Prop) (w w' : World) : Prop where
  os : w'.os = w.os
  tape : w'.tape = w.tape
  output : w'.output = w.output
  size : w.heap.size ≤ w'.heap.size
  block : ∀ k, k < w.heap.size → ¬ P k → w'.heap[k]? = w.heap[k]?
theorem Only.refl (P : Nat → Prop) (w : World) : Only P w w := ⟨rfl, rfl, rfl, Nat.le_refl _, fun _ _ _ => rfl⟩
theorem Only.trans {P Q : Nat → Prop} {a b c : World} (h1 : Only P a b) (h2 : Only Q b c) (hq : ∀ k, k < a.heap.size → Q k → P k) : Only P a c :=
  ⟨h2.os.trans h1.os, h2.tape.trans h1.tape, h2.output.trans h1.output, Nat.le_trans h1.size h2.size, fun k hk hp => (h2.block k (Nat.lt_of_lt_of_le hk h1.size) (fun q => hp (hq k hk q))).trans (h1.block k hk hp)⟩
theorem Only.mono {P Q : Nat → Prop} {a b : World} (h : Only P a b) (hq : ∀ k, k < a.heap.size → P k → Q k) : Only Q a b := ⟨h.os, h.tape, h.output, h.size, fun k hk hp => h.block k hk (fun q => hp (hq k hk q))⟩
theorem Only.of_below {P : Nat → Prop} {w w' : World} (h : Below w.heap.size w w') : Only P w w' := ⟨h.os, h.tape, h.output, h.size, fun k hk _ => h.block k hk⟩
theorem Only.to_below {w w' : World} (h : Only (fun _ => False) w w') : Below w.heap.size w w' := ⟨h.os, h.tape, h.output, h.size, fun k hk => h.block k hk (fun q => q)⟩
theorem Only.below {P : Nat → Prop} {a w w' : World} {base : Nat} (h : Only P w w') (hb : Below base a w) (hle : base ≤ w.heap.size) (hp : ∀ k, P k → base ≤ k) : Below base a w' :=
  hb.trans ⟨h.os, h.tape, h.output, h.size, fun k hk => h.block k (by omega) (fun q => by have := hp k q; omega)⟩
theorem Only.of_grown {w w' : World} {row : Option Nat} (h : w.grownBy w' row) : Only (fun k => row = some k) w w' := ⟨h.os, h.tape, h.output, h.size, fun k hk hp => h.block k hk (fun e => hp e.symm)⟩
theorem Only.drewN (P : Nat → Prop) (w : World) (n : Nat) : Only P w (w.drewN n) := ⟨rfl, rfl, rfl, Nat.le_refl _, fun _ _ _ => rfl⟩
theorem Only.alloc (P : Nat → Prop) (w : World) (o : Obj) : Only P w (w.alloc o) := Only.of_below ((Below.refl _ _).alloc (Nat.le_refl _) o)
theorem Only.setCell (w : World) (a : Addr) (v : Value) : Only (fun k => k = a.block) w (w.setCell a v) :=
  ⟨rfl, rfl, rfl, by simp [World.setCell], fun k _ hp => heap_setCell_other w a k v hp⟩
/-- One more cell of a block that may turn, or of a new one. -/
theorem Only.put {P : Nat → Prop} {w w' : World} (h : Only P w w') (a : Addr) (v : Value) (ha : P a.block ∨ w.heap.size ≤ a.block) : Only P w (w'.setCell a v) :=
  h.trans (Only.setCell w' a v) (fun k hk e => by subst e; rcases ha with q | q; exact q; omega)
theorem lt_of_row {w : World} {b : Nat} {o : Obj} (h : w.heap[b]? = some o) : b < w.heap.size := (Array.getElem?_eq_some_iff.1 h).1
theorem frz {w : World} {g : Nat} {cs : Array Value} {t : TypeId} (h : w.heap[g]? = some (.cells cs t (0, 0))) (k : Nat) : w.frozen? ⟨g, k, none⟩ = false := by simp [World.frozen?, h]
theorem add_at (g i : Nat) : (⟨g, 0, none⟩ : Addr).add i = ⟨g, i, none⟩ := by unfold Addr.add; split <;> simp_all
theorem add_off (g o i : Nat) : (⟨g, o, none⟩ : Addr).add i = ⟨g, o + i, none⟩ := by unfold Addr.add; split <;> simp_all
/-- A row of one's own: n things of k cells each. -/
theorem owns_same {e n m : Nat} {w w' : World} {v : Value} {xs : List Value} (h : w.ownsRow 0 e n v m xs) (hb : ∀ k, v.ownBlock = some k → w'.heap[k]? = w.heap[k]?) : w'.ownsRow 0 e n v m xs := by
  refine ⟨h.1, ?_⟩
  rcases h.2 with q | ⟨g, cap, cur, e1, e2, e3, e4⟩
  · exact .inl q
  · exact .inr ⟨g, cap, cur, e1, e2, (hb g (by rw [e1]; rfl)).trans e3, e4⟩
theorem owns_lt {e n m : Nat} {w : World} {v : Value} {xs : List Value} (h : w.ownsRow 0 e n v m xs) : ∀ k, v.ownBlock = some k → ∃ cs, w.heap[k]? = some (.cells cs e (0, 0)) := by
  intro k hk
  rcases h.2 with ⟨e1, _⟩ | ⟨g, cap, cur, e1, e2, e3, e4⟩
  · rw [e1] at hk; cases hk
  · rw [e1] at hk
    cases hk
    exact ⟨cur, e3⟩
theorem owns_blk {e n m : Nat} {w : World} {v : Value} {xs : List Value} (h : w.ownsRow 0 e n v m xs) : ∀ k, v.ownBlock = some k → k < w.heap.size := fun k hk => by
  obtain ⟨cs, q⟩ := owns_lt h k hk
  exact lt_of_row q
theorem owns_form {e n m : Nat} {w : World} {v : Value} {xs : List Value} (h : w.ownsRow 0 e n v m xs) : ∃ p cap, v = .slice p m cap := by
  rcases h.2 with ⟨e, q⟩ | ⟨g, cap, cur, e1, e2⟩
  · exact ⟨none, 0, by rw [e, q]⟩
  · exact ⟨_, cap, e1⟩
theorem owns_nil (e n : Nat) (w : World) : w.ownsRow 0 e n (.slice none 0 0) 0 [] := ⟨by simp, .inl ⟨rfl, rfl⟩⟩
theorem owns_below {e n m : Nat} {w w' : World} {v : Value} {xs : List Value} (h : w.ownsRow 0 e n v m xs) (hb : Below w.heap.size w w') : w'.ownsRow 0 e n v m xs := owns_same h (fun k hk => hb.block k (owns_blk h k hk))
theorem owns_only {P : Nat → Prop} {e n m : Nat} {w w' : World} {v : Value} {xs : List Value} (h : w.ownsRow 0 e n v m xs) (ho : Only P w w') (hp : ∀ k, v.ownBlock = some k → ¬ P k) : w'.ownsRow 0 e n v m xs := owns_same h (fun k hk => ho.block k (owns_blk h k hk) (hp k hk))
/-- Its own block, if anything stands in it. -/
theorem owns_at {e n m : Nat} {w : World} {v : Value} {xs : List Value} (h : w.ownsRow 0 e n v m xs) (hm : 0 < m) : ∃ g cap cur, v = .slice (some ⟨g, 0, none⟩) m cap ∧ w.heap[g]? = some (.cells cur e (0, 0)) ∧ m ≤ cap ∧ cap ≤ maxLen ∧ cur.size = cap * n ∧ cur.toList.take (m * n) = xs := by
  rcases h.2 with ⟨_, q⟩ | ⟨g, cap, cur, e1, _, e2, e3, e4, e5, e6⟩
  · omega
  · exact ⟨g, cap, cur, e1, e2, e3, e4, e5, e6⟩
theorem owns_cell {e n m : Nat} {w : World} {xs : List Value} {g cap : Nat} (h : w.ownsRow 0 e n (.slice (some ⟨g, 0, none⟩) m cap) m xs) (j : Nat) (u : Value) (hj : xs[j]? = some u) : w.cell? ⟨g, j, none⟩ = some u := by
  have := World.ownsRow.cells h (g := g) rfl j u hj
  rwa [add_at] at this
/-- A cell of it is written over. -/
theorem owns_set {e n m : Nat} {w : World} {xs : List Value} {g cap : Nat} (h : w.ownsRow 0 e n (.slice (some ⟨g, 0, none⟩) m cap) m xs) (j : Nat) (u : Value) : (w.setCell ⟨g, j, none⟩ u).ownsRow 0 e n (.slice (some ⟨g, 0, none⟩) m cap) m (xs.set j u) := by
  refine ⟨by rw [List.length_set]; exact h.1, ?_⟩
  rcases h.2 with ⟨q, _⟩ | ⟨g', cap', cur, e1, e0, e2, e3, e4, e5, e6⟩
  · cases q
  · cases e1
    refine .inr ⟨g, cap, cur.setIfInBounds j u, rfl, e0, ?_, e3, e4, by simp [e5], ?_⟩
    · rw [heap_setCell_same w g j cur e u e2]
    · rw [Array.toList_setIfInBounds, List.take_set, e6]
/-- A block that is laid full. -/
theorem owns_full {e n m : Nat} {w : World} {g : Nat} {cur : Array Value} (hg : w.heap[g]? = some (.cells cur e (0, 0))) (hs : cur.size = m * n) (hm : m ≤ maxLen) : w.ownsRow 0 e n (.slice (some ⟨g, 0, none⟩) m m) m cur.toList :=
  ⟨by simp [hs], .inr ⟨g, m, cur, rfl, Nat.zero_le _, hg, Nat.le_refl _, hm, hs, List.take_of_length_le (by simp [hs])⟩⟩
theorem owns_alloc {e n m : Nat} {w : World} {v : Value} {xs : List Value} (h : w.ownsRow 0 e n v m xs) (o : Obj) : (w.alloc o).ownsRow 0 e n v m xs :=
  owns_same h (fun k hk => heap_alloc_old _ _ (owns_blk h k hk))
theorem info9 : (Tryz.prog.info? 9).map (fun i => (i.zero, i.size, i.bytes)) = some (some (.string ⟨#[]⟩), 1, 16) := by kernel_rfl
theorem info164 : (Tryz.prog.info? 164).map (fun i => (i.zero, i.size, i.bytes)) = some (some (.agg #[.int .i64 0, .string ⟨#[]⟩]), 2, 24) := by kernel_rfl
theorem info3 : (Tryz.prog.info? 3).map (fun i => (i.zero, i.size, i.bytes)) = some (some (.int .i64 0), 1, 8) := by kernel_rfl
theorem info4 : (Tryz.prog.info? 4).map (fun i => (i.zero, i.size, i.bytes)) = some (some (.bool false), 1, 1) := by kernel_rfl
theorem info5 : (Tryz.prog.info? 5).map (fun i => (i.zero, i.size, i.bytes)) = some (some (.int .u8 0), 1, 1) := by kernel_rfl
/-- What append of one thing does, to a row of one's own. -/
theorem app_own (T e tt : Nat) (z : Value) (sz bys : Nat) (ht : Tryz.prog.underlying T = some (.slice e)) (hinfo : (Tryz.prog.info? e).map (fun i => (i.zero, i.size, i.bytes)) = some (some z, sz, bys)) (hzs : z.cells.size = sz) (hsz : 0 < sz)
    (v : Value) (n : Nat) (xs : List Value) (w0 : World) (hown : w0.ownsRow 0 e sz v n xs) (news : List Value) (hl : news.length = sz) (h1 : ∀ u ∈ news, u.oneCell' = true) (hn : n + 1 ≤ 140737488355328) (hby : (n + 1) * bys ≤ 140737488355328) :
    ∃ p cap w', (Builtin.append_ #[T, T] tt #[v, .slice (some ⟨w0.heap.size, 0, none⟩) 1 1]).run Tryz.prog (w0.alloc (.cells news.toArray e)) = .ok (.slice p (n + 1) cap) w' ∧ w'.ownsRow 0 e sz (.slice p (n + 1) cap) (n + 1) (xs ++ news) ∧ Only (fun k => v.ownBlock = some k) w0 w' ∧ (∀ k, (Value.slice p (n + 1) cap).ownBlock = some k → v.ownBlock = some k ∨ w0.heap.size ≤ k) := by
  obtain ⟨i0, hi, hz0, hz1, hz2⟩ := info_parts hinfo
  have hown' := owns_alloc hown (.cells news.toArray e)
  have hnew : ∀ j u, news[j]? = some u → (w0.alloc (.cells news.toArray e)).cell? ((⟨w0.heap.size, 0, none⟩ : Addr).add j) = some u := by
    intro j u hj
    rw [add_at, cell_of_row _ _ j _ e (0, 0) (heap_alloc_new _ _)]
    simpa using hj
  obtain ⟨v', w', hr, h2, h3, _, h5⟩ := run_append_own_at (P := Tryz.prog) (w0.alloc (.cells news.toArray e)) 0 T tt e i0 z sz bys ht hi hz0 hz1 hz2 hzs hsz v n xs hown' ⟨w0.heap.size, 0, none⟩ 1 1 news (by omega) hnew h1 (by unfold maxLen; omega) hby (Nat.zero_le _)
  obtain ⟨p, cap, rfl⟩ := owns_form h2
  refine ⟨p, cap, w', hr, h2, (Only.alloc _ w0 _).trans (Only.of_grown h3) (fun k _ q => q), ?_⟩
  intro k hk
  rcases h5 with h5 | h5
  · left; rw [← h5]; exact hk
  · right; rw [hk] at h5; have := Option.some.inj h5; simp at this; omega
theorem push_own {ops : Array Oper} {rest : List Oper} {o : Oper} {a : Act} {Q : Exit → Act → World → Prop} (T e : Nat) (z : Value) (sz bys : Nat) (ht : Tryz.prog.underlying T = some (.slice e)) (hinfo : (Tryz.prog.info? e).map (fun i => (i.zero, i.size, i.bytes)) = some (some z, sz, bys)) (hzs : z.cells.size = sz) (hsz : 0 < sz)
    (hgd : o.guard = none) (s x : Operand) (ho : o.op = .call { callee := .builtin .append, args := #[s, x], argTypes := #[T, T] })
    (v : Value) (n : Nat) (xs : List Value) (hs : a.eval s = v) (w0 : World) (hown : w0.ownsRow 0 e sz v n xs) (news : List Value) (hl : news.length = sz) (h1 : ∀ u ∈ news, u.oneCell' = true) (hx : a.eval x = .slice (some ⟨w0.heap.size, 0, none⟩) 1 1) (hn : n + 1 ≤ 140737488355328) (hby : (n + 1) * bys ≤ 140737488355328)
    (h : ∀ p cap w', w'.ownsRow 0 e sz (.slice p (n + 1) cap) (n + 1) (xs ++ news) → Only (fun k => v.ownBlock = some k) w0 w' → (∀ k, (Value.slice p (n + 1) cap).ownBlock = some k → v.ownBlock = some k ∨ w0.heap.size ≤ k) → wpList Tryz.prog ops Q rest (a.put o.dst (.slice p (n + 1) cap)) w') :
    wpList Tryz.prog ops Q (o :: rest) a (w0.alloc (.cells news.toArray e)) := by
  obtain ⟨p, cap, w', hr, h2, h3, h4⟩ := app_own T e o.type z sz bys ht hinfo hzs hsz v n xs w0 hown news hl h1 hn hby
  refine wpList_plain hgd fun K hK => ?_
  unfold Oper.wp execOp
  simp only [ho, resolve, invoke, builtin, Sem.run_bind, Sem.run_pure, Result.andThen_ok, List.map_toArray, List.map_cons, List.map_nil, hs, hx, hr]
  exact hK _ _ (h p cap w' h2 h3 h4)
/-- make([]T, n): n noughts in a block of its own. -/
theorem make_own {ops : Array Oper} {rest : List Oper} {o : Oper} {a : Act} {w : World} {Q : Exit → Act → World → Prop} (T e : Nat) (z : Value) (sz bys : Nat) (ht : Tryz.prog.underlying T = some (.slice e)) (hinfo : (Tryz.prog.info? e).map (fun i => (i.zero, i.size, i.bytes)) = some (some z, sz, bys))
    (hgd : o.guard = none) (l c : Operand) (hop : o.op = Op.makeSlice T l c)
    (L C : Int) (n : Nat) (hl : a.eval l = .int .i64 L) (hc : a.eval c = .int .i64 C) (hL : L = (n : Int)) (hC : C = (n : Int)) (hn : bys * n ≤ 281474976710656) (hn2 : n ≤ 140737488355328)
    (h : ∀ w', w'.ownsRow 0 e sz (.slice (some ⟨w.heap.size, 0, none⟩) n n) n (madeCells z.cells (n * sz)).toList → Below w.heap.size w w' → w.heap.size < w'.heap.size → wpList Tryz.prog ops Q rest (a.put o.dst (.slice (some ⟨w.heap.size, 0, none⟩) n n)) w') : wpList Tryz.prog ops Q (o :: rest) a w := by
  obtain ⟨i0, hi, hz0, hz1, hz2⟩ := info_parts hinfo
  refine wpList_make_full w hgd l c T hop w.heap.size e i0 z sz ht hi hz0 hz1 .i64 .i64 L C n hl hc hL hC (by rw [hz2]; omega) (by unfold maxLen; omega) (Nat.le_refl _) ?_
  intro w' ho hg
  have ho2 : w'.ownsRow 0 e sz (.slice (some ⟨w.heap.size, 0, none⟩) n n) n (madeCells z.cells (n * sz)).toList := by
    refine ⟨ho.1, ?_⟩
    rcases ho.2 with q | ⟨g, cap, cur, q1, q2, q3⟩
    · exact .inl q
    · exact .inr ⟨g, cap, cur, q1, Nat.zero_le _, q3⟩
  exact h w' ho2 ((Below.refl _ _).grown hg (Nat.le_refl _) (fun k e => by cases e)) (owns_blk ho2 _ rfl)
end Go.Proofs.YtjopnhhdemfniaaGreatDoor
namespace Go.Proofs.YtjopnhhdemfniaaGreatDoor
open Go.RowKit
abbrev Wr := Nat × Bs
/-- What a disk has. -/
structure Ds where
  ws : List Wr
  last : List Bs
  fuse : Int
  dead : Bool
  acts : Int
def cellsW (l : List Wr) : List Value := l.flatMap fun x => [I x.1, S x.2]
theorem cellsW_len (l : List Wr) : (cellsW l).length = l.length * 2 := by
  unfold cellsW
  induction l with
  | nil => rfl
  | cons f l ih => simp at ih ⊢; omega
theorem cellsW_append (a b : List Wr) : cellsW (a ++ b) = cellsW a ++ cellsW b := by simp [cellsW]
theorem cellsW_at (l : List Wr) (j : Nat) (hj : j < l.length) : (cellsW l)[j * 2]? = some (I (l.getD j (0, [])).1) ∧ (cellsW l)[j * 2 + 1]? = some (S (l.getD j (0, [])).2) := by
  induction l generalizing j with
  | nil => simp at hj
  | cons f l ih =>
    have e : cellsW (f :: l) = I f.1 :: S f.2 :: cellsW l := rfl
    rw [e]
    cases j with
    | zero => exact ⟨rfl, rfl⟩
    | succ j =>
      have := ih j (by simpa using hj)
      rw [show (j + 1) * 2 = j * 2 + 1 + 1 by omega]
      simpa using this
def dcs (d : Ds) (vw vl : Value) : Array Value := #[vw, vl, I d.fuse, .bool d.dead, I d.acts]
/-- A disk in memory. -/
structure DAt (D : Nat) (d : Ds) (vw vl : Value) (w : World) : Prop where
  blk : w.heap[D]? = some (.cells (dcs d vw vl) 153 (0, 0))
  ws : w.ownsRow 0 164 2 vw d.ws.length (cellsW d.ws)
  ls : w.ownsRow 0 9 1 vl d.last.length (d.last.map S)
theorem DAt.lt {D : Nat} {d : Ds} {vw vl : Value} {w : World} (h : DAt D d vw vl w) : D < w.heap.size := lt_of_row h.blk
theorem DAt.c {D : Nat} {d : Ds} {vw vl : Value} {w : World} (h : DAt D d vw vl w) : w.cell? ⟨D, 0, none⟩ = some vw ∧ w.cell? ⟨D, 1, none⟩ = some vl ∧ w.cell? ⟨D, 2, none⟩ = some (I d.fuse) ∧ w.cell? ⟨D, 3, none⟩ = some (.bool d.dead) ∧ w.cell? ⟨D, 4, none⟩ = some (I d.acts) := by
  have := fun j => cell_of_row w D j _ 153 (0, 0) h.blk
  refine ⟨?_, ?_, ?_, ?_, ?_⟩ <;> (rw [this]; rfl)
theorem DAt.nw {D : Nat} {d : Ds} {vw vl : Value} {w : World} (h : DAt D d vw vl w) : ∀ k, vw.ownBlock = some k → k ≠ D := by
  intro k hk e
  obtain ⟨cs, q⟩ := owns_lt h.ws k hk
  subst e
  rw [h.blk] at q
  cases q
theorem DAt.nl {D : Nat} {d : Ds} {vw vl : Value} {w : World} (h : DAt D d vw vl w) : ∀ k, vl.ownBlock = some k → k ≠ D := by
  intro k hk e
  obtain ⟨cs, q⟩ := owns_lt h.ls k hk
  subst e
  rw [h.blk] at q
  cases q
theorem DAt.wl {D : Nat} {d : Ds} {vw vl : Value} {w : World} (h : DAt D d vw vl w) : ∀ k, vw.ownBlock = some k → vl.ownBlock ≠ some k := by
  intro k hk e
  obtain ⟨cs, q⟩ := owns_lt h.ws k hk
  obtain ⟨cs2, q2⟩ := owns_lt h.ls k e
  rw [q2] at q
  cases q
/-- The blocks that are a disk's. -/
def Of (D : Nat) (vw vl : Value) (k : Nat) : Prop := k = D ∨ vw.ownBlock = some k ∨ vl.ownBlock = some k
theorem DAt.only {P : Nat → Prop} {D : Nat} {d : Ds} {vw vl : Value} {w w' : World} (h : DAt D d vw vl w) (ho : Only P w w') (hp : ∀ k, Of D vw vl k → ¬ P k) : DAt D d vw vl w' :=
  ⟨(ho.block D h.lt (hp D (.inl rfl))).trans h.blk, owns_only h.ws ho (fun k hk => hp k (.inr (.inl hk))), owns_only h.ls ho (fun k hk => hp k (.inr (.inr hk)))⟩
theorem DAt.below {D : Nat} {d : Ds} {vw vl : Value} {w w' : World} (h : DAt D d vw vl w) (hb : Below w.heap.size w w') : DAt D d vw vl w' :=
  ⟨(hb.block D h.lt).trans h.blk, owns_below h.ws hb, owns_below h.ls hb⟩
theorem DAt.old {D : Nat} {d : Ds} {vw vl : Value} {w : World} (h : DAt D d vw vl w) : ∀ k, Of D vw vl k → k < w.heap.size := by
  rintro k (rfl | hk | hk)
  · exact h.lt
  · exact owns_blk h.ws k hk
  · exact owns_blk h.ls k hk
/-- A cell of its own block. -/
theorem DAt.set {D : Nat} {d d' : Ds} {vw vl vw' vl' : Value} {w : World} (h : DAt D d vw vl w) (j : Nat) (u : Value) (hc : (dcs d vw vl).setIfInBounds j u = dcs d' vw' vl') (hw : w.ownsRow 0 164 2 vw' d'.ws.length (cellsW d'.ws)) (hl : w.ownsRow 0 9 1 vl' d'.last.length (d'.last.map S)) : DAt D d' vw' vl' (w.setCell ⟨D, j, none⟩ u) := by
  have o := Only.setCell w ⟨D, j, none⟩ u
  have nb : ∀ {e n m : Nat} {v : Value} {xs : List Value}, w.ownsRow 0 e n v m xs → e ≠ 153 → ∀ k, v.ownBlock = some k → ¬ k = D := by
    intro e n m v xs hv he k hk q
    obtain ⟨cs, q2⟩ := owns_lt hv k hk
    rw [q, h.blk] at q2
    cases q2
    exact he rfl
  refine ⟨?_, owns_only hw o (nb hw (by decide)), owns_only hl o (nb hl (by decide))⟩
  rw [heap_setCell_same w D j _ 153 u h.blk, hc]
set_option maxHeartbeats 4000000
set_option maxRecDepth 8000
def mayv (n : Int) : Bool := decide (8 ≤ n) && decide (n ≤ 4096)
theorem mayHave_any (n : Int) (w : World) : Calls Tryz.prog 95 #[I n] w fun e w' => e = .returned (.bool (mayv n)) ∧ w' = w := by
  unfold mayv
  by_cases h1 : 8 ≤ n
  · by_cases h2 : n ≤ 4096
    · go_enter Tryz.func95, Tryz.ntmps95
      go_wp2
      go_ret
      exact ⟨ret_bool (by simp <;> omega), rfl⟩
    · go_enter Tryz.func95, Tryz.ntmps95
      go_wp2
      go_ret
      exact ⟨ret_bool (by simp <;> omega), rfl⟩
  · go_enter Tryz.func95, Tryz.ntmps95
    go_wp2
    go_ret
    exact ⟨ret_bool (by simp <;> omega), rfl⟩
theorem wrongSize_any (s : Bs) (w : World) : Calls Tryz.prog 97 #[S s] w fun e w' => e = .returned (.bool (decide (s.length ≠ 512))) ∧ w' = w := by
  by_cases h : s.length = 512
  · have h1 : ((s.length : Nat) : Int) = 512 := by omega
    go_enter Tryz.func97, Tryz.ntmps97
    go_wp2
    go_ret
    exact ⟨ret_bool (by simp <;> first | exact h1 | omega), rfl⟩
  · have h1 : ((s.length : Nat) : Int) ≠ 512 := by omega
    go_enter Tryz.func97, Tryz.ntmps97
    go_wp2
    go_ret
    exact ⟨ret_bool (by simp [h] <;> exact h1), rfl⟩
theorem dead_any {D : Nat} {d : Ds} {vw vl : Value} {w : World} (h : DAt D d vw vl w) : Calls Tryz.prog 36 #[ptr D] w fun e w' => e = .returned (.bool d.dead) ∧ w' = w := by
  obtain ⟨c0, c1, c2, c3, c4⟩ := h.c
  have hl := h.lt
  clear h
  generalize d.dead = x at *
  go_enter Tryz.func36, Tryz.ntmps36
  go_wp2
  go_ret
  exact ⟨rfl, rfl⟩
theorem size_any {D : Nat} {d : Ds} {vw vl : Value} {w : World} (h : DAt D d vw vl w) : Calls Tryz.prog 103 #[ptr D] w fun e w' => e = .returned (I d.last.length) ∧ w' = w := by
  obtain ⟨c0, c1, c2, c3, c4⟩ := h.c
  have hl := h.lt
  obtain ⟨p, cap, rfl⟩ := owns_form h.ls
  clear h
  generalize d.last.length = x at *
  go_enter Tryz.func103, Tryz.ntmps103
  go_wp2
  go_ret
  exact ⟨rfl, rfl⟩
def reachv (d : Ds) (b : Int) : Int := if d.dead then 2 else if b < 0 then 80 else if (d.last.length : Int) ≤ b then 80 else 0
theorem reach_any {D : Nat} {d : Ds} {vw vl : Value} {w : World} (h : DAt D d vw vl w) (b : Int) : Calls Tryz.prog 164 #[ptr D, I b] w fun e w' => e = .returned (I (reachv d b)) ∧ w' = w := by
  obtain ⟨c0, c1, c2, c3, c4⟩ := h.c
  have hl := h.lt
  obtain ⟨p, cap, rfl⟩ := owns_form h.ls
  clear h
  unfold reachv
  generalize d.last.length = x at *
  generalize d.dead = de at *
  cases de
  · by_cases h1 : b < 0
    · go_enter Tryz.func164, Tryz.ntmps164
      go_wp2
      go_ret
      exact ⟨ret_int (by (repeat' split) <;> first | rfl | omega | contradiction), rfl⟩
    · by_cases h2 : (x : Int) ≤ b
      · go_enter Tryz.func164, Tryz.ntmps164
        go_wp2
        go_ret
        exact ⟨ret_int (by (repeat' split) <;> first | rfl | omega | contradiction), rfl⟩
      · go_enter Tryz.func164, Tryz.ntmps164
        go_wp2
        go_ret
        exact ⟨ret_int (by (repeat' split) <;> first | rfl | omega | contradiction), rfl⟩
  · go_enter Tryz.func164, Tryz.ntmps164
    go_wp2
    go_ret
    exact ⟨rfl, rfl⟩
def armv (d : Ds) (n : Int) : Int := if n < 0 then 1 else if d.dead then 2 else 0
def Ds.arm (d : Ds) (n : Int) : Ds := if n < 0 then d else if d.dead then d else { d with fuse := n }
theorem arm_any {D : Nat} {d : Ds} {vw vl : Value} {w : World} (h : DAt D d vw vl w) (n : Int) : Calls Tryz.prog 34 #[ptr D, I n] w fun e w' => e = .returned (I (armv d n)) ∧ DAt D (d.arm n) vw vl w' ∧ Only (fun k => k = D) w w' := by
  obtain ⟨c0, c1, c2, c3, c4⟩ := h.c
  have hl := h.lt
  have hz := frz h.blk 2
  have H := hide h
  have HS := hide (h.set (d' := { d with fuse := n }) (vw' := vw) (vl' := vl) 2 (I n) rfl h.ws h.ls)
  clear h
  unfold armv Ds.arm
  by_cases h1 : n < 0
  · rw [if_pos h1, if_pos h1]
    go_enter Tryz.func34, Tryz.ntmps34
    go_wp2
    go_ret
    exact ⟨rfl, unhide H, Only.refl _ _⟩
  · rw [if_neg h1, if_neg h1]
    cases hd : d.dead with
    | true =>
      rw [hd] at c3
      go_enter Tryz.func34, Tryz.ntmps34
      go_wp2
      go_ret
      exact ⟨rfl, unhide H, Only.refl _ _⟩
    | false =>
      rw [hd] at c3 HS
      go_enter Tryz.func34, Tryz.ntmps34
      go_wp2
      go_ret
      exact ⟨rfl, unhide HS, Only.setCell w ⟨D, _, none⟩ _⟩
/-- An act: does the disk die in it? -/
def actv (d : Ds) : Int := if d.fuse = 1 then 2 else 0
def Ds.act (d : Ds) : Ds := if d.fuse = 1 then { d with dead := true } else { d with fuse := max (d.fuse - 1) 0, acts := d.acts + 1 }
theorem act_any {D : Nat} {d : Ds} {vw vl : Value} {w : World} (h : DAt D d vw vl w) (hf : 0 ≤ d.fuse ∧ d.fuse ≤ 9223372036854775807) (ha : 0 ≤ d.acts ∧ d.acts ≤ 1000000000000000000) : Calls Tryz.prog 162 #[ptr D] w fun e w' => e = .returned (I (actv d)) ∧ DAt D d.act vw vl w' ∧ Only (fun k => k = D) w w' := by
  obtain ⟨c0, c1, c2, c3, c4⟩ := h.c
  have hl := h.lt
  have hz2 := frz h.blk 2
  have hz3 := frz h.blk 3
  have HS := hide (h.set (d' := { d with dead := true }) (vw' := vw) (vl' := vl) 3 (.bool true) rfl h.ws h.ls)
  have h5 := h.set (d' := { d with fuse := max (d.fuse - 1) 0 }) (vw' := vw) (vl' := vl) 2 (I (max (d.fuse - 1) 0)) rfl h.ws h.ls
  have HS2 := hide (h5.set (d' := { d with fuse := max (d.fuse - 1) 0, acts := d.acts + 1 }) (vw' := vw) (vl' := vl) 4 (I (d.acts + 1)) rfl h5.ws h5.ls)
  have c4' := h5.c.2.2.2.2
  have hz4 := frz h5.blk 4
  have hl5 := h5.lt
  have O2 := hide ((Only.setCell w ⟨D, 2, none⟩ (I (max (d.fuse - 1) 0))).put ⟨D, 4, none⟩ (I (d.acts + 1)) (.inl rfl))
  clear h h5
  unfold actv Ds.act
  simp only at c4'
  obtain ⟨f1, f2⟩ := hf
  obtain ⟨a1, a2⟩ := ha
  by_cases h1 : d.fuse = 1
  · rw [if_pos h1, if_pos h1]
    rw [h1] at c2
    clear HS2 O2 c4' hz4 hl5
    go_enter Tryz.func162, Tryz.ntmps162
    go_wp2
    go_ret
    exact ⟨rfl, unhide HS, Only.setCell w ⟨D, _, none⟩ _⟩
  · rw [if_neg h1, if_neg h1]
    clear HS
    by_cases h2 : d.fuse = 0
    · have e : max (d.fuse - 1) 0 = 0 := by omega
      rw [e] at c4' hz4 hl5
      rw [e] at HS2 O2 ⊢
      rw [h2] at c2
      go_enter Tryz.func162, Tryz.ntmps162
      go_wp2
      go_ret
      exact ⟨rfl, unhide HS2, unhide O2⟩
    · have e : max (d.fuse - 1) 0 = d.fuse - 1 := by omega
      rw [e] at c4' hz4 hl5
      rw [e] at HS2 O2 ⊢
      generalize d.fuse = F at *
      go_enter Tryz.func162, Tryz.ntmps162
      go_wp2
      go_ret
      exact ⟨rfl, unhide HS2, unhide O2⟩
theorem empty_any {D : Nat} {d : Ds} {vw vl : Value} {w : World} (h : DAt D d vw vl w) : Calls Tryz.prog 106 #[ptr D] w fun e w' => e = .returned vw ∧ DAt D { d with ws := [] } (.slice none 0 0) vl w' ∧ Only (fun k => k = D) w w' := by
  obtain ⟨c0, c1, c2, c3, c4⟩ := h.c
  have hl := h.lt
  have hz := frz h.blk 0
  have HS := hide (h.set (d' := { d with ws := [] }) (vw' := .slice none 0 0) (vl' := vl) 0 (.slice none 0 0) rfl (owns_nil _ _ _) h.ls)
  obtain ⟨p, cap, rfl⟩ := owns_form h.ws
  clear h
  generalize d.ws.length = n at *
  go_enter Tryz.func106, Tryz.ntmps106
  go_wp2
  go_ret
  exact ⟨rfl, unhide HS, Only.setCell w ⟨D, _, none⟩ _⟩
end Go.Proofs.YtjopnhhdemfniaaGreatDoor
