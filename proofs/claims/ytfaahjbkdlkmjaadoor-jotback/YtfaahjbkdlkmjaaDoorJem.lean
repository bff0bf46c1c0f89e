import Derived.Test.YtfaahjbkdlkmjaaDoorJel
import Derived.Lib.AppendZerosOnto
import Derived.Lib.Overlaps
import Derived.Laws.CopyRow
import Derived.Laws.Externs
import Derived.RegionTactic
import Derived.BigRegion
/- Jot: a row's things; what copy does. -/
namespace Go.Proofs.YtfaahjbkdlkmjaaDoor
open Go Go.RowKit Go.Lib
set_option linter.unusedVariables false
set_option linter.unusedSimpArgs false
set_option maxHeartbeats 4000000
set_option maxRecDepth 8000
theorem add_at (g i : Nat) : (⟨g, 0, none⟩ : Addr).add i = ⟨g, i, none⟩ := by unfold Addr.add; split <;> simp_all
theorem add_off (g o i : Nat) : (⟨g, o, none⟩ : Addr).add i = ⟨g, o + i, none⟩ := by unfold Addr.add; split <;> simp_all
theorem lt_of_row {w : World} {b : Nat} {o : Obj} (h : w.heap[b]? = some o) : b < w.heap.size := (Array.getElem?_eq_some_iff.1 h).1
theorem frz {w : World} {g : Nat} {cs : Array Value} {t : TypeId} (h : w.heap[g]? = some (.cells cs t (0, 0))) (k : Nat) : w.frozen? ⟨g, k, none⟩ = false := by simp [World.frozen?, h]
theorem cell_at {w : World} {g : Nat} {cs : Array Value} {t : TypeId} (h : w.heap[g]? = some (.cells cs t (0, 0))) (k : Nat) : w.cell? ⟨g, k, none⟩ = cs[k]? := by rw [Lib.cell_of_heap h]
/-- Of the old blocks none but these may have turned. -/
structure Only (P : Nat → Prop) (w w' : World) : Prop where
  os : w'.os = w.os
  tape : w'.tape = w.tape
  output : w'.output = w.output
  size : w.heap.size ≤ w'.heap.size
  block : ∀ k, k < w.heap.size → ¬ P k → w'.heap[k]? = w.heap[k]?
theorem Only.refl (P : Nat → Prop) (w : World) : Only P w w := ⟨rfl, rfl, rfl, Nat.le_refl _, fun _ _ _ => rfl⟩
theorem Only.trans {P Q : Nat → Prop} {a b c : World} (h1 : Only P a b) (h2 : Only Q b c) (hq : ∀ k, k < a.heap.size → Q k → P k) : Only P a c :=
  ⟨h2.os.trans h1.os, h2.tape.trans h1.tape, h2.output.trans h1.output, Nat.le_trans h1.size h2.size, fun k hk hp => (h2.block k (Nat.lt_of_lt_of_le hk h1.size) (fun q => hp (hq k hk q))).trans (h1.block k hk hp)⟩
theorem Only.of_below {P : Nat → Prop} {w w' : World} (h : Below w.heap.size w w') : Only P w w' := ⟨h.os, h.tape, h.output, h.size, fun k hk _ => h.block k hk⟩
theorem Only.below {P : Nat → Prop} {a w w' : World} {base : Nat} (h : Only P w w') (hb : Below base a w) (hle : base ≤ w.heap.size) (hp : ∀ k, P k → base ≤ k) : Below base a w' :=
  hb.trans ⟨h.os, h.tape, h.output, h.size, fun k hk => h.block k (by omega) (fun q => by have := hp k q; omega)⟩
theorem Only.of_grown {w w' : World} {row : Option Nat} (h : w.grownBy w' row) : Only (fun k => row = some k) w w' := ⟨h.os, h.tape, h.output, h.size, fun k hk hp => h.block k hk (fun e => hp e.symm)⟩
theorem Only.drewN (P : Nat → Prop) (w : World) (n : Nat) : Only P w (w.drewN n) := Only.of_below (below_drewNq (Below.refl _ _) n)
theorem setRow_only (w : World) (g : Nat) (cs : Array Value) : Only (fun k => k = g) w (w.setRow g cs) := ⟨rfl, rfl, rfl, by simp [World.setRow], fun k _ hk => setRow_other w g k _ hk⟩
theorem owns_at {B e n m : Nat} {w : World} {v : Value} {xs : List Value} (h : w.ownsRow B e n v m xs) (hm : 0 < m) : ∃ g cap cur, v = .slice (some ⟨g, 0, none⟩) m cap ∧ B ≤ g ∧ w.heap[g]? = some (.cells cur e (0, 0)) ∧ m ≤ cap ∧ cap ≤ maxLen ∧ cur.size = cap * n ∧ cur.toList.take (m * n) = xs := by
  rcases h.2 with ⟨_, q⟩ | ⟨g, cap, cur, e1, e0, e2, e3, e4, e5, e6⟩
  · omega
  · exact ⟨g, cap, cur, e1, e0, e2, e3, e4, e5, e6⟩
theorem owns_form {B e n m : Nat} {w : World} {v : Value} {xs : List Value} (h : w.ownsRow B e n v m xs) : ∃ p cap, v = .slice p m cap := by
  rcases h.2 with ⟨e, q⟩ | ⟨g, cap, cur, e1, e2⟩
  · exact ⟨none, 0, by rw [e, q]⟩
  · exact ⟨_, cap, e1⟩
theorem owns_cell {B e n m : Nat} {w : World} {xs : List Value} {g cap : Nat} (h : w.ownsRow B e n (.slice (some ⟨g, 0, none⟩) m cap) m xs) (j : Nat) (u : Value) (hj : xs[j]? = some u) : w.cell? ⟨g, j, none⟩ = some u := by
  have := World.ownsRow.cells h (g := g) rfl j u hj
  rwa [add_at] at this
theorem run_copyk (w : World) (T e ty : TypeId) (z : Value) (sz bys : Nat) (ht : Tryd.prog.underlying T = some (.slice e)) (hinfo : (Tryd.prog.info? e).map (fun i => (i.zero, i.size, i.bytes)) = some (some z, sz, bys))
    (g off dn dcap : Nat) (ad : Addr) (sn scap : Nat) (cur : Array Value) (cs : List Value) (m : Nat) (hm : m = Nat.min sn dn) (hg : w.heap[g]? = some (.cells cur e (0, 0))) (hn : cs.length = m * sz)
    (hsrc : ∀ j v, cs[j]? = some v → w.cell? (ad.add j) = some v) (hfit : off + cs.length ≤ cur.size) (h1 : ∀ v ∈ cs, v.oneCell' = true) :
    (Builtin.copy_ #[T, T] ty #[.slice (some ⟨g, off, none⟩) dn dcap, .slice (some ad) sn scap]).run Tryd.prog w =
      .ok (goInt m) (w.setRow g (cur.toList.take off ++ cs ++ cur.toList.drop (off + cs.length)).toArray) := by
  have hl := run_loadCells_list (P := Tryd.prog) w ad cs hsrc
  have hst := run_storeCells_at Tryd.prog g off e cs 0 cur w hg (by simpa using hfit) h1
  obtain ⟨i0, hi, hz0, hz1, hz2⟩ := info_all hinfo
  rw [hn] at hl
  simp only [Nat.add_zero] at hst
  simp [Builtin.copy_, run_underlying ht, Builtin.lenOf, Builtin.firstCells, sizeOf, typeInfo, hi, hz1, ← hm, hl, hst]
/-- First a new thing is laid over, then what stood behind it. -/
theorem lay_two {R P X Y : List Value} {a b : Nat} (hR : a + X.length + Y.length ≤ R.length) (hP : R.take a = P) (hb : b = a + X.length) :
    let R1 := R.take a ++ X ++ R.drop (a + X.length)
    let R2 := R1.take b ++ Y ++ R1.drop (b + Y.length)
    R2.length = R.length ∧ R2.take (b + Y.length) = P ++ X ++ Y := by
  subst hb
  have ha : (R.take a).length = a := by rw [List.length_take]; omega
  have h1 : (R.take a ++ X).length = a + X.length := by rw [List.length_append, ha]
  have e1 : (R.take a ++ X ++ R.drop (a + X.length)).take (a + X.length) = R.take a ++ X := by
    rw [List.take_append_of_le_length (by omega), List.take_of_length_le (by omega)]
  have e2 : (R.take a ++ X ++ R.drop (a + X.length)).drop (a + X.length + Y.length) = R.drop (a + X.length + Y.length) := by
    rw [List.drop_append, List.drop_of_length_le (by omega), h1, List.nil_append, List.drop_drop]
    congr 1
    omega
  simp only
  rw [e1, e2]
  refine ⟨by simp only [List.length_append, List.length_drop, ha]; omega, ?_⟩
  rw [List.take_append_of_le_length (by simp only [List.length_append, ha]; omega), List.take_of_length_le (by simp only [List.length_append, ha]; omega), hP]
/-- First what stands behind is moved, then a new thing is laid over. -/
theorem lay_shift {R P X Y : List Value} {a b : Nat} (hR : a + X.length + Y.length ≤ R.length) (hP : R.take a = P) (hb : b = a + X.length) :
    let R1 := R.take b ++ Y ++ R.drop (b + Y.length)
    let R2 := R1.take a ++ X ++ R1.drop (a + X.length)
    R2.length = R.length ∧ R2.take (b + Y.length) = P ++ X ++ Y := by
  subst hb
  have ha : (R.take (a + X.length)).length = a + X.length := by rw [List.length_take]; omega
  have e1 : (R.take (a + X.length) ++ Y ++ R.drop (a + X.length + Y.length)).take a = R.take a := by
    rw [List.append_assoc, List.take_append_of_le_length (by omega), List.take_take, Nat.min_eq_left (by omega)]
  have e2 : (R.take (a + X.length) ++ Y ++ R.drop (a + X.length + Y.length)).drop (a + X.length) = Y ++ R.drop (a + X.length + Y.length) := by
    rw [List.append_assoc, List.drop_append, List.drop_of_length_le (by omega), List.nil_append, ha, Nat.sub_self, List.drop_zero]
  simp only
  have h0 : (R.take a).length = a := by rw [List.length_take]; omega
  rw [e1, e2]
  refine ⟨by simp only [List.length_append, List.length_drop, h0]; omega, ?_⟩
  rw [← List.append_assoc, List.take_append_of_le_length (by simp only [List.length_append, h0]; omega), List.take_of_length_le (by simp only [List.length_append, h0]; omega), hP]
theorem zero_size (z : Value) (n : Nat) : (Builtin.zeroCells z.cells n).size = n * z.cells.size := by simp [Builtin.zeroCells]
theorem wp_copy_run {ops : Array Oper} {rest : List Oper} {o : Oper} {a : Act} {w : World} {Q : Exit → Act → World → Prop} {T : TypeId} (hgd : o.guard = none) (d s : Operand)
    (ho : o.op = .call { callee := .builtin .copy, args := #[d, s], argTypes := #[T, T] }) (v u : Value) (hd : a.eval d = v) (hs : a.eval s = u) (v' : Value) (w' : World)
    (hr : (Builtin.copy_ #[T, T] o.type #[v, u]).run Tryd.prog w = .ok v' w') (h : wpList Tryd.prog ops Q rest (a.put o.dst v') w') : wpList Tryd.prog ops Q (o :: rest) a w := by
  refine wpList_plain hgd fun K hK => ?_
  unfold Oper.wp
  simp only [execOp, ho, resolve, invoke, builtin, Sem.run_bind, Sem.run_pure, Result.andThen_ok, List.map_toArray, List.map_cons, List.map_nil, hd, hs, hr]
  exact hK _ _ h
theorem below_drew {B : Nat} {w w' : World} (h : Below B w w') : Below B w w'.drew := h.trans ⟨rfl, rfl, rfl, Nat.le_refl _, fun _ _ => rfl⟩
theorem insAt_three {α : Type} (l : List α) (i : Nat) (x : α) : insAt l i x = l.take i ++ [x] ++ l.drop i := by simp [insAt]
section
variable {α : Type} (enc : α → List Value) (sz : Nat) (henc : ∀ x, (enc x).length = sz)
include henc
theorem en_len (l : List α) : (l.flatMap enc).length = l.length * sz := by
  induction l with
  | nil => simp
  | cons a l ih => rw [List.flatMap_cons, List.length_append, ih, henc, List.length_cons, Nat.add_mul, Nat.one_mul, Nat.add_comm]
theorem en_take (l : List α) (i : Nat) : (l.flatMap enc).take (i * sz) = (l.take i).flatMap enc := by
  induction l generalizing i with
  | nil => simp
  | cons x l ih =>
    cases i with
    | zero => simp
    | succ i =>
      rw [List.flatMap_cons, List.take_succ_cons, List.flatMap_cons, List.take_append, henc, List.take_of_length_le (by rw [henc, Nat.add_mul]; omega), ← ih i]
      congr 2
      rw [Nat.add_mul]; omega
theorem en_drop (l : List α) (i : Nat) : (l.flatMap enc).drop (i * sz) = (l.drop i).flatMap enc := by
  induction l generalizing i with
  | nil => simp
  | cons x l ih =>
    cases i with
    | zero => simp
    | succ i =>
      rw [List.flatMap_cons, List.drop_succ_cons, List.drop_append, henc, List.drop_of_length_le (by rw [henc, Nat.add_mul]; omega), List.nil_append, ← ih i]
      congr 1
      rw [Nat.add_mul]; omega
end
theorem en_ins {α : Type} (enc : α → List Value) (l : List α) (i : Nat) (x : α) : (insAt l i x).flatMap enc = (l.take i).flatMap enc ++ enc x ++ (l.drop i).flatMap enc := by
  rw [insAt_three, List.flatMap_append, List.flatMap_append]
  simp
theorem en_one {α : Type} (enc : α → List Value) (h1 : ∀ x, ∀ u ∈ enc x, u.oneCell' = true) (l : List α) : ∀ v ∈ l.flatMap enc, v.oneCell' = true := by
  intro v hv
  obtain ⟨x, _, hx⟩ := List.mem_flatMap.1 hv
  exact h1 x v hx
end Go.Proofs.YtfaahjbkdlkmjaaDoor
