import Derived.Test.YtllialbdofklgaaGreatDoorProg
import Derived.WalkKit
import Derived.BigQuiet
import Derived.Deep.QuietTactic
import Derived.Laws.CopyRow
import Derived.Laws.MakeOwn
import Derived.Maps.AppendAt
namespace Go.Proofs.YtllialbdofklgaaGreatDoor
open Go.RowKit
theorem hide {p : Prop} (h : p) : Hid p := h
theorem unhide {p : Prop} (h : Hid p) : p := h
theorem ret_int {k : IntKind} {a b : Int} (h : a = b) : Ending.returned (.int k a) = .returned (.int k b) := by rw [h]
theorem ret_bool {a b : Bool} (h : a = b) : Ending.returned (.bool a) = .returned (.bool b) := by rw [h]
abbrev Bs := List UInt8
abbrev I (n : Int) : Value := .int .i64 n
abbrev S (l : Bs) : Value := .string ⟨l.toArray⟩
abbrev ptr (b : Nat) : Value := .pointer (some ⟨b, 0, none⟩)
/-- Of the old blocks none but these may have turned. -/
structure Only (P : Nat → Prop) (w w' : World) : Prop where
  os : w'.os = w.os
  tape : w'.tape = w.tape
  output : w'.output = w.output
  size : w.heap.size ≤ w'.heap.size
  block : ∀ k, k < w.heap.size → ¬ P k → w'.heap[k]? = w.heap[k]?
theorem Only.refl (P : Nat → Prop) (w : World) : Only P w w := ⟨rfl, rfl, rfl, Nat.le_refl _, fun _ _ _ => rfl⟩
theorem Only.trans {P Q : Nat → Prop} {a b c : World} (h1 : Only P a b) (h2 : Only Q b c) (hq : ∀ k, k < a.heap.size → Q k → P k) : Only P a c :=
  ⟨h2.os.trans h1.os, h2.tape.trans h1.tape, h2.output.trans h1.output, Nat.le_trans h1.size h2.size, fun k hk hp => (h2.block k (Nat.lt_of_lt_of_le hk h1.size) (fun q => hp (hq k hk q))).trans (h1.block k hk hp)⟩
theorem Only.mono {P Q : Nat → Prop} {a b : World} (h : Only P a b) (hq : ∀ k, k < a.heap.size → P k → Q k) : Only Q a b := ⟨h.os, h.tape, h.output, h.size, fun k hk hp => h.block k hk (fun q => hp (hq k hk q))⟩
theorem Only.of_below {P : Nat → Prop} {w w' : World} (h : Below w.heap.size w w') : Only P w w' := ⟨h.os, h.tape, h.output, h.size, fun k hk _ => h.block k hk⟩
theorem Only.below {P : Nat → Prop} {a w w' : World} {base : Nat} (h : Only P w w') (hb : Below base a w) (hle : base ≤ w.heap.size) (hp : ∀ k, P k → base ≤ k) : Below base a w' :=
  hb.trans ⟨h.os, h.tape, h.output, h.size, fun k hk => h.block k (by omega) (fun q => by have := hp k q; omega)⟩
theorem Only.of_grown {w w' : World} {row : Option Nat} (h : w.grownBy w' row) : Only (fun k => row = some k) w w' := ⟨h.os, h.tape, h.output, h.size, fun k hk hp => h.block k hk (fun e => hp e.symm)⟩
theorem Only.drewN (P : Nat → Prop) (w : World) (n : Nat) : Only P w (w.drewN n) := ⟨rfl, rfl, rfl, Nat.le_refl _, fun _ _ _ => rfl⟩
theorem Only.alloc (P : Nat → Prop) (w : World) (o : Obj) : Only P w (w.alloc o) := Only.of_below ((Below.refl _ _).alloc (Nat.le_refl _) o)
theorem Only.setCell (w : World) (a : Addr) (v : Value) : Only (fun k => k = a.block) w (w.setCell a v) :=
  ⟨rfl, rfl, rfl, by simp [World.setCell], fun k _ hp => heap_setCell_other w a k v hp⟩
/-- One more cell of a block that may turn, or of a new one. -/
theorem Only.put {P : Nat → Prop} {w w' : World} (h : Only P w w') (a : Addr) (v : Value) (ha : P a.block ∨ w.heap.size ≤ a.block) : Only P w (w'.setCell a v) :=
  h.trans (Only.setCell w' a v) (fun k hk e => by subst e; rcases ha with q | q; exact q; omega)
theorem lt_of_row {w : World} {b : Nat} {o : Obj} (h : w.heap[b]? = some o) : b < w.heap.size := (Array.getElem?_eq_some_iff.1 h).1
theorem frz {w : World} {g : Nat} {cs : Array Value} {t : TypeId} (h : w.heap[g]? = some (.cells cs t (0, 0))) (k : Nat) : w.frozen? ⟨g, k, none⟩ = false := by simp [World.frozen?, h]
theorem add_at (g i : Nat) : (⟨g, 0, none⟩ : Addr).add i = ⟨g, i, none⟩ := by unfold Addr.add; split <;> simp_all
theorem add_off (g o i : Nat) : (⟨g, o, none⟩ : Addr).add i = ⟨g, o + i, none⟩ := by unfold Addr.add; split <;> simp_all
/-- A row of one's own: n things of k cells each. -/
theorem owns_same {e n m : Nat} {w w' : World} {v : Value} {xs : List Value} (h : w.ownsRow 0 e n v m xs) (hb : ∀ k, v.ownBlock = some k → w'.heap[k]? = w.heap[k]?) : w'.ownsRow 0 e n v m xs := by
  refine ⟨h.1, ?_⟩
  rcases h.2 with q | ⟨g, cap, cur, e1, e2, e3, e4⟩
  · exact .inl q
  · exact .inr ⟨g, cap, cur, e1, e2, (hb g (by rw [e1]; rfl)).trans e3, e4⟩
theorem owns_lt {e n m : Nat} {w : World} {v : Value} {xs : List Value} (h : w.ownsRow 0 e n v m xs) : ∀ k, v.ownBlock = some k → ∃ cs, w.heap[k]? = some (.cells cs e (0, 0)) := by
  intro k hk
  rcases h.2 with ⟨e1, _⟩ | ⟨g, cap, cur, e1, e2, e3, e4⟩
  · rw [e1] at hk; cases hk
  · rw [e1] at hk
    cases hk
    exact ⟨cur, e3⟩
theorem owns_blk {e n m : Nat} {w : World} {v : Value} {xs : List Value} (h : w.ownsRow 0 e n v m xs) : ∀ k, v.ownBlock = some k → k < w.heap.size := fun k hk => by
  obtain ⟨cs, q⟩ := owns_lt h k hk
  exact lt_of_row q
theorem owns_form {e n m : Nat} {w : World} {v : Value} {xs : List Value} (h : w.ownsRow 0 e n v m xs) : ∃ p cap, v = .slice p m cap := by
  rcases h.2 with ⟨e, q⟩ | ⟨g, cap, cur, e1, e2⟩
  · exact ⟨none, 0, by rw [e, q]⟩
  · exact ⟨_, cap, e1⟩
theorem owns_nil (e n : Nat) (w : World) : w.ownsRow 0 e n (.slice none 0 0) 0 [] := ⟨by simp, .inl ⟨rfl, rfl⟩⟩
theorem owns_below {e n m : Nat} {w w' : World} {v : Value} {xs : List Value} (h : w.ownsRow 0 e n v m xs) (hb : Below w.heap.size w w') : w'.ownsRow 0 e n v m xs := owns_same h (fun k hk => hb.block k (owns_blk h k hk))
theorem owns_only {P : Nat → Prop} {e n m : Nat} {w w' : World} {v : Value} {xs : List Value} (h : w.ownsRow 0 e n v m xs) (ho : Only P w w') (hp : ∀ k, v.ownBlock = some k → ¬ P k) : w'.ownsRow 0 e n v m xs := owns_same h (fun k hk => ho.block k (owns_blk h k hk) (hp k hk))
/-- Its own block, if anything stands in it. -/
theorem owns_at {e n m : Nat} {w : World} {v : Value} {xs : List Value} (h : w.ownsRow 0 e n v m xs) (hm : 0 < m) : ∃ g cap cur, v = .slice (some ⟨g, 0, none⟩) m cap ∧ w.heap[g]? = some (.cells cur e (0, 0)) ∧ m ≤ cap ∧ cap ≤ maxLen ∧ cur.size = cap * n ∧ cur.toList.take (m * n) = xs := by
  rcases h.2 with ⟨_, q⟩ | ⟨g, cap, cur, e1, _, e2, e3, e4, e5, e6⟩
  · omega
  · exact ⟨g, cap, cur, e1, e2, e3, e4, e5, e6⟩
theorem owns_cell {e n m : Nat} {w : World} {xs : List Value} {g cap : Nat} (h : w.ownsRow 0 e n (.slice (some ⟨g, 0, none⟩) m cap) m xs) (j : Nat) (u : Value) (hj : xs[j]? = some u) : w.cell? ⟨g, j, none⟩ = some u := by
  have := World.ownsRow.cells h (g := g) rfl j u hj
  rwa [add_at] at this
/-- A cell of it is written over. -/
theorem owns_set {e n m : Nat} {w : World} {xs : List Value} {g cap : Nat} (h : w.ownsRow 0 e n (.slice (some ⟨g, 0, none⟩) m cap) m xs) (j : Nat) (u : Value) : (w.setCell ⟨g, j, none⟩ u).ownsRow 0 e n (.slice (some ⟨g, 0, none⟩) m cap) m (xs.set j u) := by
  refine ⟨by rw [List.length_set]; exact h.1, ?_⟩
  rcases h.2 with ⟨q, _⟩ | ⟨g', cap', cur, e1, e0, e2, e3, e4, e5, e6⟩
  · cases q
  · cases e1
    refine .inr ⟨g, cap, cur.setIfInBounds j u, rfl, e0, ?_, e3, e4, by simp [e5], ?_⟩
    · rw [heap_setCell_same w g j cur e u e2]
    · rw [Array.toList_setIfInBounds, List.take_set, e6]
theorem owns_alloc {e n m : Nat} {w : World} {v : Value} {xs : List Value} (h : w.ownsRow 0 e n v m xs) (o : Obj) : (w.alloc o).ownsRow 0 e n v m xs :=
  owns_same h (fun k hk => heap_alloc_old _ _ (owns_blk h k hk))
theorem info9 : (Tryz.prog.info? 9).map (fun i => (i.zero, i.size, i.bytes)) = some (some (.string ⟨#[]⟩), 1, 16) := by kernel_rfl
theorem info3 : (Tryz.prog.info? 3).map (fun i => (i.zero, i.size, i.bytes)) = some (some (.int .i64 0), 1, 8) := by kernel_rfl
theorem info5 : (Tryz.prog.info? 5).map (fun i => (i.zero, i.size, i.bytes)) = some (some (.int .u8 0), 1, 1) := by kernel_rfl
/-- What append of one thing does, to a row of one's own. -/
theorem app_own (T e tt : Nat) (z : Value) (sz bys : Nat) (ht : Tryz.prog.underlying T = some (.slice e)) (hinfo : (Tryz.prog.info? e).map (fun i => (i.zero, i.size, i.bytes)) = some (some z, sz, bys)) (hzs : z.cells.size = sz) (hsz : 0 < sz)
    (v : Value) (n : Nat) (xs : List Value) (w0 : World) (hown : w0.ownsRow 0 e sz v n xs) (news : List Value) (hl : news.length = sz) (h1 : ∀ u ∈ news, u.oneCell' = true) (hn : n + 1 ≤ 140737488355328) (hby : (n + 1) * bys ≤ 140737488355328) :
    ∃ p cap w', (Builtin.append_ #[T, T] tt #[v, .slice (some ⟨w0.heap.size, 0, none⟩) 1 1]).run Tryz.prog (w0.alloc (.cells news.toArray e)) = .ok (.slice p (n + 1) cap) w' ∧ w'.ownsRow 0 e sz (.slice p (n + 1) cap) (n + 1) (xs ++ news) ∧ Only (fun k => v.ownBlock = some k) w0 w' ∧ (∀ k, (Value.slice p (n + 1) cap).ownBlock = some k → v.ownBlock = some k ∨ w0.heap.size ≤ k) := by
  obtain ⟨i0, hi, hz0, hz1, hz2⟩ := info_parts hinfo
  have hown' := owns_alloc hown (.cells news.toArray e)
  have hnew : ∀ j u, news[j]? = some u → (w0.alloc (.cells news.toArray e)).cell? ((⟨w0.heap.size, 0, none⟩ : Addr).add j) = some u := by
    intro j u hj
    rw [add_at, cell_of_row _ _ j _ e (0, 0) (heap_alloc_new _ _)]
    simpa using hj
  obtain ⟨v', w', hr, h2, h3, _, h5⟩ := run_append_own_at (P := Tryz.prog) (w0.alloc (.cells news.toArray e)) 0 T tt e i0 z sz bys ht hi hz0 hz1 hz2 hzs hsz v n xs hown' ⟨w0.heap.size, 0, none⟩ 1 1 news (by omega) hnew h1 (by unfold maxLen; omega) hby (Nat.zero_le _)
  obtain ⟨p, cap, rfl⟩ := owns_form h2
  refine ⟨p, cap, w', hr, h2, (Only.alloc _ w0 _).trans (Only.of_grown h3) (fun k _ q => q), ?_⟩
  intro k hk
  rcases h5 with h5 | h5
  · left; rw [← h5]; exact hk
  · right; rw [hk] at h5; have := Option.some.inj h5; simp at this; omega
theorem push_own {ops : Array Oper} {rest : List Oper} {o : Oper} {a : Act} {Q : Exit → Act → World → Prop} (T e : Nat) (z : Value) (sz bys : Nat) (ht : Tryz.prog.underlying T = some (.slice e)) (hinfo : (Tryz.prog.info? e).map (fun i => (i.zero, i.size, i.bytes)) = some (some z, sz, bys)) (hzs : z.cells.size = sz) (hsz : 0 < sz)
    (hgd : o.guard = none) (s x : Operand) (ho : o.op = .call { callee := .builtin .append, args := #[s, x], argTypes := #[T, T] })
    (v : Value) (n : Nat) (xs : List Value) (hs : a.eval s = v) (w0 : World) (hown : w0.ownsRow 0 e sz v n xs) (news : List Value) (hl : news.length = sz) (h1 : ∀ u ∈ news, u.oneCell' = true) (hx : a.eval x = .slice (some ⟨w0.heap.size, 0, none⟩) 1 1) (hn : n + 1 ≤ 140737488355328) (hby : (n + 1) * bys ≤ 140737488355328)
    (h : ∀ p cap w', w'.ownsRow 0 e sz (.slice p (n + 1) cap) (n + 1) (xs ++ news) → Only (fun k => v.ownBlock = some k) w0 w' → (∀ k, (Value.slice p (n + 1) cap).ownBlock = some k → v.ownBlock = some k ∨ w0.heap.size ≤ k) → wpList Tryz.prog ops Q rest (a.put o.dst (.slice p (n + 1) cap)) w') :
    wpList Tryz.prog ops Q (o :: rest) a (w0.alloc (.cells news.toArray e)) := by
  obtain ⟨p, cap, w', hr, h2, h3, h4⟩ := app_own T e o.type z sz bys ht hinfo hzs hsz v n xs w0 hown news hl h1 hn hby
  refine wpList_plain hgd fun K hK => ?_
  unfold Oper.wp execOp
  simp only [ho, resolve, invoke, builtin, Sem.run_bind, Sem.run_pure, Result.andThen_ok, List.map_toArray, List.map_cons, List.map_nil, hs, hx, hr]
  exact hK _ _ (h p cap w' h2 h3 h4)
end Go.Proofs.YtllialbdofklgaaGreatDoor
namespace Go.Proofs.YtllialbdofklgaaGreatDoor
open Go.RowKit
/-! ### Order of texts -/
theorem lt_irrefl' (a : Bs) : ¬ a < a := List.lt_irrefl a
theorem lt_trans' {a b c : Bs} (h : a < b) (h' : b < c) : a < c := List.lt_trans h h'
theorem lt_total' {a b : Bs} (h : ¬ a < b) (h' : a ≠ b) : b < a := by
  rcases Decidable.em (b < a) with h2 | h2
  · exact h2
  · exact absurd (List.le_antisymm (List.not_lt.1 h2) (List.not_lt.1 h)) h'
theorem less_eq : ∀ (x y : List UInt8), Op.bytesLess x y = decide (x < y)
  | [], [] => by simp [Op.bytesLess]
  | [], _ :: _ => by simp [Op.bytesLess]
  | _ :: _, [] => by simp [Op.bytesLess]
  | a :: x, b :: y => by
    rw [Op.bytesLess, less_eq x y, Bool.eq_iff_iff]
    simp [List.cons_lt_cons_iff]
theorem le_or (x y : Bs) : (Op.bytesLess x y || x == y) = decide (¬ y < x) := by
  rw [less_eq, Bool.eq_iff_iff]
  simp only [Bool.or_eq_true, decide_eq_true_eq, beq_iff_eq]
  constructor
  · rintro (h | rfl) h2
    · exact lt_irrefl' _ (lt_trans' h h2)
    · exact lt_irrefl' _ h2
  · intro h
    rcases Decidable.em (x = y) with q | q
    · exact .inr q
    · exact .inl (lt_total' h (fun e => q e.symm))
theorem run_leq (x y : Bs) (W : World) : (binOp .leq 9 (S x) (S y)).run Tryz.prog W = .ok (.bool (decide (¬ y < x))) W := by
  rw [← le_or x y]
  simp [binOp, Op.stringOp]
theorem run_geq (x y : Bs) (W : World) : (binOp .geq 9 (S x) (S y)).run Tryz.prog W = .ok (.bool (decide (¬ x < y))) W := by
  have e : decide (¬ x < y) = !decide (x < y) := by by_cases h : x < y <;> simp [h]
  rw [e, ← less_eq x y]
  simp [binOp, Op.stringOp]
/-! ### Rising lists -/
def up : List Bs → Bool
  | a :: b :: r => decide (a < b) && up (b :: r)
  | _ => true
abbrev Rs (l : List Bs) : Prop := l.Pairwise (· < ·)
theorem up_iff : ∀ l : List Bs, up l = true ↔ Rs l
  | [] => by simp [up]
  | [a] => by simp [up]
  | a :: b :: r => by
    simp only [up, Bool.and_eq_true, decide_eq_true_eq, up_iff (b :: r)]
    constructor
    · rintro ⟨h, h2⟩
      refine List.pairwise_cons.2 ⟨fun x hx => ?_, h2⟩
      rcases List.mem_cons.1 hx with rfl | hx
      · exact h
      · exact lt_trans' h ((List.pairwise_cons.1 h2).1 x hx)
    · intro h
      exact ⟨(List.pairwise_cons.1 h).1 b (by simp), (List.pairwise_cons.1 h).2⟩
theorem up_of_get {l : List Bs} (h : ∀ i, (hi : i + 1 < l.length) → l[i] < l[i+1]) : up l = true := by
  induction l with
  | nil => rfl
  | cons a r ih =>
    cases r with
    | nil => rfl
    | cons b r =>
      simp only [up, Bool.and_eq_true, decide_eq_true_eq]
      refine ⟨by simpa using h 0 (by simp), ih fun i hi => ?_⟩
      have := h (i+1) (by simp only [List.length_cons] at hi ⊢; omega)
      simpa using this
theorem get_of_up {l : List Bs} (h : up l = true) (i : Nat) (hi : i + 1 < l.length) : l[i] < l[i+1] :=
  List.pairwise_iff_getElem.1 ((up_iff l).1 h) i (i+1) (by omega) hi (by omega)
theorem up_next {l : List Bs} (k : Nat) (hk : k + 1 < l.length) (h : up (l.take (k + 1)) = true) (hl : l.getD k [] < l.getD (k + 1) []) : up (l.take (k + 2)) = true := by
  refine up_of_get fun i hi => ?_
  simp only [List.length_take] at hi
  simp only [List.getElem_take]
  by_cases e : i = k
  · subst e
    rw [List.getD_eq_getElem?_getD, List.getD_eq_getElem?_getD, List.getElem?_eq_getElem (by omega), List.getElem?_eq_getElem hk] at hl
    exact hl
  · have := get_of_up h i (by simp only [List.length_take]; omega)
    simpa using this
theorem up_bad {l : List Bs} (k : Nat) (hk : k + 1 < l.length) (hl : ¬ l.getD k [] < l.getD (k + 1) []) : up l = false := by
  rw [Bool.eq_false_iff]
  intro q
  apply hl
  have := get_of_up q k hk
  rw [List.getD_eq_getElem?_getD, List.getD_eq_getElem?_getD, List.getElem?_eq_getElem (by omega), List.getElem?_eq_getElem hk]
  exact this
theorem up_one (l : List Bs) : up (l.take 1) = true := by
  cases l with
  | nil => rfl
  | cons a r => rfl
/-! ### Between -/
def alk : Bs → Bs → Nat
  | a :: x, b :: y => if a = b then alk x y + 1 else 0
  | _, _ => 0
def btw (a b : Bs) : Bs := if a < b then b.take (alk a b + 1) else b
theorem alk_le : ∀ a b : Bs, alk a b ≤ a.length ∧ alk a b ≤ b.length
  | [], b => by simp [alk]
  | a :: x, [] => by simp [alk]
  | a :: x, b :: y => by
    have := alk_le x y
    unfold alk
    split
    · simp only [List.length_cons]; omega
    · simp
theorem alk_lt : ∀ {a b : Bs}, a < b → alk a b < b.length
  | [], [], h => absurd h (lt_irrefl' _)
  | [], b :: y, _ => by simp [alk]
  | a :: x, [], h => by simp at h
  | a :: x, b :: y, h => by
    unfold alk
    split
    · rename_i e
      subst e
      have := alk_lt (List.cons_lt_cons_iff.1 h |>.resolve_left (by simp) |>.2)
      simp only [List.length_cons]; omega
    · simp
/-- As far as they are alike, and no farther. -/
theorem alk_at : ∀ (a b : Bs) (k : Nat), k < alk a b → a.getD k 0 = b.getD k 0
  | [], b, k, h => by simp [alk] at h
  | a :: x, [], k, h => by simp [alk] at h
  | a :: x, b :: y, k, h => by
    unfold alk at h
    split at h
    · rename_i e
      cases k with
      | zero => simpa using e
      | succ k => simpa using alk_at x y k (by omega)
    · omega
theorem alk_end : ∀ (a b : Bs), alk a b < a.length → alk a b < b.length → a.getD (alk a b) 0 ≠ b.getD (alk a b) 0
  | [], b, h, _ => by simp at h
  | a :: x, [], _, h => by simp at h
  | a :: x, b :: y, h1, h2 => by
    unfold alk at h1 h2 ⊢
    split
    · rename_i e
      rw [if_pos e] at h1 h2
      simpa using alk_end x y (by simpa using h1) (by simpa using h2)
    · rename_i e
      simpa using e
/-! ### Nodes -/
structure Nd where
  leaf : Bool
  keys : List Bs
  vals : List Bs
  kids : List Int
def tot (l : List Bs) : Nat := (l.map List.length).sum
theorem tot_app (a b : List Bs) : tot (a ++ b) = tot a + tot b := by simp [tot, List.map_append, List.sum_append]
theorem tot_next (l : List Bs) (k : Nat) (hk : k < l.length) : tot (l.take (k + 1)) = tot (l.take k) + (l.getD k []).length := by
  rw [List.take_succ_eq_append_getElem hk, tot_app, List.getD_eq_getElem?_getD, List.getElem?_eq_getElem hk]
  simp [tot]
theorem tot_take (l : List Bs) (k : Nat) : tot (l.take k) ≤ tot l := by
  have := tot_app (l.take k) (l.drop k)
  rw [List.take_append_drop] at this
  omega
def Nd.siz (n : Nd) : Nat := if n.leaf then 2 * max n.keys.length n.vals.length + tot n.keys + tot n.vals else 4 * n.kids.length + n.keys.length + tot n.keys
def noKey (x : Bs) : Bool := decide (x.length < 1) || decide (36 < x.length)
def kok (l : List Bs) : Bool := l.all (fun x => !noKey x) && up l
/-- How many are below the key. -/
def blw (l : List Bs) (key : Bs) : Nat := match l with
  | [] => 0
  | a :: r => if a < key then blw r key + 1 else 0
def fnd (n : Nd) (key : Bs) : Nat × Bool :=
  if up n.keys then
    (let at_ := blw n.keys key
     let is := decide (at_ < n.keys.length ∧ n.keys.getD at_ [] = key)
     if n.leaf then (at_, is) else (if is then at_ + 1 else at_, false))
  else (0, false)
theorem blw_le : ∀ (l : List Bs) (key : Bs), blw l key ≤ l.length
  | [], _ => by simp [blw]
  | a :: r, key => by
    have := blw_le r key
    unfold blw
    split
    · simp only [List.length_cons]; omega
    · simp
theorem blw_lt : ∀ (l : List Bs) (key : Bs) (k : Nat), k < blw l key → l.getD k [] < key
  | [], _, k, h => by simp [blw] at h
  | a :: r, key, k, h => by
    unfold blw at h
    split at h
    · rename_i e
      cases k with
      | zero => simpa using e
      | succ k => simpa using blw_lt r key k (by omega)
    · omega
theorem blw_end : ∀ (l : List Bs) (key : Bs), blw l key < l.length → ¬ l.getD (blw l key) [] < key
  | [], _, h => by simp at h
  | a :: r, key, h => by
    unfold blw at h ⊢
    split
    · rename_i e
      rw [if_pos e] at h
      simpa using blw_end r key (by simpa using h)
    · rename_i e
      simpa using e
theorem blw_of {l : List Bs} {key : Bs} {k : Nat} (h : ∀ j, j < k → l.getD j [] < key) (hk : k ≤ l.length) : k ≤ blw l key := by
  induction k generalizing l with
  | zero => omega
  | succ k ih =>
    cases l with
    | nil => simp at hk
    | cons a r =>
      have e : a < key := by simpa using h 0 (by omega)
      unfold blw
      rw [if_pos e]
      have := ih (l := r) (fun j hj => by simpa using h (j + 1) (by omega)) (by simpa using hk)
      omega
end Go.Proofs.YtllialbdofklgaaGreatDoor
