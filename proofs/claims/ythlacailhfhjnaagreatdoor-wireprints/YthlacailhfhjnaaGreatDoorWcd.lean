import Derived.Test.YthlacailhfhjnaaGreatDoorWca
namespace Go.Proofs.YthlacailhfhjnaaGreatDoor
open Go.RowKit Go.Lib
theorem owns_base {b e n m : Nat} {w : World} {v : Value} {xs : List Value} (h : w.ownsRow b e n v m xs) : w.ownsRow 0 e n v m xs ∧ ∀ k, v.ownBlock = some k → b ≤ k := by
  constructor
  · refine ⟨h.1, ?_⟩
    rcases h.2 with q | ⟨g, cap, cur, e1, e2, e3, e4⟩
    · exact .inl q
    · exact .inr ⟨g, cap, cur, e1, Nat.zero_le _, e3, e4⟩
  · intro k hk
    rcases h.2 with ⟨e1, _⟩ | ⟨g, cap, cur, e1, e2, e3, e4⟩
    · rw [e1] at hk; cases hk
    · rw [e1] at hk; cases hk; exact e2
theorem makeRow {ops : Array Oper} {rest : List Oper} {o : Oper} {a : Act} {w : World} {Q : Exit → Act → World → Prop} (hgd : o.guard = none) (l c : Operand) (hop : o.op = Op.makeSlice 102 l c)
    (C : Int) (n : Nat) (hl : a.eval l = .int .i64 0) (hc : a.eval c = .int .i64 C) (hC : C = (n : Int)) (hn : n ≤ 140737488355328)
    (h : ∀ w' v, w'.ownsRow 0 5 1 v 0 [] → (∀ k, v.ownBlock = some k → w.heap.size ≤ k) → Below w.heap.size w w' → wpList Tryz.prog ops Q rest (a.put o.dst v) w') : wpList Tryz.prog ops Q (o :: rest) a w := by
  obtain ⟨i0, hi, hz0, hz1, hz2⟩ := info_parts info5
  refine wpList_make_own w hgd l c 102 hop w.heap.size 5 i0 (.int .u8 0) 1 Tryz.underlying102 hi hz0 hz1 .i64 .i64 C n hl hc hC (by rw [hz2]; omega) (by unfold maxLen; omega) (Nat.le_refl _) ?_
  intro w' ho hg
  exact h w' _ (owns_base ho).1 (owns_base ho).2 ((Below.refl _ _).grown hg (Nat.le_refl _) (fun k e => by cases e))
def nxt (st L Q Z : Nat) : Value := if st ≤ 1 then .func (.func 99) #[] #[ptr L, ptr Q] else .func (.func 148) #[] #[ptr L, ptr Z, ptr Q]
def cur (p : Ps) : Bs := if p.st ≤ 1 then p.ln else p.bd
/-- What a parser's closure has. -/
structure LAt (P : Nat) (p : Ps) (L Q Z : Nat) (v : Value) (w : World) : Prop where
  lb : w.heap[L]? = some (.cells #[v] 102 (0, 0))
  qb : w.heap[Q]? = some (.cells #[ptr P] 80 (0, 0))
  zb : p.st = 2 → w.heap[Z]? = some (.cells #[.int .i64 p.len] 3 (0, 0))
  row : w.ownsRow 0 5 1 v (cur p).length ((cur p).map B)
theorem LAt.keep {P : Nat} {p : Ps} {L Q Z : Nat} {v : Value} {w w' : World} {O : Nat → Prop} (h : LAt P p L Q Z v w) (ho : Only O w w') (hL : ¬ O L) (hQ : ¬ O Q) (hZ : ¬ O Z) (hv : ∀ k, v.ownBlock = some k → ¬ O k) : LAt P p L Q Z v w' :=
  ⟨(ho.block L (lt_of_row h.lb) hL).trans h.lb, (ho.block Q (lt_of_row h.qb) hQ).trans h.qb, fun q => (ho.block Z (lt_of_row (h.zb q)) hZ).trans (h.zb q), owns_same h.row (fun k hk => by
    obtain ⟨cs, q⟩ := owns_lt h.row k hk
    exact ho.block k (lt_of_row q) (hv k hk))⟩
theorem LAt.below {P : Nat} {p : Ps} {L Q Z : Nat} {v : Value} {w w' : World} (h : LAt P p L Q Z v w) (hb : Below w.heap.size w w') : LAt P p L Q Z v w' :=
  h.keep (Only.of_below (P := fun _ => False) hb) (fun q => q) (fun q => q) (fun q => q) (fun _ _ q => q)
set_option maxHeartbeats 4000000 in
set_option maxRecDepth 8000 in
theorem rest_any (P n : Nat) (w : World) (hn : n ≤ 4000) :
    Calls Tryz.prog 134 #[ptr P, .int .i64 n] w fun e w' => ∃ L Q Z v, e = .returned (nxt 2 L Q Z) ∧ w'.heap[L]? = some (.cells #[v] 102 (0, 0)) ∧ w'.heap[Q]? = some (.cells #[ptr P] 80 (0, 0)) ∧ w'.heap[Z]? = some (.cells #[.int .i64 n] 3 (0, 0)) ∧ w'.ownsRow 0 5 1 v 0 [] ∧ w.heap.size ≤ L ∧ w.heap.size ≤ Q ∧ w.heap.size ≤ Z ∧ (∀ k, v.ownBlock = some k → w.heap.size ≤ k) ∧ Below w.heap.size w w' := by
  go_enter Tryz.func134, Tryz.ntmps134
  go_wp2_with (first | (refine makeRow rfl (.const (.int .i64 0)) (.tmp 6) rfl (n : Int) n (by rfl) (by rfl) rfl (by omega) ?_; intro w1 v1 ho1 hn1 hb1; obtain ⟨pa, ca, rfl⟩ := owns_form ho1))
  go_ret
  have hs2 : ((w.alloc (Obj.cells #[ptr P] 80)).alloc (Obj.cells #[.int .i64 (n : Int)] 3)).heap.size = w.heap.size + 2 := by simp
  have hsz := hb1.size
  rw [hs2] at hsz hn1
  have q0 : w1.heap[w.heap.size]? = some (.cells #[ptr P] 80 (0, 0)) := by
    rw [hb1.block w.heap.size (by rw [hs2]; omega), heap_alloc_old _ _ (by simp)]
    exact heap_alloc_new _ _
  have q1 : w1.heap[w.heap.size + 1]? = some (.cells #[.int .i64 (n : Int)] 3 (0, 0)) := by
    rw [hb1.block (w.heap.size + 1) (by rw [hs2]; omega)]
    have := heap_alloc_new (w.alloc (Obj.cells #[ptr P] 80)) (.cells #[.int .i64 (n : Int)] 3)
    simpa using this
  refine ⟨w1.heap.size, w.heap.size, w.heap.size + 1, .slice pa 0 ca, rfl, heap_alloc_new _ _, ?_, ?_, ?_, by omega, Nat.le_refl _, by omega, fun k hk => by have := hn1 k hk; omega, ?_⟩
  · rw [heap_alloc_old _ _ (by omega)]; exact q0
  · rw [heap_alloc_old _ _ (by omega)]; exact q1
  · refine owns_same ho1 (fun k hk => ?_)
    obtain ⟨cs, q⟩ := owns_lt ho1 k hk
    exact heap_alloc_old _ _ (lt_of_row q)
  · exact ((((Below.refl _ _).alloc (Nat.le_refl _) _).alloc (by simp) _).trans (hb1.mono (by rw [hs2]; omega))).alloc (by omega) _
set_option maxHeartbeats 4000000 in
set_option maxRecDepth 8000 in
theorem lines_any (P : Nat) (w : World) :
    Calls Tryz.prog 76 #[ptr P] w fun e w' => e = .returned (nxt 0 (w.heap.size + 1) w.heap.size 0) ∧ w' = (w.alloc (.cells #[ptr P] 80)).alloc (.cells #[.slice none 0 0] 102) := by
  go_enter Tryz.func76, Tryz.ntmps76
  go_wp2
  go_ret
  exact ⟨rfl, rfl⟩
end Go.Proofs.YthlacailhfhjnaaGreatDoor
