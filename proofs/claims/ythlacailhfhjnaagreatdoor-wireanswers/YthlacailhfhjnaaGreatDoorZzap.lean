import Derived.Test.YthlacailhfhjnaaGreatDoorZzai
import Derived.Maps.AppendAt
import Derived.Test.YthlacailhfhjnaaGreatDoorZzao
import Derived.Lib.AppendStr
namespace Go.Proofs.YthlacailhfhjnaaGreatDoor
open Go.RowKit Go.Lib
theorem owns_base {b e n m : Nat} {w : World} {v : Value} {xs : List Value} (h : w.ownsRow b e n v m xs) : w.ownsRow 0 e n v m xs ∧ ∀ k, v.ownBlock = some k → b ≤ k := by
  constructor
  · refine ⟨h.1, ?_⟩
    rcases h.2 with q | ⟨g, cap, cur, e1, e2, e3, e4⟩
    · exact .inl q
    · exact .inr ⟨g, cap, cur, e1, Nat.zero_le _, e3, e4⟩
  · intro k hk
    rcases h.2 with ⟨e1, _⟩ | ⟨g, cap, cur, e1, e2, e3, e4⟩
    · rw [e1] at hk; cases hk
    · rw [e1] at hk; cases hk; exact e2
theorem makeRow {ops : Array Oper} {rest : List Oper} {o : Oper} {a : Act} {w : World} {Q : Exit → Act → World → Prop} (hgd : o.guard = none) (l c : Operand) (hop : o.op = Op.makeSlice 102 l c)
    (C : Int) (n : Nat) (hl : a.eval l = .int .i64 0) (hc : a.eval c = .int .i64 C) (hC : C = (n : Int)) (hn : n ≤ 140737488355328)
    (h : ∀ w' v, w'.ownsRow 0 5 1 v 0 [] → (∀ k, v.ownBlock = some k → w.heap.size ≤ k) → Below w.heap.size w w' → wpList Tryz.prog ops Q rest (a.put o.dst v) w') : wpList Tryz.prog ops Q (o :: rest) a w := by
  obtain ⟨i0, hi, hz0, hz1, hz2⟩ := info_parts info5
  refine wpList_make_own w hgd l c 102 hop w.heap.size 5 i0 (.int .u8 0) 1 Tryz.underlying102 hi hz0 hz1 .i64 .i64 C n hl hc hC (by rw [hz2]; omega) (by unfold maxLen; omega) (Nat.le_refl _) ?_
  intro w' ho hg
  exact h w' _ (owns_base ho).1 (owns_base ho).2 ((Below.refl _ _).grown hg (Nat.le_refl _) (fun k e => by cases e))
def nxt (st L Q Z : Nat) : Value := if st ≤ 1 then .func (.func 99) #[] #[ptr L, ptr Q] else .func (.func 148) #[] #[ptr L, ptr Z, ptr Q]
def cur (p : Ps) : Bs := if p.st ≤ 1 then p.ln else p.bd
/-- What a parser's closure has. -/
structure LAt (P : Nat) (p : Ps) (L Q Z : Nat) (v : Value) (w : World) : Prop where
  lb : w.heap[L]? = some (.cells #[v] 102 (0, 0))
  qb : w.heap[Q]? = some (.cells #[ptr P] 80 (0, 0))
  zb : p.st = 2 → w.heap[Z]? = some (.cells #[.int .i64 p.len] 3 (0, 0))
  row : w.ownsRow 0 5 1 v (cur p).length ((cur p).map B)
theorem LAt.keep {P : Nat} {p : Ps} {L Q Z : Nat} {v : Value} {w w' : World} {O : Nat → Prop} (h : LAt P p L Q Z v w) (ho : Only O w w') (hL : ¬ O L) (hQ : ¬ O Q) (hZ : ¬ O Z) (hv : ∀ k, v.ownBlock = some k → ¬ O k) : LAt P p L Q Z v w' :=
  ⟨(ho.block L (lt_of_row h.lb) hL).trans h.lb, (ho.block Q (lt_of_row h.qb) hQ).trans h.qb, fun q => (ho.block Z (lt_of_row (h.zb q)) hZ).trans (h.zb q), owns_same h.row (fun k hk => by
    obtain ⟨cs, q⟩ := owns_lt h.row k hk
    exact ho.block k (lt_of_row q) (hv k hk))⟩
theorem LAt.below {P : Nat} {p : Ps} {L Q Z : Nat} {v : Value} {w w' : World} (h : LAt P p L Q Z v w) (hb : Below w.heap.size w w') : LAt P p L Q Z v w' :=
  h.keep (Only.of_below (P := fun _ => False) hb) (fun q => q) (fun q => q) (fun q => q) (fun _ _ q => q)
set_option maxHeartbeats 4000000 in
set_option maxRecDepth 8000 in
theorem rest_any (P n : Nat) (w : World) (hn : n ≤ 4000) :
    Calls Tryz.prog 134 #[ptr P, .int .i64 n] w fun e w' => ∃ L Q Z v, e = .returned (nxt 2 L Q Z) ∧ w'.heap[L]? = some (.cells #[v] 102 (0, 0)) ∧ w'.heap[Q]? = some (.cells #[ptr P] 80 (0, 0)) ∧ w'.heap[Z]? = some (.cells #[.int .i64 n] 3 (0, 0)) ∧ w'.ownsRow 0 5 1 v 0 [] ∧ w.heap.size ≤ L ∧ w.heap.size ≤ Q ∧ w.heap.size ≤ Z ∧ (∀ k, v.ownBlock = some k → w.heap.size ≤ k) ∧ Below w.heap.size w w' := by
  go_enter Tryz.func134, Tryz.ntmps134
  go_wp2_with (first | (refine makeRow rfl (.const (.int .i64 0)) (.tmp 6) rfl (n : Int) n (by rfl) (by rfl) rfl (by omega) ?_; intro w1 v1 ho1 hn1 hb1; obtain ⟨pa, ca, rfl⟩ := owns_form ho1))
  go_ret
  have hs2 : ((w.alloc (Obj.cells #[ptr P] 80)).alloc (Obj.cells #[.int .i64 (n : Int)] 3)).heap.size = w.heap.size + 2 := by simp
  have hsz := hb1.size
  rw [hs2] at hsz hn1
  have q0 : w1.heap[w.heap.size]? = some (.cells #[ptr P] 80 (0, 0)) := by
    rw [hb1.block w.heap.size (by rw [hs2]; omega), heap_alloc_old _ _ (by simp)]
    exact heap_alloc_new _ _
  have q1 : w1.heap[w.heap.size + 1]? = some (.cells #[.int .i64 (n : Int)] 3 (0, 0)) := by
    rw [hb1.block (w.heap.size + 1) (by rw [hs2]; omega)]
    have := heap_alloc_new (w.alloc (Obj.cells #[ptr P] 80)) (.cells #[.int .i64 (n : Int)] 3)
    simpa using this
  refine ⟨w1.heap.size, w.heap.size, w.heap.size + 1, .slice pa 0 ca, rfl, heap_alloc_new _ _, ?_, ?_, ?_, by omega, Nat.le_refl _, by omega, fun k hk => by have := hn1 k hk; omega, ?_⟩
  · rw [heap_alloc_old _ _ (by omega)]; exact q0
  · rw [heap_alloc_old _ _ (by omega)]; exact q1
  · refine owns_same ho1 (fun k hk => ?_)
    obtain ⟨cs, q⟩ := owns_lt ho1 k hk
    exact heap_alloc_old _ _ (lt_of_row q)
  · exact ((((Below.refl _ _).alloc (Nat.le_refl _) _).alloc (by simp) _).trans (hb1.mono (by rw [hs2]; omega))).alloc (by omega) _
set_option maxHeartbeats 4000000 in
set_option maxRecDepth 8000 in
theorem lines_any (P : Nat) (w : World) :
    Calls Tryz.prog 76 #[ptr P] w fun e w' => e = .returned (nxt 0 (w.heap.size + 1) w.heap.size 0) ∧ w' = (w.alloc (.cells #[ptr P] 80)).alloc (.cells #[.slice none 0 0] 102) := by
  go_enter Tryz.func76, Tryz.ntmps76
  go_wp2
  go_ret
  exact ⟨rfl, rfl⟩
end Go.Proofs.YthlacailhfhjnaaGreatDoor
namespace Go.Proofs.YthlacailhfhjnaaGreatDoor
open Go.RowKit Go.Lib
theorem info35 : (Tryz.prog.info? 35).map (fun i => (i.zero, i.size, i.bytes)) = some (some (.agg #[.string ⟨#[]⟩, .string ⟨#[]⟩]), 2, 32) := by kernel_rfl
theorem info24 : (Tryz.prog.info? 24).map (fun i => (i.zero, i.size, i.bytes)) = some (some (.agg #[.string ⟨#[]⟩, .string ⟨#[]⟩, .slice none 0 0, .string ⟨#[]⟩]), 4, 72) := by kernel_rfl
theorem info9 : (Tryz.prog.info? 9).map (fun i => (i.zero, i.size, i.bytes)) = some (some (.string ⟨#[]⟩), 1, 16) := by kernel_rfl
theorem owns_alloc {e n m : Nat} {w : World} {v : Value} {xs : List Value} (h : w.ownsRow 0 e n v m xs) (o : Obj) : (w.alloc o).ownsRow 0 e n v m xs :=
  owns_same h (fun k hk => by
    obtain ⟨cs, q⟩ := owns_lt h k hk
    exact heap_alloc_old _ _ (lt_of_row q))
/-- What append of one thing does, to a row of one's own. -/
theorem app_own (T e tt : Nat) (z : Value) (sz bys : Nat) (ht : Tryz.prog.underlying T = some (.slice e)) (hinfo : (Tryz.prog.info? e).map (fun i => (i.zero, i.size, i.bytes)) = some (some z, sz, bys)) (hzs : z.cells.size = sz) (hsz : 0 < sz)
    (v : Value) (n : Nat) (xs : List Value) (w0 : World) (hown : w0.ownsRow 0 e sz v n xs) (news : List Value) (hl : news.length = sz) (h1 : ∀ u ∈ news, u.oneCell' = true) (hn : n + 1 ≤ 140737488355328) (hby : (n + 1) * bys ≤ 140737488355328) :
    ∃ p cap w', (Builtin.append_ #[T, T] tt #[v, .slice (some ⟨w0.heap.size, 0, none⟩) 1 1]).run Tryz.prog (w0.alloc (.cells news.toArray e)) = .ok (.slice p (n + 1) cap) w' ∧ w'.ownsRow 0 e sz (.slice p (n + 1) cap) (n + 1) (xs ++ news) ∧ Only (fun k => v.ownBlock = some k) w0 w' ∧ (∀ k, (Value.slice p (n + 1) cap).ownBlock = some k → v.ownBlock = some k ∨ w0.heap.size ≤ k) := by
  obtain ⟨i0, hi, hz0, hz1, hz2⟩ := info_parts hinfo
  have hown' := owns_alloc hown (.cells news.toArray e)
  have hnew : ∀ j u, news[j]? = some u → (w0.alloc (.cells news.toArray e)).cell? ((⟨w0.heap.size, 0, none⟩ : Addr).add j) = some u := by
    intro j u hj
    have hadd : (⟨w0.heap.size, 0, none⟩ : Addr).add j = ⟨w0.heap.size, j, none⟩ := by unfold Addr.add; split <;> simp_all
    rw [hadd, cell_of_row _ _ j _ e (0, 0) (heap_alloc_new _ _)]
    simpa using hj
  obtain ⟨v', w', hr, h2, h3, _, h5⟩ := run_append_own_at (P := Tryz.prog) (w0.alloc (.cells news.toArray e)) 0 T tt e i0 z sz bys ht hi hz0 hz1 hz2 hzs hsz v n xs hown' ⟨w0.heap.size, 0, none⟩ 1 1 news (by omega) hnew h1 (by unfold maxLen; omega) hby (Nat.zero_le _)
  obtain ⟨p, cap, rfl⟩ := owns_form h2
  refine ⟨p, cap, w', hr, h2, (Only.alloc _ w0 _).trans (Only.of_grown h3) (fun k _ q => q), ?_⟩
  intro k hk
  rcases h5 with h5 | h5
  · left; rw [← h5]; exact hk
  · right; rw [hk] at h5; have := Option.some.inj h5; simp at this; omega
theorem push_own {ops : Array Oper} {rest : List Oper} {o : Oper} {a : Act} {Q : Exit → Act → World → Prop} (T e : Nat) (z : Value) (sz bys : Nat) (ht : Tryz.prog.underlying T = some (.slice e)) (hinfo : (Tryz.prog.info? e).map (fun i => (i.zero, i.size, i.bytes)) = some (some z, sz, bys)) (hzs : z.cells.size = sz) (hsz : 0 < sz)
    (hgd : o.guard = none) (s x : Operand) (ho : o.op = .call { callee := .builtin .append, args := #[s, x], argTypes := #[T, T] })
    (v : Value) (n : Nat) (xs : List Value) (hs : a.eval s = v) (w0 : World) (hown : w0.ownsRow 0 e sz v n xs) (news : List Value) (hl : news.length = sz) (h1 : ∀ u ∈ news, u.oneCell' = true) (hx : a.eval x = .slice (some ⟨w0.heap.size, 0, none⟩) 1 1) (hn : n + 1 ≤ 140737488355328) (hby : (n + 1) * bys ≤ 140737488355328)
    (h : ∀ p cap w', w'.ownsRow 0 e sz (.slice p (n + 1) cap) (n + 1) (xs ++ news) → Only (fun k => v.ownBlock = some k) w0 w' → (∀ k, (Value.slice p (n + 1) cap).ownBlock = some k → v.ownBlock = some k ∨ w0.heap.size ≤ k) → wpList Tryz.prog ops Q rest (a.put o.dst (.slice p (n + 1) cap)) w') :
    wpList Tryz.prog ops Q (o :: rest) a (w0.alloc (.cells news.toArray e)) := by
  obtain ⟨p, cap, w', hr, h2, h3, h4⟩ := app_own T e o.type z sz bys ht hinfo hzs hsz v n xs w0 hown news hl h1 hn hby
  refine wpList_plain hgd fun K hK => ?_
  unfold Oper.wp execOp
  simp only [ho, resolve, invoke, builtin, Sem.run_bind, Sem.run_pure, Result.andThen_ok, List.map_toArray, List.map_cons, List.map_nil, hs, hx, hr]
  exact hK _ _ (h p cap w' h2 h3 h4)
end Go.Proofs.YthlacailhfhjnaaGreatDoor
namespace Go.Proofs.YthlacailhfhjnaaGreatDoor
open Go.RowKit Go.Lib
def addv (n m : Int) : Int := if 2147483647 - n < m then 2147483648 else n + m
theorem addv_bd {n m : Int} (h0 : 0 ≤ n) (h1 : 0 ≤ m) (h2 : n ≤ 2147483648) : 0 ≤ addv n m ∧ addv n m ≤ 2147483648 := by
  unfold addv
  split <;> omega
theorem addv_le {n m : Int} (h : addv n m ≤ 2147483647) : n + m ≤ 2147483647 := by
  unfold addv at h
  split at h <;> omega
set_option maxHeartbeats 2000000 in
theorem add_any (n m : Int) (w : World) (h0 : 0 ≤ n) (h1 : 0 ≤ m) (h2 : n ≤ 2147483648) (h3 : m ≤ 9000000000000000000) : Calls Tryz.prog 8 #[.int .i64 n, .int .i64 m] w fun e w' => e = .returned (.int .i64 (addv n m)) ∧ w' = w := by
  unfold addv
  by_cases h : 2147483647 - n < m
  · rw [if_pos h]
    go_enter Tryz.func8, Tryz.ntmps8
    go_wp2
    go_ret
    exact ⟨rfl, rfl⟩
  · rw [if_neg h]
    go_enter Tryz.func8, Tryz.ntmps8
    go_wp2
    go_ret
    exact ⟨rfl, rfl⟩
def pkv (c : Int) (n : Nat) : Nat := ((if c < 0 then -(c + 1) else c) % n).toNat
theorem pkv_lt (c : Int) (n : Nat) (h : 0 < n) : pkv c n < n := by
  unfold pkv
  have h1 := Int.emod_lt_of_pos (if c < 0 then -(c + 1) else c) (show (0 : Int) < n by omega)
  have h2 := Int.emod_nonneg (if c < 0 then -(c + 1) else c) (show (n : Int) ≠ 0 by omega)
  omega
set_option maxHeartbeats 2000000 in
theorem pick_any (c : Int) (n : Nat) (w : World) (hn : 0 < n) (hn2 : n ≤ 9000000000000000000) (h1 : -9223372036854775808 ≤ c) (h2 : c ≤ 9223372036854775807) : Calls Tryz.prog 15 #[.int .i64 c, .int .i64 (n : Int)] w fun e w' => e = .returned (.int .i64 (pkv c n : Nat)) ∧ w' = w := by
  have hni : ¬ (n : Int) = 0 := by omega
  by_cases h : c < 0
  · have e : ((pkv c n : Nat) : Int) = Int.tmod (-(c + 1)) n := by
      unfold pkv
      rw [if_pos h, Int.tmod_eq_emod_of_nonneg (by omega)]
      have := Int.emod_nonneg (-(c + 1)) (show (n : Int) ≠ 0 by omega)
      omega
    have HE := hide e
    clear e
    go_enter Tryz.func15, Tryz.ntmps15
    go_wp2
    go_ret
    exact ⟨ret_int (by rw [unhide HE, Int.neg_tmod]), rfl⟩
  · have e : ((pkv c n : Nat) : Int) = c % n := by
      unfold pkv
      rw [if_neg h]
      have := Int.emod_nonneg c (show (n : Int) ≠ 0 by omega)
      omega
    have HE := hide e
    clear e
    go_enter Tryz.func15, Tryz.ntmps15
    go_wp2
    go_ret
    exact ⟨ret_int (unhide HE).symm, rfl⟩
set_option maxHeartbeats 2000000 in
theorem cut4_any (s : Bs) (w : World) (hs : s.length ≤ 9223372036854775807) : Calls Tryz.prog 41 #[S s, .int .i64 4000] w fun e w' => e = .returned (S (s.take 4000)) ∧ w' = w := by
  by_cases h : 4000 < s.length
  · have h' : (4000 : Int) < (s.length : Int) := by omega
    have h'' : (4000 : Int) ≤ (s.length : Int) := by omega
    have HX : Hid ((ByteArray.mk s.toArray).extract 0 4000 = ⟨(s.take 4000).toArray⟩) := hide (by rw [extract_eq]; simp)
    go_enter Tryz.func41, Tryz.ntmps41
    go_wp2
    go_ret
    exact ⟨by show Ending.returned (.string ((ByteArray.mk s.toArray).extract 0 4000)) = _; rw [unhide HX], rfl⟩
  · have h' : ¬ (4000 : Int) < (s.length : Int) := by omega
    have HX := hide (List.take_of_length_le (show s.length ≤ 4000 by omega))
    go_enter Tryz.func41, Tryz.ntmps41
    go_wp2
    go_ret
    exact ⟨by rw [unhide HX]; rfl, rfl⟩
end Go.Proofs.YthlacailhfhjnaaGreatDoor
namespace Go.Proofs.YthlacailhfhjnaaGreatDoor
open Go.RowKit Go.Lib
/-- Bytes that lie in memory from a place on. -/
structure Bys (g off cap : Nat) (R : List UInt8) (w : World) : Prop where
  cell : ∀ j, j < R.length → w.cell? ⟨g, off + j, none⟩ = some (.int .u8 ((R.getD j 0).toNat : Int))
  cap : R.length ≤ cap
  lt : g < w.heap.size
/-- The bytes of a text in new memory, that may be written to. -/
theorem wpList_bytesF {ops : Array Oper} {rest : List Oper} {o : Oper} {a : Act} {w : World} {Q : Exit → Act → World → Prop} (hgd : o.guard = none) (x : Operand) (ho : o.op = .convert 9 102 x)
    (s : List UInt8) (hx : a.eval x = .string ⟨s.toArray⟩)
    (h : ∀ w' cap, Bys w.heap.size 0 cap s w' → (∀ j, j < s.length → w'.frozen? ⟨w.heap.size, j, none⟩ = false) → Below w.heap.size w w' → wpList Tryz.prog ops Q rest (a.put o.dst (.slice (some ⟨w.heap.size, 0, none⟩) s.length cap)) w') : wpList Tryz.prog ops Q (o :: rest) a w := by
  refine wpList_plain hgd fun K hK => ?_
  have hrun := run_bytes_of_string (P := Tryz.prog) w 9 102 5 ⟨s.toArray⟩ Tryz.underlying9 Tryz.underlying102 Tryz.underlying5
  have hsz : (ByteArray.mk s.toArray).size = s.length := by simp [ByteArray.size]
  unfold Oper.wp execOp
  simp only [ho, hx, Sem.run_bind, hrun, Result.andThen_ok]
  rw [hsz]
  refine hK _ _ (h _ _ ⟨?_, ?_, ?_⟩ ?_ ?_)
  · intro j hj
    rw [Nat.zero_add]
    have e := World.cell?_alloc_mark w.drew (bytesRow ⟨s.toArray⟩ (grownCap w s.length 0 5)) 5 ((bytesRow ⟨s.toArray⟩ (grownCap w s.length 0 5)).size, (bytesRow ⟨s.toArray⟩ (grownCap w s.length 0 5)).size + 1) j
    refine e.trans ?_
    rw [bytesRow_at _ _ _ (by simpa using hj)]
    simp [hj]
  · exact grownCap_ge w s.length 0 5
  · simp
  · intro j hj
    have f := World.frozen?_alloc_mark w.drew (bytesRow ⟨s.toArray⟩ (grownCap w s.length 0 5)) 5 (bytesRow ⟨s.toArray⟩ (grownCap w s.length 0 5)).size ((bytesRow ⟨s.toArray⟩ (grownCap w s.length 0 5)).size + 1) j
    refine f.trans ?_
    have : s.length ≤ (bytesRow ⟨s.toArray⟩ (grownCap w s.length 0 5)).size := by simp [bytesRow, hsz]
    simp; omega
  · exact ((Below.refl _ _).drew).alloc (Nat.le_refl _) _
def sml (s : Bs) (k : Nat) : Bs := (s.take k).map low ++ s.drop k
theorem sml_len (s : Bs) (k : Nat) : (sml s k).length = s.length := by simp [sml]; omega
theorem sml_at (s : Bs) (k j : Nat) (hj : j < s.length) : (sml s k).getD j 0 = if j < k then low (s.getD j 0) else s.getD j 0 := by
  unfold sml
  rw [List.getD_eq_getElem?_getD, List.getElem?_append]
  by_cases h : j < k
  · rw [if_pos (by simp; omega), if_pos h]
    simp [h, hj]
  · rw [if_neg (by simp; omega), if_neg h]
    simp only [List.length_map, List.length_take, List.getElem?_drop]
    rw [show min k s.length = k by omega, show k + (j - k) = j by omega]
    simp
/-- The bytes of a text, of which some were made small. -/
structure Smb (g : Nat) (s : Bs) (k : Nat) (w wr : World) : Prop where
  cell : ∀ j, j < s.length → wr.cell? ⟨g, j, none⟩ = some (.int .u8 (((sml s k).getD j 0).toNat : Int))
  fz : ∀ j, j < s.length → wr.frozen? ⟨g, j, none⟩ = false
  lt : g < wr.heap.size
  bel : Below w.heap.size w wr
theorem Smb.same {g : Nat} {s : Bs} {k : Nat} {w wr : World} (h : Smb g s k w wr) (hk : k < s.length) (hu : up (s.getD k 0) = false) : Smb g s (k + 1) w wr := by
  refine ⟨fun j hj => ?_, h.fz, h.lt, h.bel⟩
  rw [h.cell j hj, sml_at s k j hj, sml_at s (k + 1) j hj]
  by_cases e : j = k
  · subst e
    rw [if_neg (by omega), if_pos (by omega)]
    unfold low
    rw [hu]
    simp
  · by_cases e2 : j < k
    · rw [if_pos e2, if_pos (by omega)]
    · rw [if_neg e2, if_neg (by omega)]
theorem Smb.set {g : Nat} {s : Bs} {k : Nat} {w wr : World} (h : Smb g s k w wr) (hk : k < s.length) (hg : w.heap.size ≤ g) : Smb g s (k + 1) w (wr.setCell ⟨g, k, none⟩ (.int .u8 ((low (s.getD k 0)).toNat : Int))) := by
  refine ⟨fun j hj => ?_, fun j hj => ?_, by simpa [World.setCell] using h.lt, h.bel.setCell hg _⟩
  · rw [sml_at s (k + 1) j hj]
    by_cases e : j = k
    · subst e
      rw [if_pos (by omega)]
      exact World.cell?_setCell_same _ _ _ (h.cell j hj)
    · have hne : (⟨g, k, none⟩ : Addr) ≠ ⟨g, j, none⟩ := fun q => e (by injection q with _ q2; exact q2.symm)
      rw [World.cell?_setCell_other _ _ _ _ hne, h.cell j hj, sml_at s k j hj]
      by_cases e2 : j < k
      · rw [if_pos e2, if_pos (by omega)]
      · rw [if_neg e2, if_neg (by omega)]
  · rw [World.frozen?_setCell]
    exact h.fz j hj
set_option maxHeartbeats 8000000 in
set_option maxRecDepth 8000 in
theorem small_any (s : Bs) (w : World) (hs : s.length ≤ 1000000000) : Calls Tryz.prog 45 #[S s] w fun e w' => e = .returned (S (s.map low)) ∧ Below w.heap.size w w' := by
  go_enter Tryz.func45, Tryz.ntmps45
  go_wp2_with (refine wpList_bytesF rfl (.tmp 5) rfl s (by rfl) ?_; intro w1 cap1 hb1 hf1 hbe1)
  have H0 := hide (show Smb w.heap.size s 0 w w1 from ⟨fun j hj => by rw [sml_at s 0 j hj, if_neg (by omega)]; have := hb1.cell j hj; rwa [Nat.zero_add] at this, hf1, hb1.lt, hbe1⟩)
  have hcap := hb1.cap
  clear hb1 hf1 hbe1
  go_loopw [4] (fun i wr => ∃ k : Nat, k ≤ s.length ∧ i = .int .i64 k ∧ Smb w.heap.size s k w wr) (fun i _ => s.length - (Go.RowKit.intOf i).toNat)
  case atStart => exact ⟨0, by omega, rfl, unhide H0⟩
  case round =>
    obtain ⟨k, hk, rfl, hi⟩ := hrel
    clear H0
    by_cases hlt : k < s.length
    · have hc := hi.cell k hlt
      rw [sml_at s k k hlt, if_neg (by omega)] at hc
      have hf := hi.fz k hlt
      have hl := hi.lt
      have hki : (k : Int) < (s.length : Int) := by omega
      by_cases hu : up (s.getD k 0) = true
      · have hu2 : 65 ≤ (s.getD k 0).toNat ∧ (s.getD k 0).toNat ≤ 90 := by unfold up at hu; simpa using hu
        have hlow : (low (s.getD k 0)).toNat = (s.getD k 0).toNat + 32 := by
          unfold low
          rw [if_pos hu, UInt8.toNat_add]
          show ((s.getD k 0).toNat + 32) % 256 = _
          omega
        have HS := hide (hi.set hlt (Nat.le_refl _))
        rw [hlow] at HS
        generalize (s.getD k 0).toNat = n at *
        have i1 : (65 : Int) ≤ (n : Int) := by omega
        have i2 : (n : Int) ≤ 90 := by omega
        have i3 : (n : Int) + 32 ≤ 255 := by omega
        clear hi hu hlow
        go_wp2
        refine ⟨⟨k + 1, by omega, by go_num, ?_⟩, ?_⟩
        · have := unhide HS
          simpa using this
        · simp [Go.RowKit.intOf]; omega
      · have hu' : up (s.getD k 0) = false := by simpa using hu
        have HS := hide (hi.same hlt hu')
        have hu2 : ¬ (65 ≤ (s.getD k 0).toNat ∧ (s.getD k 0).toNat ≤ 90) := by unfold up at hu'; simpa using hu'
        generalize (s.getD k 0).toNat = n at *
        clear hi hu hu'
        by_cases h1 : 65 ≤ n
        · have i1 : (65 : Int) ≤ (n : Int) := by omega
          have i2 : ¬ (n : Int) ≤ 90 := by omega
          have i3 : decide ((n : Int) ≤ 90) = false := by simpa using i2
          go_wp2
          refine ⟨⟨k + 1, by omega, by go_num, unhide HS⟩, ?_⟩
          simp [Go.RowKit.intOf]; omega
        · have i1 : ¬ (65 : Int) ≤ (n : Int) := by omega
          have i3 : decide ((65 : Int) ≤ (n : Int)) = false := by simpa using i1
          go_wp2
          refine ⟨⟨k + 1, by omega, by go_num, unhide HS⟩, ?_⟩
          simp [Go.RowKit.intOf]; omega
    · have hd : decide (k < s.length) = false := by simp; omega
      have hke : k = s.length := by omega
      have HT : Hid ((convert 102 9 (.slice (some ⟨w.heap.size, 0, none⟩) s.length cap1)).run Tryz.prog wr = .ok (S (s.map low)) wr) := hide (by
        refine run_text wr w.heap.size 0 s.length cap1 (s.map low) (by simp) ?_
        intro j hj
        rw [Nat.zero_add, hi.cell j hj, sml_at s k j hj, if_pos (by omega)]
        simp [hj])
      have HB := hide hi.bel
      clear hi hke
      go_wp2_with (first | (refine wpList_conv rfl 102 9 (.tmp 33) rfl _ _ (by rfl) (unhide HT) ?_))
      go_ret
      exact ⟨rfl, unhide HB⟩
end Go.Proofs.YthlacailhfhjnaaGreatDoor
