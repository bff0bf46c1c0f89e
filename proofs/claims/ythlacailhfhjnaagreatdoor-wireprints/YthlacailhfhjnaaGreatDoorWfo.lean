import Derived.Test.YthlacailhfhjnaaGreatDoorWfn
import Derived.Test.YthlacailhfhjnaaGreatDoorWfl
import Derived.Test.YthlacailhfhjnaaGreatDoorWdt
namespace Go.Proofs.YthlacailhfhjnaaGreatDoor
open Go.RowKit Go.Lib
theorem app_nilF (p : Option Addr) (n c tt : Nat) (hc : n ≤ c) (w : World) : (Builtin.append_ #[22, 22] tt #[.slice p n c, .slice none 0 0]).run Tryz.prog w = .ok (.slice p n c) w := by
  obtain ⟨i0, hi, hz0, hz1, hz2⟩ := info_parts info35
  cases p <;> simp [Builtin.append_, run_underlying Tryz.underlying22, sizeOf, typeInfo, hi, Builtin.lenOf, Builtin.firstCells, loadCells, hc, storeCells]
/-- Fields behind fields. -/
theorem appF_run {V V2 : Value} {l l2 : List Fl} {w : World} (tt : Nat) (h : w.ownsRow 0 35 2 V l.length (cellsF l)) (h2 : w.ownsRow 0 35 2 V2 l2.length (cellsF l2)) (hn : l.length + l2.length ≤ 1000000000000) :
    ∃ V' w', (Builtin.append_ #[22, 22] tt #[V, V2]).run Tryz.prog w = .ok V' w' ∧ w'.ownsRow 0 35 2 V' (l ++ l2).length (cellsF (l ++ l2)) ∧ Only (fun k => V.ownBlock = some k) w w' ∧ (V'.ownBlock = V.ownBlock ∨ V'.ownBlock = some w.heap.size) := by
  rcases h2.2 with ⟨e, q⟩ | ⟨g, cap, cur, e1, e2, e3, e4, e5, e6, e7⟩
  · obtain rfl : l2 = [] := List.eq_nil_of_length_eq_zero q
    subst e
    rw [List.append_nil]
    refine ⟨V, w, ?_, h, Only.refl _ _, .inl rfl⟩
    rcases h.2 with ⟨e, q⟩ | ⟨g, cap, cur, e1, e2, e3, e4, e5⟩
    · rw [e]; exact app_nilF _ _ _ _ (Nat.le_refl _) w
    · rw [e1]; exact app_nilF _ _ _ _ e4 w
  · obtain ⟨i0, hi, hz0, hz1, hz2⟩ := info_parts info35
    have hnew : ∀ j u, (cellsF l2)[j]? = some u → w.cell? ((⟨g, 0, none⟩ : Addr).add j) = some u := by
      intro j u hj
      have hadd : (⟨g, 0, none⟩ : Addr).add j = ⟨g, j, none⟩ := by unfold Addr.add; split <;> simp_all
      rw [hadd, cell_of_row w g j _ 35 (0, 0) e3]
      rw [← e7, List.getElem?_take] at hj
      split at hj
      · simpa using hj
      · cases hj
    obtain ⟨V', w', hr, a2, a3, _, a5⟩ := run_append_own_at (P := Tryz.prog) w 0 22 tt 35 i0 _ 2 32 Tryz.underlying22 hi hz0 hz1 hz2 rfl (by decide) V l.length (cellsF l) h ⟨g, 0, none⟩ l2.length cap (cellsF l2) (cellsF_len l2) hnew (cellsF_one l2) (by unfold maxLen; omega) (by omega) (Nat.zero_le _)
    rw [e1]
    refine ⟨V', w', hr, ?_, Only.of_grown a3, a5⟩
    rw [List.length_append, cellsF_append]
    exact a2
/-- Fields that stand anywhere, behind fields of one's own. -/
theorem appG_run {V : Value} {q : Option Addr} {n c : Nat} {l l2 : List Fl} {w : World} (tt : Nat) (h : w.ownsRow 0 35 2 V l.length (cellsF l)) (h2 : Fls w q n l2) (hq : q = none → c = 0) (hn : l.length + l2.length ≤ 1000000000000) :
    ∃ V' w', (Builtin.append_ #[22, 22] tt #[V, .slice q n c]).run Tryz.prog w = .ok V' w' ∧ w'.ownsRow 0 35 2 V' (l ++ l2).length (cellsF (l ++ l2)) ∧ Only (fun k => V.ownBlock = some k) w w' ∧ (V'.ownBlock = V.ownBlock ∨ V'.ownBlock = some w.heap.size) := by
  cases q with
  | none =>
    have hc := hq rfl
    have hn0 : n = 0 := by
      rcases Nat.eq_zero_or_pos n with e | e
      · exact e
      · obtain ⟨p, o, e, _⟩ := h2.2 e
        cases e
    subst hc hn0
    obtain rfl : l2 = [] := List.eq_nil_of_length_eq_zero h2.1.symm
    rw [List.append_nil]
    refine ⟨V, w, ?_, h, Only.refl _ _, .inl rfl⟩
    rcases h.2 with ⟨e, q⟩ | ⟨g, cap, cur, e1, e2, e3, e4, e5⟩
    · rw [e]; exact app_nilF _ _ _ _ (Nat.le_refl _) w
    · rw [e1]; exact app_nilF _ _ _ _ e4 w
  | some ad =>
    obtain ⟨i0, hi, hz0, hz1, hz2⟩ := info_parts info35
    have hN := h2.1
    have hnew : ∀ j u, (cellsF l2)[j]? = some u → w.cell? (ad.add j) = some u := by
      intro j u hj
      obtain ⟨k, hk, hc⟩ := cellsF_get _ _ _ hj
      obtain ⟨p, o, e, hcells⟩ := h2.2 (by omega)
      cases e
      have hadd : ∀ i, (⟨p, o, none⟩ : Addr).add i = ⟨p, o + i, none⟩ := fun i => by unfold Addr.add; split <;> simp_all
      rcases hc with ⟨rfl, rfl⟩ | ⟨rfl, rfl⟩
      · rw [hadd]; exact (hcells k (by omega)).1
      · rw [hadd, ← Nat.add_assoc]; exact (hcells k (by omega)).2
    subst hN
    obtain ⟨V', w', hr, a2, a3, _, a5⟩ := run_append_own_at (P := Tryz.prog) w 0 22 tt 35 i0 _ 2 32 Tryz.underlying22 hi hz0 hz1 hz2 rfl (by decide) V l.length (cellsF l) h ad l2.length c (cellsF l2) (cellsF_len l2) hnew (cellsF_one l2) (by unfold maxLen; omega) (by omega) (Nat.zero_le _)
    refine ⟨V', w', hr, ?_, Only.of_grown a3, a5⟩
    rw [List.length_append, cellsF_append]
    exact a2
theorem wp_appG {ops : Array Oper} {rest : List Oper} {o : Oper} {a : Act} {w : World} {Q : Exit → Act → World → Prop} (hgd : o.guard = none) (s x : Operand)
    (ho : o.op = .call { callee := .builtin .append, args := #[s, x], argTypes := #[22, 22] }) {V : Value} (hs : a.eval s = V) {q : Option Addr} {n c : Nat} (hx : a.eval x = .slice q n c) {l l2 : List Fl}
    (h : w.ownsRow 0 35 2 V l.length (cellsF l)) (h2 : Fls w q n l2) (hq : q = none → c = 0) (hn : l.length + l2.length ≤ 1000000000000)
    (hK : ∀ V' w', w'.ownsRow 0 35 2 V' (l ++ l2).length (cellsF (l ++ l2)) → Only (fun k => V.ownBlock = some k) w w' → (V'.ownBlock = V.ownBlock ∨ V'.ownBlock = some w.heap.size) → wpList Tryz.prog ops Q rest (a.put o.dst V') w') : wpList Tryz.prog ops Q (o :: rest) a w := by
  obtain ⟨V', w', hr, a1, a2, a3⟩ := appG_run o.type h h2 hq hn
  refine wpList_plain hgd fun K hK' => ?_
  unfold Oper.wp execOp
  simp only [ho, resolve, invoke, builtin, Sem.run_bind, Sem.run_pure, Result.andThen_ok, List.map_toArray, List.map_cons, List.map_nil, hs, hx, hr]
  exact hK' _ _ (hK V' w' a1 a2 a3)
theorem owns_nil (w : World) : w.ownsRow 0 35 2 (.slice none 0 0) ([] : List Fl).length (cellsF []) := World.ownsRow_nil _ _ _ _
/-- A row of one's own is nil, or a block of its own. -/
theorem owns_cases {w : World} {p : Option Addr} {n c : Nat} {fs : List Fl} (h : w.ownsRow 0 35 2 (.slice p n c) fs.length (cellsF fs)) : n = fs.length ∧ (p = none → c = 0) ∧ ∀ q o, p = some ⟨q, o, none⟩ → (Value.slice p n c).ownBlock = some q ∧ o = 0 := by
  rcases h.2 with ⟨e, q⟩ | ⟨g, cap, cur, e1, _⟩
  · cases e
    exact ⟨q.symm, fun _ => rfl, fun q o h => by cases h⟩
  · cases e1
    exact ⟨rfl, (fun h => nomatch h), fun q o h => (by cases h; exact ⟨rfl, rfl⟩)⟩
/-- How long a message, an answer may be here. -/
structure LM (m : Ms) : Prop where
  hl : Lens m.hs
  hn : m.hs.length ≤ 100000000000
  hm : m.m.length ≤ 140737488351232
  hp : m.p.length ≤ 140737488351232
  hb : m.b.length ≤ 140737488351232
structure LA (f : List Fl) (b : Bs) : Prop where
  hl : Lens f
  hn : f.length ≤ 100000000000
  hb : b.length ≤ 140737488351232
/-- The box of a message, whose fields stand in a block below B. -/
def MB (P : Nat) (m : Ms) (B : Nat) (w : World) : Prop := ∃ a c, w.heap[P]? = some (.cells #[S m.m, S m.p, .slice a m.hs.length c, S m.b] 24 (0, 0)) ∧ Fls w a m.hs.length m.hs ∧ (a = none → c = 0) ∧ ∀ p o, a = some ⟨p, o, none⟩ → 0 < m.hs.length → p < B
def AB (P : Nat) (st : Int) (f : List Fl) (b : Bs) (B : Nat) (w : World) : Prop := ∃ a c, w.heap[P]? = some (.cells #[.int .i64 st, .slice a f.length c, S b] 26 (0, 0)) ∧ Fls w a f.length f ∧ (a = none → c = 0) ∧ ∀ p o, a = some ⟨p, o, none⟩ → 0 < f.length → p < B
theorem Fls.only {O : Nat → Prop} {B : Nat} {w w' : World} {a : Option Addr} {n : Nat} {fs : List Fl} (h : Fls w a n fs) (hB : ∀ p o, a = some ⟨p, o, none⟩ → 0 < n → p < B) (ho : Only O w w') (hO : ∀ k, O k → B ≤ k) : Fls w' a n fs := by
  refine ⟨h.1, fun hn => ?_⟩
  obtain ⟨p, o, e, hc⟩ := h.2 hn
  have hp := hB p o e hn
  have hl : p < w.heap.size := blk_lt (hc 0 hn).1
  have hb := ho.block p hl (fun q => by have := hO p q; omega)
  refine ⟨p, o, e, fun j hj => ?_⟩
  have := hc j hj
  simp only [World.cell?] at this ⊢
  rw [hb]
  exact this
theorem MB.only {O : Nat → Prop} {P B : Nat} {m : Ms} {w w' : World} (h : MB P m B w) (ho : Only O w w') (hP : ¬ O P) (hO : ∀ k, O k → B ≤ k) : MB P m B w' := by
  obtain ⟨a, c, x, f, n, b⟩ := h
  exact ⟨a, c, (ho.block P (lt_of_row x) hP).trans x, f.only b ho hO, n, b⟩
theorem AB.only {O : Nat → Prop} {P B : Nat} {st : Int} {f : List Fl} {b : Bs} {w w' : World} (h : AB P st f b B w) (ho : Only O w w') (hP : ¬ O P) (hO : ∀ k, O k → B ≤ k) : AB P st f b B w' := by
  obtain ⟨a, c, x, f, n, b⟩ := h
  exact ⟨a, c, (ho.block P (lt_of_row x) hP).trans x, f.only b ho hO, n, b⟩
theorem MB.below {P B : Nat} {m : Ms} {w w' : World} (h : MB P m B w) (hb : Below w.heap.size w w') : MB P m B w' := h.only (Only.of_below (P := fun _ => False) hb) (fun q => q) (fun _ q => q.elim)
theorem AB.below {P B : Nat} {st : Int} {f : List Fl} {b : Bs} {w w' : World} (h : AB P st f b B w) (hb : Below w.heap.size w w') : AB P st f b B w' := h.only (Only.of_below (P := fun _ => False) hb) (fun q => q) (fun _ q => q.elim)
theorem MB.lt {P B : Nat} {m : Ms} {w : World} (h : MB P m B w) : P < w.heap.size := by obtain ⟨a, c, x, _⟩ := h; exact lt_of_row x
theorem AB.lt {P B : Nat} {st : Int} {f : List Fl} {b : Bs} {w : World} (h : AB P st f b B w) : P < w.heap.size := by obtain ⟨a, c, x, _⟩ := h; exact lt_of_row x
/-- prints and held of what stands in boxes. -/
theorem mprints {B Bm Ba P Q : Nat} {m : Ms} {st : Int} {f : List Fl} {b : Bs} {w : World} (hE : Env B w) (hm : MB P m Bm w) (ha : AB Q st f b Ba w) (lm : LM m) (la : LA f b) :
    ∃ p c p' c', w.cell? ⟨P, 0, none⟩ = some (S m.m) ∧ w.cell? ⟨P, 1, none⟩ = some (S m.p) ∧ w.cell? ⟨P, 2, none⟩ = some (.slice p m.hs.length c) ∧ w.cell? ⟨P, 3, none⟩ = some (S m.b) ∧ w.cell? ⟨Q, 0, none⟩ = some (.int .i64 st) ∧ w.cell? ⟨Q, 1, none⟩ = some (.slice p' f.length c') ∧ w.cell? ⟨Q, 2, none⟩ = some (S b) ∧
      Fls w p m.hs.length m.hs ∧
      (Calls Tryz.prog 12 #[.agg #[S m.m, S m.p, .slice p m.hs.length c, S m.b], .agg #[.int .i64 st, .slice p' f.length c', S b]] w fun e w' => e = .returned (.bool true) ∧ Below w.heap.size w w') ∧
      (Calls Tryz.prog 16 #[.agg #[S m.m, S m.p, .slice p m.hs.length c, S m.b], .agg #[.int .i64 st, .slice p' f.length c', S b]] w fun e w' => e = .returned (.bool true) ∧ Below w.heap.size w w') := by
  obtain ⟨p, c, x, hf, hn, _⟩ := hm
  obtain ⟨p', c', x', hf', hn', _⟩ := ha
  exact ⟨p, c, p', c', cell_of_row w _ 0 _ 24 (0, 0) x, cell_of_row w _ 1 _ 24 (0, 0) x, cell_of_row w _ 2 _ 24 (0, 0) x, cell_of_row w _ 3 _ 24 (0, 0) x, cell_of_row w _ 0 _ 26 (0, 0) x', cell_of_row w _ 1 _ 26 (0, 0) x', cell_of_row w _ 2 _ 26 (0, 0) x', hf,
    prints_any m p c st f b p' c' w hE hf hn lm.hl lm.hn lm.hm lm.hp lm.hb hf' hn' la.hl la.hn la.hb, held_any m p c st f b p' c' w hE hf hn lm.hl lm.hn lm.hm lm.hp lm.hb hf' hn' la.hl la.hn la.hb⟩
theorem MB.mono {P B B' : Nat} {m : Ms} {w : World} (h : MB P m B w) (hB : B ≤ B') : MB P m B' w := by
  obtain ⟨a, c, x, f, n, b⟩ := h
  exact ⟨a, c, x, f, n, fun p o e q => Nat.lt_of_lt_of_le (b p o e q) hB⟩
theorem AB.mono {P B B' : Nat} {st : Int} {f : List Fl} {b : Bs} {w : World} (h : AB P st f b B w) (hB : B ≤ B') : AB P st f b B' w := by
  obtain ⟨a, c, x, f, n, b⟩ := h
  exact ⟨a, c, x, f, n, fun p o e q => Nat.lt_of_lt_of_le (b p o e q) hB⟩
theorem wgt_len (fs : List Fl) (h : wgt fs ≤ 2147483647) : fs.length ≤ 2147483647 := by
  suffices ∀ (l : List Fl) (n : Int), 0 ≤ n → l.foldl wst n ≤ 2147483647 → n + l.length ≤ 2147483647 by
    have := this fs 0 (by omega) h
    omega
  intro l
  induction l with
  | nil => intro n h0 h; simpa using h
  | cons x l ih =>
    intro n h0 h
    rw [List.foldl_cons] at h
    have h1 := ih _ (wst_bd x h0).1 h
    have hg := wgm_bd x
    have hb := addv_bd2 hg.1 hg.1
    have hgt : 1 ≤ addv (wgm x) (wgm x) := by
      have : 1 ≤ wgm x := by
        unfold wgm
        have := addv_bd2 (show (0 : Int) ≤ x.1.length by omega) (show (0 : Int) ≤ x.2.length by omega)
        generalize addv (x.1.length : Int) x.2.length = y at *
        unfold addv
        split <;> omega
      generalize wgm x = y at *
      unfold addv
      split <;> omega
    have h2 : wst n x = addv n (addv (wgm x) (wgm x)) := rfl
    generalize addv (wgm x) (wgm x) = y at *
    generalize wst n x = z at *
    have : n + 1 ≤ z := by
      unfold addv at h2
      split at h2 <;> omega
    simp only [List.length_cons]
    omega
end Go.Proofs.YthlacailhfhjnaaGreatDoor
