import Derived.Test.YthlacailhfhjnaaGreatDoorZzbl
import Derived.Test.YthlacailhfhjnaaGreatDoorZzbo
import Derived.Test.YthlacailhfhjnaaGreatDoorWdt
import Derived.Test.YthlacailhfhjnaaGreatDoorZzbk
import Derived.Test.YthlacailhfhjnaaGreatDoorZzbj
import Derived.Laws.Tables
namespace Go.Proofs.YthlacailhfhjnaaGreatDoor
open Go.RowKit Go.Lib
theorem app_nilF (p : Option Addr) (n c tt : Nat) (hc : n ≤ c) (w : World) : (Builtin.append_ #[22, 22] tt #[.slice p n c, .slice none 0 0]).run Tryz.prog w = .ok (.slice p n c) w := by
  obtain ⟨i0, hi, hz0, hz1, hz2⟩ := info_parts info35
  cases p <;> simp [Builtin.append_, run_underlying Tryz.underlying22, sizeOf, typeInfo, hi, Builtin.lenOf, Builtin.firstCells, loadCells, hc, storeCells]
/-- Fields behind fields. -/
theorem appF_run {V V2 : Value} {l l2 : List Fl} {w : World} (tt : Nat) (h : w.ownsRow 0 35 2 V l.length (cellsF l)) (h2 : w.ownsRow 0 35 2 V2 l2.length (cellsF l2)) (hn : l.length + l2.length ≤ 1000000000000) :
    ∃ V' w', (Builtin.append_ #[22, 22] tt #[V, V2]).run Tryz.prog w = .ok V' w' ∧ w'.ownsRow 0 35 2 V' (l ++ l2).length (cellsF (l ++ l2)) ∧ Only (fun k => V.ownBlock = some k) w w' ∧ (V'.ownBlock = V.ownBlock ∨ V'.ownBlock = some w.heap.size) := by
  rcases h2.2 with ⟨e, q⟩ | ⟨g, cap, cur, e1, e2, e3, e4, e5, e6, e7⟩
  · obtain rfl : l2 = [] := List.eq_nil_of_length_eq_zero q
    subst e
    rw [List.append_nil]
    refine ⟨V, w, ?_, h, Only.refl _ _, .inl rfl⟩
    rcases h.2 with ⟨e, q⟩ | ⟨g, cap, cur, e1, e2, e3, e4, e5⟩
    · rw [e]; exact app_nilF _ _ _ _ (Nat.le_refl _) w
    · rw [e1]; exact app_nilF _ _ _ _ e4 w
  · obtain ⟨i0, hi, hz0, hz1, hz2⟩ := info_parts info35
    have hnew : ∀ j u, (cellsF l2)[j]? = some u → w.cell? ((⟨g, 0, none⟩ : Addr).add j) = some u := by
      intro j u hj
      have hadd : (⟨g, 0, none⟩ : Addr).add j = ⟨g, j, none⟩ := by unfold Addr.add; split <;> simp_all
      rw [hadd, cell_of_row w g j _ 35 (0, 0) e3]
      rw [← e7, List.getElem?_take] at hj
      split at hj
      · simpa using hj
      · cases hj
    obtain ⟨V', w', hr, a2, a3, _, a5⟩ := run_append_own_at (P := Tryz.prog) w 0 22 tt 35 i0 _ 2 32 Tryz.underlying22 hi hz0 hz1 hz2 rfl (by decide) V l.length (cellsF l) h ⟨g, 0, none⟩ l2.length cap (cellsF l2) (cellsF_len l2) hnew (cellsF_one l2) (by unfold maxLen; omega) (by omega) (Nat.zero_le _)
    rw [e1]
    refine ⟨V', w', hr, ?_, Only.of_grown a3, a5⟩
    rw [List.length_append, cellsF_append]
    exact a2
/-- Fields that stand anywhere, behind fields of one's own. -/
theorem appG_run {V : Value} {q : Option Addr} {n c : Nat} {l l2 : List Fl} {w : World} (tt : Nat) (h : w.ownsRow 0 35 2 V l.length (cellsF l)) (h2 : Fls w q n l2) (hq : q = none → c = 0) (hn : l.length + l2.length ≤ 1000000000000) :
    ∃ V' w', (Builtin.append_ #[22, 22] tt #[V, .slice q n c]).run Tryz.prog w = .ok V' w' ∧ w'.ownsRow 0 35 2 V' (l ++ l2).length (cellsF (l ++ l2)) ∧ Only (fun k => V.ownBlock = some k) w w' ∧ (V'.ownBlock = V.ownBlock ∨ V'.ownBlock = some w.heap.size) := by
  cases q with
  | none =>
    have hc := hq rfl
    have hn0 : n = 0 := by
      rcases Nat.eq_zero_or_pos n with e | e
      · exact e
      · obtain ⟨p, o, e, _⟩ := h2.2 e
        cases e
    subst hc hn0
    obtain rfl : l2 = [] := List.eq_nil_of_length_eq_zero h2.1.symm
    rw [List.append_nil]
    refine ⟨V, w, ?_, h, Only.refl _ _, .inl rfl⟩
    rcases h.2 with ⟨e, q⟩ | ⟨g, cap, cur, e1, e2, e3, e4, e5⟩
    · rw [e]; exact app_nilF _ _ _ _ (Nat.le_refl _) w
    · rw [e1]; exact app_nilF _ _ _ _ e4 w
  | some ad =>
    obtain ⟨i0, hi, hz0, hz1, hz2⟩ := info_parts info35
    have hN := h2.1
    have hnew : ∀ j u, (cellsF l2)[j]? = some u → w.cell? (ad.add j) = some u := by
      intro j u hj
      obtain ⟨k, hk, hc⟩ := cellsF_get _ _ _ hj
      obtain ⟨p, o, e, hcells⟩ := h2.2 (by omega)
      cases e
      have hadd : ∀ i, (⟨p, o, none⟩ : Addr).add i = ⟨p, o + i, none⟩ := fun i => by unfold Addr.add; split <;> simp_all
      rcases hc with ⟨rfl, rfl⟩ | ⟨rfl, rfl⟩
      · rw [hadd]; exact (hcells k (by omega)).1
      · rw [hadd, ← Nat.add_assoc]; exact (hcells k (by omega)).2
    subst hN
    obtain ⟨V', w', hr, a2, a3, _, a5⟩ := run_append_own_at (P := Tryz.prog) w 0 22 tt 35 i0 _ 2 32 Tryz.underlying22 hi hz0 hz1 hz2 rfl (by decide) V l.length (cellsF l) h ad l2.length c (cellsF l2) (cellsF_len l2) hnew (cellsF_one l2) (by unfold maxLen; omega) (by omega) (Nat.zero_le _)
    refine ⟨V', w', hr, ?_, Only.of_grown a3, a5⟩
    rw [List.length_append, cellsF_append]
    exact a2
theorem wp_appG {ops : Array Oper} {rest : List Oper} {o : Oper} {a : Act} {w : World} {Q : Exit → Act → World → Prop} (hgd : o.guard = none) (s x : Operand)
    (ho : o.op = .call { callee := .builtin .append, args := #[s, x], argTypes := #[22, 22] }) {V : Value} (hs : a.eval s = V) {q : Option Addr} {n c : Nat} (hx : a.eval x = .slice q n c) {l l2 : List Fl}
    (h : w.ownsRow 0 35 2 V l.length (cellsF l)) (h2 : Fls w q n l2) (hq : q = none → c = 0) (hn : l.length + l2.length ≤ 1000000000000)
    (hK : ∀ V' w', w'.ownsRow 0 35 2 V' (l ++ l2).length (cellsF (l ++ l2)) → Only (fun k => V.ownBlock = some k) w w' → (V'.ownBlock = V.ownBlock ∨ V'.ownBlock = some w.heap.size) → wpList Tryz.prog ops Q rest (a.put o.dst V') w') : wpList Tryz.prog ops Q (o :: rest) a w := by
  obtain ⟨V', w', hr, a1, a2, a3⟩ := appG_run o.type h h2 hq hn
  refine wpList_plain hgd fun K hK' => ?_
  unfold Oper.wp execOp
  simp only [ho, resolve, invoke, builtin, Sem.run_bind, Sem.run_pure, Result.andThen_ok, List.map_toArray, List.map_cons, List.map_nil, hs, hx, hr]
  exact hK' _ _ (hK V' w' a1 a2 a3)
theorem owns_nil (w : World) : w.ownsRow 0 35 2 (.slice none 0 0) ([] : List Fl).length (cellsF []) := World.ownsRow_nil _ _ _ _
/-- A row of one's own is nil, or a block of its own. -/
theorem owns_cases {w : World} {p : Option Addr} {n c : Nat} {fs : List Fl} (h : w.ownsRow 0 35 2 (.slice p n c) fs.length (cellsF fs)) : n = fs.length ∧ (p = none → c = 0) ∧ ∀ q o, p = some ⟨q, o, none⟩ → (Value.slice p n c).ownBlock = some q ∧ o = 0 := by
  rcases h.2 with ⟨e, q⟩ | ⟨g, cap, cur, e1, _⟩
  · cases e
    exact ⟨q.symm, fun _ => rfl, fun q o h => by cases h⟩
  · cases e1
    exact ⟨rfl, (fun h => nomatch h), fun q o h => (by cases h; exact ⟨rfl, rfl⟩)⟩
/-- How long a message, an answer may be here. -/
structure LM (m : Ms) : Prop where
  hl : Lens m.hs
  hn : m.hs.length ≤ 100000000000
  hm : m.m.length ≤ 140737488351232
  hp : m.p.length ≤ 140737488351232
  hb : m.b.length ≤ 140737488351232
structure LA (f : List Fl) (b : Bs) : Prop where
  hl : Lens f
  hn : f.length ≤ 100000000000
  hb : b.length ≤ 140737488351232
/-- The box of a message, whose fields stand in a block below B. -/
def MB (P : Nat) (m : Ms) (B : Nat) (w : World) : Prop := ∃ a c, w.heap[P]? = some (.cells #[S m.m, S m.p, .slice a m.hs.length c, S m.b] 24 (0, 0)) ∧ Fls w a m.hs.length m.hs ∧ (a = none → c = 0) ∧ ∀ p o, a = some ⟨p, o, none⟩ → 0 < m.hs.length → p < B
def AB (P : Nat) (st : Int) (f : List Fl) (b : Bs) (B : Nat) (w : World) : Prop := ∃ a c, w.heap[P]? = some (.cells #[.int .i64 st, .slice a f.length c, S b] 26 (0, 0)) ∧ Fls w a f.length f ∧ (a = none → c = 0) ∧ ∀ p o, a = some ⟨p, o, none⟩ → 0 < f.length → p < B
theorem Fls.only {O : Nat → Prop} {B : Nat} {w w' : World} {a : Option Addr} {n : Nat} {fs : List Fl} (h : Fls w a n fs) (hB : ∀ p o, a = some ⟨p, o, none⟩ → 0 < n → p < B) (ho : Only O w w') (hO : ∀ k, O k → B ≤ k) : Fls w' a n fs := by
  refine ⟨h.1, fun hn => ?_⟩
  obtain ⟨p, o, e, hc⟩ := h.2 hn
  have hp := hB p o e hn
  have hl : p < w.heap.size := blk_lt (hc 0 hn).1
  have hb := ho.block p hl (fun q => by have := hO p q; omega)
  refine ⟨p, o, e, fun j hj => ?_⟩
  have := hc j hj
  simp only [World.cell?] at this ⊢
  rw [hb]
  exact this
theorem MB.only {O : Nat → Prop} {P B : Nat} {m : Ms} {w w' : World} (h : MB P m B w) (ho : Only O w w') (hP : ¬ O P) (hO : ∀ k, O k → B ≤ k) : MB P m B w' := by
  obtain ⟨a, c, x, f, n, b⟩ := h
  exact ⟨a, c, (ho.block P (lt_of_row x) hP).trans x, f.only b ho hO, n, b⟩
theorem AB.only {O : Nat → Prop} {P B : Nat} {st : Int} {f : List Fl} {b : Bs} {w w' : World} (h : AB P st f b B w) (ho : Only O w w') (hP : ¬ O P) (hO : ∀ k, O k → B ≤ k) : AB P st f b B w' := by
  obtain ⟨a, c, x, f, n, b⟩ := h
  exact ⟨a, c, (ho.block P (lt_of_row x) hP).trans x, f.only b ho hO, n, b⟩
theorem MB.below {P B : Nat} {m : Ms} {w w' : World} (h : MB P m B w) (hb : Below w.heap.size w w') : MB P m B w' := h.only (Only.of_below (P := fun _ => False) hb) (fun q => q) (fun _ q => q.elim)
theorem AB.below {P B : Nat} {st : Int} {f : List Fl} {b : Bs} {w w' : World} (h : AB P st f b B w) (hb : Below w.heap.size w w') : AB P st f b B w' := h.only (Only.of_below (P := fun _ => False) hb) (fun q => q) (fun _ q => q.elim)
theorem MB.lt {P B : Nat} {m : Ms} {w : World} (h : MB P m B w) : P < w.heap.size := by obtain ⟨a, c, x, _⟩ := h; exact lt_of_row x
theorem AB.lt {P B : Nat} {st : Int} {f : List Fl} {b : Bs} {w : World} (h : AB P st f b B w) : P < w.heap.size := by obtain ⟨a, c, x, _⟩ := h; exact lt_of_row x
/-- prints and held of what stands in boxes. -/
theorem mprints {B Bm Ba P Q : Nat} {m : Ms} {st : Int} {f : List Fl} {b : Bs} {w : World} (hE : Env B w) (hm : MB P m Bm w) (ha : AB Q st f b Ba w) (lm : LM m) (la : LA f b) :
    ∃ p c p' c', w.cell? ⟨P, 0, none⟩ = some (S m.m) ∧ w.cell? ⟨P, 1, none⟩ = some (S m.p) ∧ w.cell? ⟨P, 2, none⟩ = some (.slice p m.hs.length c) ∧ w.cell? ⟨P, 3, none⟩ = some (S m.b) ∧ w.cell? ⟨Q, 0, none⟩ = some (.int .i64 st) ∧ w.cell? ⟨Q, 1, none⟩ = some (.slice p' f.length c') ∧ w.cell? ⟨Q, 2, none⟩ = some (S b) ∧
      Fls w p m.hs.length m.hs ∧
      (Calls Tryz.prog 12 #[.agg #[S m.m, S m.p, .slice p m.hs.length c, S m.b], .agg #[.int .i64 st, .slice p' f.length c', S b]] w fun e w' => e = .returned (.bool true) ∧ Below w.heap.size w w') ∧
      (Calls Tryz.prog 16 #[.agg #[S m.m, S m.p, .slice p m.hs.length c, S m.b], .agg #[.int .i64 st, .slice p' f.length c', S b]] w fun e w' => e = .returned (.bool true) ∧ Below w.heap.size w w') := by
  obtain ⟨p, c, x, hf, hn, _⟩ := hm
  obtain ⟨p', c', x', hf', hn', _⟩ := ha
  exact ⟨p, c, p', c', cell_of_row w _ 0 _ 24 (0, 0) x, cell_of_row w _ 1 _ 24 (0, 0) x, cell_of_row w _ 2 _ 24 (0, 0) x, cell_of_row w _ 3 _ 24 (0, 0) x, cell_of_row w _ 0 _ 26 (0, 0) x', cell_of_row w _ 1 _ 26 (0, 0) x', cell_of_row w _ 2 _ 26 (0, 0) x', hf,
    prints_any m p c st f b p' c' w hE hf hn lm.hl lm.hn lm.hm lm.hp lm.hb hf' hn' la.hl la.hn la.hb, held_any m p c st f b p' c' w hE hf hn lm.hl lm.hn lm.hm lm.hp lm.hb hf' hn' la.hl la.hn la.hb⟩
theorem MB.mono {P B B' : Nat} {m : Ms} {w : World} (h : MB P m B w) (hB : B ≤ B') : MB P m B' w := by
  obtain ⟨a, c, x, f, n, b⟩ := h
  exact ⟨a, c, x, f, n, fun p o e q => Nat.lt_of_lt_of_le (b p o e q) hB⟩
theorem AB.mono {P B B' : Nat} {st : Int} {f : List Fl} {b : Bs} {w : World} (h : AB P st f b B w) (hB : B ≤ B') : AB P st f b B' w := by
  obtain ⟨a, c, x, f, n, b⟩ := h
  exact ⟨a, c, x, f, n, fun p o e q => Nat.lt_of_lt_of_le (b p o e q) hB⟩
theorem wgt_len (fs : List Fl) (h : wgt fs ≤ 2147483647) : fs.length ≤ 2147483647 := by
  suffices ∀ (l : List Fl) (n : Int), 0 ≤ n → l.foldl wst n ≤ 2147483647 → n + l.length ≤ 2147483647 by
    have := this fs 0 (by omega) h
    omega
  intro l
  induction l with
  | nil => intro n h0 h; simpa using h
  | cons x l ih =>
    intro n h0 h
    rw [List.foldl_cons] at h
    have h1 := ih _ (wst_bd x h0).1 h
    have hg := wgm_bd x
    have hb := addv_bd2 hg.1 hg.1
    have hgt : 1 ≤ addv (wgm x) (wgm x) := by
      have : 1 ≤ wgm x := by
        unfold wgm
        have := addv_bd2 (show (0 : Int) ≤ x.1.length by omega) (show (0 : Int) ≤ x.2.length by omega)
        generalize addv (x.1.length : Int) x.2.length = y at *
        unfold addv
        split <;> omega
      generalize wgm x = y at *
      unfold addv
      split <;> omega
    have h2 : wst n x = addv n (addv (wgm x) (wgm x)) := rfl
    generalize addv (wgm x) (wgm x) = y at *
    generalize wst n x = z at *
    have : n + 1 ≤ z := by
      unfold addv at h2
      split at h2 <;> omega
    simp only [List.length_cons]
    omega
end Go.Proofs.YthlacailhfhjnaaGreatDoor
namespace Go.Proofs.YthlacailhfhjnaaGreatDoor
open Go.RowKit Go.Lib
section
variable {P B : Nat} {z : Ms} {st : Int} {f : List Fl} {b : Bs} {w w' : World}
theorem MB.set0 (h : MB P z B w) (hB : B ≤ P) (v : Bs) : MB P { z with m := v } B (w.setCell ⟨P, 0, none⟩ (S v)) := by
  obtain ⟨a, c, x, f, n, q⟩ := h
  exact ⟨a, c, heap_setCell_same w P 0 _ 24 _ x, f.only q (Only.setCell w ⟨P, 0, none⟩ (S v)) (fun k e => by subst e; exact hB), n, q⟩
theorem MB.set1 (h : MB P z B w) (hB : B ≤ P) (v : Bs) : MB P { z with p := v } B (w.setCell ⟨P, 1, none⟩ (S v)) := by
  obtain ⟨a, c, x, f, n, q⟩ := h
  exact ⟨a, c, heap_setCell_same w P 1 _ 24 _ x, f.only q (Only.setCell w ⟨P, 1, none⟩ (S v)) (fun k e => by subst e; exact hB), n, q⟩
theorem MB.set3 (h : MB P z B w) (hB : B ≤ P) (v : Bs) : MB P { z with b := v } B (w.setCell ⟨P, 3, none⟩ (S v)) := by
  obtain ⟨a, c, x, f, n, q⟩ := h
  exact ⟨a, c, heap_setCell_same w P 3 _ 24 _ x, f.only q (Only.setCell w ⟨P, 3, none⟩ (S v)) (fun k e => by subst e; exact hB), n, q⟩
theorem AB.set0 (h : AB P st f b B w) (hB : B ≤ P) (v : Int) : AB P v f b B (w.setCell ⟨P, 0, none⟩ (.int .i64 v)) := by
  obtain ⟨a, c, x, f, n, q⟩ := h
  exact ⟨a, c, heap_setCell_same w P 0 _ 26 _ x, f.only q (Only.setCell w ⟨P, 0, none⟩ (.int .i64 v)) (fun k e => by subst e; exact hB), n, q⟩
theorem AB.set2 (h : AB P st f b B w) (hB : B ≤ P) (v : Bs) : AB P st f v B (w.setCell ⟨P, 2, none⟩ (S v)) := by
  obtain ⟨a, c, x, f, n, q⟩ := h
  exact ⟨a, c, heap_setCell_same w P 2 _ 26 _ x, f.only q (Only.setCell w ⟨P, 2, none⟩ (S v)) (fun k e => by subst e; exact hB), n, q⟩
theorem fls_own {F : List Fl} {p : Option Addr} {n c : Nat} (ho : w.ownsRow 0 35 2 (.slice p n c) F.length (cellsF F)) : ∀ q o, p = some ⟨q, o, none⟩ → 0 < n → q < w.heap.size := by
  intro q o e hn
  have hc := owns_cases ho
  obtain ⟨p', o', e', hl, _⟩ := (owns_fls ho hc.1).at hn
  rw [e] at e'
  cases e'
  exact hl
/-- Other headers, in a row of one's own. -/
theorem MB.set2 (h : MB P z B w) {V : Value} {F : List Fl} (ho : w.ownsRow 0 35 2 V F.length (cellsF F)) : MB P { z with hs := F } w.heap.size (w.setCell ⟨P, 2, none⟩ V) := by
  obtain ⟨a, c, x, f, n, q⟩ := h
  obtain ⟨p', c', rfl⟩ := owns_form ho
  have hc := owns_cases ho
  have ho' : (w.setCell ⟨P, 2, none⟩ (.slice p' F.length c')).ownsRow 0 35 2 (.slice p' F.length c') F.length (cellsF F) := owns_same ho (fun k hk => heap_setCell_other w _ _ _ (own_ne x ho (by decide) k hk))
  exact ⟨p', c', heap_setCell_same w P 2 _ 24 _ x, owns_fls ho' rfl, hc.2.1, fls_own ho⟩
theorem MB.cells (h : MB P z B w) : ∃ p c, w.cell? ⟨P, 0, none⟩ = some (S z.m) ∧ w.cell? ⟨P, 1, none⟩ = some (S z.p) ∧ w.cell? ⟨P, 2, none⟩ = some (.slice p z.hs.length c) ∧ w.cell? ⟨P, 3, none⟩ = some (S z.b) ∧ (∀ j, w.frozen? ⟨P, j, none⟩ = false) ∧ Fls w p z.hs.length z.hs ∧ (p = none → c = 0) ∧ ∀ q o, p = some ⟨q, o, none⟩ → 0 < z.hs.length → q < B := by
  obtain ⟨p, c, x, f, n, q⟩ := h
  exact ⟨p, c, cell_of_row w _ 0 _ 24 (0, 0) x, cell_of_row w _ 1 _ 24 (0, 0) x, cell_of_row w _ 2 _ 24 (0, 0) x, cell_of_row w _ 3 _ 24 (0, 0) x, fun j => frozen_of_heap x j, f, n, q⟩
theorem AB.cells (h : AB P st f b B w) : ∃ p c, w.cell? ⟨P, 0, none⟩ = some (.int .i64 st) ∧ w.cell? ⟨P, 1, none⟩ = some (.slice p f.length c) ∧ w.cell? ⟨P, 2, none⟩ = some (S b) ∧ (∀ j, w.frozen? ⟨P, j, none⟩ = false) ∧ Fls w p f.length f ∧ (p = none → c = 0) ∧ ∀ q o, p = some ⟨q, o, none⟩ → 0 < f.length → q < B := by
  obtain ⟨p, c, x, f, n, q⟩ := h
  exact ⟨p, c, cell_of_row w _ 0 _ 26 (0, 0) x, cell_of_row w _ 1 _ 26 (0, 0) x, cell_of_row w _ 2 _ 26 (0, 0) x, fun j => frozen_of_heap x j, f, n, q⟩
end
/-- The boxes of the message and the answer that came in. -/
structure Bx (w : World) (P4 P5 : Nat) (m : Ms) (st : Int) (fa : List Fl) (ba : Bs) (wr : World) : Prop where
  bel : Below w.heap.size w wr
  mb : MB P4 m w.heap.size wr
  ab : AB P5 st fa ba w.heap.size wr
section
variable {w wr w' : World} {P4 P5 : Nat} {m : Ms} {st : Int} {fa : List Fl} {ba : Bs}
theorem Bx.below (h : Bx w P4 P5 m st fa ba wr) (hb : Below wr.heap.size wr w') : Bx w P4 P5 m st fa ba w' := ⟨h.bel.trans (hb.mono h.bel.size), h.mb.below hb, h.ab.below hb⟩
theorem Bx.env {B : Nat} (h : Bx w P4 P5 m st fa ba wr) (hE : Env B w) : Env B wr := hE.below (h.bel.mono hE.le)
end
/-- Ahead of the switch: what came in, what was made of it, and a copy of that. -/
structure Swi (w : World) (P4 P5 X11 X12 X14 X15 : Nat) (m : Ms) (st : Int) (fa : List Fl) (ba : Bs) (x : Ms) (ys : Int) (yh : List Fl) (yb : Bs) (z : Ms) (vs : Int) (vh : List Fl) (vb : Bs) (Bz Bv : Nat) (wr : World) : Prop where
  bx : Bx w P4 P5 m st fa ba wr
  mx : MB X11 x X14 wr
  ax : AB X12 ys yh yb X14 wr
  mz : MB X14 z Bz wr
  av : AB X15 vs vh vb Bv wr
  lz : LM z
  lv : LA vh vb
  o1 : P4 < X14 ∧ P5 < X14 ∧ X11 < X14 ∧ X12 < X14 ∧ X15 = X14 + 1 ∧ w.heap.size ≤ X14
section
variable {w wr w' : World} {P4 P5 X11 X12 X14 X15 : Nat} {m x z : Ms} {st ys vs : Int} {fa yh vh : List Fl} {ba yb vb : Bs} {Bz Bv : Nat}
/-- Nothing but the copies' boxes was written. -/
theorem Swi.mk' (h : Swi w P4 P5 X11 X12 X14 X15 m st fa ba x ys yh yb z vs vh vb Bz Bv wr) {z' : Ms} {vs' : Int} {vh' : List Fl} {vb' : Bs} {Bz' Bv' : Nat} (ho : Only (fun k => k = X14 ∨ k = X15) wr w') (mz : MB X14 z' Bz' w') (av : AB X15 vs' vh' vb' Bv' w') (lz : LM z') (lv : LA vh' vb') : Swi w P4 P5 X11 X12 X14 X15 m st fa ba x ys yh yb z' vs' vh' vb' Bz' Bv' w' := by
  obtain ⟨q1, q2, q3, q4, q5, q6⟩ := h.o1
  refine ⟨⟨ho.below h.bx.bel h.bx.bel.size (fun k e => by omega), h.bx.mb.only ho (by omega) (fun k e => by omega), h.bx.ab.only ho (by omega) (fun k e => by omega)⟩, h.mx.only ho (by omega) (fun k e => by omega), h.ax.only ho (by omega) (fun k e => by omega), mz, av, lz, lv, h.o1⟩
end
end Go.Proofs.YthlacailhfhjnaaGreatDoor
namespace Go.Proofs.YthlacailhfhjnaaGreatDoor
open Go.RowKit Go.Lib
/-- A line more. -/
theorem sc_line (op : Bs → Option Fst) (p : Ps) (t : Bs) (hp : p.st ≤ 1) (h0 : p.ln = []) (hb : p.bd = []) (J : Ps × Nat) (hJ : J = judge op { p with rd := p.rd + (hd 10 t).length + 1, ln := [] } (hd 10 t)) :
    sc op p t = if 1001 < (hd 10 t).length then some (.error 53) else if (hd 10 t).length < t.length then (if J.2 ≠ 0 then some (.error J.2) else nxl J.1 (tl 10 t) (sc op J.1 (tl 10 t))) else none := by
  rw [sc_rdl op (t.length + 1) p t hp h0 hb (by omega)]
  unfold rdl
  rw [← hJ]
  split
  · rfl
  · split
    · rename_i h1 h2
      split
      · rfl
      · rename_i h3
        have h3' : J.2 = 0 := by simpa using h3
        rw [hJ] at h3'
        obtain ⟨j1, j2, j3, j4⟩ := jdg_ok op { p with rd := p.rd + (hd 10 t).length + 1, ln := [] } (hd 10 t) (by exact hp) h3'
        rw [← hJ] at j1 j2 j3 j4
        unfold nxl
        by_cases q3 : J.1.st = 3
        · rw [if_pos q3, if_pos q3]
        · rw [if_neg q3, if_neg q3]
          by_cases q2 : J.1.st = 2
          · rw [if_pos q2, if_pos q2]
          · rw [if_neg q2, if_neg q2]
            have hlen : (tl 10 t).length < t.length := by
              rcases (hd_split 10 t).2 with ⟨_, e⟩ | ⟨e, _⟩
              · have := congrArg List.length e
                simp at this
                omega
              · omega
            exact (sc_rdl op t.length J.1 _ (by omega) j1 (by rw [j2]; exact hb) hlen).symm
    · rfl
def gz (e : Int) : Array Value := gcs [] [] 0 (.slice none 0 0) [] 0 false e
/-- What is answered. -/
def RdR (o : Rs) (s : Bs) (w : World) (r : Ending) (w' : World) : Prop := match o with
  | none => r = .returned (.agg (gz 0))
  | some (.error e) => r = .returned (.agg (gz (e : Nat)))
  | some (.ok (q, t)) => ∃ hv, r = .returned (.agg (gcs q.fs.m q.fs.p (q.fs.s : Nat) hv q.bd (q.rd : Nat) true 0)) ∧ w'.ownsRow 0 35 2 hv q.hs.length (cellsF q.hs) ∧ (∀ k, hv.ownBlock = some k → w.heap.size ≤ k) ∧ t = s.drop q.rd
/-- Both boxes while it is read. -/
structure RdS (w : World) (P4 P5 : Nat) (f : Fst) (hs : List Fl) (hv : Value) (wr : World) : Prop where
  x4 : wr.heap[P4]? = some (.cells (gz 0) 93 (0, 0))
  x5 : wr.heap[P5]? = some (.cells (gcs f.m f.p (f.s : Nat) hv [] 0 false 0) 93 (0, 0))
  row : wr.ownsRow 0 35 2 hv hs.length (cellsF hs)
  new : ∀ k, hv.ownBlock = some k → w.heap.size ≤ k
  ge : w.heap.size ≤ P4 ∧ w.heap.size ≤ P5 ∧ P4 ≠ P5
  bel : Below w.heap.size w wr
section
variable {w wr w' : World} {P4 P5 : Nat} {f : Fst} {hs : List Fl} {hv : Value}
theorem RdS.below (h : RdS w P4 P5 f hs hv wr) (hb : Below wr.heap.size wr w') : RdS w P4 P5 f hs hv w' :=
  ⟨(hb.block _ (lt_of_row h.x4)).trans h.x4, (hb.block _ (lt_of_row h.x5)).trans h.x5, owns_same h.row (fun j hj => by
    obtain ⟨cs, q⟩ := owns_lt h.row j hj
    exact hb.block j (lt_of_row q)), h.new, h.ge, h.bel.trans (hb.mono h.bel.size)⟩
/-- The answer laid into its box. -/
theorem RdS.done (h : RdS w P4 P5 f hs hv wr) (cs : Array Value) : (wr.setRow P4 cs).heap[P4]? = some (.cells cs 93 (0, 0)) ∧ Below w.heap.size w (wr.setRow P4 cs) ∧ (wr.setRow P4 cs).ownsRow 0 35 2 hv hs.length (cellsF hs) := by
  refine ⟨setRow_heap wr P4 _ _ 93 _ h.x4, h.bel.trans ⟨rfl, rfl, rfl, by simp [World.setRow], fun k hk => setRow_other wr P4 k cs (by have := h.ge.1; omega)⟩, owns_same h.row (fun k hk => setRow_other wr P4 k cs (own_ne h.x4 h.row (by decide) k hk))⟩
end
theorem info93 : (Tryz.prog.info? 93).map (·.size) = some 8 := by kernel_rfl
end Go.Proofs.YthlacailhfhjnaaGreatDoor
namespace Go.Proofs.YthlacailhfhjnaaGreatDoor
open Go.RowKit Go.Lib
def opf (a : Bool) : Bs → Option Fst := if a then opA else opM
theorem lnv_form (s : Bs) (k : Nat) (t : Bs) (ht : t = s.drop k) : (1001 < (hd 10 t).length ∧ lnv s k = .tuple #[S [], .int .i64 0, .bool false, .bool true]) ∨ (¬ 1001 < (hd 10 t).length ∧ (hd 10 t).length < t.length ∧ lnv s k = .tuple #[S (cutr (hd 10 t)), .int .i64 ((k + (hd 10 t).length + 1 : Nat) : Int), .bool (ret (hd 10 t)), .bool false]) ∨ (¬ 1001 < (hd 10 t).length ∧ ¬ (hd 10 t).length < t.length ∧ lnv s k = .tuple #[S [], .int .i64 0, .bool false, .bool false]) := by
  subst ht
  unfold lnv
  by_cases h1 : 1001 < (hd 10 (s.drop k)).length
  · exact .inl ⟨h1, by rw [if_pos h1]⟩
  · by_cases h2 : (hd 10 (s.drop k)).length < (s.drop k).length
    · exact .inr (.inl ⟨h1, h2, by rw [if_neg h1, if_pos h2]⟩)
    · exact .inr (.inr ⟨h1, h2, by rw [if_neg h1, if_neg h2]⟩)
theorem cutr_le (e : Bs) : (cutr e).length ≤ e.length := by
  unfold cutr
  split
  · simp
  · exact Nat.le_refl _
theorem judge0 (op : Bs → Option Fst) (n : Nat) (e : Bs) : judge op { p0 with rd := p0.rd + n + 1, ln := [] } e = (match op (cutr e) with | none => (pov, 50) | some f => if ret e then (⟨1, n + 1, [], f, [], -1, []⟩, 0) else (pov, 50)) := by
  unfold judge
  rw [if_pos (by rfl)]
  unfold jFst
  cases op (cutr e) with
  | none => rfl
  | some f =>
    cases ret e with
    | false => rfl
    | true => simp [p0]
theorem judge1 (op : Bs → Option Fst) (k n : Nat) (f : Fst) (hs : List Fl) (len : Int) (e : Bs) : judge op { (⟨1, k, [], f, hs, len, []⟩ : Ps) with rd := k + n + 1, ln := [] } e = if ret e && cutr e == [] then (jEnd ⟨1, k + n + 1, [], f, hs, len, []⟩, 0) else jHdr ⟨1, k + n + 1, [], f, hs, len, []⟩ (cutr e) (ret e) := by
  unfold judge
  rw [if_neg (by show ¬ (1 : Nat) = 0; omega)]
/-- The first line, told by the machine. -/
theorem sc_first (op : Bs → Option Fst) (s : Bs) : sc op p0 s = if 1001 < (hd 10 s).length then some (.error 53) else if (hd 10 s).length < s.length then (match op (cutr (hd 10 s)) with | none => some (.error 50) | some f => if ret (hd 10 s) then sc op ⟨1, (hd 10 s).length + 1, [], f, [], -1, []⟩ (tl 10 s) else some (.error 50)) else none := by
  rw [sc_line op p0 s (by decide) rfl rfl _ (judge0 op _ _).symm]
  split
  · rfl
  · split
    · cases op (cutr (hd 10 s)) with
      | none => rfl
      | some f =>
        cases ret (hd 10 s) with
        | false => rfl
        | true => rfl
    · rfl
/-- A further line. -/
theorem sc_next (op : Bs → Option Fst) (k : Nat) (f : Fst) (hs : List Fl) (len : Int) (t : Bs) (J : Ps × Nat) (hJ : J = jHdr ⟨1, k + (hd 10 t).length + 1, [], f, hs, len, []⟩ (cutr (hd 10 t)) (ret (hd 10 t))) : sc op ⟨1, k, [], f, hs, len, []⟩ t = if 1001 < (hd 10 t).length then some (.error 53) else if (hd 10 t).length < t.length then
    (if ret (hd 10 t) && cutr (hd 10 t) == [] then (if len ≤ 0 then some (.ok (⟨3, k + (hd 10 t).length + 1, [], f, hs, len, []⟩, tl 10 t)) else if ((tl 10 t).length : Int) < len then none else some (.ok (⟨3, k + (hd 10 t).length + 1 + len.toNat, [], f, hs, len, (tl 10 t).take len.toNat⟩, (tl 10 t).drop len.toNat)))
    else if J.2 ≠ 0 then some (.error J.2)
    else sc op J.1 (tl 10 t)) else none := by
  rw [sc_line op ⟨1, k, [], f, hs, len, []⟩ t (by show 1 ≤ 1; omega) rfl rfl _ (judge1 op k _ f hs len _).symm, ← hJ]
  split
  · rfl
  · split
    · by_cases hc : (ret (hd 10 t) && cutr (hd 10 t) == []) = true
      · rw [if_pos hc]
        rw [if_pos hc]
        unfold jEnd
        by_cases h : len ≤ 0
        · rw [if_pos h]
          rw [if_pos h]
          rfl
        · rw [if_neg h]
          rw [if_neg h]
          rfl
      · rw [if_neg hc]
        rw [if_neg hc]
        split
        · rfl
        · rename_i h2
          have h2' : J.2 = 0 := by simpa using h2
          rw [hJ] at h2'
          have := (jHdr_rd _ _ _ h2').2.1
          rw [← hJ] at this
          unfold nxl
          rw [if_neg (by rw [this]; show ¬ (1 : Nat) = 3; omega), if_neg (by rw [this]; show ¬ (1 : Nat) = 2; omega)]
    · rfl
end Go.Proofs.YthlacailhfhjnaaGreatDoor
