import Derived.Test.YthlacailhfhjnaaGreatDoorZwdd
import Derived.Test.YthlacailhfhjnaaGreatDoorRgs
import Derived.Test.YthlacailhfhjnaaGreatDoorZwcg
import Derived.Test.YthlacailhfhjnaaGreatDoorWcf
namespace Go.Proofs.YthlacailhfhjnaaGreatDoor
open Go.RowKit Go.Lib
theorem cellsF_at (fs : List Fl) (j : Nat) (h : j < fs.length) : (cellsF fs)[j * 2]? = some (S (fs.getD j fl0).1) ∧ (cellsF fs)[j * 2 + 1]? = some (S (fs.getD j fl0).2) := by
  induction fs generalizing j with
  | nil => simp at h
  | cons f l ih =>
    cases j with
    | zero => simp [cellsF]
    | succ j =>
      have := ih j (by simpa using h)
      have e : cellsF (f :: l) = S f.1 :: S f.2 :: cellsF l := by simp [cellsF]
      rw [e, show (j + 1) * 2 = j * 2 + 1 + 1 by omega]
      simpa using this
theorem owns_fls {w : World} {p : Option Addr} {n c : Nat} {fs : List Fl} (h : w.ownsRow 0 35 2 (.slice p n c) fs.length (cellsF fs)) (hn : n = fs.length) : Fls w p n fs := by
  refine ⟨hn, fun h0 => ?_⟩
  rcases h.2 with ⟨e, q⟩ | ⟨g, cap, cur, e1, e2, e3, e4, e5, e6, e7⟩
  · injection e with a1 a2 a3; omega
  · injection e1 with a1 a2 a3
    subst a1
    refine ⟨g, 0, rfl, fun j hj => ?_⟩
    obtain ⟨h1, h2⟩ := cellsF_at fs j (by omega)
    have hc : ∀ i u, (cellsF fs)[i]? = some u → w.cell? ⟨g, i, none⟩ = some u := by
      intro i u hi
      rw [cell_of_row w g i _ 35 (0, 0) e3]
      rw [← e7, List.getElem?_take] at hi
      split at hi
      · simpa using hi
      · cases hi
    rw [Nat.zero_add]
    exact ⟨hc _ _ h1, hc _ _ h2⟩
def ms0 : Ms := ⟨[], [], [], []⟩
/-- Messages, one behind the other in memory. -/
def Mls (w : World) (a : Option Addr) (n : Nat) (ms : List Ms) : Prop :=
  n = ms.length ∧ (0 < n → ∃ p o, a = some ⟨p, o, none⟩ ∧ ∀ j, j < n → ∃ ha hc, w.cell? ⟨p, o + j * 4, none⟩ = some (S (ms.getD j ms0).m) ∧ w.cell? ⟨p, o + j * 4 + 1, none⟩ = some (S (ms.getD j ms0).p) ∧ w.cell? ⟨p, o + j * 4 + 2, none⟩ = some (.slice ha (ms.getD j ms0).hs.length hc) ∧ w.cell? ⟨p, o + j * 4 + 3, none⟩ = some (S (ms.getD j ms0).b) ∧ Fls w ha (ms.getD j ms0).hs.length (ms.getD j ms0).hs)
theorem Mls.below {w w' : World} {a : Option Addr} {n : Nat} {ms : List Ms} (h : Mls w a n ms) (hb : Below w.heap.size w w') : Mls w' a n ms := by
  refine ⟨h.1, fun hn => ?_⟩
  obtain ⟨p, o, e, hc⟩ := h.2 hn
  refine ⟨p, o, e, fun j hj => ?_⟩
  obtain ⟨ha, hcc, c0, c1, c2, c3, f⟩ := hc j hj
  have hp : p < w.heap.size := blk_lt c0
  exact ⟨ha, hcc, (hb.cell (by exact hp)).trans c0, (hb.cell (by exact hp)).trans c1, (hb.cell (by exact hp)).trans c2, (hb.cell (by exact hp)).trans c3, f.below hb⟩
theorem cellsM_at (l : List (Ms × Value)) (j : Nat) (h : j < l.length) : (cellsM l)[j * 4]? = some (S l[j].1.m) ∧ (cellsM l)[j * 4 + 1]? = some (S l[j].1.p) ∧ (cellsM l)[j * 4 + 2]? = some l[j].2 ∧ (cellsM l)[j * 4 + 3]? = some (S l[j].1.b) := by
  induction l generalizing j with
  | nil => simp at h
  | cons f l ih =>
    cases j with
    | zero => simp [cellsM]
    | succ j =>
      have := ih j (by simpa using h)
      have e : cellsM (f :: l) = S f.1.m :: S f.1.p :: f.2 :: S f.1.b :: cellsM l := by simp [cellsM]
      rw [e, show (j + 1) * 4 = j * 4 + 1 + 1 + 1 + 1 by omega]
      simpa using this
theorem MAt.mls {V : Value} {l : List (Ms × Value)} {M : Nat → Prop} {w : World} (h : MAt V l M w) : ∃ p c, V = .slice p (l.map (·.1)).length c ∧ Mls w p (l.map (·.1)).length (l.map (·.1)) := by
  rw [List.length_map]
  have hl : (l.map (·.1)).length = l.length := List.length_map _
  rcases h.row.2 with ⟨e, q⟩ | ⟨g, cap, cur, e1, e2, e3, e4, e5, e6, e7⟩
  · exact ⟨none, 0, by rw [e, q], by rw [hl], fun h0 => by omega⟩
  · refine ⟨some ⟨g, 0, none⟩, cap, e1, by rw [hl], fun _ => ⟨g, 0, rfl, fun j hj => ?_⟩⟩
    obtain ⟨h0, h1, h2, h3⟩ := cellsM_at l j hj
    have hc : ∀ i u, (cellsM l)[i]? = some u → w.cell? ⟨g, i, none⟩ = some u := by
      intro i u hi
      rw [cell_of_row w g i _ 24 (0, 0) e3]
      rw [← e7, List.getElem?_take] at hi
      split at hi
      · simpa using hi
      · cases hi
    have eg : (l.map (·.1)).getD j ms0 = l[j].1 := by simp [hj]
    rw [eg]
    have hx := h.hrow l[j] (List.getElem_mem hj)
    obtain ⟨ha, hcc, hv⟩ := owns_form hx
    rw [hv] at h2
    have hx2 := hx
    rw [hv] at hx2
    rw [Nat.zero_add]
    exact ⟨ha, hcc, hc _ _ h0, hc _ _ h1, hc _ _ h2, hc _ _ h3, owns_fls hx2 rfl⟩
set_option maxHeartbeats 8000000 in
set_option maxRecDepth 8000 in
theorem messages_eq (a1 a2 : Option Addr) (n c1 c2 : Nat) (ms : List Ms) (w : World) (h1 : Mls w a1 n ms) (h2 : Mls w a2 n ms) (hn : n ≤ 1000000000000) (hs : ∀ j, (ms.getD j ms0).hs.length ≤ 1000000000000) :
    Calls Tryz.prog 23 #[.slice a1 n c1, .slice a2 n c2] w fun e w' => e = .returned (.bool true) ∧ Below w.heap.size w w' := by
  have H1 := hide h1
  have H2 := hide h2
  clear h1 h2
  go_enter Tryz.func23, Tryz.ntmps23
  go_wp2
  go_loopw [5] (fun i wr => ∃ k : Nat, k ≤ n ∧ i = .int .i64 k ∧ Below w.heap.size w wr) (fun i _ => n - (Go.RowKit.intOf i).toNat)
  case atStart => exact ⟨0, by omega, rfl, Below.refl _ _⟩
  case round =>
    obtain ⟨k, hk, rfl, hb⟩ := hrel
    by_cases hlt : k < n
    · have hm1 := (unhide H1).below hb
      have hm2 := (unhide H2).below hb
      obtain ⟨p1, q1, rfl, f1⟩ := hm1.2 (by omega)
      obtain ⟨p2, q2, rfl, f2⟩ := hm2.2 (by omega)
      obtain ⟨b1, d1, x0, x1, x2, x3, x4⟩ := f1 k hlt
      obtain ⟨b2, d2, y0, y1, y2, y3, y4⟩ := f2 k hlt
      have hsk := hs k
      generalize ms.getD k ms0 = F at *
      obtain ⟨fm, fp, fh, fb⟩ := F
      simp only at x0 x1 x2 x3 x4 y0 y1 y2 y3 y4 hsk
      have hlt' : (k : Int) < (n : Int) := by omega
      have HX := hide (And.intro x0 (And.intro x1 (And.intro x2 (And.intro x3 x4))))
      have HY := hide (And.intro y0 (And.intro y1 (And.intro y2 (And.intro y3 y4))))
      have HB := hide hb
      clear hb x0 x1 x2 x3 x4 y0 y1 y2 y3 y4 hm1 hm2 f1 f2
      go_wp2
      obtain ⟨x0, x1, x2, x3, x4⟩ := unhide HX
      obtain ⟨y0, y1, y2, y3, y4⟩ := unhide HY
      refine rms p1 q1 p2 q2 n c1 c2 k fh.length d1 d2 b1 b2 fm fp fb rfl rfl rfl _ _ (show 27 ≤ 29 from by decide) rfl rfl rfl (fun _ W => Below wr.heap.size wr W) ((Below.refl _ _).drew) (fun _ _ _ _ h => h) hlt hlt ?_ ?_ ?_ ?_
      · exact fun L W h => ⟨(h.cell (by exact blk_lt x0)).trans x0, (h.cell (by exact blk_lt x0)).trans x1, (h.cell (by exact blk_lt x0)).trans x2, (h.cell (by exact blk_lt x0)).trans x3⟩
      · exact fun L W h => ⟨(h.cell (by exact blk_lt y0)).trans y0, (h.cell (by exact blk_lt y0)).trans y1, (h.cell (by exact blk_lt y0)).trans y2, (h.cell (by exact blk_lt y0)).trans y3⟩
      · intro L W h _
        refine (sameMessage_eq b1 b2 fh.length d1 d2 fh fm fp fb W (x4.below h) (y4.below h) hsk).mono ?_
        rintro e w' ⟨rfl, hb⟩
        exact ⟨rfl, h.trans (hb.mono h.size)⟩
      intro L W _ h
      have HB2 := hide ((unhide HB).trans (h.mono (unhide HB).size))
      clear h x0 x1 x2 x3 x4 y0 y1 y2 y3 y4
      simp only [Act.put, List.setIfInBounds_toArray, List.set_cons_succ, List.set_cons_zero]
      go_wp2
      go_roundw
      case rel => exact ⟨k + 1, by omega, by go_num, unhide HB2⟩
      case measure => simp [Go.RowKit.intOf]; omega
    · have hd : decide (k < n) = false := by simp; omega
      have HB := hide hb
      clear hb
      go_wp2
      go_ret
      exact ⟨rfl, unhide HB⟩
end Go.Proofs.YthlacailhfhjnaaGreatDoor
namespace Go.Proofs.YthlacailhfhjnaaGreatDoor
open Go.RowKit Go.Lib
theorem app_nilM (p : Option Addr) (n c tt : Nat) (hc : n ≤ c) (w : World) : (Builtin.append_ #[54, 54] tt #[.slice p n c, .slice none 0 0]).run Tryz.prog w = .ok (.slice p n c) w := by
  obtain ⟨i0, hi, hz0, hz1, hz2⟩ := info_parts info24
  cases p <;> simp [Builtin.append_, run_underlying Tryz.underlying54, sizeOf, typeInfo, hi, Builtin.lenOf, Builtin.firstCells, loadCells, hc, storeCells]
theorem cellsM_len (l : List (Ms × Value)) : (cellsM l).length = l.length * 4 := by
  unfold cellsM
  induction l with
  | nil => rfl
  | cons f l ih => simp at ih ⊢; omega
theorem cellsM_one {l : List (Ms × Value)} (h : ∀ x ∈ l, ∃ p n c, x.2 = Value.slice p n c) : ∀ u ∈ cellsM l, u.oneCell' = true := by
  intro u hu
  unfold cellsM at hu
  rw [List.mem_flatMap] at hu
  obtain ⟨x, hx, hu⟩ := hu
  obtain ⟨p, n, c, e⟩ := h x hx
  simp only [List.mem_cons, List.not_mem_nil, or_false] at hu
  rcases hu with rfl | rfl | rfl | rfl
  · rfl
  · rfl
  · rw [e]; rfl
  · rfl
theorem MAt.ne {V : Value} {l : List (Ms × Value)} {M : Nat → Prop} {w : World} (h : MAt V l M w) (x : Ms × Value) (hx : x ∈ l) (k : Nat) (hk : x.2.ownBlock = some k) : V.ownBlock ≠ some k := by
  intro e
  obtain ⟨cs, q⟩ := owns_lt h.row k e
  obtain ⟨cs2, q2⟩ := owns_lt (h.hrow x hx) k hk
  have := q.symm.trans q2
  simp at this
/-- Messages behind messages. -/
theorem MAt.app {V V2 : Value} {l l2 : List (Ms × Value)} {M M2 : Nat → Prop} {w : World} (tt : Nat) (h : MAt V l M w) (h2 : MAt V2 l2 M2 w) (hd : ∀ k, M k → ¬ M2 k) (hn : l.length + l2.length ≤ 1000000000000) :
    ∃ V' M' w', (Builtin.append_ #[54, 54] tt #[V, V2]).run Tryz.prog w = .ok V' w' ∧ MAt V' (l ++ l2) M' w' ∧ Only M w w' ∧ (∀ k, M' k → M k ∨ M2 k ∨ w.heap.size ≤ k) := by
  rcases h2.row.2 with ⟨e, q⟩ | ⟨g, cap, cur, e1, e2, e3, e4, e5, e6, e7⟩
  · obtain rfl : l2 = [] := List.eq_nil_of_length_eq_zero q
    subst e
    rw [List.append_nil]
    refine ⟨V, M, w, ?_, h, Only.refl _ _, fun k hk => .inl hk⟩
    rcases h.row.2 with ⟨e, q⟩ | ⟨g, cap, cur, e1, e2, e3, e4, e5⟩
    · rw [e]; exact app_nilM _ _ _ _ (Nat.le_refl _) w
    · rw [e1]; exact app_nilM _ _ _ _ e4 w
  · obtain ⟨i0, hi, hz0, hz1, hz2⟩ := info_parts info24
    have hnew : ∀ j u, (cellsM l2)[j]? = some u → w.cell? ((⟨g, 0, none⟩ : Addr).add j) = some u := by
      intro j u hj
      have hadd : (⟨g, 0, none⟩ : Addr).add j = ⟨g, j, none⟩ := by unfold Addr.add; split <;> simp_all
      rw [hadd, cell_of_row w g j _ 24 (0, 0) e3]
      rw [← e7, List.getElem?_take] at hj
      split at hj
      · simpa using hj
      · cases hj
    have hone := cellsM_one (fun x hx => by
      obtain ⟨p, c, q⟩ := owns_form (h2.hrow x hx)
      exact ⟨p, _, c, q⟩)
    obtain ⟨V', w', hr, a2, a3, _, a5⟩ := run_append_own_at (P := Tryz.prog) w 0 54 tt 24 i0 _ 4 72 Tryz.underlying54 hi hz0 hz1 hz2 rfl (by decide) V l.length (cellsM l) h.row ⟨g, 0, none⟩ l2.length cap (cellsM l2) (cellsM_len l2) hnew hone (by unfold maxLen; omega) (by omega) (Nat.zero_le _)
    rw [e1]
    have ho := Only.of_grown a3
    have hlt : ∀ k, V'.ownBlock = some k → k < w'.heap.size := fun k hk => by
      obtain ⟨cs, q⟩ := owns_lt a2 k hk
      exact lt_of_row q
    refine ⟨V', fun k => (M k ∨ M2 k) ∨ V'.ownBlock = some k, w', hr, ⟨?_, ?_, fun k hk => .inr hk, ?_, ?_, ?_⟩, ho.mono (fun k _ hk => h.inV k hk), ?_⟩
    · rw [List.length_append, cellsM_append]; exact a2
    · intro x hx
      rw [List.mem_append] at hx
      rcases hx with hx | hx
      · exact owns_same (h.hrow x hx) (fun k hk => ho.block k (h.lt k (h.inH x hx k hk)) (h.ne x hx k hk))
      · exact owns_same (h2.hrow x hx) (fun k hk => ho.block k (h2.lt k (h2.inH x hx k hk)) (fun q => hd k (h.inV k q) (h2.inH x hx k hk)))
    · intro x hx k hk
      rw [List.mem_append] at hx
      rcases hx with hx | hx
      · exact .inl (.inl (h.inH x hx k hk))
      · exact .inl (.inr (h2.inH x hx k hk))
    · rw [List.pairwise_append]
      refine ⟨h.apart, h2.apart, fun x hx y hy k hk q => ?_⟩
      exact hd k (h.inH x hx k hk) (h2.inH y hy k q)
    · intro k hk
      rcases hk with (hk | hk) | hk
      · exact Nat.lt_of_lt_of_le (h.lt k hk) ho.size
      · exact Nat.lt_of_lt_of_le (h2.lt k hk) ho.size
      · exact hlt k hk
    · intro k hk
      rcases hk with (hk | hk) | hk
      · exact .inl hk
      · exact .inr (.inl hk)
      · rcases a5 with a5 | a5
        · exact .inl (h.inV k (by rw [← a5]; exact hk))
        · rw [hk] at a5
          exact .inr (.inr (by have := Option.some.inj a5; omega))
theorem wp_appM {ops : Array Oper} {rest : List Oper} {o : Oper} {a : Act} {Q : Exit → Act → World → Prop} (hgd : o.guard = none) (s x : Operand) (ho : o.op = .call { callee := .builtin .append, args := #[s, x], argTypes := #[54, 54] })
    {V V2 : Value} (hs : a.eval s = V) (hx : a.eval x = V2) {l l2 : List (Ms × Value)} {M M2 : Nat → Prop} {w : World} (h1 : MAt V l M w) (h2 : MAt V2 l2 M2 w) (hd : ∀ k, M k → ¬ M2 k) (hn : l.length + l2.length ≤ 1000000000000)
    (h : ∀ V' M' w', MAt V' (l ++ l2) M' w' → Only M w w' → (∀ k, M' k → M k ∨ M2 k ∨ w.heap.size ≤ k) → wpList Tryz.prog ops Q rest (a.put o.dst V') w') : wpList Tryz.prog ops Q (o :: rest) a w := by
  obtain ⟨V', M', w', hr, a1, a2, a3⟩ := h1.app o.type h2 hd hn
  refine wpList_plain hgd fun K hK => ?_
  unfold Oper.wp execOp
  simp only [ho, resolve, invoke, builtin, Sem.run_bind, Sem.run_pure, Result.andThen_ok, List.map_toArray, List.map_cons, List.map_nil, hs, hx, hr]
  exact hK _ _ (h V' M' w' a1 a2 a3)
/-- A row of one message, in a block that was just made. -/
theorem mat_one {w : World} {z : Ms} {a : Option Addr} {k : Nat} (hr : w.ownsRow 0 35 2 (.slice a z.hs.length k) z.hs.length (cellsF z.hs)) :
    MAt (.slice (some ⟨w.heap.size, 0, none⟩) 1 1) [(z, .slice a z.hs.length k)] (fun j => j = w.heap.size ∨ (Value.slice a z.hs.length k).ownBlock = some j) (w.alloc (.cells #[S z.m, S z.p, .slice a z.hs.length k, S z.b] 24)) := by
  refine ⟨⟨rfl, .inr ⟨w.heap.size, 1, _, rfl, Nat.zero_le _, heap_alloc_new _ _, Nat.le_refl _, by decide, rfl, rfl⟩⟩, ?_, ?_, ?_, ?_, ?_⟩
  · intro x hx
    obtain rfl := List.mem_singleton.1 hx
    exact owns_alloc hr _
  · intro k hk
    cases hk
    exact .inl rfl
  · intro x hx k hk
    obtain rfl := List.mem_singleton.1 hx
    exact .inr hk
  · exact List.pairwise_singleton _ _
  · intro j hj
    rcases hj with rfl | hj
    · simp
    · obtain ⟨cs, q⟩ := owns_lt hr j hj
      have := lt_of_row q
      simp
      omega
end Go.Proofs.YthlacailhfhjnaaGreatDoor
