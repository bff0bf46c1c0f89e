import Derived.Test.YtjopnhhdemfniaaGreatDoorZdsc
import Derived.Lib.AppendZerosOnto
import Derived.Lib.Overlaps
import Derived.Laws.Externs
namespace Go.Proofs.YtjopnhhdemfniaaGreatDoor
open Go.RowKit
set_option maxHeartbeats 4000000
set_option maxRecDepth 8000
theorem cellsW_take (l : List Wr) (i : Nat) : (cellsW l).take (i * 2) = cellsW (l.take i) := by
  induction l generalizing i with
  | nil => simp [cellsW]
  | cons x l ih =>
    cases i with
    | zero => rfl
    | succ i =>
      rw [show (i + 1) * 2 = i * 2 + 1 + 1 by omega]
      show I x.1 :: S x.2 :: (cellsW l).take (i * 2) = I x.1 :: S x.2 :: cellsW (l.take i)
      rw [ih]
theorem cellsW_drop (l : List Wr) (i : Nat) : (cellsW l).drop (i * 2) = cellsW (l.drop i) := by
  induction l generalizing i with
  | nil => simp [cellsW]
  | cons x l ih =>
    cases i with
    | zero => rfl
    | succ i =>
      rw [show (i + 1) * 2 = i * 2 + 1 + 1 by omega]
      exact ih i
theorem cellsW_one (l : List Wr) : ∀ v ∈ cellsW l, v.oneCell' = true := by
  intro v hv
  obtain ⟨x, _, hx⟩ := List.mem_flatMap.1 hv
  simp at hx
  rcases hx with rfl | rfl <;> rfl
/-- First a new thing is laid over, then what stood behind it. -/
theorem lay_two {R P X Y : List Value} {a b : Nat} (hR : a + X.length + Y.length ≤ R.length) (hP : R.take a = P) (hb : b = a + X.length) :
    let R1 := R.take a ++ X ++ R.drop (a + X.length)
    let R2 := R1.take b ++ Y ++ R1.drop (b + Y.length)
    R2.length = R.length ∧ R2.take (b + Y.length) = P ++ X ++ Y := by
  subst hb
  have ha : (R.take a).length = a := by rw [List.length_take]; omega
  have h1 : (R.take a ++ X).length = a + X.length := by rw [List.length_append, ha]
  have e1 : (R.take a ++ X ++ R.drop (a + X.length)).take (a + X.length) = R.take a ++ X := by
    rw [List.take_append_of_le_length (by omega), List.take_of_length_le (by omega)]
  have e2 : (R.take a ++ X ++ R.drop (a + X.length)).drop (a + X.length + Y.length) = R.drop (a + X.length + Y.length) := by
    rw [List.drop_append, List.drop_of_length_le (by omega), h1, List.nil_append, List.drop_drop]
    congr 1
    omega
  simp only
  rw [e1, e2]
  refine ⟨by simp only [List.length_append, List.length_drop, ha]; omega, ?_⟩
  rw [List.take_append_of_le_length (by simp only [List.length_append, ha]; omega), List.take_of_length_le (by simp only [List.length_append, ha]; omega), hP]
/-- First what stands behind is moved, then a new thing is laid over. -/
theorem lay_shift {R P X Y : List Value} {a b : Nat} (hR : a + X.length + Y.length ≤ R.length) (hP : R.take a = P) (hb : b = a + X.length) :
    let R1 := R.take b ++ Y ++ R.drop (b + Y.length)
    let R2 := R1.take a ++ X ++ R1.drop (a + X.length)
    R2.length = R.length ∧ R2.take (b + Y.length) = P ++ X ++ Y := by
  subst hb
  have ha : (R.take (a + X.length)).length = a + X.length := by rw [List.length_take]; omega
  have e1 : (R.take (a + X.length) ++ Y ++ R.drop (a + X.length + Y.length)).take a = R.take a := by
    rw [List.append_assoc, List.take_append_of_le_length (by omega), List.take_take, Nat.min_eq_left (by omega)]
  have e2 : (R.take (a + X.length) ++ Y ++ R.drop (a + X.length + Y.length)).drop (a + X.length) = Y ++ R.drop (a + X.length + Y.length) := by
    rw [List.append_assoc, List.drop_append, List.drop_of_length_le (by omega), List.nil_append, ha, Nat.sub_self, List.drop_zero]
  simp only
  have h0 : (R.take a).length = a := by rw [List.length_take]; omega
  rw [e1, e2]
  refine ⟨by simp only [List.length_append, List.length_drop, h0]; omega, ?_⟩
  rw [← List.append_assoc, List.take_append_of_le_length (by simp only [List.length_append, h0]; omega), List.take_of_length_le (by simp only [List.length_append, h0]; omega), hP]
/-- One more write at its place. -/
def ins (l : List Wr) (i : Nat) (x : Wr) : List Wr := l.take i ++ [x] ++ l.drop i
theorem cellsW_ins (l : List Wr) (i : Nat) (x : Wr) : cellsW (ins l i x) = cellsW (l.take i) ++ [I x.1, S x.2] ++ cellsW (l.drop i) := by
  unfold ins
  rw [cellsW_append, cellsW_append]
  rfl
theorem ins_len (l : List Wr) (i : Nat) (x : Wr) (h : i ≤ l.length) : (ins l i x).length = l.length + 1 := by
  unfold ins
  simp
  omega
/-- What an Insert leaves. -/
def Insd (w : World) (v : Value) (l : List Wr) (V : Value) (w' : World) : Prop := w'.ownsRow 0 164 2 V l.length (cellsW l) ∧ Only (fun k => v.ownBlock = some k) w w' ∧ (∀ k, V.ownBlock = some k → v.ownBlock = some k ∨ w.heap.size ≤ k)
theorem insert_end (v : Value) (l : List Wr) (x : Wr) (vb : Nat) (w : World) (hown : w.ownsRow 0 164 2 v l.length (cellsW l)) (hv : w.heap[vb]? = some (.cells #[I x.1, S x.2] 164 (0, 0))) (hl : l.length ≤ 1000000) :
    Calls Tryz.prog 208 #[v, I l.length, .slice (some ⟨vb, 0, none⟩) 1 1] w fun e w' => ∃ V, e = .returned V ∧ Insd w v (ins l l.length x) V w' := by
  obtain ⟨i0, hi, hz0, hz1, hz2⟩ := info_parts info164
  have hnew : ∀ j u, [I x.1, S x.2][j]? = some u → w.cell? ((⟨vb, 0, none⟩ : Addr).add j) = some u := by
    intro j u hj
    rw [add_at, cell_of_row _ _ j _ 164 (0, 0) hv]
    simpa using hj
  obtain ⟨v', w', hr, h2, h3, _, h5⟩ := run_append_own_at (P := Tryz.prog) w 0 138 138 164 i0 _ 2 24 Tryz.underlying138 hi hz0 hz1 hz2 rfl (by decide) v l.length (cellsW l) hown ⟨vb, 0, none⟩ 1 1 [I x.1, S x.2] rfl hnew (by intro u hu; simp at hu; rcases hu with rfl | rfl <;> rfl) (by unfold maxLen; omega) (by omega) (Nat.zero_le _)
  have HI := hide (show Insd w v (ins l l.length x) v' w' from ⟨by
      rw [ins_len _ _ _ (Nat.le_refl _), cellsW_ins, List.take_of_length_le (Nat.le_refl _), List.drop_of_length_le (Nat.le_refl _)]
      simpa [cellsW] using h2, Only.of_grown h3, fun k hk => by
      rcases h5 with h5 | h5
      · left; rw [← h5]; exact hk
      · right; rw [hk] at h5; exact Nat.le_of_eq (Option.some.inj h5).symm⟩)
  obtain ⟨p', c', rfl⟩ := owns_form h2
  rcases hown.2 with ⟨rfl, q2⟩ | ⟨g, c, cur, rfl, _, _, hlc, hcm, _⟩
  · clear h2 h3 h5 hnew hown hi hz0 hz1 hz2 hv
    obtain ⟨x1, x2⟩ := x
    generalize ins l l.length (x1, x2) = L at *
    generalize l.length = n at *
    subst q2
    go_enter Tryz.func208, Tryz.ntmps208
    go_wp2_with (at_builtin; refine Lib.wpList_append_run _ rfl _ _ _ _ rfl _ _ rfl rfl _ _ hr ?_)
    go_ret
    exact ⟨_, rfl, unhide HI⟩
  · have hcm' : c ≤ 9223372036854775807 := by unfold maxLen at hcm; omega
    clear h2 h3 h5 hnew hown hi hz0 hz1 hz2 hv hcm
    obtain ⟨x1, x2⟩ := x
    generalize ins l l.length (x1, x2) = L at *
    generalize l.length = n at *
    go_enter Tryz.func208, Tryz.ntmps208
    go_wp2_with (at_builtin; refine Lib.wpList_append_run _ rfl _ _ _ _ rfl _ _ rfl rfl _ _ hr ?_)
    all_goals go_ret
    all_goals exact ⟨_, rfl, unhide HI⟩
theorem insert_shift (g c : Nat) (l : List Wr) (i : Nat) (x : Wr) (vb : Nat) (w : World) (hown : w.ownsRow 0 164 2 (.slice (some ⟨g, 0, none⟩) l.length c) l.length (cellsW l)) (hv : w.heap[vb]? = some (.cells #[I x.1, S x.2] 164 (0, 0))) (hl : l.length ≤ 1000000) (hi : i < l.length) (hroom : l.length + 1 ≤ c) (hne : vb ≠ g) :
    Calls Tryz.prog 208 #[.slice (some ⟨g, 0, none⟩) l.length c, I i, .slice (some ⟨vb, 0, none⟩) 1 1] w fun e w' => ∃ V, e = .returned V ∧ Insd w (.slice (some ⟨g, 0, none⟩) l.length c) (ins l i x) V w' := by
  obtain ⟨cur, hg, hlc, hcm, hsz, htk⟩ : ∃ cur, w.heap[g]? = some (.cells cur 164 (0, 0)) ∧ l.length ≤ c ∧ c ≤ maxLen ∧ cur.size = c * 2 ∧ cur.toList.take (l.length * 2) = cellsW l := by
    obtain ⟨g', cap, cur, e, q⟩ := owns_at hown (by omega)
    cases e
    exact ⟨cur, q⟩
  have hcm' : c ≤ 9223372036854775807 := by unfold maxLen at hcm; omega
  have hY : (cellsW (l.drop i)).length = (l.length - i) * 2 := by rw [cellsW_len, List.length_drop]
  have hr1 := run_copyk w.drew 138 164 3 _ 2 24 Tryz.underlying138 info164 g ((i + 1) * 2) (l.length - i) (c - (i + 1)) ⟨g, i * 2, none⟩ (l.length + 1 - i) (c - i) cur (cellsW (l.drop i)) (l.length - i) (by show _ = min _ _; omega) hg hY (by
      intro j u hj
      rw [add_off]
      show w.cell? _ = _
      rw [cell_of_row w _ _ _ 164 (0, 0) hg]
      rw [← cellsW_drop, List.getElem?_drop, ← htk] at hj
      have := List.getElem?_take ▸ hj
      split at this
      · simpa using this
      · cases this) (by rw [hY, hsz]; omega) (cellsW_one _)
  have hcell : ∀ j u, [I x.1, S x.2][j]? = some u → w.cell? ((⟨vb, 0, none⟩ : Addr).add j) = some u := by
    intro j u hj
    rw [add_at, cell_of_row _ _ j _ 164 (0, 0) hv]
    simpa using hj
  have hL := lay_shift (R := cur.toList) (P := cellsW (l.take i)) (X := [I x.1, S x.2]) (Y := cellsW (l.drop i)) (a := i * 2) (b := (i + 1) * 2) (by rw [hY]; simp [hsz]; omega) (by rw [← cellsW_take, ← htk, List.take_take, Nat.min_eq_left (by omega)]) (by simp; omega)
  generalize hR1 : cur.toList.take ((i + 1) * 2) ++ cellsW (l.drop i) ++ cur.toList.drop ((i + 1) * 2 + (cellsW (l.drop i)).length) = R1 at *
  have hg1 := setRow_heap w.drew g cur R1.toArray 164 _ hg
  have hl1 : R1.length = c * 2 := by rw [← hR1]; simp only [List.length_append, List.length_take, List.length_drop, hY]; simp [hsz]; omega
  obtain ⟨w1, e1⟩ : ∃ w1, w1 = w.drew.setRow g R1.toArray := ⟨_, rfl⟩
  rw [← e1] at hr1 hg1
  have O1 : Only (fun k => (Value.slice (some ⟨g, 0, none⟩) l.length c).ownBlock = some k) w w1 := by
    rw [e1]
    exact ((Only.drewN _ w 1).trans (setRow_only w.drew g _) (fun k _ q => by subst q; rfl))
  have hc1 : ∀ j u, [I x.1, S x.2][j]? = some u → w1.cell? ((⟨vb, 0, none⟩ : Addr).add j) = some u := by
    intro j u hj
    rw [← hcell j u hj, add_at]
    refine World.cell?_of_block (O1.block vb (lt_of_row hv) (fun q => ?_))
    cases q
    exact hne rfl
  have hr2 := run_copyk w1 138 164 3 _ 2 24 Tryz.underlying138 info164 g (i * 2) (l.length + 1 - i) (c - i) ⟨vb, 0, none⟩ 1 1 R1.toArray [I x.1, S x.2] 1 (by show _ = min _ _; omega) hg1 rfl hc1 (by simp [hl1]; omega) (by intro u hu; simp at hu; rcases hu with rfl | rfl <;> rfl)
  obtain ⟨w2, e2⟩ : ∃ w2, w2 = w1.setRow g (R1.toArray.toList.take (i * 2) ++ [I x.1, S x.2] ++ R1.toArray.toList.drop (i * 2 + [I x.1, S x.2].length)).toArray := ⟨_, rfl⟩
  rw [← e2] at hr2
  have HI := hide (show Insd w (.slice (some ⟨g, 0, none⟩) l.length c) (ins l i x) (.slice (some ⟨g, 0, none⟩) (l.length + 1) c) w2 from by
    refine ⟨⟨cellsW_len _, .inr ⟨g, c, _, by rw [ins_len _ _ _ (by omega)], Nat.zero_le _, by rw [e2, setRow_heap w1 g _ _ 164 _ hg1], by rw [ins_len _ _ _ (by omega)]; omega, hcm, ?_, ?_⟩⟩, ?_, fun k hk => .inl hk⟩
    · have := hL.1
      simp at this ⊢
      omega
    · rw [ins_len _ _ _ (by omega), cellsW_ins]
      have := hL.2
      rw [hY, show (i + 1) * 2 + (l.length - i) * 2 = (l.length + 1) * 2 by omega] at this
      simpa using this
    · rw [e2]
      exact O1.trans (setRow_only w1 g _) (fun k _ q => by subst q; rfl))
  have hov : ∀ lb cb, (callFunc 233 #[.slice (some ⟨vb, 0, none⟩) 1 1, .slice (some ⟨g, (i + 1) * 2, none⟩) lb cb]).run Tryz.prog w = .ok (.value (.bool false)) w := fun lb cb => by
    rw [run_callFunc_extern Tryz.func233 (by kernel_rfl) (by kernel_rfl) (by kernel_rfl) (e := Extern.SlicesOverlaps.overlaps #[138, 138] #[4]) (by kernel_rfl),
      Lib.run_overlaps_apart w 138 4 164 Tryz.underlying138 2 Tryz.sizeOf164 ⟨vb, 0, none⟩ ⟨g, (i + 1) * 2, none⟩ 1 1 lb cb hne 164 164 2 (c * 2) (by simp [World.shape?, hv]) (by simp [World.shape?, hg, hsz]) (by omega) (frz hv _) (frz hv _)]
    rfl
  clear hL hcell hc1 hg1 hl1 e1 e2 O1 htk hsz hR1 hY
  generalize ins l i x = L at *
  generalize hn : l.length = n at *
  go_enter Tryz.func208, Tryz.ntmps208
  go_wp2_with (simp only [hov])
  go_region
  go_wp2
  go_ret
  exact ⟨_, rfl, unhide HI⟩
theorem zero_size (z : Value) (n : Nat) : (Builtin.zeroCells z.cells n).size = n * z.cells.size := by simp [Builtin.zeroCells]
theorem wp_copy_run {ops : Array Oper} {rest : List Oper} {o : Oper} {a : Act} {w : World} {Q : Exit → Act → World → Prop} {T : TypeId} (hgd : o.guard = none) (d s : Operand)
    (ho : o.op = .call { callee := .builtin .copy, args := #[d, s], argTypes := #[T, T] }) (v u : Value) (hd : a.eval d = v) (hs : a.eval s = u) (v' : Value) (w' : World)
    (hr : (Builtin.copy_ #[T, T] o.type #[v, u]).run Tryz.prog w = .ok v' w') (h : wpList Tryz.prog ops Q rest (a.put o.dst v') w') : wpList Tryz.prog ops Q (o :: rest) a w := by
  refine wpList_plain hgd fun K hK => ?_
  unfold Oper.wp
  simp only [execOp, ho, resolve, invoke, builtin, Sem.run_bind, Sem.run_pure, Result.andThen_ok, List.map_toArray, List.map_cons, List.map_nil, hd, hs, hr]
  exact hK _ _ h
end Go.Proofs.YtjopnhhdemfniaaGreatDoor
namespace Go.Proofs.YtjopnhhdemfniaaGreatDoor
open Go.RowKit
set_option maxHeartbeats 4000000
set_option maxRecDepth 8000
theorem below_drew {B : Nat} {w w' : World} (h : Below B w w') : Below B w w'.drew := h.trans ⟨rfl, rfl, rfl, Nat.le_refl _, fun _ _ => rfl⟩
theorem insert_grow (g c : Nat) (l : List Wr) (i : Nat) (x : Wr) (vb : Nat) (w : World) (hown : w.ownsRow 0 164 2 (.slice (some ⟨g, 0, none⟩) l.length c) l.length (cellsW l)) (hv : w.heap[vb]? = some (.cells #[I x.1, S x.2] 164 (0, 0))) (hl : l.length ≤ 1000000) (hi : i < l.length) (hroom : c < l.length + 1) :
    Calls Tryz.prog 208 #[.slice (some ⟨g, 0, none⟩) l.length c, I i, .slice (some ⟨vb, 0, none⟩) 1 1] w fun e w' => ∃ V, e = .returned V ∧ Insd w (.slice (some ⟨g, 0, none⟩) l.length c) (ins l i x) V w' := by
  obtain ⟨cur, hg, hlc, hcm, hsz, htk⟩ : ∃ cur, w.heap[g]? = some (.cells cur 164 (0, 0)) ∧ l.length ≤ c ∧ c ≤ maxLen ∧ cur.size = c * 2 ∧ cur.toList.take (l.length * 2) = cellsW l := by
    obtain ⟨g', cap, cur, e, q⟩ := owns_at hown (by omega)
    cases e
    exact ⟨cur, q⟩
  have hcc : c = l.length := by omega
  obtain ⟨i0, hi0, hz0, hz1, hz2⟩ := info_parts info164
  have hT : (cellsW (l.take i)).length = i * 2 := by rw [cellsW_len, List.length_take]; omega
  have hY : (cellsW (l.drop i)).length = (l.length - i) * 2 := by rw [cellsW_len, List.length_drop]
  have hcs : ∀ j u, (cellsW l)[j]? = some u → w.cell? ⟨g, j, none⟩ = some u := fun j u hj => owns_cell hown j u hj
  have hold : (Builtin.firstCells i0.size i (.slice (some ⟨g, 0, none⟩) i c)).run Tryz.prog w.drew = .ok (cellsW (l.take i)).toArray w.drew := by
    rw [hz1]
    refine run_firstCells_some w.drew 2 i ⟨g, 0, none⟩ i c (cellsW (l.take i)) hT (fun j u hj => ?_)
    rw [add_at]
    refine hcs j u ?_
    rw [← cellsW_take, List.getElem?_take] at hj
    split at hj
    · exact hj
    · cases hj
  have hr0 := Lib.run_append_grow_zeros w 138 3 138 164 i0 _ .i64 .i64 Tryz.underlying138 Tryz.underlying3 hi0 hz0 (some ⟨g, 0, none⟩) i c (cellsW (l.take i)) hold (l.length + 1 - i) (by omega) (by rw [hz1]; omega) (by omega) (by omega) (by rw [hz2]; omega) (by rw [hz2]; exact growslice_fits (by omega) (by omega))
  rw [show i + (l.length + 1 - i) = l.length + 1 by omega] at hr0
  have hG1 := grownCap_ge w (l.length + 1) c 164
  have hG2 := grownCap_le_maxLen w (l.length + 1) c 164 (by unfold maxLen; omega)
  generalize grownCap w (l.length + 1) c 164 = G at *
  have hG3 : G ≤ 9223372036854775807 := by unfold maxLen at hG2; omega
  obtain ⟨ROW, hROW⟩ : ∃ ROW : Array Value, ROW = (cellsW (l.take i)).toArray ++ Builtin.zeroCells (Value.agg #[.int .i64 0, .string ⟨#[]⟩]).cells (l.length + 1 - i) ++ Builtin.zeroCells (Value.agg #[.int .i64 0, .string ⟨#[]⟩]).cells (G - (l.length + 1)) := ⟨_, rfl⟩
  rw [← hROW] at hr0
  have hRs : ROW.size = G * 2 := by
    rw [hROW]
    have hz : (Value.agg #[Value.int .i64 0, Value.string ⟨#[]⟩]).cells.size = 2 := rfl
    simp only [Array.size_append, zero_size, hz, List.size_toArray, hT]
    omega
  have hRt : ROW.toList.take (i * 2) = cellsW (l.take i) := by
    rw [hROW]
    simp only [Array.toList_append]
    rw [List.append_assoc, List.take_append_of_le_length (by simp [hT]), List.take_of_length_le (by simp [hT])]
  obtain ⟨w1, e1⟩ : ∃ w1, w1 = w.drew.alloc (.cells ROW 164) := ⟨_, rfl⟩
  rw [← e1] at hr0
  have B1 : Below w.heap.size w w1 := by rw [e1]; exact (below_drew (Below.refl _ _)).alloc (Nat.le_refl _) _
  have hg1 : w1.heap[w.heap.size]? = some (.cells ROW 164 (0, 0)) := by rw [e1]; exact heap_alloc_new w.drew _
  have hr1 := run_copyk w1 138 164 3 _ 2 24 Tryz.underlying138 info164 w.heap.size (i * 2) (l.length + 1 - i) (G - i) ⟨vb, 0, none⟩ 1 1 ROW [I x.1, S x.2] 1 (by show _ = min _ _; omega) hg1 rfl (by
      intro j u hj
      rw [add_at, B1.cell (by exact lt_of_row hv), cell_of_row _ _ j _ 164 (0, 0) hv]
      simpa using hj) (by simp [hRs]; omega) (by intro u hu; simp at hu; rcases hu with rfl | rfl <;> rfl)
  have hL := lay_two (R := ROW.toList) (P := cellsW (l.take i)) (X := [I x.1, S x.2]) (Y := cellsW (l.drop i)) (a := i * 2) (b := (i + 1) * 2) (by rw [hY]; simp [hRs]; omega) hRt (by simp; omega)
  generalize hR1 : ROW.toList.take (i * 2) ++ [I x.1, S x.2] ++ ROW.toList.drop (i * 2 + [I x.1, S x.2].length) = R1 at *
  have hl1 : R1.length = G * 2 := by rw [← hR1]; simp only [List.length_append, List.length_take, List.length_drop]; simp [hRs]; omega
  have hg2 := setRow_heap w1 w.heap.size ROW R1.toArray 164 _ hg1
  obtain ⟨w2, e2⟩ : ∃ w2, w2 = w1.setRow w.heap.size R1.toArray := ⟨_, rfl⟩
  rw [← e2] at hr1 hg2
  have B2 : Below w.heap.size w w2 := by rw [e2]; exact (setRow_only w1 _ _).below B1 B1.size (fun k q => by subst q; omega)
  have hr2 := run_copyk w2.drew 138 164 3 _ 2 24 Tryz.underlying138 info164 w.heap.size ((i + 1) * 2) (l.length - i) (G - (i + 1)) ⟨g, i * 2, none⟩ (l.length - i) (c - i) R1.toArray (cellsW (l.drop i)) (l.length - i) (by show _ = min _ _; omega) hg2 hY (by
      intro j u hj
      rw [add_off]
      show w2.cell? _ = _
      rw [B2.cell (by exact lt_of_row hg)]
      refine hcs _ u ?_
      rwa [← cellsW_drop, List.getElem?_drop] at hj) (by simp [hl1, hY]; omega) (cellsW_one _)
  obtain ⟨w3, e3⟩ : ∃ w3, w3 = w2.drew.setRow w.heap.size (R1.toArray.toList.take ((i + 1) * 2) ++ cellsW (l.drop i) ++ R1.toArray.toList.drop ((i + 1) * 2 + (cellsW (l.drop i)).length)).toArray := ⟨_, rfl⟩
  rw [← e3] at hr2
  have HI := hide (show Insd w (.slice (some ⟨g, 0, none⟩) l.length c) (ins l i x) (.slice (some ⟨w.heap.size, 0, none⟩) (l.length + 1) G) w3 from by
    refine ⟨⟨cellsW_len _, .inr ⟨w.heap.size, G, _, by rw [ins_len _ _ _ (by omega)], Nat.zero_le _, by rw [e3, setRow_heap w2.drew w.heap.size _ _ 164 _ hg2], by rw [ins_len _ _ _ (by omega)]; omega, hG2, ?_, ?_⟩⟩, ?_, fun k hk => .inr (by cases hk; exact Nat.le_refl _)⟩
    · have := hL.1
      simp at this ⊢
      omega
    · rw [ins_len _ _ _ (by omega), cellsW_ins]
      have := hL.2
      rw [hY, show (i + 1) * 2 + (l.length - i) * 2 = (l.length + 1) * 2 by omega] at this
      rw [hY, show (i + 1) * 2 + (l.length - i) * 2 = (l.length + 1) * 2 by omega]
      simpa using this
    · rw [e3]
      exact Only.of_below ((setRow_only w2.drew w.heap.size _).below (below_drew B2) B2.size (fun k q => by subst q; exact Nat.le_refl _)))
  clear hL hg1 hg2 hl1 e1 e2 e3 B1 B2 htk hsz hR1 hY hT hRs hRt hROW hold hcs hi0 hz0 hz1 hz2 hG2
  subst hcc
  generalize ins l i x = L at *
  generalize hn : l.length = n at *
  have hk : ((n : Int) + 1 - (i : Int)) = ((n + 1 - i : Nat) : Int) := by omega
  rw [← hk] at hr0
  clear hk hn hroom hlc hown hg hv hcm
  go_enter Tryz.func208, Tryz.ntmps208
  go_wp2_with (first | (at_builtin; refine Lib.wpList_append_run _ rfl _ _ _ _ rfl _ _ rfl rfl _ _ hr0 ?_) | (refine wp_copy_run rfl (.tmp 43) (.tmp 44) rfl _ _ rfl rfl _ _ hr1 ?_))
  simp only [Act.put, goInt, List.setIfInBounds_toArray, List.set_cons_succ, List.set_cons_zero]
  go_region
  go_wp2
  go_ret
  exact ⟨_, rfl, unhide HI⟩
/-- slices.Insert of one write. -/
theorem insert_any (v : Value) (l : List Wr) (i : Nat) (x : Wr) (vb : Nat) (w : World) (hown : w.ownsRow 0 164 2 v l.length (cellsW l)) (hv : w.heap[vb]? = some (.cells #[I x.1, S x.2] 164 (0, 0))) (hl : l.length ≤ 1000000) (hi : i ≤ l.length) (hne : v.ownBlock ≠ some vb) :
    Calls Tryz.prog 208 #[v, I i, .slice (some ⟨vb, 0, none⟩) 1 1] w fun e w' => ∃ V, e = .returned V ∧ Insd w v (ins l i x) V w' := by
  rcases Nat.lt_or_eq_of_le hi with q | q
  · obtain ⟨g, cap, cur, rfl, _⟩ := owns_at hown (by omega)
    by_cases hr : l.length + 1 ≤ cap
    · exact insert_shift g cap l i x vb w hown hv hl q hr (fun e => hne (by subst e; rfl))
    · exact insert_grow g cap l i x vb w hown hv hl q (by omega)
  · subst q
    exact insert_end v l x vb w hown hv hl
end Go.Proofs.YtjopnhhdemfniaaGreatDoor
namespace Go.Proofs.YtjopnhhdemfniaaGreatDoor
open Go.RowKit
set_option maxHeartbeats 4000000
set_option maxRecDepth 8000
/-- The write of a block, in the place of an earlier one, or at its place. -/
def putW : List Wr → Nat → Bs → List Wr
  | [], b, s => [(b, s)]
  | x :: l, b, s => if x.1 < b then x :: putW l b s else if x.1 = b then (b, s) :: l else (b, s) :: x :: l
theorem putW_set (l : List Wr) (b i : Nat) (s : Bs) (hp : Plc l b i) (h : hit l b i = true) : l.set i (b, s) = putW l b s := by
  induction l generalizing i with
  | nil => simp [hit] at h
  | cons x l ih =>
    obtain ⟨h1, h2⟩ : i < (x :: l).length ∧ ((x :: l).getD i (0, [])).1 = b := by simpa [hit] using h
    cases i with
    | zero =>
      have e : x.1 = b := h2
      simp [putW, e]
    | succ i =>
      have e : x.1 < b := hp.2.1 0 (by omega)
      simp only [putW, if_pos e, List.set_cons_succ]
      rw [ih i ⟨by have := hp.1; simp at this; omega, fun t ht => hp.2.1 (t + 1) (by omega), fun t h3 h4 => hp.2.2 (t + 1) (by omega) (by simp; omega)⟩ (by simp only [hit, Bool.and_eq_true, decide_eq_true_eq]; exact ⟨by simpa using h1, h2⟩)]
theorem putW_ins (l : List Wr) (b i : Nat) (s : Bs) (hp : Plc l b i) (h : hit l b i = false) : ins l i (b, s) = putW l b s := by
  induction l generalizing i with
  | nil =>
    have := hp.1
    simp at this
    subst this
    rfl
  | cons x l ih =>
    cases i with
    | zero =>
      have h1 : b ≤ x.1 := hp.2.2 0 (by omega) (by simp)
      have h2 : x.1 ≠ b := by
        intro e
        have : hit (x :: l) b 0 = true := by simp [hit, e]
        rw [this] at h
        cases h
      have n1 : ¬ x.1 < b := by omega
      simp [putW, n1, h2, ins]
    | succ i =>
      have e : x.1 < b := hp.2.1 0 (by omega)
      simp only [putW, if_pos e]
      have hle : i ≤ l.length := by have := hp.1; simp at this; omega
      have := ih i ⟨hle, fun t ht => hp.2.1 (t + 1) (by omega), fun t h3 h4 => hp.2.2 (t + 1) (by omega) (by simp; omega)⟩ (by
        rw [← h]
        unfold hit
        simp only [List.length_cons, List.getD_cons_succ]
        by_cases q : i < l.length
        · simp [q]
        · simp [q])
      rw [← this]
      rfl
theorem fnd_cons (x : Wr) (l : List Wr) (b : Nat) : fnd (x :: l) b = if x.1 = b then some x.2 else fnd l b := by
  unfold fnd
  rw [List.find?_cons]
  by_cases h : x.1 = b
  · simp [h]
  · have : (x.1 == b) = false := by simpa using h
    rw [this, if_neg h]
theorem Srt.tail {x : Wr} {l : List Wr} (h : Srt (x :: l)) : Srt l := fun i j hij hj => h (i + 1) (j + 1) (by omega) (by simp; omega)
theorem Srt.head {x : Wr} {l : List Wr} (h : Srt (x :: l)) : ∀ y ∈ l, x.1 < y.1 := by
  intro y hy
  obtain ⟨j, hj, rfl⟩ := List.getElem_of_mem hy
  have := h 0 (j + 1) (by omega) (by simp; omega)
  simpa [hj] using this
theorem Srt.cons {x : Wr} {l : List Wr} (h : Srt l) (hx : ∀ y ∈ l, x.1 < y.1) : Srt (x :: l) := by
  intro i j hij hj
  cases j with
  | zero => omega
  | succ j =>
    have hj' : j < l.length := by simpa using hj
    cases i with
    | zero => exact hx _ (mem_getD hj')
    | succ i => exact h i j (by omega) hj'
theorem putW_mem {l : List Wr} {b : Nat} {s : Bs} {y : Wr} (h : y ∈ putW l b s) : y = (b, s) ∨ y ∈ l := by
  induction l with
  | nil => simp [putW] at h; exact .inl h
  | cons x l ih =>
    unfold putW at h
    split at h
    · rcases List.mem_cons.1 h with q | q
      · exact .inr (by simp [q])
      · exact (ih q).imp id (fun r => List.mem_cons_of_mem _ r)
    · split at h
      · rcases List.mem_cons.1 h with q | q
        · exact .inl q
        · exact .inr (List.mem_cons_of_mem _ q)
      · rcases List.mem_cons.1 h with q | q
        · exact .inl q
        · exact .inr q
theorem putW_srt {l : List Wr} {b : Nat} {s : Bs} (h : Srt l) : Srt (putW l b s) := by
  induction l with
  | nil => intro i j h1 h2; simp [putW] at h2; omega
  | cons x l ih =>
    unfold putW
    split
    · rename_i q
      refine (ih h.tail).cons (fun y hy => ?_)
      rcases putW_mem hy with r | r
      · rw [r]; exact q
      · exact h.head y r
    · rename_i q1
      split
      · rename_i q
        exact h.tail.cons (fun y hy => by have := h.head y hy; show b < y.1; omega)
      · rename_i q
        refine h.cons (fun y hy => ?_)
        show b < y.1
        rcases List.mem_cons.1 hy with r | r
        · rw [r]; omega
        · have := h.head y r
          omega
theorem putW_fnd (l : List Wr) (b c : Nat) (s : Bs) : fnd (putW l b s) c = if c = b then some s else fnd l c := by
  induction l with
  | nil =>
    simp only [putW, fnd_cons]
    by_cases h : c = b
    · subst h; simp
    · rw [if_neg (fun e => h e.symm), if_neg h]
  | cons x l ih =>
    unfold putW
    split
    · rename_i q
      rw [fnd_cons, ih, fnd_cons]
      by_cases h : c = b
      · subst h
        rw [if_neg (by omega), if_pos rfl, if_pos rfl]
      · rw [if_neg h, if_neg h]
    · split
      · rename_i q1 q2
        rw [fnd_cons, fnd_cons]
        by_cases h : c = b
        · subst h; simp
        · rw [if_neg (show ¬ b = c from fun e => h e.symm), if_neg h, if_neg (by omega)]
      · rename_i q1 q2
        rw [fnd_cons]
        by_cases h : c = b
        · subst h; simp
        · rw [if_neg (show ¬ b = c from fun e => h e.symm), if_neg h]
def Ds.put (d : Ds) (b : Nat) (s : Bs) : Ds := { d with ws := putW d.ws b s }
theorem Ok.put {d : Ds} (h : Ok d) {b : Nat} {s : Bs} (hb : b < d.last.length) (hs : s.length = 512) : Ok (d.put b s) :=
  ⟨putW_srt h.srt, fun x hx => by
    rcases putW_mem hx with r | r
    · rw [r]; exact ⟨hb, hs⟩
    · exact h.lt x r, h.sz, h.len, h.fuse⟩
end Go.Proofs.YtjopnhhdemfniaaGreatDoor
namespace Go.Proofs.YtjopnhhdemfniaaGreatDoor
open Go.RowKit
set_option maxHeartbeats 4000000
set_option maxRecDepth 8000
theorem cellsW_set (l : List Wr) (i : Nat) (x : Wr) (hi : i < l.length) : ((cellsW l).set (i * 2) (I x.1)).set (i * 2 + 1) (S x.2) = cellsW (l.set i x) := by
  induction l generalizing i with
  | nil => simp at hi
  | cons y l ih =>
    cases i with
    | zero => rfl
    | succ i =>
      rw [show (i + 1) * 2 = i * 2 + 1 + 1 by omega]
      show I y.1 :: S y.2 :: (((cellsW l).set (i * 2) (I x.1)).set (i * 2 + 1) (S x.2)) = I y.1 :: S y.2 :: cellsW (l.set i x)
      rw [ih i (by simpa using hi)]
/-- Behind an Insert the disk's own block stands as it stood. -/
theorem ins_facts {D : Nat} {d : Ds} {vw vl V : Value} {w W w' : World} {l : List Wr} {o : Obj} (h : DAt D d vw vl w) (hi : Insd (W.alloc o) vw l V w') (e : W.heap = w.heap) : w'.heap[D]? = some (.cells (dcs d vw vl) 153 (0, 0)) := by
  have e2 : W.heap.size = w.heap.size := by rw [e]
  have hl := h.lt
  rw [hi.2.1.block D (by simp; omega) (fun q => h.nw D q rfl), heap_alloc_old _ _ (by omega), e]
  exact h.blk
/-- And its list is laid into it. -/
theorem ins_put {D : Nat} {d : Ds} {vw vl V : Value} {w0 w W w' : World} {l : List Wr} {o : Obj} (h : DAt D d vw vl w) (hi : Insd (W.alloc o) vw l V w') (e : W.heap = w.heap) (hb : Below w0.heap.size w0 (W.alloc o)) :
    DAt D { d with ws := l } V vl (w'.setCell ⟨D, 0, none⟩ V) ∧ Only (fun k => k = D ∨ vw.ownBlock = some k) w0 (w'.setCell ⟨D, 0, none⟩ V) ∧ (∀ k, V.ownBlock = some k → vw.ownBlock = some k ∨ w0.heap.size ≤ k) := by
  have hls : w'.ownsRow 0 9 1 vl d.last.length (d.last.map S) := by
    refine owns_same h.ls (fun k hk => ?_)
    have e2 : W.heap.size = w.heap.size := by rw [e]
    have hl := owns_blk h.ls k hk
    rw [hi.2.1.block k (by simp; omega) (fun q => h.wl k q hk), heap_alloc_old _ _ (by omega), e]
  have hd : ∀ {n m : Nat} {t : Nat} {v : Value} {xs : List Value}, w'.ownsRow 0 t n v m xs → t ≠ 153 → ∀ k, v.ownBlock = some k → k ≠ D := by
    intro n m t v xs hv ht k hk q
    obtain ⟨cs, q2⟩ := owns_lt hv k hk
    rw [q, ins_facts h hi e] at q2
    cases q2
    exact ht rfl
  refine ⟨⟨?_, owns_only hi.1 (Only.setCell w' ⟨D, 0, none⟩ V) (hd hi.1 (by decide)), owns_only hls (Only.setCell w' ⟨D, 0, none⟩ V) (hd hls (by decide))⟩, ?_, fun k hk => ?_⟩
  · rw [heap_setCell_same w' D 0 _ 153 V (ins_facts h hi e)]
    rfl
  · exact ((Only.of_below hb).trans hi.2.1 (fun k _ q => Or.inr q)).put ⟨D, 0, none⟩ V (Or.inl (Or.inl rfl))
  · rcases hi.2.2 k hk with q | q
    · exact .inl q
    · exact .inr (Nat.le_trans hb.size q)
theorem put_any {D : Nat} {d : Ds} {vw vl : Value} {w : World} (h : DAt D d vw vl w) (ho : Ok d) (b : Nat) (s : Bs) (hs : s.length = 512) :
    Calls Tryz.prog 165 #[ptr D, I b, S s] w fun e w' => e = .returned (.tuple #[]) ∧ ∃ vw', DAt D (d.put b s) vw' vl w' ∧ Only (fun k => k = D ∨ vw.ownBlock = some k) w w' ∧ (∀ k, vw'.ownBlock = some k → vw.ownBlock = some k ∨ w.heap.size ≤ k) := by
  have H0 := hide (clone_any s w (by omega))
  have HD := hide h
  have HO := hide ho
  clear h ho
  go_enter Tryz.func165, Tryz.ntmps165
  go_wp2_with fail
  refine (unhide H0).mono ?_
  rintro e w1 ⟨rfl, b1⟩
  have h1 := (unhide HD).below b1
  have ba := b1.trans (((Below.refl w1.heap.size w1).alloc (Nat.le_refl _) (.cells #[I b, S s] 164)).mono b1.size)
  have h2 := (unhide HD).below ba
  have x2 := heap_alloc_new w1 (.cells #[I b, S s] 164)
  have hs1 : w.heap.size ≤ w1.heap.size := b1.size
  have H1 := hide (place_any h2 (unhide HO).srt (by have := (unhide HO).few; omega) b)
  have X2 := hide (And.intro ba x2)
  clear h1 h2 ba x2 b1 H0
  go_wp2_with fail
  refine (unhide H1).mono ?_
  clear H1
  rintro e w3 ⟨i, hp, rfl, b3⟩
  obtain ⟨ba, x2⟩ := unhide X2
  have b4 := ba.trans (b3.mono ba.size)
  have h3 := (unhide HD).below b4
  have x3 := (b3.block _ (lt_of_row x2)).trans x2
  have y0 : w3.cell? ⟨w1.heap.size, 0, none⟩ = some (I b) := cell_of_row w3 _ 0 _ 164 (0, 0) x3
  have y1 : w3.cell? ⟨w1.heap.size, 1, none⟩ = some (S s) := cell_of_row w3 _ 1 _ 164 (0, 0) x3
  obtain ⟨c0, c1, c2, c3, c4⟩ := h3.c
  have hl := h3.lt
  have hlx := lt_of_row x3
  cases hh : hit d.ws b i with
  | true =>
    obtain ⟨hi1, _⟩ : i < d.ws.length ∧ (d.ws.getD i (0, [])).1 = b := by simpa [hit] using hh
    obtain ⟨g, cap, cur, rfl, hg, _⟩ := owns_at h3.ws (by omega)
    have hi2 : (i : Int) < (d.ws.length : Int) := by omega
    obtain ⟨q0, q1⟩ := cellsW_at d.ws i hi1
    have u0 := owns_cell h3.ws _ _ q0
    have u1 := owns_cell h3.ws _ _ q1
    have o1 := owns_set h3.ws (i * 2) (I b)
    have o2 := owns_set o1 (i * 2 + 1) (S s)
    rw [cellsW_set d.ws i (b, s) hi1, putW_set d.ws b i s hp hh] at o2
    have hz0 := frz hg (i * 2)
    have hz1 := frz hg (i * 2 + 1)
    have hgl := lt_of_row hg
    have O3 : Only (fun k => k = D ∨ (Value.slice (some ⟨g, 0, none⟩) d.ws.length cap).ownBlock = some k) w ((w3.drew.setCell ⟨g, i * 2, none⟩ (I b)).setCell ⟨g, i * 2 + 1, none⟩ (S s)) :=
      ((Only.of_below (below_drew b4)).put ⟨g, i * 2, none⟩ (I b) (Or.inl (Or.inr rfl))).put ⟨g, i * 2 + 1, none⟩ (S s) (Or.inl (Or.inr rfl))
    have hD : DAt D (d.put b s) (.slice (some ⟨g, 0, none⟩) d.ws.length cap) vl ((w3.drew.setCell ⟨g, i * 2, none⟩ (I b)).setCell ⟨g, i * 2 + 1, none⟩ (S s)) := by
      have hgD := h3.nw g rfl
      have hgL := h3.wl g rfl
      refine ⟨?_, ?_, ?_⟩
      · rw [heap_setCell_other _ _ _ _ (fun q => hgD q.symm), heap_setCell_other _ _ _ _ (fun q => hgD q.symm)]
        exact h3.blk
      · have hlen : (putW d.ws b s).length = d.ws.length := by rw [← putW_set d.ws b i s hp hh]; simp
        show World.ownsRow _ 0 164 2 _ (putW d.ws b s).length _
        rw [hlen]
        exact o2
      · refine owns_same h3.ls (fun k hk => ?_)
        have hne : k ≠ g := fun q => hgL (by rw [← q]; exact hk)
        rw [heap_setCell_other _ _ _ _ hne, heap_setCell_other _ _ _ _ hne]
        rfl
    have HF := hide (And.intro hD O3)
    clear hD O3 o1 o2 q0 q1 hg h3 x3 b3 b4 ba x2 hp hh X2 HD HO
    generalize d.ws.length = n at *
    go_wp2
    go_region
    go_wp2
    refine bodyPost_ret (results_none rfl _ _ _) rfl ?_
    exact ⟨rfl, _, (unhide HF).1, (unhide HF).2, fun k hk => .inl hk⟩
  | false =>
    have hne : vw.ownBlock ≠ some w3.heap.size := fun q => by have := owns_blk h3.ws _ q; omega
    have hI := fun (W : World) (e : W.heap = w3.heap) => insert_any vw d.ws i (b, s) w3.heap.size (W.alloc (.cells #[I b, S s] 164)) (owns_alloc (owns_same h3.ws (fun k _ => by rw [e])) _) (by
      have := heap_alloc_new W (.cells #[I b, S s] 164)
      rwa [show W.heap.size = w3.heap.size by rw [e]] at this) (by have := (unhide HO).few; omega) hp.1 hne
    have HI := hide hI
    have HX := hide (And.intro h3 (And.intro b4 (putW_ins d.ws b i s hp hh)))
    obtain ⟨p, cap, rfl⟩ := owns_form h3.ws
    clear hI h3 x3 b3 b4 ba x2 hp hh X2 HD HO
    go_wp2
    go_region_with (refine (unhide HI w3.drew rfl).mono ?_; rintro e w5 ⟨V, rfl, hins⟩; obtain ⟨p5, cap5, rfl⟩ := owns_form hins.1; have x5 := ins_facts (unhide HX).1 hins rfl; have d5 := cell_of_row w5 D 0 _ 153 (0, 0) x5; have z5 := frz x5 0; have HV := hide hins; have e5 := lt_of_row x5; clear hins x5)
    all_goals go_end0
    all_goals
      obtain ⟨h3, b4, ep⟩ := unhide HX
      obtain ⟨r1, r2, r3⟩ := ins_put (w0 := w) h3 (unhide HV) rfl ((below_drew b4).alloc b4.size _)
      rw [ep] at r1 r2 r3 ⊢
      exact ⟨rfl, _, r1, r2, r3⟩
/-- Write. -/
def writev (d : Ds) (b : Int) (s : Bs) : Int := if s.length ≠ 512 then 81 else if reachv d b ≠ 0 then reachv d b else actv d
def Ds.write (d : Ds) (b : Int) (s : Bs) : Ds := if s.length ≠ 512 then d else if reachv d b ≠ 0 then d else if actv d ≠ 0 then d.act else d.act.put b.toNat s
theorem Ok.act {d : Ds} (h : Ok d) : Ok d.act := by
  unfold Ds.act
  split
  · exact ⟨h.srt, h.lt, h.sz, h.len, h.fuse⟩
  · refine ⟨h.srt, h.lt, h.sz, h.len, ?_⟩
    have := h.fuse
    show 0 ≤ max (d.fuse - 1) 0 ∧ max (d.fuse - 1) 0 ≤ 9223372036854775807
    omega
theorem act_last (d : Ds) : d.act.last = d.last := by unfold Ds.act; split <;> rfl
theorem act_ws (d : Ds) : d.act.ws = d.ws := by unfold Ds.act; split <;> rfl
theorem Ok.write {d : Ds} (h : Ok d) (b : Int) (s : Bs) : Ok (d.write b s) := by
  unfold Ds.write
  split
  · exact h
  · rename_i q
    split
    · exact h
    · rename_i r
      have hr := reach_ok (show reachv d b = 0 by simpa using r)
      split
      · exact h.act
      · exact h.act.put (by rw [act_last]; omega) (by simpa using q)
end Go.Proofs.YtjopnhhdemfniaaGreatDoor
namespace Go.Proofs.YtjopnhhdemfniaaGreatDoor
open Go.RowKit
set_option maxHeartbeats 4000000
set_option maxRecDepth 8000
theorem write_any {D : Nat} {d : Ds} {vw vl : Value} {w : World} (h : DAt D d vw vl w) (ho : Ok d) (ha : 0 ≤ d.acts ∧ d.acts ≤ 1000000000000000000) (b : Int) (s : Bs) :
    Calls Tryz.prog 89 #[ptr D, I b, S s] w fun e w' => e = .returned (I (writev d b s)) ∧ ∃ vw', DAt D (d.write b s) vw' vl w' ∧ Only (fun k => k = D ∨ vw.ownBlock = some k) w w' ∧ (∀ k, vw'.ownBlock = some k → vw.ownBlock = some k ∨ w.heap.size ≤ k) := by
  have H0 := hide (fun W => wrongSize_any s W)
  have H1 := hide (reach_any h b)
  have H2 := hide (act_any h ho.fuse ha)
  have HD := hide h
  have HO := hide ho
  unfold writev Ds.write
  clear h ho ha
  by_cases hs : s.length = 512
  · have e0 : decide (s.length ≠ 512) = false := by simp [hs]
    have n0 : ¬ s.length ≠ 512 := by simpa using hs
    rw [e0] at H0
    rw [if_neg n0, if_neg n0]
    by_cases hr : reachv d b = 0
    · obtain ⟨r1, r2, r3⟩ := reach_ok hr
      have n1 : ¬ reachv d b ≠ 0 := by simpa using hr
      rw [if_neg n1, if_neg n1]
      rw [hr] at H1
      clear n0 n1
      obtain ⟨c, rfl⟩ : ∃ c : Nat, b = (c : Int) := ⟨b.toNat, by omega⟩
      by_cases ht : actv d = 0
      · rw [ht] at H2
        have n2 : ¬ actv d ≠ 0 := by simpa using ht
        rw [if_neg n2, ht]
        simp only [Int.toNat_natCast]
        clear n2
        go_enter Tryz.func89, Tryz.ntmps89
        go_wp2_with fail
        refine (unhide H0 _).mono ?_
        rintro e w0 ⟨rfl, rfl⟩
        go_wp2_with fail
        refine (unhide H1).mono ?_
        rintro e w0 ⟨rfl, rfl⟩
        go_wp2_with fail
        refine (unhide H2).mono ?_
        rintro e w2 ⟨rfl, h2, o2⟩
        have hl2 := h2.lt
        have H3 := hide (put_any h2 (unhide HO).act c s hs)
        have O2 := hide o2
        clear h2 o2
        go_wp2_with fail
        refine (unhide H3).mono ?_
        rintro e w3 ⟨rfl, vw', h3, o3, n3⟩
        have HF := hide (And.intro h3 (And.intro (((unhide O2).mono (Q := fun k => k = D ∨ vw.ownBlock = some k) (fun _ _ q => Or.inl q)).trans o3 (fun _ _ q => q)) (fun k hk => (n3 k hk).imp id (fun q => Nat.le_trans (unhide O2).size q))))
        clear h3 o3 n3
        go_wp2
        go_ret
        exact ⟨rfl, vw', unhide HF⟩
      · have n2 : actv d ≠ 0 := ht
        rw [if_pos n2]
        generalize actv d = r at *
        go_enter Tryz.func89, Tryz.ntmps89
        go_wp2_with fail
        refine (unhide H0 _).mono ?_
        rintro e w0 ⟨rfl, rfl⟩
        go_wp2_with fail
        refine (unhide H1).mono ?_
        rintro e w0 ⟨rfl, rfl⟩
        go_wp2_with fail
        refine (unhide H2).mono ?_
        rintro e w2 ⟨rfl, h2, o2⟩
        have HF := hide (And.intro h2 (o2.mono (Q := fun k => k = D ∨ vw.ownBlock = some k) (fun _ _ q => Or.inl q)))
        clear h2 o2
        go_wp2
        go_ret
        exact ⟨rfl, vw, (unhide HF).1, (unhide HF).2, fun k hk => .inl hk⟩
    · have n1 : reachv d b ≠ 0 := hr
      rw [if_pos n1, if_pos n1]
      clear n1 n0
      generalize reachv d b = r at *
      go_enter Tryz.func89, Tryz.ntmps89
      go_wp2_with fail
      refine (unhide H0 _).mono ?_
      rintro e w0 ⟨rfl, rfl⟩
      go_wp2_with fail
      refine (unhide H1).mono ?_
      rintro e w0 ⟨rfl, rfl⟩
      go_wp2
      go_ret
      exact ⟨rfl, vw, unhide HD, Only.refl _ _, fun k hk => .inl hk⟩
  · have e0 : decide (s.length ≠ 512) = true := by simp [hs]
    have n0 : s.length ≠ 512 := hs
    rw [e0] at H0
    rw [if_pos n0, if_pos n0]
    clear n0
    go_enter Tryz.func89, Tryz.ntmps89
    go_wp2_with fail
    refine (unhide H0 _).mono ?_
    rintro e w0 ⟨rfl, rfl⟩
    go_wp2
    go_ret
    exact ⟨rfl, vw, unhide HD, Only.refl _ _, fun k hk => .inl hk⟩
end Go.Proofs.YtjopnhhdemfniaaGreatDoor
namespace Go.Proofs.YtjopnhhdemfniaaGreatDoor
open Go.RowKit
set_option maxHeartbeats 4000000
set_option maxRecDepth 8000
theorem extract_eq (x : Bs) (i j : Nat) : (⟨x.toArray⟩ : ByteArray).extract i j = ⟨((x.drop i).take (j - i)).toArray⟩ := by
  apply ByteArray.ext
  apply Array.ext'
  simp [ByteArray.extract, ByteArray.copySlice, List.extract]
end Go.Proofs.YtjopnhhdemfniaaGreatDoor
namespace Go.Proofs.YtjopnhhdemfniaaGreatDoor
open Go.RowKit
set_option maxHeartbeats 4000000
set_option maxRecDepth 8000
theorem set_sz {l : List Bs} {i : Nat} {x : Bs} (h : ∀ y ∈ l, y.length = 512) (hx : x.length = 512) : ∀ y ∈ l.set i x, y.length = 512 := by
  intro y hy
  rcases List.mem_or_eq_of_mem_set hy with q | q
  · exact h y q
  · rw [q]; exact hx
end Go.Proofs.YtjopnhhdemfniaaGreatDoor
