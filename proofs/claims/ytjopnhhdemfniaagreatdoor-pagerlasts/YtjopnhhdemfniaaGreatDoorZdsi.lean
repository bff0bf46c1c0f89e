import Derived.Test.YtjopnhhdemfniaaGreatDoorZdsc
import Derived.Lib.AppendZerosOnto
import Derived.Lib.Overlaps
import Derived.Laws.Externs
namespace Go.Proofs.YtjopnhhdemfniaaGreatDoor
open Go.RowKit
set_option maxHeartbeats 4000000
set_option maxRecDepth 8000
theorem cellsW_take (l : List Wr) (i : Nat) : (cellsW l).take (i * 2) = cellsW (l.take i) := by
  induction l generalizing i with
  | nil => simp [cellsW]
  | cons x l ih =>
    cases i with
    | zero => rfl
    | succ i =>
      rw [show (i + 1) * 2 = i * 2 + 1 + 1 by omega]
      show I x.1 :: S x.2 :: (cellsW l).take (i * 2) = I x.1 :: S x.2 :: cellsW (l.take i)
      rw [ih]
theorem cellsW_drop (l : List Wr) (i : Nat) : (cellsW l).drop (i * 2) = cellsW (l.drop i) := by
  induction l generalizing i with
  | nil => simp [cellsW]
  | cons x l ih =>
    cases i with
    | zero => rfl
    | succ i =>
      rw [show (i + 1) * 2 = i * 2 + 1 + 1 by omega]
      exact ih i
theorem cellsW_one (l : List Wr) : ∀ v ∈ cellsW l, v.oneCell' = true := by
  intro v hv
  obtain ⟨x, _, hx⟩ := List.mem_flatMap.1 hv
  simp at hx
  rcases hx with rfl | rfl <;> rfl
/-- First a new thing is laid over, then what stood behind it. -/
theorem lay_two {R P X Y : List Value} {a b : Nat} (hR : a + X.length + Y.length ≤ R.length) (hP : R.take a = P) (hb : b = a + X.length) :
    let R1 := R.take a ++ X ++ R.drop (a + X.length)
    let R2 := R1.take b ++ Y ++ R1.drop (b + Y.length)
    R2.length = R.length ∧ R2.take (b + Y.length) = P ++ X ++ Y := by
  subst hb
  have ha : (R.take a).length = a := by rw [List.length_take]; omega
  have h1 : (R.take a ++ X).length = a + X.length := by rw [List.length_append, ha]
  have e1 : (R.take a ++ X ++ R.drop (a + X.length)).take (a + X.length) = R.take a ++ X := by
    rw [List.take_append_of_le_length (by omega), List.take_of_length_le (by omega)]
  have e2 : (R.take a ++ X ++ R.drop (a + X.length)).drop (a + X.length + Y.length) = R.drop (a + X.length + Y.length) := by
    rw [List.drop_append, List.drop_of_length_le (by omega), h1, List.nil_append, List.drop_drop]
    congr 1
    omega
  simp only
  rw [e1, e2]
  refine ⟨by simp only [List.length_append, List.length_drop, ha]; omega, ?_⟩
  rw [List.take_append_of_le_length (by simp only [List.length_append, ha]; omega), List.take_of_length_le (by simp only [List.length_append, ha]; omega), hP]
/-- First what stands behind is moved, then a new thing is laid over. -/
theorem lay_shift {R P X Y : List Value} {a b : Nat} (hR : a + X.length + Y.length ≤ R.length) (hP : R.take a = P) (hb : b = a + X.length) :
    let R1 := R.take b ++ Y ++ R.drop (b + Y.length)
    let R2 := R1.take a ++ X ++ R1.drop (a + X.length)
    R2.length = R.length ∧ R2.take (b + Y.length) = P ++ X ++ Y := by
  subst hb
  have ha : (R.take (a + X.length)).length = a + X.length := by rw [List.length_take]; omega
  have e1 : (R.take (a + X.length) ++ Y ++ R.drop (a + X.length + Y.length)).take a = R.take a := by
    rw [List.append_assoc, List.take_append_of_le_length (by omega), List.take_take, Nat.min_eq_left (by omega)]
  have e2 : (R.take (a + X.length) ++ Y ++ R.drop (a + X.length + Y.length)).drop (a + X.length) = Y ++ R.drop (a + X.length + Y.length) := by
    rw [List.append_assoc, List.drop_append, List.drop_of_length_le (by omega), List.nil_append, ha, Nat.sub_self, List.drop_zero]
  simp only
  have h0 : (R.take a).length = a := by rw [List.length_take]; omega
  rw [e1, e2]
  refine ⟨by simp only [List.length_append, List.length_drop, h0]; omega, ?_⟩
  rw [← List.append_assoc, List.take_append_of_le_length (by simp only [List.length_append, h0]; omega), List.take_of_length_le (by simp only [List.length_append, h0]; omega), hP]
/-- One more write at its place. -/
def ins (l : List Wr) (i : Nat) (x : Wr) : List Wr := l.take i ++ [x] ++ l.drop i
theorem cellsW_ins (l : List Wr) (i : Nat) (x : Wr) : cellsW (ins l i x) = cellsW (l.take i) ++ [I x.1, S x.2] ++ cellsW (l.drop i) := by
  unfold ins
  rw [cellsW_append, cellsW_append]
  rfl
theorem ins_len (l : List Wr) (i : Nat) (x : Wr) (h : i ≤ l.length) : (ins l i x).length = l.length + 1 := by
  unfold ins
  simp
  omega
/-- What an Insert leaves. -/
def Insd (w : World) (v : Value) (l : List Wr) (V : Value) (w' : World) : Prop := w'.ownsRow 0 164 2 V l.length (cellsW l) ∧ Only (fun k => v.ownBlock = some k) w w' ∧ (∀ k, V.ownBlock = some k → v.ownBlock = some k ∨ w.heap.size ≤ k)
theorem insert_end (v : Value) (l : List Wr) (x : Wr) (vb : Nat) (w : World) (hown : w.ownsRow 0 164 2 v l.length (cellsW l)) (hv : w.heap[vb]? = some (.cells #[I x.1, S x.2] 164 (0, 0))) (hl : l.length ≤ 1000000) :
    Calls Tryz.prog 208 #[v, I l.length, .slice (some ⟨vb, 0, none⟩) 1 1] w fun e w' => ∃ V, e = .returned V ∧ Insd w v (ins l l.length x) V w' := by
  obtain ⟨i0, hi, hz0, hz1, hz2⟩ := info_parts info164
  have hnew : ∀ j u, [I x.1, S x.2][j]? = some u → w.cell? ((⟨vb, 0, none⟩ : Addr).add j) = some u := by
    intro j u hj
    rw [add_at, cell_of_row _ _ j _ 164 (0, 0) hv]
    simpa using hj
  obtain ⟨v', w', hr, h2, h3, _, h5⟩ := run_append_own_at (P := Tryz.prog) w 0 138 138 164 i0 _ 2 24 Tryz.underlying138 hi hz0 hz1 hz2 rfl (by decide) v l.length (cellsW l) hown ⟨vb, 0, none⟩ 1 1 [I x.1, S x.2] rfl hnew (by intro u hu; simp at hu; rcases hu with rfl | rfl <;> rfl) (by unfold maxLen; omega) (by omega) (Nat.zero_le _)
  have HI := hide (show Insd w v (ins l l.length x) v' w' from ⟨by
      rw [ins_len _ _ _ (Nat.le_refl _), cellsW_ins, List.take_of_length_le (Nat.le_refl _), List.drop_of_length_le (Nat.le_refl _)]
      simpa [cellsW] using h2, Only.of_grown h3, fun k hk => by
      rcases h5 with h5 | h5
      · left; rw [← h5]; exact hk
      · right; rw [hk] at h5; exact Nat.le_of_eq (Option.some.inj h5).symm⟩)
  obtain ⟨p', c', rfl⟩ := owns_form h2
  rcases hown.2 with ⟨rfl, q2⟩ | ⟨g, c, cur, rfl, _, _, hlc, hcm, _⟩
  · clear h2 h3 h5 hnew hown hi hz0 hz1 hz2 hv
    obtain ⟨x1, x2⟩ := x
    generalize ins l l.length (x1, x2) = L at *
    generalize l.length = n at *
    subst q2
    go_enter Tryz.func208, Tryz.ntmps208
    go_wp2_with (at_builtin; refine Lib.wpList_append_run _ rfl _ _ _ _ rfl _ _ rfl rfl _ _ hr ?_)
    go_ret
    exact ⟨_, rfl, unhide HI⟩
  · have hcm' : c ≤ 9223372036854775807 := by unfold maxLen at hcm; omega
    clear h2 h3 h5 hnew hown hi hz0 hz1 hz2 hv hcm
    obtain ⟨x1, x2⟩ := x
    generalize ins l l.length (x1, x2) = L at *
    generalize l.length = n at *
    go_enter Tryz.func208, Tryz.ntmps208
    go_wp2_with (at_builtin; refine Lib.wpList_append_run _ rfl _ _ _ _ rfl _ _ rfl rfl _ _ hr ?_)
    all_goals go_ret
    all_goals exact ⟨_, rfl, unhide HI⟩
theorem insert_shift (g c : Nat) (l : List Wr) (i : Nat) (x : Wr) (vb : Nat) (w : World) (hown : w.ownsRow 0 164 2 (.slice (some ⟨g, 0, none⟩) l.length c) l.length (cellsW l)) (hv : w.heap[vb]? = some (.cells #[I x.1, S x.2] 164 (0, 0))) (hl : l.length ≤ 1000000) (hi : i < l.length) (hroom : l.length + 1 ≤ c) (hne : vb ≠ g) :
    Calls Tryz.prog 208 #[.slice (some ⟨g, 0, none⟩) l.length c, I i, .slice (some ⟨vb, 0, none⟩) 1 1] w fun e w' => ∃ V, e = .returned V ∧ Insd w (.slice (some ⟨g, 0, none⟩) l.length c) (ins l i x) V w' := by
  obtain ⟨cur, hg, hlc, hcm, hsz, htk⟩ : ∃ cur, w.heap[g]? = some (.cells cur 164 (0, 0)) ∧ l.length ≤ c ∧ c ≤ maxLen ∧ cur.size = c * 2 ∧ cur.toList.take (l.length * 2) = cellsW l := by
    obtain ⟨g', cap, cur, e, q⟩ := owns_at hown (by omega)
    cases e
    exact ⟨cur, q⟩
  have hcm' : c ≤ 9223372036854775807 := by unfold maxLen at hcm; omega
  have hY : (cellsW (l.drop i)).length = (l.length - i) * 2 := by rw [cellsW_len, List.length_drop]
  have hr1 := run_copyk w.drew 138 164 3 _ 2 24 Tryz.underlying138 info164 g ((i + 1) * 2) (l.length - i) (c - (i + 1)) ⟨g, i * 2, none⟩ (l.length + 1 - i) (c - i) cur (cellsW (l.drop i)) (l.length - i) (by show _ = min _ _; omega) hg hY (by
      intro j u hj
      rw [add_off]
      show w.cell? _ = _
      rw [cell_of_row w _ _ _ 164 (0, 0) hg]
      rw [← cellsW_drop, List.getElem?_drop, ← htk] at hj
      have := List.getElem?_take ▸ hj
      split at this
      · simpa using this
      · cases this) (by rw [hY, hsz]; omega) (cellsW_one _)
  have hcell : ∀ j u, [I x.1, S x.2][j]? = some u → w.cell? ((⟨vb, 0, none⟩ : Addr).add j) = some u := by
    intro j u hj
    rw [add_at, cell_of_row _ _ j _ 164 (0, 0) hv]
    simpa using hj
  have hL := lay_shift (R := cur.toList) (P := cellsW (l.take i)) (X := [I x.1, S x.2]) (Y := cellsW (l.drop i)) (a := i * 2) (b := (i + 1) * 2) (by rw [hY]; simp [hsz]; omega) (by rw [← cellsW_take, ← htk, List.take_take, Nat.min_eq_left (by omega)]) (by simp; omega)
  generalize hR1 : cur.toList.take ((i + 1) * 2) ++ cellsW (l.drop i) ++ cur.toList.drop ((i + 1) * 2 + (cellsW (l.drop i)).length) = R1 at *
  have hg1 := setRow_heap w.drew g cur R1.toArray 164 _ hg
  have hl1 : R1.length = c * 2 := by rw [← hR1]; simp only [List.length_append, List.length_take, List.length_drop, hY]; simp [hsz]; omega
  obtain ⟨w1, e1⟩ : ∃ w1, w1 = w.drew.setRow g R1.toArray := ⟨_, rfl⟩
  rw [← e1] at hr1 hg1
  have O1 : Only (fun k => (Value.slice (some ⟨g, 0, none⟩) l.length c).ownBlock = some k) w w1 := by
    rw [e1]
    exact ((Only.drewN _ w 1).trans (setRow_only w.drew g _) (fun k _ q => by subst q; rfl))
  have hc1 : ∀ j u, [I x.1, S x.2][j]? = some u → w1.cell? ((⟨vb, 0, none⟩ : Addr).add j) = some u := by
    intro j u hj
    rw [← hcell j u hj, add_at]
    refine World.cell?_of_block (O1.block vb (lt_of_row hv) (fun q => ?_))
    cases q
    exact hne rfl
  have hr2 := run_copyk w1 138 164 3 _ 2 24 Tryz.underlying138 info164 g (i * 2) (l.length + 1 - i) (c - i) ⟨vb, 0, none⟩ 1 1 R1.toArray [I x.1, S x.2] 1 (by show _ = min _ _; omega) hg1 rfl hc1 (by simp [hl1]; omega) (by intro u hu; simp at hu; rcases hu with rfl | rfl <;> rfl)
  obtain ⟨w2, e2⟩ : ∃ w2, w2 = w1.setRow g (R1.toArray.toList.take (i * 2) ++ [I x.1, S x.2] ++ R1.toArray.toList.drop (i * 2 + [I x.1, S x.2].length)).toArray := ⟨_, rfl⟩
  rw [← e2] at hr2
  have HI := hide (show Insd w (.slice (some ⟨g, 0, none⟩) l.length c) (ins l i x) (.slice (some ⟨g, 0, none⟩) (l.length + 1) c) w2 from by
    refine ⟨⟨cellsW_len _, .inr ⟨g, c, _, by rw [ins_len _ _ _ (by omega)], Nat.zero_le _, by rw [e2, setRow_heap w1 g _ _ 164 _ hg1], by rw [ins_len _ _ _ (by omega)]; omega, hcm, ?_, ?_⟩⟩, ?_, fun k hk => .inl hk⟩
    · have := hL.1
      simp at this ⊢
      omega
    · rw [ins_len _ _ _ (by omega), cellsW_ins]
      have := hL.2
      rw [hY, show (i + 1) * 2 + (l.length - i) * 2 = (l.length + 1) * 2 by omega] at this
      simpa using this
    · rw [e2]
      exact O1.trans (setRow_only w1 g _) (fun k _ q => by subst q; rfl))
  have hov : ∀ lb cb, (callFunc 233 #[.slice (some ⟨vb, 0, none⟩) 1 1, .slice (some ⟨g, (i + 1) * 2, none⟩) lb cb]).run Tryz.prog w = .ok (.value (.bool false)) w := fun lb cb => by
    rw [run_callFunc_extern Tryz.func233 (by kernel_rfl) (by kernel_rfl) (by kernel_rfl) (e := Extern.SlicesOverlaps.overlaps #[138, 138] #[4]) (by kernel_rfl),
      Lib.run_overlaps_apart w 138 4 164 Tryz.underlying138 2 Tryz.sizeOf164 ⟨vb, 0, none⟩ ⟨g, (i + 1) * 2, none⟩ 1 1 lb cb hne 164 164 2 (c * 2) (by simp [World.shape?, hv]) (by simp [World.shape?, hg, hsz]) (by omega) (frz hv _) (frz hv _)]
    rfl
  clear hL hcell hc1 hg1 hl1 e1 e2 O1 htk hsz hR1 hY
  generalize ins l i x = L at *
  generalize hn : l.length = n at *
  go_enter Tryz.func208, Tryz.ntmps208
  go_wp2_with (simp only [hov])
  go_region
  go_wp2
  go_ret
  exact ⟨_, rfl, unhide HI⟩
theorem zero_size (z : Value) (n : Nat) : (Builtin.zeroCells z.cells n).size = n * z.cells.size := by simp [Builtin.zeroCells]
theorem wp_copy_run {ops : Array Oper} {rest : List Oper} {o : Oper} {a : Act} {w : World} {Q : Exit → Act → World → Prop} {T : TypeId} (hgd : o.guard = none) (d s : Operand)
    (ho : o.op = .call { callee := .builtin .copy, args := #[d, s], argTypes := #[T, T] }) (v u : Value) (hd : a.eval d = v) (hs : a.eval s = u) (v' : Value) (w' : World)
    (hr : (Builtin.copy_ #[T, T] o.type #[v, u]).run Tryz.prog w = .ok v' w') (h : wpList Tryz.prog ops Q rest (a.put o.dst v') w') : wpList Tryz.prog ops Q (o :: rest) a w := by
  refine wpList_plain hgd fun K hK => ?_
  unfold Oper.wp
  simp only [execOp, ho, resolve, invoke, builtin, Sem.run_bind, Sem.run_pure, Result.andThen_ok, List.map_toArray, List.map_cons, List.map_nil, hd, hs, hr]
  exact hK _ _ h
end Go.Proofs.YtjopnhhdemfniaaGreatDoor
namespace Go.Proofs.YtjopnhhdemfniaaGreatDoor
open Go.RowKit
set_option maxHeartbeats 4000000
set_option maxRecDepth 8000
theorem below_drew {B : Nat} {w w' : World} (h : Below B w w') : Below B w w'.drew := h.trans ⟨rfl, rfl, rfl, Nat.le_refl _, fun _ _ => rfl⟩
theorem insert_grow (g c : Nat) (l : List Wr) (i : Nat) (x : Wr) (vb : Nat) (w : World) (hown : w.ownsRow 0 164 2 (.slice (some ⟨g, 0, none⟩) l.length c) l.length (cellsW l)) (hv : w.heap[vb]? = some (.cells #[I x.1, S x.2] 164 (0, 0))) (hl : l.length ≤ 1000000) (hi : i < l.length) (hroom : c < l.length + 1) :
    Calls Tryz.prog 208 #[.slice (some ⟨g, 0, none⟩) l.length c, I i, .slice (some ⟨vb, 0, none⟩) 1 1] w fun e w' => ∃ V, e = .returned V ∧ Insd w (.slice (some ⟨g, 0, none⟩) l.length c) (ins l i x) V w' := by
  obtain ⟨cur, hg, hlc, hcm, hsz, htk⟩ : ∃ cur, w.heap[g]? = some (.cells cur 164 (0, 0)) ∧ l.length ≤ c ∧ c ≤ maxLen ∧ cur.size = c * 2 ∧ cur.toList.take (l.length * 2) = cellsW l := by
    obtain ⟨g', cap, cur, e, q⟩ := owns_at hown (by omega)
    cases e
    exact ⟨cur, q⟩
  have hcc : c = l.length := by omega
  obtain ⟨i0, hi0, hz0, hz1, hz2⟩ := info_parts info164
  have hT : (cellsW (l.take i)).length = i * 2 := by rw [cellsW_len, List.length_take]; omega
  have hY : (cellsW (l.drop i)).length = (l.length - i) * 2 := by rw [cellsW_len, List.length_drop]
  have hcs : ∀ j u, (cellsW l)[j]? = some u → w.cell? ⟨g, j, none⟩ = some u := fun j u hj => owns_cell hown j u hj
  have hold : (Builtin.firstCells i0.size i (.slice (some ⟨g, 0, none⟩) i c)).run Tryz.prog w.drew = .ok (cellsW (l.take i)).toArray w.drew := by
    rw [hz1]
    refine run_firstCells_some w.drew 2 i ⟨g, 0, none⟩ i c (cellsW (l.take i)) hT (fun j u hj => ?_)
    rw [add_at]
    refine hcs j u ?_
    rw [← cellsW_take, List.getElem?_take] at hj
    split at hj
    · exact hj
    · cases hj
  have hr0 := Lib.run_append_grow_zeros w 138 3 138 164 i0 _ .i64 .i64 Tryz.underlying138 Tryz.underlying3 hi0 hz0 (some ⟨g, 0, none⟩) i c (cellsW (l.take i)) hold (l.length + 1 - i) (by omega) (by rw [hz1]; omega) (by omega) (by omega) (by rw [hz2]; omega) (by rw [hz2]; exact growslice_fits (by omega) (by omega))
  rw [show i + (l.length + 1 - i) = l.length + 1 by omega] at hr0
  have hG1 := grownCap_ge w (l.length + 1) c 164
  have hG2 := grownCap_le_maxLen w (l.length + 1) c 164 (by unfold maxLen; omega)
  generalize grownCap w (l.length + 1) c 164 = G at *
  have hG3 : G ≤ 9223372036854775807 := by unfold maxLen at hG2; omega
  obtain ⟨ROW, hROW⟩ : ∃ ROW : Array Value, ROW = (cellsW (l.take i)).toArray ++ Builtin.zeroCells (Value.agg #[.int .i64 0, .string ⟨#[]⟩]).cells (l.length + 1 - i) ++ Builtin.zeroCells (Value.agg #[.int .i64 0, .string ⟨#[]⟩]).cells (G - (l.length + 1)) := ⟨_, rfl⟩
  rw [← hROW] at hr0
  have hRs : ROW.size = G * 2 := by
    rw [hROW]
    have hz : (Value.agg #[Value.int .i64 0, Value.string ⟨#[]⟩]).cells.size = 2 := rfl
    simp only [Array.size_append, zero_size, hz, List.size_toArray, hT]
    omega
  have hRt : ROW.toList.take (i * 2) = cellsW (l.take i) := by
    rw [hROW]
    simp only [Array.toList_append]
    rw [List.append_assoc, List.take_append_of_le_length (by simp [hT]), List.take_of_length_le (by simp [hT])]
  obtain ⟨w1, e1⟩ : ∃ w1, w1 = w.drew.alloc (.cells ROW 164) := ⟨_, rfl⟩
  rw [← e1] at hr0
  have B1 : Below w.heap.size w w1 := by rw [e1]; exact (below_drew (Below.refl _ _)).alloc (Nat.le_refl _) _
  have hg1 : w1.heap[w.heap.size]? = some (.cells ROW 164 (0, 0)) := by rw [e1]; exact heap_alloc_new w.drew _
  have hr1 := run_copyk w1 138 164 3 _ 2 24 Tryz.underlying138 info164 w.heap.size (i * 2) (l.length + 1 - i) (G - i) ⟨vb, 0, none⟩ 1 1 ROW [I x.1, S x.2] 1 (by show _ = min _ _; omega) hg1 rfl (by
      intro j u hj
      rw [add_at, B1.cell (by exact lt_of_row hv), cell_of_row _ _ j _ 164 (0, 0) hv]
      simpa using hj) (by simp [hRs]; omega) (by intro u hu; simp at hu; rcases hu with rfl | rfl <;> rfl)
  have hL := lay_two (R := ROW.toList) (P := cellsW (l.take i)) (X := [I x.1, S x.2]) (Y := cellsW (l.drop i)) (a := i * 2) (b := (i + 1) * 2) (by rw [hY]; simp [hRs]; omega) hRt (by simp; omega)
  generalize hR1 : ROW.toList.take (i * 2) ++ [I x.1, S x.2] ++ ROW.toList.drop (i * 2 + [I x.1, S x.2].length) = R1 at *
  have hl1 : R1.length = G * 2 := by rw [← hR1]; simp only [List.length_append, List.length_take, List.length_drop]; simp [hRs]; omega
  have hg2 := setRow_heap w1 w.heap.size ROW R1.toArray 164 _ hg1
  obtain ⟨w2, e2⟩ : ∃ w2, w2 = w1.setRow w.heap.size R1.toArray := ⟨_, rfl⟩
  rw [← e2] at hr1 hg2
  have B2 : Below w.heap.size w w2 := by rw [e2]; exact (setRow_only w1 _ _).below B1 B1.size (fun k q => by subst q; omega)
  have hr2 := run_copyk w2.drew 138 164 3 _ 2 24 Tryz.underlying138 info164 w.heap.size ((i + 1) * 2) (l.length - i) (G - (i + 1)) ⟨g, i * 2, none⟩ (l.length - i) (c - i) R1.toArray (cellsW (l.drop i)) (l.length - i) (by show _ = min _ _; omega) hg2 hY (by
      intro j u hj
      rw [add_off]
      show w2.cell? _ = _
      rw [B2.cell (by exact lt_of_row hg)]
      refine hcs _ u ?_
      rwa [← cellsW_drop, List.getElem?_drop] at hj) (by simp [hl1, hY]; omega) (cellsW_one _)
  obtain ⟨w3, e3⟩ : ∃ w3, w3 = w2.drew.setRow w.heap.size (R1.toArray.toList.take ((i + 1) * 2) ++ cellsW (l.drop i) ++ R1.toArray.toList.drop ((i + 1) * 2 + (cellsW (l.drop i)).length)).toArray := ⟨_, rfl⟩
  rw [← e3] at hr2
  have HI := hide (show Insd w (.slice (some ⟨g, 0, none⟩) l.length c) (ins l i x) (.slice (some ⟨w.heap.size, 0, none⟩) (l.length + 1) G) w3 from by
    refine ⟨⟨cellsW_len _, .inr ⟨w.heap.size, G, _, by rw [ins_len _ _ _ (by omega)], Nat.zero_le _, by rw [e3, setRow_heap w2.drew w.heap.size _ _ 164 _ hg2], by rw [ins_len _ _ _ (by omega)]; omega, hG2, ?_, ?_⟩⟩, ?_, fun k hk => .inr (by cases hk; exact Nat.le_refl _)⟩
    · have := hL.1
      simp at this ⊢
      omega
    · rw [ins_len _ _ _ (by omega), cellsW_ins]
      have := hL.2
      rw [hY, show (i + 1) * 2 + (l.length - i) * 2 = (l.length + 1) * 2 by omega] at this
      rw [hY, show (i + 1) * 2 + (l.length - i) * 2 = (l.length + 1) * 2 by omega]
      simpa using this
    · rw [e3]
      exact Only.of_below ((setRow_only w2.drew w.heap.size _).below (below_drew B2) B2.size (fun k q => by subst q; exact Nat.le_refl _)))
  clear hL hg1 hg2 hl1 e1 e2 e3 B1 B2 htk hsz hR1 hY hT hRs hRt hROW hold hcs hi0 hz0 hz1 hz2 hG2
  subst hcc
  generalize ins l i x = L at *
  generalize hn : l.length = n at *
  have hk : ((n : Int) + 1 - (i : Int)) = ((n + 1 - i : Nat) : Int) := by omega
  rw [← hk] at hr0
  clear hk hn hroom hlc hown hg hv hcm
  go_enter Tryz.func208, Tryz.ntmps208
  go_wp2_with (first | (at_builtin; refine Lib.wpList_append_run _ rfl _ _ _ _ rfl _ _ rfl rfl _ _ hr0 ?_) | (refine wp_copy_run rfl (.tmp 43) (.tmp 44) rfl _ _ rfl rfl _ _ hr1 ?_))
  simp only [Act.put, goInt, List.setIfInBounds_toArray, List.set_cons_succ, List.set_cons_zero]
  go_region
  go_wp2
  go_ret
  exact ⟨_, rfl, unhide HI⟩
/-- slices.Insert of one write. -/
theorem insert_any (v : Value) (l : List Wr) (i : Nat) (x : Wr) (vb : Nat) (w : World) (hown : w.ownsRow 0 164 2 v l.length (cellsW l)) (hv : w.heap[vb]? = some (.cells #[I x.1, S x.2] 164 (0, 0))) (hl : l.length ≤ 1000000) (hi : i ≤ l.length) (hne : v.ownBlock ≠ some vb) :
    Calls Tryz.prog 208 #[v, I i, .slice (some ⟨vb, 0, none⟩) 1 1] w fun e w' => ∃ V, e = .returned V ∧ Insd w v (ins l i x) V w' := by
  rcases Nat.lt_or_eq_of_le hi with q | q
  · obtain ⟨g, cap, cur, rfl, _⟩ := owns_at hown (by omega)
    by_cases hr : l.length + 1 ≤ cap
    · exact insert_shift g cap l i x vb w hown hv hl q hr (fun e => hne (by subst e; rfl))
    · exact insert_grow g cap l i x vb w hown hv hl q (by omega)
  · subst q
    exact insert_end v l x vb w hown hv hl
end Go.Proofs.YtjopnhhdemfniaaGreatDoor
namespace Go.Proofs.YtjopnhhdemfniaaGreatDoor
open Go.RowKit
set_option maxHeartbeats 4000000
set_option maxRecDepth 8000
/-- The write of a block, in the place of an earlier one, or at its place. -/
def putW : List Wr → Nat → Bs → List Wr
  | [], b, s => [(b, s)]
  | x :: l, b, s => if x.1 < b then x :: putW l b s else if x.1 = b then (b, s) :: l else (b, s) :: x :: l
theorem putW_set (l : List Wr) (b i : Nat) (s : Bs) (hp : Plc l b i) (h : hit l b i = true) : l.set i (b, s) = putW l b s := by
  induction l generalizing i with
  | nil => simp [hit] at h
  | cons x l ih =>
    obtain ⟨h1, h2⟩ : i < (x :: l).length ∧ ((x :: l).getD i (0, [])).1 = b := by simpa [hit] using h
    cases i with
    | zero =>
      have e : x.1 = b := h2
      simp [putW, e]
    | succ i =>
      have e : x.1 < b := hp.2.1 0 (by omega)
      simp only [putW, if_pos e, List.set_cons_succ]
      rw [ih i ⟨by have := hp.1; simp at this; omega, fun t ht => hp.2.1 (t + 1) (by omega), fun t h3 h4 => hp.2.2 (t + 1) (by omega) (by simp; omega)⟩ (by simp only [hit, Bool.and_eq_true, decide_eq_true_eq]; exact ⟨by simpa using h1, h2⟩)]
theorem putW_ins (l : List Wr) (b i : Nat) (s : Bs) (hp : Plc l b i) (h : hit l b i = false) : ins l i (b, s) = putW l b s := by
  induction l generalizing i with
  | nil =>
    have := hp.1
    simp at this
    subst this
    rfl
  | cons x l ih =>
    cases i with
    | zero =>
      have h1 : b ≤ x.1 := hp.2.2 0 (by omega) (by simp)
      have h2 : x.1 ≠ b := by
        intro e
        have : hit (x :: l) b 0 = true := by simp [hit, e]
        rw [this] at h
        cases h
      have n1 : ¬ x.1 < b := by omega
      simp [putW, n1, h2, ins]
    | succ i =>
      have e : x.1 < b := hp.2.1 0 (by omega)
      simp only [putW, if_pos e]
      have hle : i ≤ l.length := by have := hp.1; simp at this; omega
      have := ih i ⟨hle, fun t ht => hp.2.1 (t + 1) (by omega), fun t h3 h4 => hp.2.2 (t + 1) (by omega) (by simp; omega)⟩ (by
        rw [← h]
        unfold hit
        simp only [List.length_cons, List.getD_cons_succ]
        by_cases q : i < l.length
        · simp [q]
        · simp [q])
      rw [← this]
      rfl
theorem fnd_cons (x : Wr) (l : List Wr) (b : Nat) : fnd (x :: l) b = if x.1 = b then some x.2 else fnd l b := by
  unfold fnd
  rw [List.find?_cons]
  by_cases h : x.1 = b
  · simp [h]
  · have : (x.1 == b) = false := by simpa using h
    rw [this, if_neg h]
theorem Srt.tail {x : Wr} {l : List Wr} (h : Srt (x :: l)) : Srt l := fun i j hij hj => h (i + 1) (j + 1) (by omega) (by simp; omega)
theorem Srt.head {x : Wr} {l : List Wr} (h : Srt (x :: l)) : ∀ y ∈ l, x.1 < y.1 := by
  intro y hy
  obtain ⟨j, hj, rfl⟩ := List.getElem_of_mem hy
  have := h 0 (j + 1) (by omega) (by simp; omega)
  simpa [hj] using this
theorem Srt.cons {x : Wr} {l : List Wr} (h : Srt l) (hx : ∀ y ∈ l, x.1 < y.1) : Srt (x :: l) := by
  intro i j hij hj
  cases j with
  | zero => omega
  | succ j =>
    have hj' : j < l.length := by simpa using hj
    cases i with
    | zero => exact hx _ (mem_getD hj')
    | succ i => exact h i j (by omega) hj'
theorem putW_mem {l : List Wr} {b : Nat} {s : Bs} {y : Wr} (h : y ∈ putW l b s) : y = (b, s) ∨ y ∈ l := by
  induction l with
  | nil => simp [putW] at h; exact .inl h
  | cons x l ih =>
    unfold putW at h
    split at h
    · rcases List.mem_cons.1 h with q | q
      · exact .inr (by simp [q])
      · exact (ih q).imp id (fun r => List.mem_cons_of_mem _ r)
    · split at h
      · rcases List.mem_cons.1 h with q | q
        · exact .inl q
        · exact .inr (List.mem_cons_of_mem _ q)
      · rcases List.mem_cons.1 h with q | q
        · exact .inl q
        · exact .inr q
theorem putW_srt {l : List Wr} {b : Nat} {s : Bs} (h : Srt l) : Srt (putW l b s) := by
  induction l with
  | nil => intro i j h1 h2; simp [putW] at h2; omega
  | cons x l ih =>
    unfold putW
    split
    · rename_i q
      refine (ih h.tail).cons (fun y hy => ?_)
      rcases putW_mem hy with r | r
      · rw [r]; exact q
      · exact h.head y r
    · rename_i q1
      split
      · rename_i q
        exact h.tail.cons (fun y hy => by have := h.head y hy; show b < y.1; omega)
      · rename_i q
        refine h.cons (fun y hy => ?_)
        show b < y.1
        rcases List.mem_cons.1 hy with r | r
        · rw [r]; omega
        · have := h.head y r
          omega
theorem putW_fnd (l : List Wr) (b c : Nat) (s : Bs) : fnd (putW l b s) c = if c = b then some s else fnd l c := by
  induction l with
  | nil =>
    simp only [putW, fnd_cons]
    by_cases h : c = b
    · subst h; simp
    · rw [if_neg (fun e => h e.symm), if_neg h]
  | cons x l ih =>
    unfold putW
    split
    · rename_i q
      rw [fnd_cons, ih, fnd_cons]
      by_cases h : c = b
      · subst h
        rw [if_neg (by omega), if_pos rfl, if_pos rfl]
      · rw [if_neg h, if_neg h]
    · split
      · rename_i q1 q2
        rw [fnd_cons, fnd_cons]
        by_cases h : c = b
        · subst h; simp
        · rw [if_neg (show ¬ b = c from fun e => h e.symm), if_neg h, if_neg (by omega)]
      · rename_i q1 q2
        rw [fnd_cons]
        by_cases h : c = b
        · subst h; simp
        · rw [if_neg (show ¬ b = c from fun e => h e.symm), if_neg h]
def Ds.put (d : Ds) (b : Nat) (s : Bs) : Ds := { d with ws := putW d.ws b s }
theorem Ok.put {d : Ds} (h : Ok d) {b : Nat} {s : Bs} (hb : b < d.last.length) (hs : s.length = 512) : Ok (d.put b s) :=
  ⟨putW_srt h.srt, fun x hx => by
    rcases putW_mem hx with r | r
    · rw [r]; exact ⟨hb, hs⟩
    · exact h.lt x r, h.sz, h.len, h.fuse⟩
end Go.Proofs.YtjopnhhdemfniaaGreatDoor
namespace Go.Proofs.YtjopnhhdemfniaaGreatDoor
open Go.RowKit
set_option maxHeartbeats 4000000
set_option maxRecDepth 8000
theorem cellsW_set (l : List Wr) (i : Nat) (x : Wr) (hi : i < l.length) : ((cellsW l).set (i * 2) (I x.1)).set (i * 2 + 1) (S x.2) = cellsW (l.set i x) := by
  induction l generalizing i with
  | nil => simp at hi
  | cons y l ih =>
    cases i with
    | zero => rfl
    | succ i =>
      rw [show (i + 1) * 2 = i * 2 + 1 + 1 by omega]
      show I y.1 :: S y.2 :: (((cellsW l).set (i * 2) (I x.1)).set (i * 2 + 1) (S x.2)) = I y.1 :: S y.2 :: cellsW (l.set i x)
      rw [ih i (by simpa using hi)]
/-- Behind an Insert the disk's own block stands as it stood. -/
theorem ins_facts {D : Nat} {d : Ds} {vw vl V : Value} {w W w' : World} {l : List Wr} {o : Obj} (h : DAt D d vw vl w) (hi : Insd (W.alloc o) vw l V w') (e : W.heap = w.heap) : w'.heap[D]? = some (.cells (dcs d vw vl) 153 (0, 0)) := by
  have e2 : W.heap.size = w.heap.size := by rw [e]
  have hl := h.lt
  rw [hi.2.1.block D (by simp; omega) (fun q => h.nw D q rfl), heap_alloc_old _ _ (by omega), e]
  exact h.blk
/-- And its list is laid into it. -/
theorem ins_put {D : Nat} {d : Ds} {vw vl V : Value} {w0 w W w' : World} {l : List Wr} {o : Obj} (h : DAt D d vw vl w) (hi : Insd (W.alloc o) vw l V w') (e : W.heap = w.heap) (hb : Below w0.heap.size w0 (W.alloc o)) :
    DAt D { d with ws := l } V vl (w'.setCell ⟨D, 0, none⟩ V) ∧ Only (fun k => k = D ∨ vw.ownBlock = some k) w0 (w'.setCell ⟨D, 0, none⟩ V) ∧ (∀ k, V.ownBlock = some k → vw.ownBlock = some k ∨ w0.heap.size ≤ k) := by
  have hls : w'.ownsRow 0 9 1 vl d.last.length (d.last.map S) := by
    refine owns_same h.ls (fun k hk => ?_)
    have e2 : W.heap.size = w.heap.size := by rw [e]
    have hl := owns_blk h.ls k hk
    rw [hi.2.1.block k (by simp; omega) (fun q => h.wl k q hk), heap_alloc_old _ _ (by omega), e]
  have hd : ∀ {n m : Nat} {t : Nat} {v : Value} {xs : List Value}, w'.ownsRow 0 t n v m xs → t ≠ 153 → ∀ k, v.ownBlock = some k → k ≠ D := by
    intro n m t v xs hv ht k hk q
    obtain ⟨cs, q2⟩ := owns_lt hv k hk
    rw [q, ins_facts h hi e] at q2
    cases q2
    exact ht rfl
  refine ⟨⟨?_, owns_only hi.1 (Only.setCell w' ⟨D, 0, none⟩ V) (hd hi.1 (by decide)), owns_only hls (Only.setCell w' ⟨D, 0, none⟩ V) (hd hls (by decide))⟩, ?_, fun k hk => ?_⟩
  · rw [heap_setCell_same w' D 0 _ 153 V (ins_facts h hi e)]
    rfl
  · exact ((Only.of_below hb).trans hi.2.1 (fun k _ q => Or.inr q)).put ⟨D, 0, none⟩ V (Or.inl (Or.inl rfl))
  · rcases hi.2.2 k hk with q | q
    · exact .inl q
    · exact .inr (Nat.le_trans hb.size q)
theorem put_any {D : Nat} {d : Ds} {vw vl : Value} {w : World} (h : DAt D d vw vl w) (ho : Ok d) (b : Nat) (s : Bs) (hs : s.length = 512) :
    Calls Tryz.prog 165 #[ptr D, I b, S s] w fun e w' => e = .returned (.tuple #[]) ∧ ∃ vw', DAt D (d.put b s) vw' vl w' ∧ Only (fun k => k = D ∨ vw.ownBlock = some k) w w' ∧ (∀ k, vw'.ownBlock = some k → vw.ownBlock = some k ∨ w.heap.size ≤ k) := by
  have H0 := hide (clone_any s w (by omega))
  have HD := hide h
  have HO := hide ho
  clear h ho
  go_enter Tryz.func165, Tryz.ntmps165
  go_wp2_with fail
  refine (unhide H0).mono ?_
  rintro e w1 ⟨rfl, b1⟩
  have h1 := (unhide HD).below b1
  have ba := b1.trans (((Below.refl w1.heap.size w1).alloc (Nat.le_refl _) (.cells #[I b, S s] 164)).mono b1.size)
  have h2 := (unhide HD).below ba
  have x2 := heap_alloc_new w1 (.cells #[I b, S s] 164)
  have hs1 : w.heap.size ≤ w1.heap.size := b1.size
  have H1 := hide (place_any h2 (unhide HO).srt (by have := (unhide HO).few; omega) b)
  have X2 := hide (And.intro ba x2)
  clear h1 h2 ba x2 b1 H0
  go_wp2_with fail
  refine (unhide H1).mono ?_
  clear H1
  rintro e w3 ⟨i, hp, rfl, b3⟩
  obtain ⟨ba, x2⟩ := unhide X2
  have b4 := ba.trans (b3.mono ba.size)
  have h3 := (unhide HD).below b4
  have x3 := (b3.block _ (lt_of_row x2)).trans x2
  have y0 : w3.cell? ⟨w1.heap.size, 0, none⟩ = some (I b) := cell_of_row w3 _ 0 _ 164 (0, 0) x3
  have y1 : w3.cell? ⟨w1.heap.size, 1, none⟩ = some (S s) := cell_of_row w3 _ 1 _ 164 (0, 0) x3
  obtain ⟨c0, c1, c2, c3, c4⟩ := h3.c
  have hl := h3.lt
  have hlx := lt_of_row x3
  cases hh : hit d.ws b i with
  | true =>
    obtain ⟨hi1, _⟩ : i < d.ws.length ∧ (d.ws.getD i (0, [])).1 = b := by simpa [hit] using hh
    obtain ⟨g, cap, cur, rfl, hg, _⟩ := owns_at h3.ws (by omega)
    have hi2 : (i : Int) < (d.ws.length : Int) := by omega
    obtain ⟨q0, q1⟩ := cellsW_at d.ws i hi1
    have u0 := owns_cell h3.ws _ _ q0
    have u1 := owns_cell h3.ws _ _ q1
    have o1 := owns_set h3.ws (i * 2) (I b)
    have o2 := owns_set o1 (i * 2 + 1) (S s)
    rw [cellsW_set d.ws i (b, s) hi1, putW_set d.ws b i s hp hh] at o2
    have hz0 := frz hg (i * 2)
    have hz1 := frz hg (i * 2 + 1)
    have hgl := lt_of_row hg
    have O3 : Only (fun k => k = D ∨ (Value.slice (some ⟨g, 0, none⟩) d.ws.length cap).ownBlock = some k) w ((w3.drew.setCell ⟨g, i * 2, none⟩ (I b)).setCell ⟨g, i * 2 + 1, none⟩ (S s)) :=
      ((Only.of_below (below_drew b4)).put ⟨g, i * 2, none⟩ (I b) (Or.inl (Or.inr rfl))).put ⟨g, i * 2 + 1, none⟩ (S s) (Or.inl (Or.inr rfl))
    have hD : DAt D (d.put b s) (.slice (some ⟨g, 0, none⟩) d.ws.length cap) vl ((w3.drew.setCell ⟨g, i * 2, none⟩ (I b)).setCell ⟨g, i * 2 + 1, none⟩ (S s)) := by
      have hgD := h3.nw g rfl
      have hgL := h3.wl g rfl
      refine ⟨?_, ?_, ?_⟩
      · rw [heap_setCell_other _ _ _ _ (fun q => hgD q.symm), heap_setCell_other _ _ _ _ (fun q => hgD q.symm)]
        exact h3.blk
      · have hlen : (putW d.ws b s).length = d.ws.length := by rw [← putW_set d.ws b i s hp hh]; simp
        show World.ownsRow _ 0 164 2 _ (putW d.ws b s).length _
        rw [hlen]
        exact o2
      · refine owns_same h3.ls (fun k hk => ?_)
        have hne : k ≠ g := fun q => hgL (by rw [← q]; exact hk)
        rw [heap_setCell_other _ _ _ _ hne, heap_setCell_other _ _ _ _ hne]
        rfl
    have HF := hide (And.intro hD O3)
    clear hD O3 o1 o2 q0 q1 hg h3 x3 b3 b4 ba x2 hp hh X2 HD HO
    generalize d.ws.length = n at *
    go_wp2
    go_region
    go_wp2
    refine bodyPost_ret (results_none rfl _ _ _) rfl ?_
    exact ⟨rfl, _, (unhide HF).1, (unhide HF).2, fun k hk => .inl hk⟩
  | false =>
    have hne : vw.ownBlock ≠ some w3.heap.size := fun q => by have := owns_blk h3.ws _ q; omega
    have hI := fun (W : World) (e : W.heap = w3.heap) => insert_any vw d.ws i (b, s) w3.heap.size (W.alloc (.cells #[I b, S s] 164)) (owns_alloc (owns_same h3.ws (fun k _ => by rw [e])) _) (by
      have := heap_alloc_new W (.cells #[I b, S s] 164)
      rwa [show W.heap.size = w3.heap.size by rw [e]] at this) (by have := (unhide HO).few; omega) hp.1 hne
    have HI := hide hI
    have HX := hide (And.intro h3 (And.intro b4 (putW_ins d.ws b i s hp hh)))
    obtain ⟨p, cap, rfl⟩ := owns_form h3.ws
    clear hI h3 x3 b3 b4 ba x2 hp hh X2 HD HO
    go_wp2
    go_region_with (refine (unhide HI w3.drew rfl).mono ?_; rintro e w5 ⟨V, rfl, hins⟩; obtain ⟨p5, cap5, rfl⟩ := owns_form hins.1; have x5 := ins_facts (unhide HX).1 hins rfl; have d5 := cell_of_row w5 D 0 _ 153 (0, 0) x5; have z5 := frz x5 0; have HV := hide hins; have e5 := lt_of_row x5; clear hins x5)
    all_goals go_end0
    all_goals
      obtain ⟨h3, b4, ep⟩ := unhide HX
      obtain ⟨r1, r2, r3⟩ := ins_put (w0 := w) h3 (unhide HV) rfl ((below_drew b4).alloc b4.size _)
      rw [ep] at r1 r2 r3 ⊢
      exact ⟨rfl, _, r1, r2, r3⟩
/-- Write. -/
def writev (d : Ds) (b : Int) (s : Bs) : Int := if s.length ≠ 512 then 81 else if reachv d b ≠ 0 then reachv d b else actv d
def Ds.write (d : Ds) (b : Int) (s : Bs) : Ds := if s.length ≠ 512 then d else if reachv d b ≠ 0 then d else if actv d ≠ 0 then d.act else d.act.put b.toNat s
theorem Ok.act {d : Ds} (h : Ok d) : Ok d.act := by
  unfold Ds.act
  split
  · exact ⟨h.srt, h.lt, h.sz, h.len, h.fuse⟩
  · refine ⟨h.srt, h.lt, h.sz, h.len, ?_⟩
    have := h.fuse
    show 0 ≤ max (d.fuse - 1) 0 ∧ max (d.fuse - 1) 0 ≤ 9223372036854775807
    omega
theorem act_last (d : Ds) : d.act.last = d.last := by unfold Ds.act; split <;> rfl
theorem act_ws (d : Ds) : d.act.ws = d.ws := by unfold Ds.act; split <;> rfl
theorem Ok.write {d : Ds} (h : Ok d) (b : Int) (s : Bs) : Ok (d.write b s) := by
  unfold Ds.write
  split
  · exact h
  · rename_i q
    split
    · exact h
    · rename_i r
      have hr := reach_ok (show reachv d b = 0 by simpa using r)
      split
      · exact h.act
      · exact h.act.put (by rw [act_last]; omega) (by simpa using q)
end Go.Proofs.YtjopnhhdemfniaaGreatDoor
namespace Go.Proofs.YtjopnhhdemfniaaGreatDoor
open Go.RowKit
set_option maxHeartbeats 4000000
set_option maxRecDepth 8000
theorem write_any {D : Nat} {d : Ds} {vw vl : Value} {w : World} (h : DAt D d vw vl w) (ho : Ok d) (ha : 0 ≤ d.acts ∧ d.acts ≤ 1000000000000000000) (b : Int) (s : Bs) :
    Calls Tryz.prog 89 #[ptr D, I b, S s] w fun e w' => e = .returned (I (writev d b s)) ∧ ∃ vw', DAt D (d.write b s) vw' vl w' ∧ Only (fun k => k = D ∨ vw.ownBlock = some k) w w' ∧ (∀ k, vw'.ownBlock = some k → vw.ownBlock = some k ∨ w.heap.size ≤ k) := by
  have H0 := hide (fun W => wrongSize_any s W)
  have H1 := hide (reach_any h b)
  have H2 := hide (act_any h ho.fuse ha)
  have HD := hide h
  have HO := hide ho
  unfold writev Ds.write
  clear h ho ha
  by_cases hs : s.length = 512
  · have e0 : decide (s.length ≠ 512) = false := by simp [hs]
    have n0 : ¬ s.length ≠ 512 := by simpa using hs
    rw [e0] at H0
    rw [if_neg n0, if_neg n0]
    by_cases hr : reachv d b = 0
    · obtain ⟨r1, r2, r3⟩ := reach_ok hr
      have n1 : ¬ reachv d b ≠ 0 := by simpa using hr
      rw [if_neg n1, if_neg n1]
      rw [hr] at H1
      clear n0 n1
      obtain ⟨c, rfl⟩ : ∃ c : Nat, b = (c : Int) := ⟨b.toNat, by omega⟩
      by_cases ht : actv d = 0
      · rw [ht] at H2
        have n2 : ¬ actv d ≠ 0 := by simpa using ht
        rw [if_neg n2, ht]
        simp only [Int.toNat_natCast]
        clear n2
        go_enter Tryz.func89, Tryz.ntmps89
        go_wp2_with fail
        refine (unhide H0 _).mono ?_
        rintro e w0 ⟨rfl, rfl⟩
        go_wp2_with fail
        refine (unhide H1).mono ?_
        rintro e w0 ⟨rfl, rfl⟩
        go_wp2_with fail
        refine (unhide H2).mono ?_
        rintro e w2 ⟨rfl, h2, o2⟩
        have hl2 := h2.lt
        have H3 := hide (put_any h2 (unhide HO).act c s hs)
        have O2 := hide o2
        clear h2 o2
        go_wp2_with fail
        refine (unhide H3).mono ?_
        rintro e w3 ⟨rfl, vw', h3, o3, n3⟩
        have HF := hide (And.intro h3 (And.intro (((unhide O2).mono (Q := fun k => k = D ∨ vw.ownBlock = some k) (fun _ _ q => Or.inl q)).trans o3 (fun _ _ q => q)) (fun k hk => (n3 k hk).imp id (fun q => Nat.le_trans (unhide O2).size q))))
        clear h3 o3 n3
        go_wp2
        go_ret
        exact ⟨rfl, vw', unhide HF⟩
      · have n2 : actv d ≠ 0 := ht
        rw [if_pos n2]
        generalize actv d = r at *
        go_enter Tryz.func89, Tryz.ntmps89
        go_wp2_with fail
        refine (unhide H0 _).mono ?_
        rintro e w0 ⟨rfl, rfl⟩
        go_wp2_with fail
        refine (unhide H1).mono ?_
        rintro e w0 ⟨rfl, rfl⟩
        go_wp2_with fail
        refine (unhide H2).mono ?_
        rintro e w2 ⟨rfl, h2, o2⟩
        have HF := hide (And.intro h2 (o2.mono (Q := fun k => k = D ∨ vw.ownBlock = some k) (fun _ _ q => Or.inl q)))
        clear h2 o2
        go_wp2
        go_ret
        exact ⟨rfl, vw, (unhide HF).1, (unhide HF).2, fun k hk => .inl hk⟩
    · have n1 : reachv d b ≠ 0 := hr
      rw [if_pos n1, if_pos n1]
      clear n1 n0
      generalize reachv d b = r at *
      go_enter Tryz.func89, Tryz.ntmps89
      go_wp2_with fail
      refine (unhide H0 _).mono ?_
      rintro e w0 ⟨rfl, rfl⟩
      go_wp2_with fail
      refine (unhide H1).mono ?_
      rintro e w0 ⟨rfl, rfl⟩
      go_wp2
      go_ret
      exact ⟨rfl, vw, unhide HD, Only.refl _ _, fun k hk => .inl hk⟩
  · have e0 : decide (s.length ≠ 512) = true := by simp [hs]
    have n0 : s.length ≠ 512 := hs
    rw [e0] at H0
    rw [if_pos n0, if_pos n0]
    clear n0
    go_enter Tryz.func89, Tryz.ntmps89
    go_wp2_with fail
    refine (unhide H0 _).mono ?_
    rintro e w0 ⟨rfl, rfl⟩
    go_wp2
    go_ret
    exact ⟨rfl, vw, unhide HD, Only.refl _ _, fun k hk => .inl hk⟩
end Go.Proofs.YtjopnhhdemfniaaGreatDoor
namespace Go.Proofs.YtjopnhhdemfniaaGreatDoor
open Go.RowKit
set_option maxHeartbeats 4000000
set_option maxRecDepth 8000
/-- A sector. -/
def sect (s : Nat) (x : Bs) : Bs := (x.drop (64 * s)).take 64
def inSet (set s : Nat) : Bool := set / 2 ^ s % 2 == 1
def tornK (last now : Bs) (set k : Nat) : Bs := (List.range k).flatMap (fun s => sect s (if inSet set s then now else last))
/-- Of what lasted and what was written, sector by sector. -/
def tornv (last now : Bs) (set : Nat) : Bs := tornK last now set 8
theorem tornK_next (last now : Bs) (set k : Nat) : tornK last now set (k + 1) = tornK last now set k ++ sect k (if inSet set k then now else last) := by
  simp [tornK, List.range_succ]
theorem sect_len (s : Nat) (x : Bs) (hx : x.length = 512) (hs : s < 8) : (sect s x).length = 64 := by
  simp [sect, hx]
  omega
theorem tornK_len (last now : Bs) (set k : Nat) (h1 : last.length = 512) (h2 : now.length = 512) (hk : k ≤ 8) : (tornK last now set k).length = 64 * k := by
  induction k with
  | zero => rfl
  | succ k ih =>
    rw [tornK_next, List.length_append, ih (by omega), sect_len _ _ (by split <;> assumption) (by omega)]
    omega
theorem extract_eq (x : Bs) (i j : Nat) : (⟨x.toArray⟩ : ByteArray).extract i j = ⟨((x.drop i).take (j - i)).toArray⟩ := by
  apply ByteArray.ext
  apply Array.ext'
  simp [ByteArray.extract, ByteArray.copySlice, List.extract]
theorem slice_sect (x : Bs) (k : Nat) (hx : x.length = 512) (hk : k < 8) (w : World) : (Instr.slice 9 (S x) (some (.int .i64 (64 * (k : Int)))) (some (.int .i64 (64 * (k : Int) + 64))) none).run Tryz.prog w = .ok (S (sect k x)) w := by
  have := run_slice_string (P := Tryz.prog) w 9 ⟨x.toArray⟩ .i64 .i64 (64 * (k : Int)) (64 * (k : Int) + 64) Tryz.underlying9 (by omega) (by omega) (by simp [ByteArray.size, hx]; omega)
  rw [this, show (64 * (k : Int)).toNat = 64 * k by omega, show (64 * (k : Int) + 64).toNat = 64 * k + 64 by omega, extract_eq]
  simp [sect]
theorem wp_strsl {ops : Array Oper} {rest : List Oper} {o : Oper} {a : Act} {w : World} {Q : Exit → Act → World → Prop} (hgd : o.guard = none) (x l h : Operand) (ho : o.op = .slice 9 x (some l) (some h) none) (v lv hv r : Value) (hx : a.eval x = v) (hl : a.eval l = lv) (hh : a.eval h = hv)
    (hr : (Instr.slice 9 v (some lv) (some hv) none).run Tryz.prog w = .ok r w) (hn : wpList Tryz.prog ops Q rest (a.put o.dst r) w) : wpList Tryz.prog ops Q (o :: rest) a w := by
  refine wpList_plain hgd fun K hK => ?_
  have hr2 : (Instr.sliceAt 9 v (some lv) (some hv) none).run Tryz.prog w = .ok r w := by
    unfold Instr.sliceAt
    simp only [Sem.run_bind, run_underlying Tryz.underlying9, Result.andThen_ok]
    exact hr
  unfold Oper.wp execOp
  simp only [ho, Sem.run_bind, Sem.run_pure, Result.andThen_ok, Option.map_some, Option.map_none, hx, hl, hh, hr2]
  exact hK _ _ hn
end Go.Proofs.YtjopnhhdemfniaaGreatDoor
namespace Go.Proofs.YtjopnhhdemfniaaGreatDoor
open Go.RowKit
set_option maxHeartbeats 4000000
set_option maxRecDepth 8000
def isS (n : Int) : Bool := decide (0 ≤ n) && decide (n < 256)
theorem isSet_any (n : Int) (w : World) : Calls Tryz.prog 184 #[I n] w fun e w' => e = .returned (.bool (isS n)) ∧ w' = w := by
  unfold isS
  by_cases h1 : 0 ≤ n
  · by_cases h2 : n < 256
    · go_enter Tryz.func184, Tryz.ntmps184
      go_wp2
      go_ret
      exact ⟨ret_bool (by simp <;> omega), rfl⟩
    · go_enter Tryz.func184, Tryz.ntmps184
      go_wp2
      go_ret
      exact ⟨ret_bool (by simp <;> omega), rfl⟩
  · go_enter Tryz.func184, Tryz.ntmps184
    go_wp2
    go_ret
    exact ⟨ret_bool (by simp <;> omega), rfl⟩
abbrev Kp := Int × Int
/-- Keeps in memory. -/
def Kls (w : World) (a : Option Addr) (n : Nat) (l : List Kp) : Prop :=
  n = l.length ∧ (0 < n → ∃ p o, a = some ⟨p, o, none⟩ ∧ ∀ j, j < n → w.cell? ⟨p, o + j * 2, none⟩ = some (I (l.getD j (0, 0)).1) ∧ w.cell? ⟨p, o + j * 2 + 1, none⟩ = some (I (l.getD j (0, 0)).2))
theorem Kls.at {w : World} {a : Option Addr} {n : Nat} {l : List Kp} (h : Kls w a n l) {j : Nat} (hj : j < n) : ∃ p o, a = some ⟨p, o, none⟩ ∧ p < w.heap.size ∧ w.cell? ⟨p, o + j * 2, none⟩ = some (I (l.getD j (0, 0)).1) ∧ w.cell? ⟨p, o + j * 2 + 1, none⟩ = some (I (l.getD j (0, 0)).2) := by
  obtain ⟨p, o, e, hc⟩ := h.2 (by omega)
  exact ⟨p, o, e, blk_lt (hc j hj).1, (hc j hj).1, (hc j hj).2⟩
theorem Kls.below {w w' : World} {a : Option Addr} {n : Nat} {l : List Kp} (h : Kls w a n l) (hb : Below w.heap.size w w') : Kls w' a n l := by
  refine ⟨h.1, fun hn => ?_⟩
  obtain ⟨p, o, e, hc⟩ := h.2 hn
  exact ⟨p, o, e, fun j hj => ⟨(hb.cell (by exact blk_lt (hc j hj).1)).trans (hc j hj).1, (hb.cell (by exact blk_lt (hc j hj).2)).trans (hc j hj).2⟩⟩
/-- Which sectors are to stay of each pending write: none that was not named. -/
abbrev St := List (Option Nat)
def stp (st : St) (k : Kp) : Option St := if k.1 < 0 then none else if (st.length : Int) ≤ k.1 then none else if (st.getD k.1.toNat none).isSome then none else if isS k.2 = false then none else some (st.set k.1.toNat (some k.2.toNat))
def stps (st : St) : List Kp → Option St
  | [] => some st
  | k :: l => match stp st k with | none => none | some s => stps s l
theorem stps_append (st : St) (a b : List Kp) : stps st (a ++ b) = match stps st a with | none => none | some s => stps s b := by
  induction a generalizing st with
  | nil => rfl
  | cons k a ih =>
    simp only [List.cons_append, stps]
    cases stp st k with
    | none => rfl
    | some s => exact ih s
theorem stps_next (st : St) (l : List Kp) (k : Nat) (hk : k < l.length) : stps st (l.take (k + 1)) = match stps st (l.take k) with | none => none | some s => stp s (l.getD k (0, 0)) := by
  have e : l.getD k (0, 0) = l[k] := by simp [hk]
  rw [List.take_succ_eq_append_getElem hk, stps_append, e]
  cases stps st (l.take k) with
  | none => rfl
  | some s =>
    simp only [stps]
    cases stp s l[k] <;> rfl
theorem stps_bad (st : St) (l : List Kp) (k : Nat) (h : stps st (l.take k) = none) : stps st l = none := by
  have := stps_append st (l.take k) (l.drop k)
  rw [List.take_append_drop, h] at this
  exact this
def cellsN (st : St) : List Value := st.map fun o => I (o.getD 0 : Nat)
def cellsB (st : St) : List Value := st.map fun o => .bool o.isSome
theorem cellsN_set (st : St) (i m : Nat) : (cellsN st).set i (I m) = cellsN (st.set i (some m)) := by simp [cellsN, List.map_set]
theorem cellsB_set (st : St) (i m : Nat) : (cellsB st).set i (.bool true) = cellsB (st.set i (some m)) := by simp [cellsB, List.map_set]
theorem cellsN_at (st : St) (i : Nat) (h : i < st.length) : (cellsN st)[i]? = some (I ((st.getD i none).getD 0 : Nat)) := by simp [cellsN, h]
theorem cellsB_at (st : St) (i : Nat) (h : i < st.length) : (cellsB st)[i]? = some (.bool (st.getD i none).isSome) := by simp [cellsB, h]
theorem made3 (m : Nat) : (madeCells (Value.int .i64 0).cells (m * 1)).toList = cellsN (List.replicate m none) := by
  rw [show (Value.int .i64 0).cells = #[I 0] from rfl, Nat.mul_one]
  unfold madeCells
  apply List.ext_getElem
  · simp [cellsN]
  · intro i h1 h2
    simp [Nat.mod_one, cellsN]
theorem made4 (m : Nat) : (madeCells (Value.bool false).cells (m * 1)).toList = cellsB (List.replicate m none) := by
  rw [show (Value.bool false).cells = #[.bool false] from rfl, Nat.mul_one]
  unfold madeCells
  apply List.ext_getElem
  · simp [cellsB]
  · intro i h1 h2
    simp [Nat.mod_one, cellsB]
/-- Between two keeps. -/
structure Sts2 (w : World) (g1 g2 n : Nat) (st : St) (W : World) : Prop where
  r1 : W.ownsRow 0 3 1 (.slice (some ⟨g1, 0, none⟩) n n) n (cellsN st)
  r2 : W.ownsRow 0 4 1 (.slice (some ⟨g2, 0, none⟩) n n) n (cellsB st)
  len : st.length = n
  h1 : w.heap.size ≤ g1
  h2 : w.heap.size ≤ g2
  bel : Below w.heap.size w W
theorem Sts2.ne {w W : World} {g1 g2 n : Nat} {st : St} (h : Sts2 w g1 g2 n st W) : g1 ≠ g2 := by
  intro e
  obtain ⟨c1, q1⟩ := owns_lt h.r1 g1 rfl
  obtain ⟨c2, q2⟩ := owns_lt h.r2 g2 rfl
  rw [e, q2] at q1
  cases q1
theorem Sts2.below {w W W' : World} {g1 g2 n : Nat} {st : St} (h : Sts2 w g1 g2 n st W) (b : Below W.heap.size W W') : Sts2 w g1 g2 n st W' :=
  ⟨owns_below h.r1 b, owns_below h.r2 b, h.len, h.h1, h.h2, h.bel.trans (b.mono h.bel.size)⟩
theorem Sts2.set {w W : World} {g1 g2 n : Nat} {st : St} (h : Sts2 w g1 g2 n st W) (i m : Nat) : Sts2 w g1 g2 n (st.set i (some m)) ((W.setCell ⟨g1, i, none⟩ (I m)).setCell ⟨g2, i, none⟩ (.bool true)) := by
  have o1 := owns_set h.r1 i (I m)
  have o2 := owns_only h.r2 (Only.setCell W ⟨g1, i, none⟩ (I m)) (fun k hk q => by cases hk; exact h.ne q.symm)
  have o3 := owns_set o2 i (.bool true)
  have o4 := owns_only o1 (Only.setCell (W.setCell ⟨g1, i, none⟩ (I m)) ⟨g2, i, none⟩ (.bool true)) (fun k hk q => by cases hk; exact h.ne q)
  rw [cellsN_set] at o4
  rw [cellsB_set st i m] at o3
  exact ⟨o4, o3, by simp [h.len], h.h1, h.h2, (h.bel.setCell (p := ⟨g1, i, none⟩) h.h1 _).setCell (p := ⟨g2, i, none⟩) h.h2 _⟩
end Go.Proofs.YtjopnhhdemfniaaGreatDoor
namespace Go.Proofs.YtjopnhhdemfniaaGreatDoor
open Go.RowKit
set_option maxHeartbeats 4000000
set_option maxRecDepth 8000
theorem Sts2.more {w W : World} {g1 g2 n : Nat} {st : St} (h : Sts2 w g1 g2 n st W) (o : Obj) : Sts2 w g1 g2 n st (W.alloc o).drew :=
  h.below (((Below.refl _ _).alloc (Nat.le_refl _) o).trans ⟨rfl, rfl, rfl, Nat.le_refl _, fun _ _ => rfl⟩)
theorem sets_any {D : Nat} {d : Ds} {vw vl : Value} {w : World} (h : DAt D d vw vl w) (ho : Ok d) (a : Option Addr) (n cap : Nat) (l : List Kp) (hp : Kls w a n l) (hn : n ≤ 1000000000000000) :
    Calls Tryz.prog 105 #[ptr D, .slice a n cap] w fun e w' => (stps (List.replicate d.ws.length none) l = none ∧ e = .returned (.tuple #[.slice none 0 0, .bool false]) ∧ Below w.heap.size w w') ∨
      ∃ st g1, stps (List.replicate d.ws.length none) l = some st ∧ e = .returned (.tuple #[.slice (some ⟨g1, 0, none⟩) d.ws.length d.ws.length, .bool true]) ∧ w'.ownsRow 0 3 1 (.slice (some ⟨g1, 0, none⟩) d.ws.length d.ws.length) d.ws.length (cellsN st) ∧ st.length = d.ws.length ∧ w.heap.size ≤ g1 ∧ Below w.heap.size w w' := by
  have hN := hp.1
  subst hN
  obtain ⟨c0, c1, c2, c3, c4⟩ := h.c
  have hl := h.lt
  have hm := ho.few
  have HD := hide h
  have HP := hide hp
  obtain ⟨p0, cap0, rfl⟩ := owns_form h.ws
  clear h hp ho
  generalize hnn : d.ws.length = m at *
  clear hnn
  go_enter Tryz.func105, Tryz.ntmps105
  go_wp2_with (first
    | (refine make_own 22 3 _ 1 8 Tryz.underlying22 info3 rfl (.tmp 14) (.tmp 14) rfl _ _ m rfl rfl rfl rfl (by omega) (by omega) ?_; intro w1 ho1 b1 l1; rw [made3] at ho1; have HO1 := hide ho1; have HB1 := hide b1; have cc := (b1.cell (p := ⟨D, 0, none⟩) (by exact hl)).trans c0; have hl1 : D < w1.heap.size := Nat.lt_of_lt_of_le hl b1.size; clear ho1 b1)
    | (refine make_own 154 4 _ 1 1 Tryz.underlying154 info4 rfl (.tmp 20) (.tmp 20) rfl _ _ m rfl rfl rfl rfl (by omega) (by omega) ?_; intro w2 ho2 b2 l2; rw [made4] at ho2; have HS := hide (show Sts2 w w.heap.size w1.heap.size m (List.replicate m none) w2 from ⟨owns_below (unhide HO1) b2, ho2, by simp, Nat.le_refl _, (unhide HB1).size, (unhide HB1).trans (b2.mono (unhide HB1).size)⟩); have h1s := (unhide HB1).size; clear ho2 b2 HO1 HB1)
    | fail)
  go_loopw [24] (fun i wr => ∃ (k : Nat) (st : St), k ≤ l.length ∧ i = .int .i64 k ∧ stps (List.replicate m none) (l.take k) = some st ∧ Sts2 w w.heap.size w1.heap.size m st wr) (fun i _ => l.length - (Go.RowKit.intOf i).toNat)
  case atStart => exact ⟨0, _, by omega, rfl, rfl, unhide HS⟩
  case round =>
    obtain ⟨k, st, hk, rfl, hst, hs⟩ := hrel
    have HK := hide hs
    by_cases hlt : k < l.length
    · obtain ⟨g, o, rfl, hpl, q0, q1⟩ := ((unhide HP).below hs.bel).at hlt
      have hlt' : (k : Int) < (l.length : Int) := by omega
      have hnx := stps_next (List.replicate m none) l k hlt
      rw [hst] at hnx
      simp only at hnx
      have hbd := fun e => stps_bad (List.replicate m none) l (k + 1) e
      generalize l.getD k (0, 0) = x at *
      obtain ⟨x1, x2⟩ := x
      simp only at q0 q1
      have hz := heap_alloc_new wr (.cells #[I x1, I x2] 167)
      have z0 : (wr.alloc (.cells #[I x1, I x2] 167)).cell? ⟨wr.heap.size, 0, none⟩ = some (I x1) := cell_of_row _ _ 0 _ 167 (0, 0) hz
      have z1 : (wr.alloc (.cells #[I x1, I x2] 167)).cell? ⟨wr.heap.size, 1, none⟩ = some (I x2) := cell_of_row _ _ 1 _ 167 (0, 0) hz
      have ba := (Below.refl wr.heap.size wr).alloc (Nat.le_refl _) (.cells #[I x1, I x2] 167)
      have HA := hide (hs.below ba)
      have HBd := hide hbd
      have HNx := hide hnx
      have HBl := hide (hs.bel.trans (ba.mono hs.bel.size))
      have HI := hide (fun W => isSet_any x2 W)
      have hlen := hs.len
      clear hbd hnx ba hz hs hst
      unfold stp at HNx
      simp only at HNx
      by_cases t1 : x1 < 0
      · rw [if_pos t1] at HNx
        have HZ := hide (unhide HBd (unhide HNx))
        go_wp2
        go_ret2
        exact .inl ⟨unhide HZ, rfl, unhide HBl⟩
      · rw [if_neg t1, hlen] at HNx
        by_cases t2 : (m : Int) ≤ x1
        · rw [if_pos t2] at HNx
          have HZ := hide (unhide HBd (unhide HNx))
          go_wp2
          go_ret2
          exact .inl ⟨unhide HZ, rfl, unhide HBl⟩
        · rw [if_neg t2] at HNx
          obtain ⟨i, rfl⟩ : ∃ i : Nat, x1 = (i : Int) := ⟨x1.toNat, by omega⟩
          simp only [Int.toNat_natCast] at HNx
          have t3 : i < m := by omega
          have v0 := owns_cell (unhide HA).r2 i _ (cellsB_at st i (by omega))
          by_cases t4 : (st.getD i none).isSome = true
          · rw [if_pos t4] at HNx
            rw [t4] at v0
            have HZ := hide (unhide HBd (unhide HNx))
            go_wp2
            go_ret2
            exact .inl ⟨unhide HZ, rfl, unhide HBl⟩
          · rw [if_neg t4] at HNx
            have t4' : (st.getD i none).isSome = false := by simpa using t4
            rw [t4'] at v0
            cases t5 : isS x2 with
            | false =>
              rw [if_pos t5] at HNx
              rw [t5] at HI
              have HZ := hide (unhide HBd (unhide HNx))
              go_wp2_with fail
              refine (unhide HI _).mono ?_
              rintro e w3 ⟨rfl, rfl⟩
              go_wp2
              go_ret2
              exact .inl ⟨unhide HZ, rfl, unhide HBl⟩
            | true =>
              rw [t5] at HNx HI
              simp only [Bool.true_eq_false, if_false] at HNx
              obtain ⟨t6, t7⟩ : 0 ≤ x2 ∧ x2 < 256 := by simpa [isS] using t5
              obtain ⟨mm, rfl⟩ : ∃ mm : Nat, x2 = (mm : Int) := ⟨x2.toNat, by omega⟩
              simp only [Int.toNat_natCast] at HNx
              have hne := (unhide HA).ne
              have v1 := owns_cell (unhide HA).r1 i _ (cellsN_at st i (by omega))
              obtain ⟨cs1, f1⟩ := owns_lt (unhide HA).r1 _ rfl
              obtain ⟨cs2, f2⟩ := owns_lt (unhide HA).r2 _ rfl
              have f1' := frz f1 i
              have f2' := frz f2 i
              have e1 := lt_of_row f1
              have e2 := lt_of_row f2
              have u0 := owns_cell (unhide HK).r2 i _ (cellsB_at st i (by omega))
              rw [t4'] at u0
              have u1 := owns_cell (unhide HK).r1 i _ (cellsN_at st i (by omega))
              obtain ⟨cs3, f3⟩ := owns_lt (unhide HK).r1 _ rfl
              obtain ⟨cs4, f4⟩ := owns_lt (unhide HK).r2 _ rfl
              have f3' := frz f3 i
              have f4' := frz f4 i
              clear f3 f4
              have HT := hide ((unhide HA).set i mm)
              have n1 : w.heap.size < wr.heap.size := owns_blk (unhide HK).r1 _ rfl
              have n2 : w1.heap.size < wr.heap.size := owns_blk (unhide HK).r2 _ rfl
              have n3 : w.heap.size ≠ wr.heap.size := by omega
              have n4 : w1.heap.size ≠ wr.heap.size := by omega
              have n5 : wr.heap.size ≠ w.heap.size := by omega
              have n6 : wr.heap.size ≠ w1.heap.size := by omega
              have n7 : w1.heap.size ≠ w.heap.size := fun q => hne q.symm
              clear f1 f2
              go_wp2_with fail
              refine (unhide HI _).mono ?_
              rintro e w3 ⟨rfl, rfl⟩
              go_wp2
              go_region
              all_goals go_wp2
              all_goals go_round
              all_goals first
                | (simp [Go.RowKit.intOf]; omega)
                | exact ⟨k + 1, _, by omega, by simp, unhide HNx, ((unhide HK).set i mm).more _⟩
                | exact ⟨k + 1, _, by omega, by simp, unhide HNx, ((unhide HK).set2 i mm).more _⟩
    · have hlt' : ¬ (k : Int) < (l.length : Int) := by omega
      obtain rfl : k = l.length := by omega
      rw [List.take_of_length_le (Nat.le_refl _)] at hst
      have HST := hide hst
      clear hs hst
      go_wp2
      go_ret2
      exact .inr ⟨st, unhide HST, w.heap.size, rfl, (unhide HK).r1, (unhide HK).len, Nat.le_refl _, (unhide HK).bel⟩
end Go.Proofs.YtjopnhhdemfniaaGreatDoor
namespace Go.Proofs.YtjopnhhdemfniaaGreatDoor
open Go.RowKit
set_option maxHeartbeats 4000000
set_option maxRecDepth 8000
theorem bit_one (set k : Nat) (hs : set < 256) : bits .and .i64 ((set : Int) / 2 ^ k) 1 = ((set / 2 ^ k % 2 : Nat) : Int) := by
  have e : ((set : Int) / 2 ^ k) = ((set / 2 ^ k : Nat) : Int) := by push_cast; rfl
  have hb : set / 2 ^ k < 9223372036854775808 := Nat.lt_of_le_of_lt (Nat.div_le_self _ _) (by omega)
  have h1 : (BitVec.ofInt 64 ((set / 2 ^ k : Nat) : Int)).toNat = set / 2 ^ k := by
    generalize set / 2 ^ k = m at *
    rw [BitVec.toNat_ofInt]; omega
  have h2 : (BitVec.ofInt 64 (1 : Int)).toNat = 1 := by rfl
  have hb' : bits .and .i64 ((set / 2 ^ k : Nat) : Int) 1 = IntKind.i64.wrap (((BitVec.ofInt 64 ((set / 2 ^ k : Nat) : Int)) &&& (BitVec.ofInt 64 (1 : Int))).toNat : Int) := rfl
  rw [e, hb', BitVec.toNat_and, h1, h2, Nat.and_one_is_mod, IntKind.wrap_i64]
  omega
theorem slice_sect2 (x : Bs) (k : Nat) (hx : x.length = 512) (hk : k < 8) (w : World) : (Instr.slice 9 (S x) (some (.int .i64 ((k : Int) * 64))) (some (.int .i64 (((k : Int) + 1) * 64))) none).run Tryz.prog w = .ok (S (sect k x)) w := by
  have := slice_sect x k hx hk w
  rw [show (k : Int) * 64 = 64 * (k : Int) by omega, show ((k : Int) + 1) * 64 = 64 * (k : Int) + 64 by omega]
  exact this
theorem strCells_eq (l : Bs) : Lib.strCells ⟨l.toArray⟩ = Lib.byteCells l := by
  simp [Lib.strCells, Lib.byteCells]
theorem byteCells_append (a b : Bs) : Lib.byteCells a ++ Lib.byteCells b = Lib.byteCells (a ++ b) := by simp [Lib.byteCells]
theorem byteCells_len (a : Bs) : (Lib.byteCells a).length = a.length := by simp [Lib.byteCells]
/-- A builder of one's own. -/
structure Bld (w : World) (T : Bs) (W : World) : Prop where
  b : Lib.IsBuilderF 217 5 w.heap.size w.heap.size (Lib.byteCells T) W
  bel : Below w.heap.size w W
theorem bld_next {w W W' : World} {T T' X : Bs} (h : Bld w T W) (q : Lib.BuilderAtF 217 5 w.heap.size w.heap.size (.pointer (some ⟨w.heap.size, 0, none⟩)) (Lib.byteCells T ++ Lib.strCells ⟨X.toArray⟩) W') (b : Below w.heap.size W W') (e : T' = T ++ X) : Bld w T' W' := by
  subst e
  rw [strCells_eq, byteCells_append] at q
  exact ⟨.inr q, h.bel.trans b⟩
theorem torn_any (last now : Bs) (set : Nat) (w : World) (h1 : last.length = 512) (h2 : now.length = 512) (hs : set < 256) :
    Calls Tryz.prog 107 #[S last, S now, I set] w fun e w' => e = .returned (S (tornv last now set)) ∧ Below w.heap.size w w' := by
  have H0 := hide (Tryz.Builder_Grow w.heap.size w.heap.size 512 (w.alloc (.cells #[.pointer none, .slice none 0 0] 217)) (Nat.le_refl _) (heap_alloc_new _ _) (by simp) (by omega))
  have B0 := hide ((Below.refl w.heap.size w).alloc (Nat.le_refl _) (.cells #[.pointer none, .slice none 0 0] 217))
  go_enter Tryz.func107, Tryz.ntmps107
  go_wp2_with fail
  refine (unhide H0).mono ?_
  rintro e w1 ⟨rfl, q1, b1⟩
  have HB := hide (show Bld w [] w1 from ⟨q1, (unhide B0).trans b1⟩)
  clear q1 b1 H0 B0
  go_wp2
  go_loopw [11] (fun i wr => ∃ k : Nat, k ≤ 8 ∧ i = .int .i64 k ∧ Bld w (tornK last now set k) wr) (fun i _ => 8 - (Go.RowKit.intOf i).toNat)
  case atStart => exact ⟨0, by omega, rfl, unhide HB⟩
  case round =>
    obtain ⟨k, hk, rfl, hb⟩ := hrel
    have HK := hide hb
    by_cases hlt : k < 8
    · have hlt' : (k : Int) < 8 := by omega
      have ht0 := tornK_next last now set k
      have hT := tornK_len last now set k h1 h2 hk
      have hA := sect_len k last h1 hlt
      have hB := sect_len k now h2 hlt
      have l1 := slice_sect2 last k h1 hlt
      have l2 := slice_sect2 now k h2 hlt
      have hbit := bit_one set k hs
      have hm : set / 2 ^ k % 2 = 1 ↔ inSet set k = true := by unfold inSet; simp
      have HW := hide (fun (X : Bs) (hX : X.length = 64) => Tryz.Builder_WriteString w.heap.size w.heap.size (Lib.byteCells (tornK last now set k)) ⟨X.toArray⟩ wr hb.b (by rw [byteCells_len]; simp [ByteArray.size]; omega) hb.bel.size)
      clear hb
      by_cases hc : inSet set k = true
      · have hc' := hm.2 hc
        rw [hc'] at hbit
        rw [if_pos hc] at ht0
        have HT := hide ht0
        clear ht0 hm hc'
        generalize tornK last now set k = T at *
        generalize sect k now = B at *
        have HC := hide (unhide HW B hB)
        clear HW
        go_wp2_with (first | (refine wp_strsl rfl (.tmp 21) (.tmp 23) (.tmp 26) rfl _ _ _ _ rfl rfl rfl (l2 _) ?_) | fail)
        refine (unhide HC).mono ?_
        rintro e w2 ⟨rfl, q2, b2, -⟩
        have HN := hide (bld_next (unhide HK) q2 b2 (unhide HT))
        clear q2 b2 HC
        go_wp2
        go_round
        case measure => simp [Go.RowKit.intOf]; omega
        case rel => exact ⟨k + 1, by omega, by simp, unhide HN⟩
      · have hc' : ¬ set / 2 ^ k % 2 = 1 := fun q => hc (hm.1 q)
        have hc2 : set / 2 ^ k % 2 = 0 := by omega
        rw [hc2] at hbit
        rw [if_neg hc] at ht0
        have HT := hide ht0
        clear ht0 hm hc'
        generalize tornK last now set k = T at *
        generalize sect k last = B at *
        have HC := hide (unhide HW B hA)
        clear HW
        go_wp2_with (first | (refine wp_strsl rfl (.tmp 21) (.tmp 23) (.tmp 26) rfl _ _ _ _ rfl rfl rfl (l1 _) ?_) | fail)
        refine (unhide HC).mono ?_
        rintro e w2 ⟨rfl, q2, b2, -⟩
        have HN := hide (bld_next (unhide HK) q2 b2 (unhide HT))
        clear q2 b2 HC
        go_wp2
        go_round
        case measure => simp [Go.RowKit.intOf]; omega
        case rel => exact ⟨k + 1, by omega, by simp, unhide HN⟩
    · have hlt' : ¬ (k : Int) < 8 := by omega
      obtain rfl : k = 8 := by omega
      have H2 := hide (Tryz.Builder_String w.heap.size w.heap.size (tornK last now set 8) wr hb.b hb.bel.size)
      clear hb
      go_wp2_with fail
      refine (unhide H2).mono ?_
      rintro e w2 ⟨rfl, -, b2, -⟩
      have HN := hide ((unhide HK).bel.trans b2)
      clear b2
      go_wp2
      go_ret
      exact ⟨rfl, unhide HN⟩
end Go.Proofs.YtjopnhhdemfniaaGreatDoor
namespace Go.Proofs.YtjopnhhdemfniaaGreatDoor
open Go.RowKit
set_option maxHeartbeats 4000000
set_option maxRecDepth 8000
/-- The first k writes are copied. -/
def halfW (l : List Wr) (k : Nat) : List Value := cellsW (l.take k ++ List.replicate (l.length - k) (0, []))
theorem halfW_set (l : List Wr) (k : Nat) (hk : k < l.length) : ((halfW l k).set (k * 2) (I (l.getD k (0, [])).1)).set (k * 2 + 1) (S (l.getD k (0, [])).2) = halfW l (k + 1) := by
  unfold halfW
  rw [cellsW_set _ k (l.getD k (0, [])) (by simp; omega)]
  congr 1
  have e : l.length - k = (l.length - (k + 1)) + 1 := by omega
  have hlen : (l.take k).length = k := by simp; omega
  have e2 : l.getD k (0, []) = l[k] := by simp [hk]
  rw [List.set_append_right _ _ (by omega), hlen, Nat.sub_self, e, List.replicate_succ, List.set_cons_zero, List.take_succ_eq_append_getElem hk, List.append_assoc, e2]
  rfl
theorem halfW_all (l : List Wr) : halfW l l.length = cellsW l := by simp [halfW]
theorem halfW_at (l : List Wr) (k : Nat) (hk : k < l.length) : (halfW l k)[k * 2]? = some (I 0) ∧ (halfW l k)[k * 2 + 1]? = some (S []) := by
  have h := cellsW_at (l.take k ++ List.replicate (l.length - k) (0, [])) k (by simp; omega)
  have hlen : (l.take k).length = k := by simp; omega
  have e : (l.take k ++ List.replicate (l.length - k) ((0, []) : Wr)).getD k (0, []) = (0, []) := by
    rw [List.getD_eq_getElem?_getD, List.getElem?_append_right (by omega), hlen, Nat.sub_self, List.getElem?_replicate, if_pos (by omega)]
    rfl
  rw [e] at h
  exact h
theorem made69 (m : Nat) : (madeCells (Value.agg #[.int .i64 0, .string ⟨#[]⟩]).cells (m * 2)).toList = cellsW (List.replicate m (0, [])) := by
  have hz : (Value.agg #[Value.int .i64 0, Value.string ⟨#[]⟩]).cells = #[Value.int .i64 0, Value.string ⟨#[]⟩] := rfl
  rw [hz]
  apply List.ext_getElem?
  intro i
  by_cases hi : i < m * 2
  · have h := cellsW_at (List.replicate m (0, [])) (i / 2) (by simp; omega)
    have e : (List.replicate m ((0, []) : Wr)).getD (i / 2) (0, []) = (0, []) := by
      rw [List.getD_eq_getElem?_getD, List.getElem?_replicate]
      split <;> rfl
    rw [e] at h
    unfold madeCells
    rcases Nat.mod_two_eq_zero_or_one i with q | q
    · have h1 := h.1
      rw [show i / 2 * 2 = i by omega] at h1
      rw [h1]
      simp [hi, q]
    · have h1 := h.2
      rw [show i / 2 * 2 + 1 = i by omega] at h1
      rw [h1]
      simp [hi, q]
  · rw [List.getElem?_eq_none (by unfold madeCells; simp; omega), List.getElem?_eq_none (by rw [cellsW_len]; simp; omega)]
theorem list_facts {W0 W w2 : World} {cs0 : Array Value} {g n cap : Nat} {k : Nat} {xs : List Value} (h : W0.ownsRow 0 164 2 (.slice (some ⟨g, 0, none⟩) n cap) n xs) (hx : xs[k * 2]? = some (I 0) ∧ xs[k * 2 + 1]? = some (S [])) (b : Below W.heap.size W w2) (e : W.heap = (W0.alloc (.cells cs0 164)).heap) (e1 : W.os = W0.os) (e2 : W.tape = W0.tape) (e3 : W.output = W0.output) :
    w2.cell? ⟨g, k * 2, none⟩ = some (I 0) ∧ w2.cell? ⟨g, k * 2 + 1, none⟩ = some (S []) ∧ w2.frozen? ⟨g, k * 2, none⟩ = false ∧ w2.frozen? ⟨g, k * 2 + 1, none⟩ = false ∧ (∀ j, w2.cell? ⟨W0.heap.size, j, none⟩ = cs0[j]?) ∧ (w2.ownsRow 0 164 2 (.slice (some ⟨g, 0, none⟩) n cap) n xs ∧ Below W0.heap.size W0 w2) := by
  have b0 : Below W0.heap.size W0 W := ⟨e1, e2, e3, by rw [e]; simp, fun k hk => by rw [e]; exact heap_alloc_old _ _ hk⟩
  have b1 := b0.trans (b.mono b0.size)
  have h2 := owns_below h b1
  obtain ⟨cs, q⟩ := owns_lt h2 g rfl
  have hb : w2.heap[W0.heap.size]? = some (.cells cs0 164 (0, 0)) := by
    rw [b.block _ (by rw [e]; simp), e]
    exact heap_alloc_new _ _
  exact ⟨owns_cell h2 _ _ hx.1, owns_cell h2 _ _ hx.2, frz q _, frz q _, fun j => cell_of_row w2 _ j _ 164 (0, 0) hb, h2, b1⟩
theorem list_step {w W0 w2 : World} {n k : Nat} {l : List Wr} {x1 : Nat} {x2 : Bs} (hb : Below w.heap.size w W0) (h : w2.ownsRow 0 164 2 (.slice (some ⟨w.heap.size, 0, none⟩) n n) n (halfW l k) ∧ Below W0.heap.size W0 w2) (hs : ((halfW l k).set (k * 2) (I x1)).set (k * 2 + 1) (S x2) = halfW l (k + 1)) :
    ((w2.setCell ⟨w.heap.size, k * 2, none⟩ (I x1)).setCell ⟨w.heap.size, k * 2 + 1, none⟩ (S x2)).ownsRow 0 164 2 (.slice (some ⟨w.heap.size, 0, none⟩) n n) n (halfW l (k + 1)) ∧ Below w.heap.size w ((w2.setCell ⟨w.heap.size, k * 2, none⟩ (I x1)).setCell ⟨w.heap.size, k * 2 + 1, none⟩ (S x2)) := by
  have o := owns_set (owns_set h.1 (k * 2) (I x1)) (k * 2 + 1) (S x2)
  rw [hs] at o
  exact ⟨o, ((hb.trans (h.2.mono hb.size)).setCell (p := ⟨w.heap.size, k * 2, none⟩) (Nat.le_refl _) _).setCell (p := ⟨w.heap.size, k * 2 + 1, none⟩) (Nat.le_refl _) _⟩
theorem list_any {D : Nat} {d : Ds} {vw vl : Value} {w : World} (h : DAt D d vw vl w) (ho : Ok d) :
    Calls Tryz.prog 185 #[ptr D] w fun e w' => ∃ V, e = .returned V ∧ w'.ownsRow 0 164 2 V d.ws.length (cellsW d.ws) ∧ (∀ k, V.ownBlock = some k → w.heap.size ≤ k) ∧ Below w.heap.size w w' := by
  obtain ⟨c0, c1, c2, c3, c4⟩ := h.c
  have hl := h.lt
  obtain ⟨p, cap, rfl, hp⟩ := Wls.of h.ws
  have HP := hide hp
  have hn := ho.few
  have HL := hide (fun x hx => (ho.lt x hx).2)
  have HD := hide h
  clear h hp ho
  go_enter Tryz.func185, Tryz.ntmps185
  go_wp2_with (first | (refine make_own 138 164 _ 2 24 Tryz.underlying138 info164 rfl (.tmp 10) (.tmp 10) rfl _ _ d.ws.length rfl rfl rfl rfl (by omega) (by omega) ?_; intro w1 ho1 b1 l1; rw [made69] at ho1; have HO1 := hide ho1; have HB1 := hide b1; have cc := ((unhide HD).below b1).c.1; clear ho1 b1) | fail)
  go_loopw [17] (fun i wr => ∃ k : Nat, k ≤ d.ws.length ∧ i = .int .i64 k ∧ wr.ownsRow 0 164 2 (.slice (some ⟨w.heap.size, 0, none⟩) d.ws.length d.ws.length) d.ws.length (halfW d.ws k) ∧ Below w.heap.size w wr) (fun i _ => d.ws.length - (Go.RowKit.intOf i).toNat)
  case atStart => exact ⟨0, by omega, rfl, by simpa [halfW] using unhide HO1, unhide HB1⟩
  case round =>
    obtain ⟨k, hk, rfl, ho, hb⟩ := hrel
    have HO := hide ho
    have HB := hide hb
    by_cases hlt : k < d.ws.length
    · obtain ⟨g, o, rfl, hpl, hc0, hc1⟩ := ((unhide HP).below hb).at hlt
      have hlt' : (k : Int) < (d.ws.length : Int) := by omega
      have HS := hide (halfW_set d.ws k hlt)
      have hlen := unhide HL _ (mem_getD (z := (0, [])) hlt)
      obtain ⟨x, hx⟩ : ∃ x, x = d.ws.getD k (0, []) := ⟨_, rfl⟩
      rw [← hx] at hc0 hc1 HS hlen
      obtain ⟨x1, x2⟩ := x
      simp only at hc0 hc1 HS hlen
      clear ho hb hx
      have hz0 := cell_of_row (wr.alloc (.cells #[I x1, S x2] 164)) wr.heap.size 0 _ 164 (0, 0) (heap_alloc_new _ _)
      have hz1 := cell_of_row (wr.alloc (.cells #[I x1, S x2] 164)) wr.heap.size 1 _ 164 (0, 0) (heap_alloc_new _ _)
      have H1 := hide (fun (W : World) => clone_any x2 W (by omega))
      go_wp2
      go_region_with (refine (unhide H1 _).mono ?_; rintro e w2 ⟨rfl, b2⟩; obtain ⟨y0, y1, y2, y3, y5, y4⟩ := list_facts (cs0 := #[I x1, S x2]) (unhide HO) (halfW_at d.ws k hlt) b2 rfl rfl rfl rfl; have y6 := y5 0; have y7 := y5 1; simp at y6 y7; have HY := hide y4; clear b2 y4 y5)
      all_goals go_wp2
      all_goals go_round
      all_goals first
        | (simp [Go.RowKit.intOf]; omega)
        | exact ⟨k + 1, by omega, by simp, list_step (unhide HB) (unhide HY) (unhide HS)⟩
    · have hlt' : ¬ (k : Int) < (d.ws.length : Int) := by omega
      obtain rfl : k = d.ws.length := by omega
      clear ho hb
      go_wp2
      go_ret
      refine ⟨_, rfl, ?_, ?_, unhide HB⟩
      · have := unhide HO
        rwa [halfW_all] at this
      · intro k hk
        cases hk
        exact Nat.le_refl _
theorem pending_any {D : Nat} {d : Ds} {vw vl : Value} {w : World} (h : DAt D d vw vl w) (ho : Ok d) :
    Calls Tryz.prog 108 #[ptr D] w fun e w' => ∃ V, e = .returned V ∧ w'.ownsRow 0 164 2 V d.ws.length (cellsW d.ws) ∧ (∀ k, V.ownBlock = some k → w.heap.size ≤ k) ∧ Below w.heap.size w w' := by
  have H := hide (list_any h ho)
  have hl := h.lt
  clear h ho
  go_enter Tryz.func108, Tryz.ntmps108
  go_wp2_with fail
  refine (unhide H).mono ?_
  rintro e w1 ⟨V, rfl, q⟩
  have HQ := hide q
  clear q
  go_wp2
  go_ret
  exact ⟨V, rfl, unhide HQ⟩
end Go.Proofs.YtjopnhhdemfniaaGreatDoor
namespace Go.Proofs.YtjopnhhdemfniaaGreatDoor
open Go.RowKit
set_option maxHeartbeats 4000000
set_option maxRecDepth 8000
/-- What lasts behind the first k pending writes of a crash. -/
def crs (last : List Bs) (ws : List Wr) (st : St) : Nat → List Bs
  | 0 => last
  | k + 1 => let l := crs last ws st k; let x := ws.getD k (0, []); l.set x.1 (tornv (l.getD x.1 []) x.2 ((st.getD k none).getD 0))
theorem tornv_len (a b : Bs) (s : Nat) (h1 : a.length = 512) (h2 : b.length = 512) : (tornv a b s).length = 512 := by
  have := tornK_len a b s 8 h1 h2 (by omega)
  exact this
theorem crs_len (last : List Bs) (ws : List Wr) (st : St) (k : Nat) : (crs last ws st k).length = last.length := by
  induction k with
  | zero => rfl
  | succ k ih => simp [crs, ih]
theorem set_sz {l : List Bs} {i : Nat} {x : Bs} (h : ∀ y ∈ l, y.length = 512) (hx : x.length = 512) : ∀ y ∈ l.set i x, y.length = 512 := by
  intro y hy
  rcases List.mem_or_eq_of_mem_set hy with q | q
  · exact h y q
  · rw [q]; exact hx
theorem crs_sz {last : List Bs} {ws : List Wr} (st : St) (h : ∀ y ∈ last, y.length = 512) (hw : ∀ x ∈ ws, x.1 < last.length ∧ x.2.length = 512) (k : Nat) (hk : k ≤ ws.length) : ∀ y ∈ crs last ws st k, y.length = 512 := by
  induction k with
  | zero => exact h
  | succ k ih =>
    have hx := hw _ (mem_getD (z := (0, [])) (show k < ws.length by omega))
    refine set_sz (ih (by omega)) (tornv_len _ _ _ (ih (by omega) _ (mem_getD ?_)) hx.2)
    rw [crs_len]
    exact hx.1
/-- Between two writes of a crash. -/
structure Crs (w : World) (D : Nat) (d : Ds) (vl vw : Value) (g1 : Nat) (st : St) (k : Nat) (W : World) : Prop where
  dat : DAt D { d with ws := [], last := crs d.last d.ws st k } (.slice none 0 0) vl W
  ws : W.ownsRow 0 164 2 vw d.ws.length (cellsW d.ws)
  ss : W.ownsRow 0 3 1 (.slice (some ⟨g1, 0, none⟩) d.ws.length d.ws.length) d.ws.length (cellsN st)
  onl : Only (fun k => k = D ∨ vl.ownBlock = some k) w W
/-- Another block of texts than the others. -/
theorem Crs.step {w W W' : World} {D : Nat} {d : Ds} {vl vw : Value} {g1 : Nat} {st : St} {k g n cap : Nat} (h : Crs w D d vl vw g1 st k W) (b : Below W.heap.size W W') (hv : vl = .slice (some ⟨g, 0, none⟩) n cap) :
    Crs w D d vl vw g1 st (k + 1) (W'.setCell ⟨g, (d.ws.getD k (0, [])).1, none⟩ (S (tornv ((crs d.last d.ws st k).getD (d.ws.getD k (0, [])).1 []) (d.ws.getD k (0, [])).2 ((st.getD k none).getD 0)))) := by
  subst hv
  have hd := h.dat.below b
  have hw := owns_below h.ws b
  have hs := owns_below h.ss b
  have hls := hd.ls
  have hlen : (({ d with ws := [], last := crs d.last d.ws st k } : Ds).last).length = n := by
    obtain ⟨p, c, e⟩ := owns_form hls
    cases e
    rfl
  have oth : ∀ {t a m : Nat} {v : Value} {xs : List Value}, W'.ownsRow 0 t a v m xs → t ≠ 9 → ∀ k, v.ownBlock = some k → ¬ k = g := by
    intro t a m v xs hv ht k hk q
    obtain ⟨c1, q1⟩ := owns_lt hv k hk
    obtain ⟨c2, q2⟩ := owns_lt hls g rfl
    rw [q, q2] at q1
    cases q1
    exact ht rfl
  generalize hi : (d.ws.getD k (0, [])).1 = i
  generalize hx : tornv ((crs d.last d.ws st k).getD i []) (d.ws.getD k (0, [])).2 ((st.getD k none).getD 0) = x
  have e : crs d.last d.ws st (k + 1) = (crs d.last d.ws st k).set i x := by
    show List.set _ _ _ = _
    rw [hi, hx]
  have O := Only.setCell W' ⟨g, i, none⟩ (S x)
  refine ⟨⟨?_, owns_nil _ _ _, ?_⟩, owns_only hw O (oth hw (by decide)), owns_only hs O (oth hs (by decide)), ?_⟩
  · rw [O.block D hd.lt (fun q => hd.nl g rfl q.symm)]
    exact hd.blk
  · show World.ownsRow _ 0 9 1 _ (crs d.last d.ws st (k + 1)).length ((crs d.last d.ws st (k + 1)).map S)
    rw [e, List.length_set, List.map_set]
    have e2 : (crs d.last d.ws st k).length = n := hlen
    rw [e2]
    have h3 := hls
    rw [hlen] at h3
    exact owns_set h3 i (S x)
  · exact (h.onl.trans (Only.of_below (P := fun _ => False) b) (fun _ _ q => q.elim)).put ⟨g, i, none⟩ (S x) (Or.inl (Or.inr rfl))
end Go.Proofs.YtjopnhhdemfniaaGreatDoor
