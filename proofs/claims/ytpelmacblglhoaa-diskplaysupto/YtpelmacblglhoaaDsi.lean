import Derived.Test.YtpelmacblglhoaaDsg
import Derived.Lib.AppendZerosOnto
import Derived.Lib.Overlaps
import Derived.Laws.Externs
namespace Go.Proofs.Ytpelmacblglhoaa
open Go.RowKit
set_option maxHeartbeats 4000000
set_option maxRecDepth 8000
theorem cellsW_take (l : List Wr) (i : Nat) : (cellsW l).take (i * 2) = cellsW (l.take i) := by
  induction l generalizing i with
  | nil => simp [cellsW]
  | cons x l ih =>
    cases i with
    | zero => rfl
    | succ i =>
      rw [show (i + 1) * 2 = i * 2 + 1 + 1 by omega]
      show I x.1 :: S x.2 :: (cellsW l).take (i * 2) = I x.1 :: S x.2 :: cellsW (l.take i)
      rw [ih]
theorem cellsW_drop (l : List Wr) (i : Nat) : (cellsW l).drop (i * 2) = cellsW (l.drop i) := by
  induction l generalizing i with
  | nil => simp [cellsW]
  | cons x l ih =>
    cases i with
    | zero => rfl
    | succ i =>
      rw [show (i + 1) * 2 = i * 2 + 1 + 1 by omega]
      exact ih i
theorem cellsW_one (l : List Wr) : ∀ v ∈ cellsW l, v.oneCell' = true := by
  intro v hv
  obtain ⟨x, _, hx⟩ := List.mem_flatMap.1 hv
  simp at hx
  rcases hx with rfl | rfl <;> rfl
/-- First a new thing is laid over, then what stood behind it. -/
theorem lay_two {R P X Y : List Value} {a b : Nat} (hR : a + X.length + Y.length ≤ R.length) (hP : R.take a = P) (hb : b = a + X.length) :
    let R1 := R.take a ++ X ++ R.drop (a + X.length)
    let R2 := R1.take b ++ Y ++ R1.drop (b + Y.length)
    R2.length = R.length ∧ R2.take (b + Y.length) = P ++ X ++ Y := by
  subst hb
  have ha : (R.take a).length = a := by rw [List.length_take]; omega
  have h1 : (R.take a ++ X).length = a + X.length := by rw [List.length_append, ha]
  have e1 : (R.take a ++ X ++ R.drop (a + X.length)).take (a + X.length) = R.take a ++ X := by
    rw [List.take_append_of_le_length (by omega), List.take_of_length_le (by omega)]
  have e2 : (R.take a ++ X ++ R.drop (a + X.length)).drop (a + X.length + Y.length) = R.drop (a + X.length + Y.length) := by
    rw [List.drop_append, List.drop_of_length_le (by omega), h1, List.nil_append, List.drop_drop]
    congr 1
    omega
  simp only
  rw [e1, e2]
  refine ⟨by simp only [List.length_append, List.length_drop, ha]; omega, ?_⟩
  rw [List.take_append_of_le_length (by simp only [List.length_append, ha]; omega), List.take_of_length_le (by simp only [List.length_append, ha]; omega), hP]
/-- First what stands behind is moved, then a new thing is laid over. -/
theorem lay_shift {R P X Y : List Value} {a b : Nat} (hR : a + X.length + Y.length ≤ R.length) (hP : R.take a = P) (hb : b = a + X.length) :
    let R1 := R.take b ++ Y ++ R.drop (b + Y.length)
    let R2 := R1.take a ++ X ++ R1.drop (a + X.length)
    R2.length = R.length ∧ R2.take (b + Y.length) = P ++ X ++ Y := by
  subst hb
  have ha : (R.take (a + X.length)).length = a + X.length := by rw [List.length_take]; omega
  have e1 : (R.take (a + X.length) ++ Y ++ R.drop (a + X.length + Y.length)).take a = R.take a := by
    rw [List.append_assoc, List.take_append_of_le_length (by omega), List.take_take, Nat.min_eq_left (by omega)]
  have e2 : (R.take (a + X.length) ++ Y ++ R.drop (a + X.length + Y.length)).drop (a + X.length) = Y ++ R.drop (a + X.length + Y.length) := by
    rw [List.append_assoc, List.drop_append, List.drop_of_length_le (by omega), List.nil_append, ha, Nat.sub_self, List.drop_zero]
  simp only
  have h0 : (R.take a).length = a := by rw [List.length_take]; omega
  rw [e1, e2]
  refine ⟨by simp only [List.length_append, List.length_drop, h0]; omega, ?_⟩
  rw [← List.append_assoc, List.take_append_of_le_length (by simp only [List.length_append, h0]; omega), List.take_of_length_le (by simp only [List.length_append, h0]; omega), hP]
/-- One more write at its place. -/
def ins (l : List Wr) (i : Nat) (x : Wr) : List Wr := l.take i ++ [x] ++ l.drop i
theorem cellsW_ins (l : List Wr) (i : Nat) (x : Wr) : cellsW (ins l i x) = cellsW (l.take i) ++ [I x.1, S x.2] ++ cellsW (l.drop i) := by
  unfold ins
  rw [cellsW_append, cellsW_append]
  rfl
theorem ins_len (l : List Wr) (i : Nat) (x : Wr) (h : i ≤ l.length) : (ins l i x).length = l.length + 1 := by
  unfold ins
  simp
  omega
/-- What an Insert leaves. -/
def Insd (w : World) (v : Value) (l : List Wr) (V : Value) (w' : World) : Prop := w'.ownsRow 0 69 2 V l.length (cellsW l) ∧ Only (fun k => v.ownBlock = some k) w w' ∧ (∀ k, V.ownBlock = some k → v.ownBlock = some k ∨ w.heap.size ≤ k)
theorem insert_end (v : Value) (l : List Wr) (x : Wr) (vb : Nat) (w : World) (hown : w.ownsRow 0 69 2 v l.length (cellsW l)) (hv : w.heap[vb]? = some (.cells #[I x.1, S x.2] 69 (0, 0))) (hl : l.length ≤ 1000000) :
    Calls Try.prog 68 #[v, I l.length, .slice (some ⟨vb, 0, none⟩) 1 1] w fun e w' => ∃ V, e = .returned V ∧ Insd w v (ins l l.length x) V w' := by
  obtain ⟨i0, hi, hz0, hz1, hz2⟩ := info_parts info69
  have hnew : ∀ j u, [I x.1, S x.2][j]? = some u → w.cell? ((⟨vb, 0, none⟩ : Addr).add j) = some u := by
    intro j u hj
    rw [add_at, cell_of_row _ _ j _ 69 (0, 0) hv]
    simpa using hj
  obtain ⟨v', w', hr, h2, h3, _, h5⟩ := run_append_own_at (P := Try.prog) w 0 43 43 69 i0 _ 2 24 Try.underlying43 hi hz0 hz1 hz2 rfl (by decide) v l.length (cellsW l) hown ⟨vb, 0, none⟩ 1 1 [I x.1, S x.2] rfl hnew (by intro u hu; simp at hu; rcases hu with rfl | rfl <;> rfl) (by unfold maxLen; omega) (by omega) (Nat.zero_le _)
  have HI := hide (show Insd w v (ins l l.length x) v' w' from ⟨by
      rw [ins_len _ _ _ (Nat.le_refl _), cellsW_ins, List.take_of_length_le (Nat.le_refl _), List.drop_of_length_le (Nat.le_refl _)]
      simpa [cellsW] using h2, Only.of_grown h3, fun k hk => by
      rcases h5 with h5 | h5
      · left; rw [← h5]; exact hk
      · right; rw [hk] at h5; exact Nat.le_of_eq (Option.some.inj h5).symm⟩)
  obtain ⟨p', c', rfl⟩ := owns_form h2
  rcases hown.2 with ⟨rfl, q2⟩ | ⟨g, c, cur, rfl, _, _, hlc, hcm, _⟩
  · clear h2 h3 h5 hnew hown hi hz0 hz1 hz2 hv
    obtain ⟨x1, x2⟩ := x
    generalize ins l l.length (x1, x2) = L at *
    generalize l.length = n at *
    subst q2
    go_enter Try.func68, Try.ntmps68
    go_wp2_with (at_builtin; refine Lib.wpList_append_run _ rfl _ _ _ _ rfl _ _ rfl rfl _ _ hr ?_)
    go_ret
    exact ⟨_, rfl, unhide HI⟩
  · have hcm' : c ≤ 9223372036854775807 := by unfold maxLen at hcm; omega
    clear h2 h3 h5 hnew hown hi hz0 hz1 hz2 hv hcm
    obtain ⟨x1, x2⟩ := x
    generalize ins l l.length (x1, x2) = L at *
    generalize l.length = n at *
    go_enter Try.func68, Try.ntmps68
    go_wp2_with (at_builtin; refine Lib.wpList_append_run _ rfl _ _ _ _ rfl _ _ rfl rfl _ _ hr ?_)
    all_goals go_ret
    all_goals exact ⟨_, rfl, unhide HI⟩
theorem insert_shift (g c : Nat) (l : List Wr) (i : Nat) (x : Wr) (vb : Nat) (w : World) (hown : w.ownsRow 0 69 2 (.slice (some ⟨g, 0, none⟩) l.length c) l.length (cellsW l)) (hv : w.heap[vb]? = some (.cells #[I x.1, S x.2] 69 (0, 0))) (hl : l.length ≤ 1000000) (hi : i < l.length) (hroom : l.length + 1 ≤ c) (hne : vb ≠ g) :
    Calls Try.prog 68 #[.slice (some ⟨g, 0, none⟩) l.length c, I i, .slice (some ⟨vb, 0, none⟩) 1 1] w fun e w' => ∃ V, e = .returned V ∧ Insd w (.slice (some ⟨g, 0, none⟩) l.length c) (ins l i x) V w' := by
  obtain ⟨cur, hg, hlc, hcm, hsz, htk⟩ : ∃ cur, w.heap[g]? = some (.cells cur 69 (0, 0)) ∧ l.length ≤ c ∧ c ≤ maxLen ∧ cur.size = c * 2 ∧ cur.toList.take (l.length * 2) = cellsW l := by
    obtain ⟨g', cap, cur, e, q⟩ := owns_at hown (by omega)
    cases e
    exact ⟨cur, q⟩
  have hcm' : c ≤ 9223372036854775807 := by unfold maxLen at hcm; omega
  have hY : (cellsW (l.drop i)).length = (l.length - i) * 2 := by rw [cellsW_len, List.length_drop]
  have hr1 := run_copyk w.drew 43 69 3 _ 2 24 Try.underlying43 info69 g ((i + 1) * 2) (l.length - i) (c - (i + 1)) ⟨g, i * 2, none⟩ (l.length + 1 - i) (c - i) cur (cellsW (l.drop i)) (l.length - i) (by show _ = min _ _; omega) hg hY (by
      intro j u hj
      rw [add_off]
      show w.cell? _ = _
      rw [cell_of_row w _ _ _ 69 (0, 0) hg]
      rw [← cellsW_drop, List.getElem?_drop, ← htk] at hj
      have := List.getElem?_take ▸ hj
      split at this
      · simpa using this
      · cases this) (by rw [hY, hsz]; omega) (cellsW_one _)
  have hcell : ∀ j u, [I x.1, S x.2][j]? = some u → w.cell? ((⟨vb, 0, none⟩ : Addr).add j) = some u := by
    intro j u hj
    rw [add_at, cell_of_row _ _ j _ 69 (0, 0) hv]
    simpa using hj
  have hL := lay_shift (R := cur.toList) (P := cellsW (l.take i)) (X := [I x.1, S x.2]) (Y := cellsW (l.drop i)) (a := i * 2) (b := (i + 1) * 2) (by rw [hY]; simp [hsz]; omega) (by rw [← cellsW_take, ← htk, List.take_take, Nat.min_eq_left (by omega)]) (by simp; omega)
  generalize hR1 : cur.toList.take ((i + 1) * 2) ++ cellsW (l.drop i) ++ cur.toList.drop ((i + 1) * 2 + (cellsW (l.drop i)).length) = R1 at *
  have hg1 := setRow_heap w.drew g cur R1.toArray 69 _ hg
  have hl1 : R1.length = c * 2 := by rw [← hR1]; simp only [List.length_append, List.length_take, List.length_drop, hY]; simp [hsz]; omega
  obtain ⟨w1, e1⟩ : ∃ w1, w1 = w.drew.setRow g R1.toArray := ⟨_, rfl⟩
  rw [← e1] at hr1 hg1
  have O1 : Only (fun k => (Value.slice (some ⟨g, 0, none⟩) l.length c).ownBlock = some k) w w1 := by
    rw [e1]
    exact ((Only.drewN _ w 1).trans (setRow_only w.drew g _) (fun k _ q => by subst q; rfl))
  have hc1 : ∀ j u, [I x.1, S x.2][j]? = some u → w1.cell? ((⟨vb, 0, none⟩ : Addr).add j) = some u := by
    intro j u hj
    rw [← hcell j u hj, add_at]
    refine World.cell?_of_block (O1.block vb (lt_of_row hv) (fun q => ?_))
    cases q
    exact hne rfl
  have hr2 := run_copyk w1 43 69 3 _ 2 24 Try.underlying43 info69 g (i * 2) (l.length + 1 - i) (c - i) ⟨vb, 0, none⟩ 1 1 R1.toArray [I x.1, S x.2] 1 (by show _ = min _ _; omega) hg1 rfl hc1 (by simp [hl1]; omega) (by intro u hu; simp at hu; rcases hu with rfl | rfl <;> rfl)
  obtain ⟨w2, e2⟩ : ∃ w2, w2 = w1.setRow g (R1.toArray.toList.take (i * 2) ++ [I x.1, S x.2] ++ R1.toArray.toList.drop (i * 2 + [I x.1, S x.2].length)).toArray := ⟨_, rfl⟩
  rw [← e2] at hr2
  have HI := hide (show Insd w (.slice (some ⟨g, 0, none⟩) l.length c) (ins l i x) (.slice (some ⟨g, 0, none⟩) (l.length + 1) c) w2 from by
    refine ⟨⟨cellsW_len _, .inr ⟨g, c, _, by rw [ins_len _ _ _ (by omega)], Nat.zero_le _, by rw [e2, setRow_heap w1 g _ _ 69 _ hg1], by rw [ins_len _ _ _ (by omega)]; omega, hcm, ?_, ?_⟩⟩, ?_, fun k hk => .inl hk⟩
    · have := hL.1
      simp at this ⊢
      omega
    · rw [ins_len _ _ _ (by omega), cellsW_ins]
      have := hL.2
      rw [hY, show (i + 1) * 2 + (l.length - i) * 2 = (l.length + 1) * 2 by omega] at this
      simpa using this
    · rw [e2]
      exact O1.trans (setRow_only w1 g _) (fun k _ q => by subst q; rfl))
  have hov : ∀ lb cb, (callFunc 80 #[.slice (some ⟨vb, 0, none⟩) 1 1, .slice (some ⟨g, (i + 1) * 2, none⟩) lb cb]).run Try.prog w = .ok (.value (.bool false)) w := fun lb cb => by
    rw [run_callFunc_extern Try.func80 (by kernel_rfl) (by kernel_rfl) (by kernel_rfl) (e := Extern.SlicesOverlaps.overlaps #[43, 43] #[4]) (by kernel_rfl),
      Lib.run_overlaps_apart w 43 4 69 Try.underlying43 2 Try.sizeOf69 ⟨vb, 0, none⟩ ⟨g, (i + 1) * 2, none⟩ 1 1 lb cb hne 69 69 2 (c * 2) (by simp [World.shape?, hv]) (by simp [World.shape?, hg, hsz]) (by omega) (frz hv _) (frz hv _)]
    rfl
  clear hL hcell hc1 hg1 hl1 e1 e2 O1 htk hsz hR1 hY
  generalize ins l i x = L at *
  generalize hn : l.length = n at *
  go_enter Try.func68, Try.ntmps68
  go_wp2_with (simp only [hov])
  go_region
  go_wp2
  go_ret
  exact ⟨_, rfl, unhide HI⟩
theorem zero_size (z : Value) (n : Nat) : (Builtin.zeroCells z.cells n).size = n * z.cells.size := by simp [Builtin.zeroCells]
theorem wp_copy_run {ops : Array Oper} {rest : List Oper} {o : Oper} {a : Act} {w : World} {Q : Exit → Act → World → Prop} {T : TypeId} (hgd : o.guard = none) (d s : Operand)
    (ho : o.op = .call { callee := .builtin .copy, args := #[d, s], argTypes := #[T, T] }) (v u : Value) (hd : a.eval d = v) (hs : a.eval s = u) (v' : Value) (w' : World)
    (hr : (Builtin.copy_ #[T, T] o.type #[v, u]).run Try.prog w = .ok v' w') (h : wpList Try.prog ops Q rest (a.put o.dst v') w') : wpList Try.prog ops Q (o :: rest) a w := by
  refine wpList_plain hgd fun K hK => ?_
  unfold Oper.wp
  simp only [execOp, ho, resolve, invoke, builtin, Sem.run_bind, Sem.run_pure, Result.andThen_ok, List.map_toArray, List.map_cons, List.map_nil, hd, hs, hr]
  exact hK _ _ h
end Go.Proofs.Ytpelmacblglhoaa
