import Derived.Test.YtpelmacblglhoaaDsi
namespace Go.Proofs.Ytpelmacblglhoaa
open Go.RowKit
set_option maxHeartbeats 4000000
set_option maxRecDepth 8000
theorem below_drew {B : Nat} {w w' : World} (h : Below B w w') : Below B w w'.drew := h.trans ⟨rfl, rfl, rfl, Nat.le_refl _, fun _ _ => rfl⟩
theorem insert_grow (g c : Nat) (l : List Wr) (i : Nat) (x : Wr) (vb : Nat) (w : World) (hown : w.ownsRow 0 69 2 (.slice (some ⟨g, 0, none⟩) l.length c) l.length (cellsW l)) (hv : w.heap[vb]? = some (.cells #[I x.1, S x.2] 69 (0, 0))) (hl : l.length ≤ 1000000) (hi : i < l.length) (hroom : c < l.length + 1) :
    Calls Try.prog 68 #[.slice (some ⟨g, 0, none⟩) l.length c, I i, .slice (some ⟨vb, 0, none⟩) 1 1] w fun e w' => ∃ V, e = .returned V ∧ Insd w (.slice (some ⟨g, 0, none⟩) l.length c) (ins l i x) V w' := by
  obtain ⟨cur, hg, hlc, hcm, hsz, htk⟩ : ∃ cur, w.heap[g]? = some (.cells cur 69 (0, 0)) ∧ l.length ≤ c ∧ c ≤ maxLen ∧ cur.size = c * 2 ∧ cur.toList.take (l.length * 2) = cellsW l := by
    obtain ⟨g', cap, cur, e, q⟩ := owns_at hown (by omega)
    cases e
    exact ⟨cur, q⟩
  have hcc : c = l.length := by omega
  obtain ⟨i0, hi0, hz0, hz1, hz2⟩ := info_parts info69
  have hT : (cellsW (l.take i)).length = i * 2 := by rw [cellsW_len, List.length_take]; omega
  have hY : (cellsW (l.drop i)).length = (l.length - i) * 2 := by rw [cellsW_len, List.length_drop]
  have hcs : ∀ j u, (cellsW l)[j]? = some u → w.cell? ⟨g, j, none⟩ = some u := fun j u hj => owns_cell hown j u hj
  have hold : (Builtin.firstCells i0.size i (.slice (some ⟨g, 0, none⟩) i c)).run Try.prog w.drew = .ok (cellsW (l.take i)).toArray w.drew := by
    rw [hz1]
    refine run_firstCells_some w.drew 2 i ⟨g, 0, none⟩ i c (cellsW (l.take i)) hT (fun j u hj => ?_)
    rw [add_at]
    refine hcs j u ?_
    rw [← cellsW_take, List.getElem?_take] at hj
    split at hj
    · exact hj
    · cases hj
  have hr0 := Lib.run_append_grow_zeros w 43 3 43 69 i0 _ .i64 .i64 Try.underlying43 Try.underlying3 hi0 hz0 (some ⟨g, 0, none⟩) i c (cellsW (l.take i)) hold (l.length + 1 - i) (by omega) (by rw [hz1]; omega) (by omega) (by omega) (by rw [hz2]; omega) (by rw [hz2]; exact growslice_fits (by omega) (by omega))
  rw [show i + (l.length + 1 - i) = l.length + 1 by omega] at hr0
  have hG1 := grownCap_ge w (l.length + 1) c 69
  have hG2 := grownCap_le_maxLen w (l.length + 1) c 69 (by unfold maxLen; omega)
  generalize grownCap w (l.length + 1) c 69 = G at *
  have hG3 : G ≤ 9223372036854775807 := by unfold maxLen at hG2; omega
  obtain ⟨ROW, hROW⟩ : ∃ ROW : Array Value, ROW = (cellsW (l.take i)).toArray ++ Builtin.zeroCells (Value.agg #[.int .i64 0, .string ⟨#[]⟩]).cells (l.length + 1 - i) ++ Builtin.zeroCells (Value.agg #[.int .i64 0, .string ⟨#[]⟩]).cells (G - (l.length + 1)) := ⟨_, rfl⟩
  rw [← hROW] at hr0
  have hRs : ROW.size = G * 2 := by
    rw [hROW]
    have hz : (Value.agg #[Value.int .i64 0, Value.string ⟨#[]⟩]).cells.size = 2 := rfl
    simp only [Array.size_append, zero_size, hz, List.size_toArray, hT]
    omega
  have hRt : ROW.toList.take (i * 2) = cellsW (l.take i) := by
    rw [hROW]
    simp only [Array.toList_append]
    rw [List.append_assoc, List.take_append_of_le_length (by simp [hT]), List.take_of_length_le (by simp [hT])]
  obtain ⟨w1, e1⟩ : ∃ w1, w1 = w.drew.alloc (.cells ROW 69) := ⟨_, rfl⟩
  rw [← e1] at hr0
  have B1 : Below w.heap.size w w1 := by rw [e1]; exact (below_drew (Below.refl _ _)).alloc (Nat.le_refl _) _
  have hg1 : w1.heap[w.heap.size]? = some (.cells ROW 69 (0, 0)) := by rw [e1]; exact heap_alloc_new w.drew _
  have hr1 := run_copyk w1 43 69 3 _ 2 24 Try.underlying43 info69 w.heap.size (i * 2) (l.length + 1 - i) (G - i) ⟨vb, 0, none⟩ 1 1 ROW [I x.1, S x.2] 1 (by show _ = min _ _; omega) hg1 rfl (by
      intro j u hj
      rw [add_at, B1.cell (by exact lt_of_row hv), cell_of_row _ _ j _ 69 (0, 0) hv]
      simpa using hj) (by simp [hRs]; omega) (by intro u hu; simp at hu; rcases hu with rfl | rfl <;> rfl)
  have hL := lay_two (R := ROW.toList) (P := cellsW (l.take i)) (X := [I x.1, S x.2]) (Y := cellsW (l.drop i)) (a := i * 2) (b := (i + 1) * 2) (by rw [hY]; simp [hRs]; omega) hRt (by simp; omega)
  generalize hR1 : ROW.toList.take (i * 2) ++ [I x.1, S x.2] ++ ROW.toList.drop (i * 2 + [I x.1, S x.2].length) = R1 at *
  have hl1 : R1.length = G * 2 := by rw [← hR1]; simp only [List.length_append, List.length_take, List.length_drop]; simp [hRs]; omega
  have hg2 := setRow_heap w1 w.heap.size ROW R1.toArray 69 _ hg1
  obtain ⟨w2, e2⟩ : ∃ w2, w2 = w1.setRow w.heap.size R1.toArray := ⟨_, rfl⟩
  rw [← e2] at hr1 hg2
  have B2 : Below w.heap.size w w2 := by rw [e2]; exact (setRow_only w1 _ _).below B1 B1.size (fun k q => by subst q; omega)
  have hr2 := run_copyk w2.drew 43 69 3 _ 2 24 Try.underlying43 info69 w.heap.size ((i + 1) * 2) (l.length - i) (G - (i + 1)) ⟨g, i * 2, none⟩ (l.length - i) (c - i) R1.toArray (cellsW (l.drop i)) (l.length - i) (by show _ = min _ _; omega) hg2 hY (by
      intro j u hj
      rw [add_off]
      show w2.cell? _ = _
      rw [B2.cell (by exact lt_of_row hg)]
      refine hcs _ u ?_
      rwa [← cellsW_drop, List.getElem?_drop] at hj) (by simp [hl1, hY]; omega) (cellsW_one _)
  obtain ⟨w3, e3⟩ : ∃ w3, w3 = w2.drew.setRow w.heap.size (R1.toArray.toList.take ((i + 1) * 2) ++ cellsW (l.drop i) ++ R1.toArray.toList.drop ((i + 1) * 2 + (cellsW (l.drop i)).length)).toArray := ⟨_, rfl⟩
  rw [← e3] at hr2
  have HI := hide (show Insd w (.slice (some ⟨g, 0, none⟩) l.length c) (ins l i x) (.slice (some ⟨w.heap.size, 0, none⟩) (l.length + 1) G) w3 from by
    refine ⟨⟨cellsW_len _, .inr ⟨w.heap.size, G, _, by rw [ins_len _ _ _ (by omega)], Nat.zero_le _, by rw [e3, setRow_heap w2.drew w.heap.size _ _ 69 _ hg2], by rw [ins_len _ _ _ (by omega)]; omega, hG2, ?_, ?_⟩⟩, ?_, fun k hk => .inr (by cases hk; exact Nat.le_refl _)⟩
    · have := hL.1
      simp at this ⊢
      omega
    · rw [ins_len _ _ _ (by omega), cellsW_ins]
      have := hL.2
      rw [hY, show (i + 1) * 2 + (l.length - i) * 2 = (l.length + 1) * 2 by omega] at this
      rw [hY, show (i + 1) * 2 + (l.length - i) * 2 = (l.length + 1) * 2 by omega]
      simpa using this
    · rw [e3]
      exact Only.of_below ((setRow_only w2.drew w.heap.size _).below (below_drew B2) B2.size (fun k q => by subst q; exact Nat.le_refl _)))
  clear hL hg1 hg2 hl1 e1 e2 e3 B1 B2 htk hsz hR1 hY hT hRs hRt hROW hold hcs hi0 hz0 hz1 hz2 hG2
  subst hcc
  generalize ins l i x = L at *
  generalize hn : l.length = n at *
  have hk : ((n : Int) + 1 - (i : Int)) = ((n + 1 - i : Nat) : Int) := by omega
  rw [← hk] at hr0
  clear hk hn hroom hlc hown hg hv hcm
  go_enter Try.func68, Try.ntmps68
  go_wp2_with (first | (at_builtin; refine Lib.wpList_append_run _ rfl _ _ _ _ rfl _ _ rfl rfl _ _ hr0 ?_) | (refine wp_copy_run rfl (.tmp 43) (.tmp 44) rfl _ _ rfl rfl _ _ hr1 ?_))
  simp only [Act.put, goInt, List.setIfInBounds_toArray, List.set_cons_succ, List.set_cons_zero]
  go_region
  go_wp2
  go_ret
  exact ⟨_, rfl, unhide HI⟩
/-- slices.Insert of one write. -/
theorem insert_any (v : Value) (l : List Wr) (i : Nat) (x : Wr) (vb : Nat) (w : World) (hown : w.ownsRow 0 69 2 v l.length (cellsW l)) (hv : w.heap[vb]? = some (.cells #[I x.1, S x.2] 69 (0, 0))) (hl : l.length ≤ 1000000) (hi : i ≤ l.length) (hne : v.ownBlock ≠ some vb) :
    Calls Try.prog 68 #[v, I i, .slice (some ⟨vb, 0, none⟩) 1 1] w fun e w' => ∃ V, e = .returned V ∧ Insd w v (ins l i x) V w' := by
  rcases Nat.lt_or_eq_of_le hi with q | q
  · obtain ⟨g, cap, cur, rfl, _⟩ := owns_at hown (by omega)
    by_cases hr : l.length + 1 ≤ cap
    · exact insert_shift g cap l i x vb w hown hv hl q hr (fun e => hne (by subst e; rfl))
    · exact insert_grow g cap l i x vb w hown hv hl q (by omega)
  · subst q
    exact insert_end v l x vb w hown hv hl
end Go.Proofs.Ytpelmacblglhoaa
namespace Go.Proofs.Ytpelmacblglhoaa
open Go.RowKit
set_option maxHeartbeats 4000000
set_option maxRecDepth 8000
/-- The write of a block, in the place of an earlier one, or at its place. -/
def putW : List Wr → Nat → Bs → List Wr
  | [], b, s => [(b, s)]
  | x :: l, b, s => if x.1 < b then x :: putW l b s else if x.1 = b then (b, s) :: l else (b, s) :: x :: l
theorem putW_set (l : List Wr) (b i : Nat) (s : Bs) (hp : Plc l b i) (h : hit l b i = true) : l.set i (b, s) = putW l b s := by
  induction l generalizing i with
  | nil => simp [hit] at h
  | cons x l ih =>
    obtain ⟨h1, h2⟩ : i < (x :: l).length ∧ ((x :: l).getD i (0, [])).1 = b := by simpa [hit] using h
    cases i with
    | zero =>
      have e : x.1 = b := h2
      simp [putW, e]
    | succ i =>
      have e : x.1 < b := hp.2.1 0 (by omega)
      simp only [putW, if_pos e, List.set_cons_succ]
      rw [ih i ⟨by have := hp.1; simp at this; omega, fun t ht => hp.2.1 (t + 1) (by omega), fun t h3 h4 => hp.2.2 (t + 1) (by omega) (by simp; omega)⟩ (by simp only [hit, Bool.and_eq_true, decide_eq_true_eq]; exact ⟨by simpa using h1, h2⟩)]
theorem putW_ins (l : List Wr) (b i : Nat) (s : Bs) (hp : Plc l b i) (h : hit l b i = false) : ins l i (b, s) = putW l b s := by
  induction l generalizing i with
  | nil =>
    have := hp.1
    simp at this
    subst this
    rfl
  | cons x l ih =>
    cases i with
    | zero =>
      have h1 : b ≤ x.1 := hp.2.2 0 (by omega) (by simp)
      have h2 : x.1 ≠ b := by
        intro e
        have : hit (x :: l) b 0 = true := by simp [hit, e]
        rw [this] at h
        cases h
      have n1 : ¬ x.1 < b := by omega
      simp [putW, n1, h2, ins]
    | succ i =>
      have e : x.1 < b := hp.2.1 0 (by omega)
      simp only [putW, if_pos e]
      have hle : i ≤ l.length := by have := hp.1; simp at this; omega
      have := ih i ⟨hle, fun t ht => hp.2.1 (t + 1) (by omega), fun t h3 h4 => hp.2.2 (t + 1) (by omega) (by simp; omega)⟩ (by
        rw [← h]
        unfold hit
        simp only [List.length_cons, List.getD_cons_succ]
        by_cases q : i < l.length
        · simp [q]
        · simp [q])
      rw [← this]
      rfl
theorem fnd_cons (x : Wr) (l : List Wr) (b : Nat) : fnd (x :: l) b = if x.1 = b then some x.2 else fnd l b := by
  unfold fnd
  rw [List.find?_cons]
  by_cases h : x.1 = b
  · simp [h]
  · have : (x.1 == b) = false := by simpa using h
    rw [this, if_neg h]
theorem Srt.tail {x : Wr} {l : List Wr} (h : Srt (x :: l)) : Srt l := fun i j hij hj => h (i + 1) (j + 1) (by omega) (by simp; omega)
theorem Srt.head {x : Wr} {l : List Wr} (h : Srt (x :: l)) : ∀ y ∈ l, x.1 < y.1 := by
  intro y hy
  obtain ⟨j, hj, rfl⟩ := List.getElem_of_mem hy
  have := h 0 (j + 1) (by omega) (by simp; omega)
  simpa [hj] using this
theorem Srt.cons {x : Wr} {l : List Wr} (h : Srt l) (hx : ∀ y ∈ l, x.1 < y.1) : Srt (x :: l) := by
  intro i j hij hj
  cases j with
  | zero => omega
  | succ j =>
    have hj' : j < l.length := by simpa using hj
    cases i with
    | zero => exact hx _ (mem_getD hj')
    | succ i => exact h i j (by omega) hj'
theorem putW_mem {l : List Wr} {b : Nat} {s : Bs} {y : Wr} (h : y ∈ putW l b s) : y = (b, s) ∨ y ∈ l := by
  induction l with
  | nil => simp [putW] at h; exact .inl h
  | cons x l ih =>
    unfold putW at h
    split at h
    · rcases List.mem_cons.1 h with q | q
      · exact .inr (by simp [q])
      · exact (ih q).imp id (fun r => List.mem_cons_of_mem _ r)
    · split at h
      · rcases List.mem_cons.1 h with q | q
        · exact .inl q
        · exact .inr (List.mem_cons_of_mem _ q)
      · rcases List.mem_cons.1 h with q | q
        · exact .inl q
        · exact .inr q
theorem putW_srt {l : List Wr} {b : Nat} {s : Bs} (h : Srt l) : Srt (putW l b s) := by
  induction l with
  | nil => intro i j h1 h2; simp [putW] at h2; omega
  | cons x l ih =>
    unfold putW
    split
    · rename_i q
      refine (ih h.tail).cons (fun y hy => ?_)
      rcases putW_mem hy with r | r
      · rw [r]; exact q
      · exact h.head y r
    · rename_i q1
      split
      · rename_i q
        exact h.tail.cons (fun y hy => by have := h.head y hy; show b < y.1; omega)
      · rename_i q
        refine h.cons (fun y hy => ?_)
        show b < y.1
        rcases List.mem_cons.1 hy with r | r
        · rw [r]; omega
        · have := h.head y r
          omega
theorem putW_fnd (l : List Wr) (b c : Nat) (s : Bs) : fnd (putW l b s) c = if c = b then some s else fnd l c := by
  induction l with
  | nil =>
    simp only [putW, fnd_cons]
    by_cases h : c = b
    · subst h; simp
    · rw [if_neg (fun e => h e.symm), if_neg h]
  | cons x l ih =>
    unfold putW
    split
    · rename_i q
      rw [fnd_cons, ih, fnd_cons]
      by_cases h : c = b
      · subst h
        rw [if_neg (by omega), if_pos rfl, if_pos rfl]
      · rw [if_neg h, if_neg h]
    · split
      · rename_i q1 q2
        rw [fnd_cons, fnd_cons]
        by_cases h : c = b
        · subst h; simp
        · rw [if_neg (show ¬ b = c from fun e => h e.symm), if_neg h, if_neg (by omega)]
      · rename_i q1 q2
        rw [fnd_cons]
        by_cases h : c = b
        · subst h; simp
        · rw [if_neg (show ¬ b = c from fun e => h e.symm), if_neg h]
def Ds.put (d : Ds) (b : Nat) (s : Bs) : Ds := { d with ws := putW d.ws b s }
theorem Ok.put {d : Ds} (h : Ok d) {b : Nat} {s : Bs} (hb : b < d.last.length) (hs : s.length = 512) : Ok (d.put b s) :=
  ⟨putW_srt h.srt, fun x hx => by
    rcases putW_mem hx with r | r
    · rw [r]; exact ⟨hb, hs⟩
    · exact h.lt x r, h.sz, h.len, h.fuse⟩
end Go.Proofs.Ytpelmacblglhoaa
