import Derived.Test.YteejnfkbjdpccaaLbc
namespace Go.Proofs.Yteejnfkbjdpccaa
open Go.RowKit Fl
attribute [local go_sem] run_storeF
set_option maxHeartbeats 4000000
set_option maxRecDepth 8000
/-- Three cells each. -/
def cB (k : Bk) : List Value := [S k.nm, fl k.lv, I k.tm]
abbrev vB (k : Bk) : Value := .agg #[S k.nm, fl k.lv, I k.tm]
def cellsB (l : List Bk) : List Value := l.flatMap cB
theorem cellsB_cons (k : Bk) (l : List Bk) : cellsB (k :: l) = cB k ++ cellsB l := by simp [cellsB]
theorem cellsB_app (l m : List Bk) : cellsB (l ++ m) = cellsB l ++ cellsB m := by simp [cellsB]
theorem cellsB_len (l : List Bk) : (cellsB l).length = l.length * 3 := by
  induction l with
  | nil => rfl
  | cons k l ih => rw [cellsB_cons, List.length_append, ih]; simp [cB]; omega
theorem cellsB_at (l : List Bk) (j : Nat) (h : j < l.length) : (cellsB l)[j * 3]? = some (S (l.getD j bk0).nm) ∧ (cellsB l)[j * 3 + 1]? = some (fl (l.getD j bk0).lv) ∧ (cellsB l)[j * 3 + 2]? = some (I (l.getD j bk0).tm) := by
  induction l generalizing j with
  | nil => simp at h
  | cons k l ih =>
    cases j with
    | zero => rw [cellsB_cons]; exact ⟨rfl, rfl, rfl⟩
    | succ j =>
      have := ih j (by simpa using h)
      rw [cellsB_cons]
      have e : (j + 1) * 3 = (cB k).length + j * 3 := by simp [cB]; omega
      rw [e, List.getElem?_append_right (by omega), Nat.add_assoc, List.getElem?_append_right (by omega), Nat.add_assoc, List.getElem?_append_right (by omega)]
      simpa using this
theorem blk_lt {w : World} {p i : Nat} {v : Value} (h : w.cell? ⟨p, i, none⟩ = some v) : p < w.heap.size := by
  rcases Nat.lt_or_ge p w.heap.size with q | q
  · exact q
  · rw [World.cell?, Array.getElem?_eq_none q] at h
    cases h
/-- Such in memory. -/
def Bks (w : World) (a : Option Addr) (n : Nat) (l : List Bk) : Prop :=
  n = l.length ∧ (0 < n → ∃ p o, a = some ⟨p, o, none⟩ ∧ ∀ j, j < n → w.cell? ⟨p, o + j * 3, none⟩ = some (S (l.getD j bk0).nm) ∧ w.cell? ⟨p, o + j * 3 + 1, none⟩ = some (fl (l.getD j bk0).lv) ∧ w.cell? ⟨p, o + j * 3 + 2, none⟩ = some (I (l.getD j bk0).tm))
theorem Bks.at {w : World} {a : Option Addr} {n : Nat} {l : List Bk} (h : Bks w a n l) {j : Nat} (hj : j < n) : ∃ p o, a = some ⟨p, o, none⟩ ∧ p < w.heap.size ∧ w.cell? ⟨p, o + j * 3, none⟩ = some (S (l.getD j bk0).nm) ∧ w.cell? ⟨p, o + j * 3 + 1, none⟩ = some (fl (l.getD j bk0).lv) ∧ w.cell? ⟨p, o + j * 3 + 2, none⟩ = some (I (l.getD j bk0).tm) := by
  obtain ⟨p, o, e, hc⟩ := h.2 (by omega)
  exact ⟨p, o, e, blk_lt (hc j hj).1, hc j hj⟩
theorem Bks.below {w w' : World} {a : Option Addr} {n : Nat} {l : List Bk} (h : Bks w a n l) (hb : Below w.heap.size w w') : Bks w' a n l := by
  refine ⟨h.1, fun hn => ?_⟩
  obtain ⟨p, o, e, hc⟩ := h.2 hn
  exact ⟨p, o, e, fun j hj => ⟨(hb.cell (by exact blk_lt (hc j hj).1)).trans (hc j hj).1, (hb.cell (by exact blk_lt (hc j hj).2.1)).trans (hc j hj).2.1, (hb.cell (by exact blk_lt (hc j hj).2.2)).trans (hc j hj).2.2⟩⟩
theorem Bks.of {e : Nat} {w : World} {a : Option Addr} {cap : Nat} {l : List Bk} (h : w.ownsRow 0 e 3 (.slice a l.length cap) l.length (cellsB l)) : Bks w a l.length l := by
  refine ⟨rfl, fun hn => ?_⟩
  obtain ⟨g, cap', cur, e1, _⟩ := owns_at h hn
  cases e1
  refine ⟨g, 0, rfl, fun j hj => ?_⟩
  obtain ⟨h0, h1, h2⟩ := cellsB_at l j hj
  simp only [Nat.zero_add]
  exact ⟨owns_cell h _ _ h0, owns_cell h _ _ h1, owns_cell h _ _ h2⟩
/-- A limiter in memory. -/
def LAt (ty e p : Nat) (x : Li) (w : World) : Prop := ∃ a cap, w.heap[p]? = some (.cells #[fl x.r, fl x.b, .slice a x.ks.length cap] ty (0, 0)) ∧ w.ownsRow 0 e 3 (.slice a x.ks.length cap) x.ks.length (cellsB x.ks)
theorem LAt.lt {ty e p : Nat} {x : Li} {w : World} (h : LAt ty e p x w) : p < w.heap.size := by
  obtain ⟨a, cap, h1, _⟩ := h
  exact lt_of_row h1
theorem LAt.below {ty e p : Nat} {x : Li} {w w' : World} (h : LAt ty e p x w) (hb : Below w.heap.size w w') : LAt ty e p x w' := by
  obtain ⟨a, cap, h1, h2⟩ := h
  exact ⟨a, cap, (hb.block _ (lt_of_row h1)).trans h1, owns_below h2 hb⟩
theorem LAt.only {ty e p : Nat} {x : Li} {w w' : World} {P : Nat → Prop} (h : LAt ty e p x w) (ho : Only P w w') (hp : ¬ P p) (hq : ∀ k cs, w.heap[k]? = some (.cells cs e (0, 0)) → ¬ P k) : LAt ty e p x w' := by
  obtain ⟨a, cap, h1, h2⟩ := h
  refine ⟨a, cap, (ho.block _ (lt_of_row h1) hp).trans h1, owns_only h2 ho fun k hk => ?_⟩
  obtain ⟨cs, hcs⟩ := owns_lt h2 k hk
  exact hq k cs hcs
theorem info65s : (Try.prog.info? 65).map (·.size) = some 3 := by kernel_rfl
theorem info72s : (Try.prog.info? 72).map (·.size) = some 3 := by kernel_rfl
/-- A struct of three comes out of its box. -/
theorem out65 {fn : Func} {q : Tmp} {W : World} {a : Act} {Z : Nat} {u0 u1 u2 v0 v1 v2 : Value} {w : World} {Post : Ending → World → Prop} (hf : fn.results = #[.cell q 65]) (hd : a.defers = []) (ht : a.tmps.getD q undef = .pointer (some ⟨Z, 0, none⟩)) (hz : w.heap[Z]? = some (.cells #[u0, u1, u2] 65 (0, 0)))
    (hW : W.heap[Z]? = (((w.setCell ⟨Z, 0, none⟩ v0).setCell ⟨Z, 1, none⟩ v1).setCell ⟨Z, 2, none⟩ v2).heap[Z]?) (hp : Post (.returned (.agg #[v0, v1, v2])) W) : bodyPost Try.prog fn Post .ret a W := by
  have h1 := heap_setCell_same _ Z 0 _ 65 v0 hz
  have h2 := heap_setCell_same _ Z 1 _ 65 v1 h1
  have h3 := heap_setCell_same _ Z 2 _ 65 v2 h2
  rw [← hW] at h3
  exact bodyPost_ret (results_cell_row hf _ W Z 65 _ (0, 0) _ ht h3 Try.underlying65 rfl info65s) hd hp
/-- A struct of three comes out of its box. -/
theorem out72 {fn : Func} {q : Tmp} {W : World} {a : Act} {Z : Nat} {u0 u1 u2 v0 v1 v2 : Value} {w : World} {Post : Ending → World → Prop} (hf : fn.results = #[.cell q 72]) (hd : a.defers = []) (ht : a.tmps.getD q undef = .pointer (some ⟨Z, 0, none⟩)) (hz : w.heap[Z]? = some (.cells #[u0, u1, u2] 72 (0, 0)))
    (hW : W.heap[Z]? = (((w.setCell ⟨Z, 0, none⟩ v0).setCell ⟨Z, 1, none⟩ v1).setCell ⟨Z, 2, none⟩ v2).heap[Z]?) (hp : Post (.returned (.agg #[v0, v1, v2])) W) : bodyPost Try.prog fn Post .ret a W := by
  have h1 := heap_setCell_same _ Z 0 _ 72 v0 hz
  have h2 := heap_setCell_same _ Z 1 _ 72 v1 h1
  have h3 := heap_setCell_same _ Z 2 _ 72 v2 h2
  rw [← hW] at h3
  exact bodyPost_ret (results_cell_row hf _ W Z 72 _ (0, 0) _ ht h3 Try.underlying72 rfl info72s) hd hp
theorem fnd_hit {l : List Bk} {s : Bs} {k : Nat} (hk : k < l.length) (ha : (l.take k).all (fun o => o.nm != s) = true) (h : (l.getD k bk0).nm = s) : fnd l s = some (l.getD k bk0) := by
  have e : l.getD k bk0 = l[k] := by simp [hk]
  rw [e] at h ⊢
  unfold fnd
  rw [List.find?_eq_some_iff_getElem]
  refine ⟨by simp [h], k, hk, rfl, fun j hj => ?_⟩
  rw [List.all_eq_true] at ha
  have := ha l[j] (by rw [List.mem_take_iff_getElem]; exact ⟨j, by omega, rfl⟩)
  simpa using this
theorem fnd_miss {l : List Bk} {s : Bs} (ha : l.all (fun o => o.nm != s) = true) : fnd l s = none := by
  unfold fnd
  rw [List.find?_eq_none]
  rw [List.all_eq_true] at ha
  intro o ho
  have := ha o ho
  simpa using this
theorem take_all {l : List Bk} {f : Bk → Bool} {k : Nat} (hk : k < l.length) (ha : (l.take k).all f = true) (h : f (l.getD k bk0) = true) : (l.take (k + 1)).all f = true := by
  rw [take_snoc l k hk, List.all_append, ha]
  have e : l.getD k bk0 = l[k] := by simp [hk]
  rw [e] at h
  simp [h]
theorem alloc_setRow (w : World) (old vs : Array Value) (T : TypeId) : (w.alloc (.cells old T)).setRow w.heap.size vs = w.alloc (.cells vs T) := by
  unfold World.setRow World.alloc
  congr 1
  apply Array.ext
  · simp
  · intro k h1 h2
    simp only [Array.getElem_modify, Array.getElem_push]
    split
    · rename_i hk
      subst hk
      simp
    · rename_i hk
      have : k < w.heap.size := by simp at h1; omega
      simp [this]
/-- A struct is laid into a new box. -/
theorem wp_stN {T : TypeId} (hi : (Try.prog.info? T).map (·.size) = some 3) {ops : Array Oper} {rest : List Oper} {o : Oper} {a : Act} {w : World} {Q : Exit → Act → World → Prop} (hgd : o.guard = none) (x y : Operand) (ho : o.op = .store T x y)
    (hx : a.eval x = .pointer (some ⟨w.heap.size, 0, none⟩)) (vs : Array Value) (hy : a.eval y = .agg vs) (old : Array Value) (hv : vs.size = 3) (ho5 : old.size = 3) (hone : vs.all (·.oneCell') = true)
    (h : wpList Try.prog ops Q rest (a.put o.dst undef) (w.alloc (.cells vs T))) : wpList Try.prog ops Q (o :: rest) a (w.alloc (.cells old T)) :=
  wpList_store_row hgd T x y ho w.heap.size vs hx hy T old (heap_alloc_new _ _) (by rw [hi, hv]) (by rw [ho5, hv]) hone (by rw [alloc_setRow]; exact h)
/-- A struct is laid into an old box. -/
theorem wp_stO {T : TypeId} (hi : (Try.prog.info? T).map (·.size) = some 3) {ops : Array Oper} {rest : List Oper} {o : Oper} {a : Act} {w : World} {Q : Exit → Act → World → Prop} (hgd : o.guard = none) (x y : Operand) (ho : o.op = .store T x y) (Z : Nat)
    (hx : a.eval x = .pointer (some ⟨Z, 0, none⟩)) (vs : Array Value) (hy : a.eval y = .agg vs) (old : Array Value) (hz : w.heap[Z]? = some (.cells old T (0, 0))) (hv : vs.size = 3) (ho5 : old.size = 3) (hone : vs.all (·.oneCell') = true)
    (h : wpList Try.prog ops Q rest (a.put o.dst undef) (w.setRow Z vs)) : wpList Try.prog ops Q (o :: rest) a w :=
  wpList_store_row hgd T x y ho Z vs hx hy T old hz (by rw [hi, hv]) (by rw [ho5, hv]) hone h
theorem setRow_Only (w : World) (g : Nat) (cs : Array Value) : Only (fun k => k = g) w (w.setRow g cs) :=
  ⟨rfl, rfl, rfl, by simp [World.setRow], fun k _ hp => setRow_other w g k cs hp⟩
theorem bucket_any {p : Nat} {x : Li} {w : World} (h : LAt 57 65 p x w) (hx : x.Ok) (s : Bs) :
    Calls Try.prog 24 #[ptr p, S s] w fun e w' => e = .returned (vB (has x.b x.ks s)) ∧ Below w.heap.size w w' := by
  obtain ⟨a, cap, h1, h2⟩ := h
  have hl := lt_of_row h1
  have c1 : w.cell? ⟨p, 1, none⟩ = some (fl x.b) := by rw [cell_of_row w p 1 _ 57 (0, 0) h1]; rfl
  have c2 : w.cell? ⟨p, 2, none⟩ = some (.slice a x.ks.length cap) := by rw [cell_of_row w p 2 _ 57 (0, 0) h1]; rfl
  have HP := hide (Bks.of h2)
  have hfew := hx.few
  have ZB := hide ((Below.refl w.heap.size w).alloc (Nat.le_refl _) (.cells #[.string ⟨#[]⟩, fl 0, I 0] 65))
  clear h1 h2
  go_enter Try.func24, Try.ntmps24
  go_wp2
  go_loopw [12] (fun i wr => ∃ k : Nat, k ≤ x.ks.length ∧ i = .int .i64 k ∧ (x.ks.take k).all (fun o => o.nm != s) = true ∧ Below (w.heap.size + 1) (w.alloc (.cells #[.string ⟨#[]⟩, fl 0, I 0] 65)) wr) (fun i _ => x.ks.length - (Go.RowKit.intOf i).toNat)
  case atStart => exact ⟨0, by omega, rfl, by simp, by have := Below.refl (w.heap.size + 1) (w.alloc (.cells #[.string ⟨#[]⟩, fl 0, I 0] 65)); exact this⟩
  case round =>
    obtain ⟨k, hk, rfl, ha, hb⟩ := hrel
    have HB := hide hb
    by_cases hlt : k < x.ks.length
    · have hbw := (unhide ZB).trans (hb.mono (by omega))
      obtain ⟨g, o, rfl, hpl, hc0, hc1, hc2⟩ := ((unhide HP).below hbw).at hlt
      have hlt' : (k : Int) < (x.ks.length : Int) := by omega
      have HF := hide (fun e => fnd_hit (s := s) hlt ha e)
      have HT := hide (fun e => take_all (f := fun o => o.nm != s) hlt ha e)
      generalize x.ks.getD k bk0 = q at *
      obtain ⟨q0, q1, q2⟩ := q
      simp only at hc0 hc1 hc2 HF HT
      have hzr : wr.heap[w.heap.size]? = some (.cells #[.string ⟨#[]⟩, fl 0, I 0] 65 (0, 0)) := (hb.block _ (by omega)).trans (heap_alloc_new _ _)
      have hzl : w.heap.size < wr.heap.size := lt_of_row hzr
      have z0 : wr.cell? ⟨w.heap.size, 0, none⟩ = some (.string ⟨#[]⟩) := by rw [cell_of_row wr _ 0 _ 65 (0, 0) hzr]; rfl
      have z1 : wr.cell? ⟨w.heap.size, 1, none⟩ = some (fl 0) := by rw [cell_of_row wr _ 1 _ 65 (0, 0) hzr]; rfl
      have z2 : wr.cell? ⟨w.heap.size, 2, none⟩ = some (I 0) := by rw [cell_of_row wr _ 2 _ 65 (0, 0) hzr]; rfl
      have zf0 := frz hzr 0
      have zf1 := frz hzr 1
      have zf2 := frz hzr 2
      have HZR := hide hzr
      clear ha hb hbw hzr
      go_wp2
      · rename_i heq
        have hq : q0 = s := by simpa using heq
        refine out65 rfl rfl rfl (unhide HZR) (heap_alloc_old _ _ (by simp [World.setCell]; omega)) ⟨?_, ?_⟩
        · unfold has
          rw [unhide HF hq]
          rfl
        · exact ((((unhide ZB).trans ((unhide HB).mono (by omega))).setCell (p := ⟨w.heap.size, 0, none⟩) (Nat.le_refl _) _).setCell (p := ⟨w.heap.size, 1, none⟩) (Nat.le_refl _) _).setCell (p := ⟨w.heap.size, 2, none⟩) (Nat.le_refl _) _ |>.alloc (by simp [World.setCell]; omega) _
      · rename_i heq
        go_roundw
        case rel => exact ⟨k + 1, by omega, by go_num, unhide HT (by simpa using heq), (unhide HB).alloc (by omega) _⟩
        case measure => simp [intOf]; omega
    · have hkk : k = x.ks.length := by omega
      have hlt' : ¬ (k : Int) < (x.ks.length : Int) := by omega
      rw [hkk, List.take_length] at ha
      have hf := fnd_miss ha
      have hzr : wr.heap[w.heap.size]? = some (.cells #[.string ⟨#[]⟩, fl 0, I 0] 65 (0, 0)) := (hb.block _ (by omega)).trans (heap_alloc_new _ _)
      have hzl : w.heap.size < wr.heap.size := lt_of_row hzr
      have z0 : wr.cell? ⟨w.heap.size, 0, none⟩ = some (.string ⟨#[]⟩) := by rw [cell_of_row wr _ 0 _ 65 (0, 0) hzr]; rfl
      have z1 : wr.cell? ⟨w.heap.size, 1, none⟩ = some (fl 0) := by rw [cell_of_row wr _ 1 _ 65 (0, 0) hzr]; rfl
      have z2 : wr.cell? ⟨w.heap.size, 2, none⟩ = some (I 0) := by rw [cell_of_row wr _ 2 _ 65 (0, 0) hzr]; rfl
      have zf0 := frz hzr 0
      have zf1 := frz hzr 1
      have zf2 := frz hzr 2
      have hbw := (unhide ZB).trans (hb.mono (by omega))
      have c1' : wr.cell? ⟨p, 1, none⟩ = some (fl x.b) := (hbw.cell hl).trans c1
      have HF := hide hf
      have HZR := hide hzr
      clear ha hb hbw hzr hf
      go_wp2
      refine out65 rfl rfl rfl (unhide HZR) rfl ⟨?_, ?_⟩
      · unfold has
        rw [unhide HF]
        rfl
      · exact ((((unhide ZB).trans ((unhide HB).mono (by omega))).setCell (p := ⟨w.heap.size, 0, none⟩) (Nat.le_refl _) _).setCell (p := ⟨w.heap.size, 1, none⟩) (Nat.le_refl _) _).setCell (p := ⟨w.heap.size, 2, none⟩) (Nat.le_refl _) _
end Go.Proofs.Yteejnfkbjdpccaa
