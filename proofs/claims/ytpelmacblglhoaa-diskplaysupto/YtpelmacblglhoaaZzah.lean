import Derived.Test.YtpelmacblglhoaaZzag
namespace Go.Proofs.Ytpelmacblglhoaa
open Go.RowKit
set_option maxHeartbeats 4000000
set_option maxRecDepth 8000
/-- A sector. -/
def sect (s : Nat) (x : Bs) : Bs := (x.drop (64 * s)).take 64
def inSet (set s : Nat) : Bool := set / 2 ^ s % 2 == 1
def tornK (last now : Bs) (set k : Nat) : Bs := (List.range k).flatMap (fun s => sect s (if inSet set s then now else last))
/-- Of what lasted and what was written, sector by sector. -/
def tornv (last now : Bs) (set : Nat) : Bs := tornK last now set 8
theorem tornK_next (last now : Bs) (set k : Nat) : tornK last now set (k + 1) = tornK last now set k ++ sect k (if inSet set k then now else last) := by
  simp [tornK, List.range_succ]
theorem sect_len (s : Nat) (x : Bs) (hx : x.length = 512) (hs : s < 8) : (sect s x).length = 64 := by
  simp [sect, hx]
  omega
theorem tornK_len (last now : Bs) (set k : Nat) (h1 : last.length = 512) (h2 : now.length = 512) (hk : k ≤ 8) : (tornK last now set k).length = 64 * k := by
  induction k with
  | zero => rfl
  | succ k ih =>
    rw [tornK_next, List.length_append, ih (by omega), sect_len _ _ (by split <;> assumption) (by omega)]
    omega
theorem extract_eq (x : Bs) (i j : Nat) : (⟨x.toArray⟩ : ByteArray).extract i j = ⟨((x.drop i).take (j - i)).toArray⟩ := by
  apply ByteArray.ext
  apply Array.ext'
  simp [ByteArray.extract, ByteArray.copySlice, List.extract]
theorem ba_append (a b : List UInt8) : (ByteArray.mk a.toArray ++ ByteArray.mk b.toArray) = ⟨(a ++ b).toArray⟩ := by
  apply ByteArray.ext
  simp
theorem slice_sect (x : Bs) (k : Nat) (hx : x.length = 512) (hk : k < 8) (w : World) : (Instr.slice 9 (S x) (some (.int .i64 (64 * (k : Int)))) (some (.int .i64 (64 * (k : Int) + 64))) none).run Try.prog w = .ok (S (sect k x)) w := by
  have := run_slice_string (P := Try.prog) w 9 ⟨x.toArray⟩ .i64 .i64 (64 * (k : Int)) (64 * (k : Int) + 64) Try.underlying9 (by omega) (by omega) (by simp [ByteArray.size, hx]; omega)
  rw [this, show (64 * (k : Int)).toNat = 64 * k by omega, show (64 * (k : Int) + 64).toNat = 64 * k + 64 by omega, extract_eq]
  simp [sect]
theorem wp_strsl {ops : Array Oper} {rest : List Oper} {o : Oper} {a : Act} {w : World} {Q : Exit → Act → World → Prop} (hgd : o.guard = none) (x l h : Operand) (ho : o.op = .slice 9 x (some l) (some h) none) (v lv hv r : Value) (hx : a.eval x = v) (hl : a.eval l = lv) (hh : a.eval h = hv)
    (hr : (Instr.slice 9 v (some lv) (some hv) none).run Try.prog w = .ok r w) (hn : wpList Try.prog ops Q rest (a.put o.dst r) w) : wpList Try.prog ops Q (o :: rest) a w := by
  refine wpList_plain hgd fun K hK => ?_
  have hr2 : (Instr.sliceAt 9 v (some lv) (some hv) none).run Try.prog w = .ok r w := by
    unfold Instr.sliceAt
    simp only [Sem.run_bind, run_underlying Try.underlying9, Result.andThen_ok]
    exact hr
  unfold Oper.wp execOp
  simp only [ho, Sem.run_bind, Sem.run_pure, Result.andThen_ok, Option.map_some, Option.map_none, hx, hl, hh, hr2]
  exact hK _ _ hn
theorem tmod_two (set k : Nat) : (((set : Int) / 2 ^ k).tmod 2 = 1) ↔ inSet set k = true := by
  have e : ((set : Int) / 2 ^ k) = ((set / 2 ^ k : Nat) : Int) := by push_cast; rfl
  rw [e, Int.tmod_eq_emod_of_nonneg (Int.natCast_nonneg _)]
  unfold inSet
  simp
  omega
theorem lawTorn_any (last now : Bs) (set : Nat) (w : World) (h1 : last.length = 512) (h2 : now.length = 512) (_ : set < 256) :
    Calls Try.prog 27 #[S last, S now, I set] w fun e w' => e = .returned (S (tornv last now set)) ∧ w' = w := by
  have g1 : ((last.length : Nat) : Int) = 512 := by omega
  have g2 : ((now.length : Nat) : Int) = 512 := by omega
  go_enter Try.func27, Try.ntmps27
  go_wp2
  go_loopw [7, 8] (fun o i wr => ∃ k : Nat, k ≤ 8 ∧ i = .int .i64 k ∧ o = S (tornK last now set k) ∧ wr = w) (fun _ i _ => 8 - (Go.RowKit.intOf i).toNat)
  case atStart => exact ⟨0, by omega, rfl, rfl, rfl⟩
  case round =>
    obtain ⟨k, hk, rfl, rfl, rfl⟩ := hrel
    by_cases hlt : k < 8
    · have hlt' : (k : Int) < 8 := by omega
      have ht0 := tornK_next last now set k
      have hT := tornK_len last now set k h1 h2 hk
      have hA := sect_len k last h1 hlt
      have hB := sect_len k now h2 hlt
      have l1 := slice_sect last k h1 hlt
      have l2 := slice_sect now k h2 hlt
      have ht := tmod_two set k
      by_cases hc : inSet set k = true
      · have hc' := ht.2 hc
        rw [if_pos hc] at ht0
        have HT := hide ht0
        clear ht ht0
        generalize tornK last now set k = T at *
        generalize sect k now = B at *
        have hnb : ¬ 9223372036854775807 < T.length + B.length := by omega
        have hnb2 : ¬ (9223372036854775807 : Int) < (T.length : Int) + (B.length : Int) := by omega
        go_wp2_with (refine wp_strsl rfl (.tmp 22) (.tmp 24) (.tmp 27) rfl _ _ _ _ rfl rfl rfl (l2 _) ?_)
        go_round
        case measure => simp [Go.RowKit.intOf]; omega
        case rel =>
          refine ⟨k + 1, by omega, by simp, ?_, by first | trivial | rfl⟩
          rw [unhide HT, ba_append]
      · have hc' : ¬ ((set : Int) / 2 ^ k).tmod 2 = 1 := fun q => hc (ht.1 q)
        rw [if_neg hc] at ht0
        have HT := hide ht0
        clear ht ht0
        generalize tornK last now set k = T at *
        generalize sect k last = B at *
        have hnb : ¬ 9223372036854775807 < T.length + B.length := by omega
        have hnb2 : ¬ (9223372036854775807 : Int) < (T.length : Int) + (B.length : Int) := by omega
        go_wp2_with (refine wp_strsl rfl (.tmp 22) (.tmp 24) (.tmp 27) rfl _ _ _ _ rfl rfl rfl (l1 _) ?_)
        go_round
        case measure => simp [Go.RowKit.intOf]; omega
        case rel =>
          refine ⟨k + 1, by omega, by simp, ?_, by first | trivial | rfl⟩
          rw [unhide HT, ba_append]
    · have hlt' : ¬ (k : Int) < 8 := by omega
      obtain rfl : k = 8 := by omega
      go_wp2
      go_ret
      exact ⟨rfl, rfl⟩
end Go.Proofs.Ytpelmacblglhoaa
namespace Go.Proofs.Ytpelmacblglhoaa
open Go.RowKit
set_option maxHeartbeats 4000000
set_option maxRecDepth 8000
theorem bit_one (set k : Nat) (hs : set < 256) : bits .and .i64 ((set : Int) / 2 ^ k) 1 = ((set / 2 ^ k % 2 : Nat) : Int) := by
  have e : ((set : Int) / 2 ^ k) = ((set / 2 ^ k : Nat) : Int) := by push_cast; rfl
  have hb : set / 2 ^ k < 9223372036854775808 := Nat.lt_of_le_of_lt (Nat.div_le_self _ _) (by omega)
  have h1 : (BitVec.ofInt 64 ((set / 2 ^ k : Nat) : Int)).toNat = set / 2 ^ k := by
    generalize set / 2 ^ k = m at *
    rw [BitVec.toNat_ofInt]; omega
  have h2 : (BitVec.ofInt 64 (1 : Int)).toNat = 1 := by rfl
  have hb' : bits .and .i64 ((set / 2 ^ k : Nat) : Int) 1 = IntKind.i64.wrap (((BitVec.ofInt 64 ((set / 2 ^ k : Nat) : Int)) &&& (BitVec.ofInt 64 (1 : Int))).toNat : Int) := rfl
  rw [e, hb', BitVec.toNat_and, h1, h2, Nat.and_one_is_mod, IntKind.wrap_i64]
  omega
theorem slice_sect2 (x : Bs) (k : Nat) (hx : x.length = 512) (hk : k < 8) (w : World) : (Instr.slice 9 (S x) (some (.int .i64 ((k : Int) * 64))) (some (.int .i64 (((k : Int) + 1) * 64))) none).run Try.prog w = .ok (S (sect k x)) w := by
  have := slice_sect x k hx hk w
  rw [show (k : Int) * 64 = 64 * (k : Int) by omega, show ((k : Int) + 1) * 64 = 64 * (k : Int) + 64 by omega]
  exact this
theorem strCells_eq (l : Bs) : Lib.strCells ⟨l.toArray⟩ = Lib.byteCells l := by
  simp [Lib.strCells, Lib.byteCells]
theorem byteCells_append (a b : Bs) : Lib.byteCells a ++ Lib.byteCells b = Lib.byteCells (a ++ b) := by simp [Lib.byteCells]
theorem byteCells_len (a : Bs) : (Lib.byteCells a).length = a.length := by simp [Lib.byteCells]
/-- A builder of one's own. -/
structure Bld (w : World) (T : Bs) (W : World) : Prop where
  b : Lib.IsBuilderF 108 5 w.heap.size w.heap.size (Lib.byteCells T) W
  bel : Below w.heap.size w W
theorem bld_next {w W W' : World} {T T' X : Bs} (h : Bld w T W) (q : Lib.BuilderAtF 108 5 w.heap.size w.heap.size (.pointer (some ⟨w.heap.size, 0, none⟩)) (Lib.byteCells T ++ Lib.strCells ⟨X.toArray⟩) W') (b : Below w.heap.size W W') (e : T' = T ++ X) : Bld w T' W' := by
  subst e
  rw [strCells_eq, byteCells_append] at q
  exact ⟨.inr q, h.bel.trans b⟩
theorem torn_any (last now : Bs) (set : Nat) (w : World) (h1 : last.length = 512) (h2 : now.length = 512) (hs : set < 256) :
    Calls Try.prog 53 #[S last, S now, I set] w fun e w' => e = .returned (S (tornv last now set)) ∧ Below w.heap.size w w' := by
  have H0 := hide (Try.Builder_Grow w.heap.size w.heap.size 512 (w.alloc (.cells #[.pointer none, .slice none 0 0] 108)) (Nat.le_refl _) (heap_alloc_new _ _) (by simp) (by omega))
  have B0 := hide ((Below.refl w.heap.size w).alloc (Nat.le_refl _) (.cells #[.pointer none, .slice none 0 0] 108))
  go_enter Try.func53, Try.ntmps53
  go_wp2_with fail
  refine (unhide H0).mono ?_
  rintro e w1 ⟨rfl, q1, b1⟩
  have HB := hide (show Bld w [] w1 from ⟨q1, (unhide B0).trans b1⟩)
  clear q1 b1 H0 B0
  go_wp2
  go_loopw [11] (fun i wr => ∃ k : Nat, k ≤ 8 ∧ i = .int .i64 k ∧ Bld w (tornK last now set k) wr) (fun i _ => 8 - (Go.RowKit.intOf i).toNat)
  case atStart => exact ⟨0, by omega, rfl, unhide HB⟩
  case round =>
    obtain ⟨k, hk, rfl, hb⟩ := hrel
    have HK := hide hb
    by_cases hlt : k < 8
    · have hlt' : (k : Int) < 8 := by omega
      have ht0 := tornK_next last now set k
      have hT := tornK_len last now set k h1 h2 hk
      have hA := sect_len k last h1 hlt
      have hB := sect_len k now h2 hlt
      have l1 := slice_sect2 last k h1 hlt
      have l2 := slice_sect2 now k h2 hlt
      have hbit := bit_one set k hs
      have hm : set / 2 ^ k % 2 = 1 ↔ inSet set k = true := by unfold inSet; simp
      have HW := hide (fun (X : Bs) (hX : X.length = 64) => Try.Builder_WriteString w.heap.size w.heap.size (Lib.byteCells (tornK last now set k)) ⟨X.toArray⟩ wr hb.b (by rw [byteCells_len]; simp [ByteArray.size]; omega) hb.bel.size)
      clear hb
      by_cases hc : inSet set k = true
      · have hc' := hm.2 hc
        rw [hc'] at hbit
        rw [if_pos hc] at ht0
        have HT := hide ht0
        clear ht0 hm hc'
        generalize tornK last now set k = T at *
        generalize sect k now = B at *
        have HC := hide (unhide HW B hB)
        clear HW
        go_wp2_with (first | (refine wp_strsl rfl (.tmp 21) (.tmp 23) (.tmp 26) rfl _ _ _ _ rfl rfl rfl (l2 _) ?_) | fail)
        refine (unhide HC).mono ?_
        rintro e w2 ⟨rfl, q2, b2, -⟩
        have HN := hide (bld_next (unhide HK) q2 b2 (unhide HT))
        clear q2 b2 HC
        go_wp2
        go_round
        case measure => simp [Go.RowKit.intOf]; omega
        case rel => exact ⟨k + 1, by omega, by simp, unhide HN⟩
      · have hc' : ¬ set / 2 ^ k % 2 = 1 := fun q => hc (hm.1 q)
        have hc2 : set / 2 ^ k % 2 = 0 := by omega
        rw [hc2] at hbit
        rw [if_neg hc] at ht0
        have HT := hide ht0
        clear ht0 hm hc'
        generalize tornK last now set k = T at *
        generalize sect k last = B at *
        have HC := hide (unhide HW B hA)
        clear HW
        go_wp2_with (first | (refine wp_strsl rfl (.tmp 21) (.tmp 23) (.tmp 26) rfl _ _ _ _ rfl rfl rfl (l1 _) ?_) | fail)
        refine (unhide HC).mono ?_
        rintro e w2 ⟨rfl, q2, b2, -⟩
        have HN := hide (bld_next (unhide HK) q2 b2 (unhide HT))
        clear q2 b2 HC
        go_wp2
        go_round
        case measure => simp [Go.RowKit.intOf]; omega
        case rel => exact ⟨k + 1, by omega, by simp, unhide HN⟩
    · have hlt' : ¬ (k : Int) < 8 := by omega
      obtain rfl : k = 8 := by omega
      have H2 := hide (Try.Builder_String w.heap.size w.heap.size (tornK last now set 8) wr hb.b hb.bel.size)
      clear hb
      go_wp2_with fail
      refine (unhide H2).mono ?_
      rintro e w2 ⟨rfl, -, b2, -⟩
      have HN := hide ((unhide HK).bel.trans b2)
      clear b2
      go_wp2
      go_ret
      exact ⟨rfl, unhide HN⟩
end Go.Proofs.Ytpelmacblglhoaa
namespace Go.Proofs.Ytpelmacblglhoaa
open Go.RowKit
set_option maxHeartbeats 4000000
set_option maxRecDepth 8000
/-- The first k writes are copied. -/
def halfW (l : List Wr) (k : Nat) : List Value := cellsW (l.take k ++ List.replicate (l.length - k) (0, []))
theorem halfW_set (l : List Wr) (k : Nat) (hk : k < l.length) : ((halfW l k).set (k * 2) (I (l.getD k (0, [])).1)).set (k * 2 + 1) (S (l.getD k (0, [])).2) = halfW l (k + 1) := by
  unfold halfW
  rw [cellsW_set _ k (l.getD k (0, [])) (by simp; omega)]
  congr 1
  have e : l.length - k = (l.length - (k + 1)) + 1 := by omega
  have hlen : (l.take k).length = k := by simp; omega
  have e2 : l.getD k (0, []) = l[k] := by simp [hk]
  rw [List.set_append_right _ _ (by omega), hlen, Nat.sub_self, e, List.replicate_succ, List.set_cons_zero, List.take_succ_eq_append_getElem hk, List.append_assoc, e2]
  rfl
theorem halfW_all (l : List Wr) : halfW l l.length = cellsW l := by simp [halfW]
theorem halfW_at (l : List Wr) (k : Nat) (hk : k < l.length) : (halfW l k)[k * 2]? = some (I 0) ∧ (halfW l k)[k * 2 + 1]? = some (S []) := by
  have h := cellsW_at (l.take k ++ List.replicate (l.length - k) (0, [])) k (by simp; omega)
  have hlen : (l.take k).length = k := by simp; omega
  have e : (l.take k ++ List.replicate (l.length - k) ((0, []) : Wr)).getD k (0, []) = (0, []) := by
    rw [List.getD_eq_getElem?_getD, List.getElem?_append_right (by omega), hlen, Nat.sub_self, List.getElem?_replicate, if_pos (by omega)]
    rfl
  rw [e] at h
  exact h
theorem made69 (m : Nat) : (madeCells (Value.agg #[.int .i64 0, .string ⟨#[]⟩]).cells (m * 2)).toList = cellsW (List.replicate m (0, [])) := by
  have hz : (Value.agg #[Value.int .i64 0, Value.string ⟨#[]⟩]).cells = #[Value.int .i64 0, Value.string ⟨#[]⟩] := rfl
  rw [hz]
  apply List.ext_getElem?
  intro i
  by_cases hi : i < m * 2
  · have h := cellsW_at (List.replicate m (0, [])) (i / 2) (by simp; omega)
    have e : (List.replicate m ((0, []) : Wr)).getD (i / 2) (0, []) = (0, []) := by
      rw [List.getD_eq_getElem?_getD, List.getElem?_replicate]
      split <;> rfl
    rw [e] at h
    unfold madeCells
    rcases Nat.mod_two_eq_zero_or_one i with q | q
    · have h1 := h.1
      rw [show i / 2 * 2 = i by omega] at h1
      rw [h1]
      simp [hi, q]
    · have h1 := h.2
      rw [show i / 2 * 2 + 1 = i by omega] at h1
      rw [h1]
      simp [hi, q]
  · rw [List.getElem?_eq_none (by unfold madeCells; simp; omega), List.getElem?_eq_none (by rw [cellsW_len]; simp; omega)]
theorem list_facts {W0 W w2 : World} {cs0 : Array Value} {g n cap : Nat} {k : Nat} {xs : List Value} (h : W0.ownsRow 0 69 2 (.slice (some ⟨g, 0, none⟩) n cap) n xs) (hx : xs[k * 2]? = some (I 0) ∧ xs[k * 2 + 1]? = some (S [])) (b : Below W.heap.size W w2) (e : W.heap = (W0.alloc (.cells cs0 69)).heap) (e1 : W.os = W0.os) (e2 : W.tape = W0.tape) (e3 : W.output = W0.output) :
    w2.cell? ⟨g, k * 2, none⟩ = some (I 0) ∧ w2.cell? ⟨g, k * 2 + 1, none⟩ = some (S []) ∧ w2.frozen? ⟨g, k * 2, none⟩ = false ∧ w2.frozen? ⟨g, k * 2 + 1, none⟩ = false ∧ (∀ j, w2.cell? ⟨W0.heap.size, j, none⟩ = cs0[j]?) ∧ (w2.ownsRow 0 69 2 (.slice (some ⟨g, 0, none⟩) n cap) n xs ∧ Below W0.heap.size W0 w2) := by
  have b0 : Below W0.heap.size W0 W := ⟨e1, e2, e3, by rw [e]; simp, fun k hk => by rw [e]; exact heap_alloc_old _ _ hk⟩
  have b1 := b0.trans (b.mono b0.size)
  have h2 := owns_below h b1
  obtain ⟨cs, q⟩ := owns_lt h2 g rfl
  have hb : w2.heap[W0.heap.size]? = some (.cells cs0 69 (0, 0)) := by
    rw [b.block _ (by rw [e]; simp), e]
    exact heap_alloc_new _ _
  exact ⟨owns_cell h2 _ _ hx.1, owns_cell h2 _ _ hx.2, frz q _, frz q _, fun j => cell_of_row w2 _ j _ 69 (0, 0) hb, h2, b1⟩
theorem list_step {w W0 w2 : World} {n k : Nat} {l : List Wr} {x1 : Nat} {x2 : Bs} (hb : Below w.heap.size w W0) (h : w2.ownsRow 0 69 2 (.slice (some ⟨w.heap.size, 0, none⟩) n n) n (halfW l k) ∧ Below W0.heap.size W0 w2) (hs : ((halfW l k).set (k * 2) (I x1)).set (k * 2 + 1) (S x2) = halfW l (k + 1)) :
    ((w2.setCell ⟨w.heap.size, k * 2, none⟩ (I x1)).setCell ⟨w.heap.size, k * 2 + 1, none⟩ (S x2)).ownsRow 0 69 2 (.slice (some ⟨w.heap.size, 0, none⟩) n n) n (halfW l (k + 1)) ∧ Below w.heap.size w ((w2.setCell ⟨w.heap.size, k * 2, none⟩ (I x1)).setCell ⟨w.heap.size, k * 2 + 1, none⟩ (S x2)) := by
  have o := owns_set (owns_set h.1 (k * 2) (I x1)) (k * 2 + 1) (S x2)
  rw [hs] at o
  exact ⟨o, ((hb.trans (h.2.mono hb.size)).setCell (p := ⟨w.heap.size, k * 2, none⟩) (Nat.le_refl _) _).setCell (p := ⟨w.heap.size, k * 2 + 1, none⟩) (Nat.le_refl _) _⟩
theorem list_any {D : Nat} {d : Ds} {vw vl : Value} {w : World} (h : DAt D d vw vl w) (ho : Ok d) :
    Calls Try.prog 42 #[ptr D] w fun e w' => ∃ V, e = .returned V ∧ w'.ownsRow 0 69 2 V d.ws.length (cellsW d.ws) ∧ (∀ k, V.ownBlock = some k → w.heap.size ≤ k) ∧ Below w.heap.size w w' := by
  obtain ⟨c0, c1, c2, c3, c4⟩ := h.c
  have hl := h.lt
  obtain ⟨p, cap, rfl, hp⟩ := Wls.of h.ws
  have HP := hide hp
  have hn := ho.few
  have HL := hide (fun x hx => (ho.lt x hx).2)
  have HD := hide h
  clear h hp ho
  go_enter Try.func42, Try.ntmps42
  go_wp2_with (first | (refine make_own 43 69 _ 2 24 Try.underlying43 info69 rfl (.tmp 10) (.tmp 10) rfl _ _ d.ws.length rfl rfl rfl rfl (by omega) (by omega) ?_; intro w1 ho1 b1 l1; rw [made69] at ho1; have HO1 := hide ho1; have HB1 := hide b1; have cc := ((unhide HD).below b1).c.1; clear ho1 b1) | fail)
  go_loopw [17] (fun i wr => ∃ k : Nat, k ≤ d.ws.length ∧ i = .int .i64 k ∧ wr.ownsRow 0 69 2 (.slice (some ⟨w.heap.size, 0, none⟩) d.ws.length d.ws.length) d.ws.length (halfW d.ws k) ∧ Below w.heap.size w wr) (fun i _ => d.ws.length - (Go.RowKit.intOf i).toNat)
  case atStart => exact ⟨0, by omega, rfl, by simpa [halfW] using unhide HO1, unhide HB1⟩
  case round =>
    obtain ⟨k, hk, rfl, ho, hb⟩ := hrel
    have HO := hide ho
    have HB := hide hb
    by_cases hlt : k < d.ws.length
    · obtain ⟨g, o, rfl, hpl, hc0, hc1⟩ := ((unhide HP).below hb).at hlt
      have hlt' : (k : Int) < (d.ws.length : Int) := by omega
      have HS := hide (halfW_set d.ws k hlt)
      have hlen := unhide HL _ (mem_getD (z := (0, [])) hlt)
      obtain ⟨x, hx⟩ : ∃ x, x = d.ws.getD k (0, []) := ⟨_, rfl⟩
      rw [← hx] at hc0 hc1 HS hlen
      obtain ⟨x1, x2⟩ := x
      simp only at hc0 hc1 HS hlen
      clear ho hb hx
      have hz0 := cell_of_row (wr.alloc (.cells #[I x1, S x2] 69)) wr.heap.size 0 _ 69 (0, 0) (heap_alloc_new _ _)
      have hz1 := cell_of_row (wr.alloc (.cells #[I x1, S x2] 69)) wr.heap.size 1 _ 69 (0, 0) (heap_alloc_new _ _)
      have H1 := hide (fun (W : World) => clone_any x2 W (by omega))
      go_wp2
      go_region_with (refine (unhide H1 _).mono ?_; rintro e w2 ⟨rfl, b2⟩; obtain ⟨y0, y1, y2, y3, y5, y4⟩ := list_facts (cs0 := #[I x1, S x2]) (unhide HO) (halfW_at d.ws k hlt) b2 rfl rfl rfl rfl; have y6 := y5 0; have y7 := y5 1; simp at y6 y7; have HY := hide y4; clear b2 y4 y5)
      all_goals go_wp2
      all_goals go_round
      all_goals first
        | (simp [Go.RowKit.intOf]; omega)
        | exact ⟨k + 1, by omega, by simp, list_step (unhide HB) (unhide HY) (unhide HS)⟩
    · have hlt' : ¬ (k : Int) < (d.ws.length : Int) := by omega
      obtain rfl : k = d.ws.length := by omega
      clear ho hb
      go_wp2
      go_ret
      refine ⟨_, rfl, ?_, ?_, unhide HB⟩
      · have := unhide HO
        rwa [halfW_all] at this
      · intro k hk
        cases hk
        exact Nat.le_refl _
theorem pending_any {D : Nat} {d : Ds} {vw vl : Value} {w : World} (h : DAt D d vw vl w) (ho : Ok d) :
    Calls Try.prog 14 #[ptr D] w fun e w' => ∃ V, e = .returned V ∧ w'.ownsRow 0 69 2 V d.ws.length (cellsW d.ws) ∧ (∀ k, V.ownBlock = some k → w.heap.size ≤ k) ∧ Below w.heap.size w w' := by
  have H := hide (list_any h ho)
  have hl := h.lt
  clear h ho
  go_enter Try.func14, Try.ntmps14
  go_wp2_with fail
  refine (unhide H).mono ?_
  rintro e w1 ⟨V, rfl, q⟩
  have HQ := hide q
  clear q
  go_wp2
  go_ret
  exact ⟨V, rfl, unhide HQ⟩
end Go.Proofs.Ytpelmacblglhoaa
