import Derived.Test.YtpelmacblglhoaaZzai
namespace Go.Proofs.Ytpelmacblglhoaa
open Go.RowKit
set_option maxHeartbeats 4000000
set_option maxRecDepth 8000
/-- A sector. -/
def sect (s : Nat) (x : Bs) : Bs := (x.drop (64 * s)).take 64
def inSet (set s : Nat) : Bool := set / 2 ^ s % 2 == 1
def tornK (last now : Bs) (set k : Nat) : Bs := (List.range k).flatMap (fun s => sect s (if inSet set s then now else last))
/-- Of what lasted and what was written, sector by sector. -/
def tornv (last now : Bs) (set : Nat) : Bs := tornK last now set 8
theorem tornK_next (last now : Bs) (set k : Nat) : tornK last now set (k + 1) = tornK last now set k ++ sect k (if inSet set k then now else last) := by
  simp [tornK, List.range_succ]
theorem sect_len (s : Nat) (x : Bs) (hx : x.length = 512) (hs : s < 8) : (sect s x).length = 64 := by
  simp [sect, hx]
  omega
theorem tornK_len (last now : Bs) (set k : Nat) (h1 : last.length = 512) (h2 : now.length = 512) (hk : k ≤ 8) : (tornK last now set k).length = 64 * k := by
  induction k with
  | zero => rfl
  | succ k ih =>
    rw [tornK_next, List.length_append, ih (by omega), sect_len _ _ (by split <;> assumption) (by omega)]
    omega
theorem extract_eq (x : Bs) (i j : Nat) : (⟨x.toArray⟩ : ByteArray).extract i j = ⟨((x.drop i).take (j - i)).toArray⟩ := by
  apply ByteArray.ext
  apply Array.ext'
  simp [ByteArray.extract, ByteArray.copySlice, List.extract]
theorem ba_append (a b : List UInt8) : (ByteArray.mk a.toArray ++ ByteArray.mk b.toArray) = ⟨(a ++ b).toArray⟩ := by
  apply ByteArray.ext
  simp
theorem slice_sect (x : Bs) (k : Nat) (hx : x.length = 512) (hk : k < 8) (w : World) : (Instr.slice 9 (S x) (some (.int .i64 (64 * (k : Int)))) (some (.int .i64 (64 * (k : Int) + 64))) none).run Try.prog w = .ok (S (sect k x)) w := by
  have := run_slice_string (P := Try.prog) w 9 ⟨x.toArray⟩ .i64 .i64 (64 * (k : Int)) (64 * (k : Int) + 64) Try.underlying9 (by omega) (by omega) (by simp [ByteArray.size, hx]; omega)
  rw [this, show (64 * (k : Int)).toNat = 64 * k by omega, show (64 * (k : Int) + 64).toNat = 64 * k + 64 by omega, extract_eq]
  simp [sect]
theorem wp_strsl {ops : Array Oper} {rest : List Oper} {o : Oper} {a : Act} {w : World} {Q : Exit → Act → World → Prop} (hgd : o.guard = none) (x l h : Operand) (ho : o.op = .slice 9 x (some l) (some h) none) (v lv hv r : Value) (hx : a.eval x = v) (hl : a.eval l = lv) (hh : a.eval h = hv)
    (hr : (Instr.slice 9 v (some lv) (some hv) none).run Try.prog w = .ok r w) (hn : wpList Try.prog ops Q rest (a.put o.dst r) w) : wpList Try.prog ops Q (o :: rest) a w := by
  refine wpList_plain hgd fun K hK => ?_
  have hr2 : (Instr.sliceAt 9 v (some lv) (some hv) none).run Try.prog w = .ok r w := by
    unfold Instr.sliceAt
    simp only [Sem.run_bind, run_underlying Try.underlying9, Result.andThen_ok]
    exact hr
  unfold Oper.wp execOp
  simp only [ho, Sem.run_bind, Sem.run_pure, Result.andThen_ok, Option.map_some, Option.map_none, hx, hl, hh, hr2]
  exact hK _ _ hn
theorem tmod_two (set k : Nat) : (((set : Int) / 2 ^ k).tmod 2 = 1) ↔ inSet set k = true := by
  have e : ((set : Int) / 2 ^ k) = ((set / 2 ^ k : Nat) : Int) := by push_cast; rfl
  rw [e, Int.tmod_eq_emod_of_nonneg (Int.natCast_nonneg _)]
  unfold inSet
  simp
  omega
theorem lawTorn_any (last now : Bs) (set : Nat) (w : World) (h1 : last.length = 512) (h2 : now.length = 512) (_ : set < 256) :
    Calls Try.prog 27 #[S last, S now, I set] w fun e w' => e = .returned (S (tornv last now set)) ∧ w' = w := by
  have g1 : ((last.length : Nat) : Int) = 512 := by omega
  have g2 : ((now.length : Nat) : Int) = 512 := by omega
  go_enter Try.func27, Try.ntmps27
  go_wp2
  go_loopw [7, 8] (fun o i wr => ∃ k : Nat, k ≤ 8 ∧ i = .int .i64 k ∧ o = S (tornK last now set k) ∧ wr = w) (fun _ i _ => 8 - (Go.RowKit.intOf i).toNat)
  case atStart => exact ⟨0, by omega, rfl, rfl, rfl⟩
  case round =>
    obtain ⟨k, hk, rfl, rfl, rfl⟩ := hrel
    by_cases hlt : k < 8
    · have hlt' : (k : Int) < 8 := by omega
      have ht0 := tornK_next last now set k
      have hT := tornK_len last now set k h1 h2 hk
      have hA := sect_len k last h1 hlt
      have hB := sect_len k now h2 hlt
      have l1 := slice_sect last k h1 hlt
      have l2 := slice_sect now k h2 hlt
      have ht := tmod_two set k
      by_cases hc : inSet set k = true
      · have hc' := ht.2 hc
        rw [if_pos hc] at ht0
        have HT := hide ht0
        clear ht ht0
        generalize tornK last now set k = T at *
        generalize sect k now = B at *
        have hnb : ¬ 9223372036854775807 < T.length + B.length := by omega
        have hnb2 : ¬ (9223372036854775807 : Int) < (T.length : Int) + (B.length : Int) := by omega
        go_wp2_with (refine wp_strsl rfl (.tmp 22) (.tmp 24) (.tmp 27) rfl _ _ _ _ rfl rfl rfl (l2 _) ?_)
        go_round
        case measure => simp [Go.RowKit.intOf]; omega
        case rel =>
          refine ⟨k + 1, by omega, by simp, ?_, by first | trivial | rfl⟩
          rw [unhide HT, ba_append]
      · have hc' : ¬ ((set : Int) / 2 ^ k).tmod 2 = 1 := fun q => hc (ht.1 q)
        rw [if_neg hc] at ht0
        have HT := hide ht0
        clear ht ht0
        generalize tornK last now set k = T at *
        generalize sect k last = B at *
        have hnb : ¬ 9223372036854775807 < T.length + B.length := by omega
        have hnb2 : ¬ (9223372036854775807 : Int) < (T.length : Int) + (B.length : Int) := by omega
        go_wp2_with (refine wp_strsl rfl (.tmp 22) (.tmp 24) (.tmp 27) rfl _ _ _ _ rfl rfl rfl (l1 _) ?_)
        go_round
        case measure => simp [Go.RowKit.intOf]; omega
        case rel =>
          refine ⟨k + 1, by omega, by simp, ?_, by first | trivial | rfl⟩
          rw [unhide HT, ba_append]
    · have hlt' : ¬ (k : Int) < 8 := by omega
      obtain rfl : k = 8 := by omega
      go_wp2
      go_ret
      exact ⟨rfl, rfl⟩
end Go.Proofs.Ytpelmacblglhoaa
namespace Go.Proofs.Ytpelmacblglhoaa
open Go.RowKit
set_option maxHeartbeats 4000000
set_option maxRecDepth 8000
theorem bit_one (set k : Nat) (hs : set < 256) : bits .and .i64 ((set : Int) / 2 ^ k) 1 = ((set / 2 ^ k % 2 : Nat) : Int) := by
  have e : ((set : Int) / 2 ^ k) = ((set / 2 ^ k : Nat) : Int) := by push_cast; rfl
  have hb : set / 2 ^ k < 9223372036854775808 := Nat.lt_of_le_of_lt (Nat.div_le_self _ _) (by omega)
  have h1 : (BitVec.ofInt 64 ((set / 2 ^ k : Nat) : Int)).toNat = set / 2 ^ k := by
    generalize set / 2 ^ k = m at *
    rw [BitVec.toNat_ofInt]; omega
  have h2 : (BitVec.ofInt 64 (1 : Int)).toNat = 1 := by rfl
  have hb' : bits .and .i64 ((set / 2 ^ k : Nat) : Int) 1 = IntKind.i64.wrap (((BitVec.ofInt 64 ((set / 2 ^ k : Nat) : Int)) &&& (BitVec.ofInt 64 (1 : Int))).toNat : Int) := rfl
  rw [e, hb', BitVec.toNat_and, h1, h2, Nat.and_one_is_mod, IntKind.wrap_i64]
  omega
theorem slice_sect2 (x : Bs) (k : Nat) (hx : x.length = 512) (hk : k < 8) (w : World) : (Instr.slice 9 (S x) (some (.int .i64 ((k : Int) * 64))) (some (.int .i64 (((k : Int) + 1) * 64))) none).run Try.prog w = .ok (S (sect k x)) w := by
  have := slice_sect x k hx hk w
  rw [show (k : Int) * 64 = 64 * (k : Int) by omega, show ((k : Int) + 1) * 64 = 64 * (k : Int) + 64 by omega]
  exact this
theorem strCells_eq (l : Bs) : Lib.strCells ⟨l.toArray⟩ = Lib.byteCells l := by
  simp [Lib.strCells, Lib.byteCells]
theorem byteCells_append (a b : Bs) : Lib.byteCells a ++ Lib.byteCells b = Lib.byteCells (a ++ b) := by simp [Lib.byteCells]
theorem byteCells_len (a : Bs) : (Lib.byteCells a).length = a.length := by simp [Lib.byteCells]
/-- A builder of one's own. -/
structure Bld (w : World) (T : Bs) (W : World) : Prop where
  b : Lib.IsBuilderF 108 5 w.heap.size w.heap.size (Lib.byteCells T) W
  bel : Below w.heap.size w W
theorem bld_next {w W W' : World} {T T' X : Bs} (h : Bld w T W) (q : Lib.BuilderAtF 108 5 w.heap.size w.heap.size (.pointer (some ⟨w.heap.size, 0, none⟩)) (Lib.byteCells T ++ Lib.strCells ⟨X.toArray⟩) W') (b : Below w.heap.size W W') (e : T' = T ++ X) : Bld w T' W' := by
  subst e
  rw [strCells_eq, byteCells_append] at q
  exact ⟨.inr q, h.bel.trans b⟩
theorem torn_any (last now : Bs) (set : Nat) (w : World) (h1 : last.length = 512) (h2 : now.length = 512) (hs : set < 256) :
    Calls Try.prog 53 #[S last, S now, I set] w fun e w' => e = .returned (S (tornv last now set)) ∧ Below w.heap.size w w' := by
  have H0 := hide (Try.Builder_Grow w.heap.size w.heap.size 512 (w.alloc (.cells #[.pointer none, .slice none 0 0] 108)) (Nat.le_refl _) (heap_alloc_new _ _) (by simp) (by omega))
  have B0 := hide ((Below.refl w.heap.size w).alloc (Nat.le_refl _) (.cells #[.pointer none, .slice none 0 0] 108))
  go_enter Try.func53, Try.ntmps53
  go_wp2_with fail
  refine (unhide H0).mono ?_
  rintro e w1 ⟨rfl, q1, b1⟩
  have HB := hide (show Bld w [] w1 from ⟨q1, (unhide B0).trans b1⟩)
  clear q1 b1 H0 B0
  go_wp2
  go_loopw [11] (fun i wr => ∃ k : Nat, k ≤ 8 ∧ i = .int .i64 k ∧ Bld w (tornK last now set k) wr) (fun i _ => 8 - (Go.RowKit.intOf i).toNat)
  case atStart => exact ⟨0, by omega, rfl, unhide HB⟩
  case round =>
    obtain ⟨k, hk, rfl, hb⟩ := hrel
    have HK := hide hb
    by_cases hlt : k < 8
    · have hlt' : (k : Int) < 8 := by omega
      have ht0 := tornK_next last now set k
      have hT := tornK_len last now set k h1 h2 hk
      have hA := sect_len k last h1 hlt
      have hB := sect_len k now h2 hlt
      have l1 := slice_sect2 last k h1 hlt
      have l2 := slice_sect2 now k h2 hlt
      have hbit := bit_one set k hs
      have hm : set / 2 ^ k % 2 = 1 ↔ inSet set k = true := by unfold inSet; simp
      have HW := hide (fun (X : Bs) (hX : X.length = 64) => Try.Builder_WriteString w.heap.size w.heap.size (Lib.byteCells (tornK last now set k)) ⟨X.toArray⟩ wr hb.b (by rw [byteCells_len]; simp [ByteArray.size]; omega) hb.bel.size)
      clear hb
      by_cases hc : inSet set k = true
      · have hc' := hm.2 hc
        rw [hc'] at hbit
        rw [if_pos hc] at ht0
        have HT := hide ht0
        clear ht0 hm hc'
        generalize tornK last now set k = T at *
        generalize sect k now = B at *
        have HC := hide (unhide HW B hB)
        clear HW
        go_wp2_with (first | (refine wp_strsl rfl (.tmp 21) (.tmp 23) (.tmp 26) rfl _ _ _ _ rfl rfl rfl (l2 _) ?_) | fail)
        refine (unhide HC).mono ?_
        rintro e w2 ⟨rfl, q2, b2, -⟩
        have HN := hide (bld_next (unhide HK) q2 b2 (unhide HT))
        clear q2 b2 HC
        go_wp2
        go_round
        case measure => simp [Go.RowKit.intOf]; omega
        case rel => exact ⟨k + 1, by omega, by simp, unhide HN⟩
      · have hc' : ¬ set / 2 ^ k % 2 = 1 := fun q => hc (hm.1 q)
        have hc2 : set / 2 ^ k % 2 = 0 := by omega
        rw [hc2] at hbit
        rw [if_neg hc] at ht0
        have HT := hide ht0
        clear ht0 hm hc'
        generalize tornK last now set k = T at *
        generalize sect k last = B at *
        have HC := hide (unhide HW B hA)
        clear HW
        go_wp2_with (first | (refine wp_strsl rfl (.tmp 21) (.tmp 23) (.tmp 26) rfl _ _ _ _ rfl rfl rfl (l1 _) ?_) | fail)
        refine (unhide HC).mono ?_
        rintro e w2 ⟨rfl, q2, b2, -⟩
        have HN := hide (bld_next (unhide HK) q2 b2 (unhide HT))
        clear q2 b2 HC
        go_wp2
        go_round
        case measure => simp [Go.RowKit.intOf]; omega
        case rel => exact ⟨k + 1, by omega, by simp, unhide HN⟩
    · have hlt' : ¬ (k : Int) < 8 := by omega
      obtain rfl : k = 8 := by omega
      have H2 := hide (Try.Builder_String w.heap.size w.heap.size (tornK last now set 8) wr hb.b hb.bel.size)
      clear hb
      go_wp2_with fail
      refine (unhide H2).mono ?_
      rintro e w2 ⟨rfl, -, b2, -⟩
      have HN := hide ((unhide HK).bel.trans b2)
      clear b2
      go_wp2
      go_ret
      exact ⟨rfl, unhide HN⟩
end Go.Proofs.Ytpelmacblglhoaa
