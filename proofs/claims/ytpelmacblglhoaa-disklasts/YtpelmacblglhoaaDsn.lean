import Derived.Test.YtpelmacblglhoaaDsm
namespace Go.Proofs.Ytpelmacblglhoaa
open Go.RowKit
set_option maxHeartbeats 4000000
set_option maxRecDepth 8000
/-- A sector. -/
def sect (s : Nat) (x : Bs) : Bs := (x.drop (64 * s)).take 64
def inSet (set s : Nat) : Bool := set / 2 ^ s % 2 == 1
def tornK (last now : Bs) (set k : Nat) : Bs := (List.range k).flatMap (fun s => sect s (if inSet set s then now else last))
/-- Of what lasted and what was written, sector by sector. -/
def tornv (last now : Bs) (set : Nat) : Bs := tornK last now set 8
theorem tornK_next (last now : Bs) (set k : Nat) : tornK last now set (k + 1) = tornK last now set k ++ sect k (if inSet set k then now else last) := by
  simp [tornK, List.range_succ]
theorem sect_len (s : Nat) (x : Bs) (hx : x.length = 512) (hs : s < 8) : (sect s x).length = 64 := by
  simp [sect, hx]
  omega
theorem tornK_len (last now : Bs) (set k : Nat) (h1 : last.length = 512) (h2 : now.length = 512) (hk : k ≤ 8) : (tornK last now set k).length = 64 * k := by
  induction k with
  | zero => rfl
  | succ k ih =>
    rw [tornK_next, List.length_append, ih (by omega), sect_len _ _ (by split <;> assumption) (by omega)]
    omega
theorem extract_eq (x : Bs) (i j : Nat) : (⟨x.toArray⟩ : ByteArray).extract i j = ⟨((x.drop i).take (j - i)).toArray⟩ := by
  apply ByteArray.ext
  apply Array.ext'
  simp [ByteArray.extract, ByteArray.copySlice, List.extract]
theorem ba_append (a b : List UInt8) : (ByteArray.mk a.toArray ++ ByteArray.mk b.toArray) = ⟨(a ++ b).toArray⟩ := by
  apply ByteArray.ext
  simp
theorem slice_sect (x : Bs) (k : Nat) (hx : x.length = 512) (hk : k < 8) (w : World) : (Instr.slice 9 (S x) (some (.int .i64 (64 * (k : Int)))) (some (.int .i64 (64 * (k : Int) + 64))) none).run Try.prog w = .ok (S (sect k x)) w := by
  have := run_slice_string (P := Try.prog) w 9 ⟨x.toArray⟩ .i64 .i64 (64 * (k : Int)) (64 * (k : Int) + 64) Try.underlying9 (by omega) (by omega) (by simp [ByteArray.size, hx]; omega)
  rw [this, show (64 * (k : Int)).toNat = 64 * k by omega, show (64 * (k : Int) + 64).toNat = 64 * k + 64 by omega, extract_eq]
  simp [sect]
theorem wp_strsl {ops : Array Oper} {rest : List Oper} {o : Oper} {a : Act} {w : World} {Q : Exit → Act → World → Prop} (hgd : o.guard = none) (x l h : Operand) (ho : o.op = .slice 9 x (some l) (some h) none) (v lv hv r : Value) (hx : a.eval x = v) (hl : a.eval l = lv) (hh : a.eval h = hv)
    (hr : (Instr.slice 9 v (some lv) (some hv) none).run Try.prog w = .ok r w) (hn : wpList Try.prog ops Q rest (a.put o.dst r) w) : wpList Try.prog ops Q (o :: rest) a w := by
  refine wpList_plain hgd fun K hK => ?_
  have hr2 : (Instr.sliceAt 9 v (some lv) (some hv) none).run Try.prog w = .ok r w := by
    unfold Instr.sliceAt
    simp only [Sem.run_bind, run_underlying Try.underlying9, Result.andThen_ok]
    exact hr
  unfold Oper.wp execOp
  simp only [ho, Sem.run_bind, Sem.run_pure, Result.andThen_ok, Option.map_some, Option.map_none, hx, hl, hh, hr2]
  exact hK _ _ hn
theorem tmod_two (set k : Nat) : (((set : Int) / 2 ^ k).tmod 2 = 1) ↔ inSet set k = true := by
  have e : ((set : Int) / 2 ^ k) = ((set / 2 ^ k : Nat) : Int) := by push_cast; rfl
  rw [e, Int.tmod_eq_emod_of_nonneg (Int.natCast_nonneg _)]
  unfold inSet
  simp
  omega
theorem lawTorn_any (last now : Bs) (set : Nat) (w : World) (h1 : last.length = 512) (h2 : now.length = 512) (_ : set < 256) :
    Calls Try.prog 27 #[S last, S now, I set] w fun e w' => e = .returned (S (tornv last now set)) ∧ w' = w := by
  have g1 : ((last.length : Nat) : Int) = 512 := by omega
  have g2 : ((now.length : Nat) : Int) = 512 := by omega
  go_enter Try.func27, Try.ntmps27
  go_wp2
  go_loopw [7, 8] (fun o i wr => ∃ k : Nat, k ≤ 8 ∧ i = .int .i64 k ∧ o = S (tornK last now set k) ∧ wr = w) (fun _ i _ => 8 - (Go.RowKit.intOf i).toNat)
  case atStart => exact ⟨0, by omega, rfl, rfl, rfl⟩
  case round =>
    obtain ⟨k, hk, rfl, rfl, rfl⟩ := hrel
    by_cases hlt : k < 8
    · have hlt' : (k : Int) < 8 := by omega
      have ht0 := tornK_next last now set k
      have hT := tornK_len last now set k h1 h2 hk
      have hA := sect_len k last h1 hlt
      have hB := sect_len k now h2 hlt
      have l1 := slice_sect last k h1 hlt
      have l2 := slice_sect now k h2 hlt
      have ht := tmod_two set k
      by_cases hc : inSet set k = true
      · have hc' := ht.2 hc
        rw [if_pos hc] at ht0
        have HT := hide ht0
        clear ht ht0
        generalize tornK last now set k = T at *
        generalize sect k now = B at *
        have hnb : ¬ 9223372036854775807 < T.length + B.length := by omega
        have hnb2 : ¬ (9223372036854775807 : Int) < (T.length : Int) + (B.length : Int) := by omega
        go_wp2_with (refine wp_strsl rfl (.tmp 22) (.tmp 24) (.tmp 27) rfl _ _ _ _ rfl rfl rfl (l2 _) ?_)
        go_round
        case measure => simp [Go.RowKit.intOf]; omega
        case rel =>
          refine ⟨k + 1, by omega, by simp, ?_, by first | trivial | rfl⟩
          rw [unhide HT, ba_append]
      · have hc' : ¬ ((set : Int) / 2 ^ k).tmod 2 = 1 := fun q => hc (ht.1 q)
        rw [if_neg hc] at ht0
        have HT := hide ht0
        clear ht ht0
        generalize tornK last now set k = T at *
        generalize sect k last = B at *
        have hnb : ¬ 9223372036854775807 < T.length + B.length := by omega
        have hnb2 : ¬ (9223372036854775807 : Int) < (T.length : Int) + (B.length : Int) := by omega
        go_wp2_with (refine wp_strsl rfl (.tmp 22) (.tmp 24) (.tmp 27) rfl _ _ _ _ rfl rfl rfl (l1 _) ?_)
        go_round
        case measure => simp [Go.RowKit.intOf]; omega
        case rel =>
          refine ⟨k + 1, by omega, by simp, ?_, by first | trivial | rfl⟩
          rw [unhide HT, ba_append]
    · have hlt' : ¬ (k : Int) < 8 := by omega
      obtain rfl : k = 8 := by omega
      go_wp2
      go_ret
      exact ⟨rfl, rfl⟩
end Go.Proofs.Ytpelmacblglhoaa
