import Derived.Test.YtpelmacblglhoaaZzai
namespace Go.Proofs.Ytpelmacblglhoaa
open Go.RowKit
set_option maxHeartbeats 4000000
set_option maxRecDepth 8000
theorem wpList_conv {P : Program} {ops : Array Oper} {rest : List Oper} {o : Oper} {a : Act} {w : World} {Q : Exit → Act → World → Prop} (hgd : o.guard = none) (src dst : TypeId) (x : Operand) (ho : o.op = .convert src dst x)
    (v v' : Value) (hx : a.eval x = v) (hrun : (convert src dst v).run P w = .ok v' w)
    (h : wpList P ops Q rest (a.put o.dst v') w) : wpList P ops Q (o :: rest) a w :=
  wpList_plain hgd fun _ hK => by
    unfold Oper.wp execOp
    simp only [ho, hx, Sem.run_bind, hrun, Result.andThen_ok]
    exact hK _ _ h
theorem fold_push (l : List UInt8) (r : ByteArray) : (l.map fun c => (c.toNat : Int)).foldl (fun r n => r.push (UInt8.ofNat n.toNat)) r = ⟨r.data ++ l.toArray⟩ := by
  induction l generalizing r with
  | nil => simp
  | cons c l ih =>
    simp only [List.map_cons, List.foldl_cons, ih]
    simp [ByteArray.push]
/-- What lies in memory as bytes is the text of them. -/
theorem run_text (w : World) (g o len cap : Nat) (l : List UInt8) (hl : l.length = len) (h : ∀ j, j < len → w.cell? ⟨g, o + j, none⟩ = some (.int .u8 ((l.getD j 0).toNat : Int))) :
    (convert 63 9 (.slice (some ⟨g, o, none⟩) len cap)).run Try.prog w = .ok (.string ⟨l.toArray⟩) w := by
  rw [run_convert_bytes_string w 63 9 5 _ _ _ Try.underlying63 Try.underlying5 Try.underlying9]
  have hload : (loadCells ⟨g, o, none⟩ len).run Try.prog w = .ok ((l.map fun c => (c.toNat : Int)).map (Value.int .u8)).toArray w := by
    have := run_loadCells_list (P := Try.prog) w ⟨g, o, none⟩ ((l.map fun c => (c.toNat : Int)).map (Value.int .u8)) (fun j v hv => by
      have hadd : (⟨g, o, none⟩ : Addr).add j = ⟨g, o + j, none⟩ := by unfold Addr.add; split <;> simp_all
      rw [hadd]
      have hj : j < len := by
        have := (List.getElem?_eq_some_iff.1 hv).1
        simpa [hl] using this
      rw [h j hj, ← hv]
      simp [List.getElem?_map, List.getElem?_eq_getElem (by omega : j < l.length)])
    simpa [hl] using this
  rw [run_bytesToString w _ _ _ _ hload, fold_push]
  simp
def pkv (c : Int) (n : Nat) : Nat := ((if c < 0 then -(c + 1) else c) % n).toNat
theorem pkv_lt (c : Int) (n : Nat) (h : 0 < n) : pkv c n < n := by
  unfold pkv
  have h1 := Int.emod_lt_of_pos (if c < 0 then -(c + 1) else c) (show (0 : Int) < n by omega)
  have h2 := Int.emod_nonneg (if c < 0 then -(c + 1) else c) (show (n : Int) ≠ 0 by omega)
  omega
set_option maxHeartbeats 2000000 in
theorem pick_any (c : Int) (n : Nat) (w : World) (hn : 0 < n) (hn2 : n ≤ 9000000000000000000) (h1 : -9223372036854775808 ≤ c) (h2 : c ≤ 9223372036854775807) : Calls Try.prog 8 #[.int .i64 c, .int .i64 (n : Int)] w fun e w' => e = .returned (.int .i64 (pkv c n : Nat)) ∧ w' = w := by
  have hni : ¬ (n : Int) = 0 := by omega
  by_cases h : c < 0
  · have e : ((pkv c n : Nat) : Int) = Int.tmod (-(c + 1)) n := by
      unfold pkv
      rw [if_pos h, Int.tmod_eq_emod_of_nonneg (by omega)]
      have := Int.emod_nonneg (-(c + 1)) (show (n : Int) ≠ 0 by omega)
      omega
    have HE := hide e
    clear e
    go_enter Try.func8, Try.ntmps8
    go_wp2
    go_ret
    exact ⟨ret_int (by rw [unhide HE, Int.neg_tmod]), rfl⟩
  · have e : ((pkv c n : Nat) : Int) = c % n := by
      unfold pkv
      rw [if_neg h]
      have := Int.emod_nonneg c (show (n : Int) ≠ 0 by omega)
      omega
    have HE := hide e
    clear e
    go_enter Try.func8, Try.ntmps8
    go_wp2
    go_ret
    exact ⟨ret_int (unhide HE).symm, rfl⟩

abbrev B (c : UInt8) : Value := .int .u8 (c.toNat : Int)
/-- The byte of a block at a place. -/
def bt (c : Int) (i : Nat) : UInt8 := UInt8.ofNat (((c + ((i / 32 : Nat) : Int)) % 256).toNat)
theorem bt_eq (c : Int) (i : Nat) : ((bt c i).toNat : Int) = (c + ((i / 32 : Nat) : Int)) % 256 := by
  unfold bt
  rw [UInt8.toNat_ofNat']
  omega
/-- A block of a raw number. -/
def blkv (c : Int) : Bs := (List.range 512).map (bt c)
theorem blkv_len (c : Int) : (blkv c).length = 512 := by simp [blkv]
def halfB (c : Int) (k : Nat) : List Value := ((List.range k).map (fun i => B (bt c i))) ++ List.replicate (512 - k) (B 0)
theorem halfB_set (c : Int) (k : Nat) (hk : k < 512) : (halfB c k).set k (B (bt c k)) = halfB c (k + 1) := by
  unfold halfB
  have e : 512 - k = (512 - (k + 1)) + 1 := by omega
  rw [List.set_append_right _ _ (by simp), e, List.replicate_succ, List.range_succ, List.map_append]
  simp
theorem halfB_at (c : Int) (k : Nat) (hk : k < 512) : (halfB c k)[k]? = some (B 0) := by
  unfold halfB
  rw [List.getElem?_append_right (by simp), List.length_map, List.length_range, Nat.sub_self, List.getElem?_replicate, if_pos (by omega)]
theorem halfB_all (c : Int) : halfB c 512 = (blkv c).map B := by simp [halfB, blkv]
theorem made5 (m : Nat) : (madeCells (Value.int .u8 0).cells (m * 1)).toList = List.replicate m (B 0) := by
  rw [show (Value.int .u8 0).cells = #[B 0] from rfl, Nat.mul_one]
  unfold madeCells
  apply List.ext_getElem
  · simp
  · intro i h1 h2
    simp [Nat.mod_one]
theorem text_of {w : World} {g : Nat} {X : Bs} (h : w.ownsRow 0 5 1 (.slice (some ⟨g, 0, none⟩) X.length X.length) X.length (X.map B)) : (convert 63 9 (.slice (some ⟨g, 0, none⟩) X.length X.length)).run Try.prog w = .ok (S X) w := by
  refine run_text w g 0 X.length X.length X rfl (fun j hj => ?_)
  rw [Nat.zero_add]
  exact owns_cell h j _ (by simp [hj])
theorem block_any (c : Int) (w : World) : Calls Try.prog 20 #[I c] w fun e w' => e = .returned (S (blkv c)) ∧ Below w.heap.size w w' := by
  go_enter Try.func20, Try.ntmps20
  go_wp2_with (first | (refine make_own 63 5 _ 1 1 Try.underlying63 info5 rfl (.const (.int .i64 512)) (.const (.int .i64 512)) rfl _ _ 512 rfl rfl rfl rfl (by omega) (by omega) ?_; intro w1 ho1 b1 _; rw [made5] at ho1; have HO1 := hide ho1; have HB1 := hide b1; clear ho1 b1) | fail)
  go_loopw [4] (fun i wr => ∃ k : Nat, k ≤ 512 ∧ i = .int .i64 k ∧ wr.ownsRow 0 5 1 (.slice (some ⟨w.heap.size, 0, none⟩) 512 512) 512 (halfB c k) ∧ Below w.heap.size w wr) (fun i _ => 512 - (Go.RowKit.intOf i).toNat)
  case atStart => exact ⟨0, by omega, rfl, by simpa [halfB] using unhide HO1, unhide HB1⟩
  case round =>
    obtain ⟨k, hk, rfl, ho, hb⟩ := hrel
    have HO := hide ho
    have HB := hide hb
    by_cases hlt : k < 512
    · have hlt' : (k : Int) < 512 := by omega
      have c0 := owns_cell ho k _ (halfB_at c k hlt)
      obtain ⟨cs, q⟩ := owns_lt ho _ rfl
      have hz := frz q k
      have hl := lt_of_row q
      have HS := hide (halfB_set c k hlt)
      have HE := hide (bt_eq c k)
      clear ho hb q
      go_wp2
      go_round
      case measure => simp [Go.RowKit.intOf]; omega
      case rel =>
        have e : wrap64 (c + (k : Int) / 32) % 256 = ((bt c k).toNat : Int) := by
          rw [unhide HE]
          unfold wrap64
          omega
        rw [e]
        have o := owns_set (unhide HO) k (B (bt c k))
        rw [unhide HS] at o
        exact ⟨k + 1, by omega, by simp, o, (unhide HB).setCell (p := ⟨w.heap.size, k, none⟩) (Nat.le_refl _) _⟩
    · have hlt' : ¬ (k : Int) < 512 := by omega
      obtain rfl : k = 512 := by omega
      rw [halfB_all] at ho
      have ht := text_of (X := blkv c) (by rw [blkv_len]; exact ho)
      rw [blkv_len] at ht
      have HT := hide ht
      clear ho hb ht
      generalize hX : blkv c = X at *
      have HX := hide hX
      clear hX
      go_wp2_with (refine wpList_conv rfl 63 9 (.tmp 20) rfl _ _ (by rfl) (unhide HT) ?_)
      go_ret
      exact ⟨by rw [unhide HX]; rfl, unhide HB⟩
/-- same: of the same lists. -/
theorem same_any (a b : Option Addr) (n cap1 cap2 : Nat) (l : List Bs) (w : World) (ha : Sts w a n l) (hb : Sts w b n l) (hn : n ≤ 1000000000000) : Calls Try.prog 10 #[.slice a n cap1, .slice b n cap2] w fun e w' => e = .returned (.bool true) ∧ Below w.heap.size w w' := by
  have hN := ha.1
  subst hN
  have HA := hide ha
  have HB := hide hb
  clear ha hb
  go_enter Try.func10, Try.ntmps10
  go_wp2
  go_loopw [5] (fun i wr => ∃ k : Nat, k ≤ l.length ∧ i = .int .i64 k ∧ Below w.heap.size w wr) (fun i _ => l.length - (Go.RowKit.intOf i).toNat)
  case atStart => exact ⟨0, by omega, rfl, Below.refl _ _⟩
  case round =>
    obtain ⟨k, hk, rfl, hw⟩ := hrel
    have HW := hide hw
    by_cases hlt : k < l.length
    · obtain ⟨p, o, rfl, hpl, hc0⟩ := ((unhide HA).below hw).at hlt
      obtain ⟨p2, o2, rfl, hpl2, hc2⟩ := ((unhide HB).below hw).at hlt
      have hlt' : (k : Int) < (l.length : Int) := by omega
      generalize l.getD k [] = x at *
      clear hw
      go_wp2
      go_region
      go_wp2
      go_round
      case measure => simp [Go.RowKit.intOf]; omega
      case rel => exact ⟨k + 1, by omega, by simp, below_drew (unhide HW)⟩
    · have hlt' : ¬ (k : Int) < (l.length : Int) := by omega
      clear hw
      go_wp2
      go_ret
      exact ⟨rfl, unhide HW⟩
end Go.Proofs.Ytpelmacblglhoaa
