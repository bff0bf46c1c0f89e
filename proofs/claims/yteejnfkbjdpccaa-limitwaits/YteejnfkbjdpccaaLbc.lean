import Derived.Test.YteejnfkbjdpccaaLbb
import Derived.Lib.Strings
namespace Go.Proofs.Yteejnfkbjdpccaa
open Go.RowKit Go.Lib Fl
/-- Bytes that lie in memory from a place on. -/
structure Bys (g off cap : Nat) (R : List UInt8) (w : World) : Prop where
  cell : ∀ j, j < R.length → w.cell? ⟨g, off + j, none⟩ = some (.int .u8 ((R.getD j 0).toNat : Int))
  cap : R.length ≤ cap
  lt : g < w.heap.size
theorem Bys.below {g off cap : Nat} {R : List UInt8} {w w' : World} (h : Bys g off cap R w) (ho : Below w.heap.size w w') : Bys g off cap R w' :=
  ⟨fun j hj => (World.cell?_of_block (ho.block g h.lt)).trans (h.cell j hj), h.cap, Nat.lt_of_lt_of_le h.lt ho.size⟩
/-- The bytes of a text in new memory. -/
theorem wpList_bytes {ops : Array Oper} {rest : List Oper} {o : Oper} {a : Act} {w : World} {Q : Exit → Act → World → Prop} (hgd : o.guard = none) (x : Operand) (ho : o.op = .convert 9 61 x)
    (s : List UInt8) (hx : a.eval x = .string ⟨s.toArray⟩)
    (h : ∀ w' cap, Bys w.heap.size 0 cap s w' → Below w.heap.size w w' → wpList Try.prog ops Q rest (a.put o.dst (.slice (some ⟨w.heap.size, 0, none⟩) s.length cap)) w') : wpList Try.prog ops Q (o :: rest) a w := by
  refine wpList_plain hgd fun K hK => ?_
  have hrun := run_bytes_of_string (P := Try.prog) w 9 61 5 ⟨s.toArray⟩ Try.underlying9 Try.underlying61 Try.underlying5
  have hsz : (ByteArray.mk s.toArray).size = s.length := by simp [ByteArray.size]
  unfold Oper.wp execOp
  simp only [ho, hx, Sem.run_bind, hrun, Result.andThen_ok]
  rw [hsz]
  refine hK _ _ (h _ _ ⟨?_, ?_, ?_⟩ ?_)
  · intro j hj
    rw [Nat.zero_add]
    have e := World.cell?_alloc_mark w.drew (bytesRow ⟨s.toArray⟩ (grownCap w s.length 0 5)) 5 ((bytesRow ⟨s.toArray⟩ (grownCap w s.length 0 5)).size, (bytesRow ⟨s.toArray⟩ (grownCap w s.length 0 5)).size + 1) j
    refine e.trans ?_
    rw [bytesRow_at _ _ _ (by simpa using hj)]
    simp [hj]
  · exact grownCap_ge w s.length 0 5
  · simp
  · exact ((Below.refl _ _).drew).alloc (Nat.le_refl _) _
set_option maxHeartbeats 4000000
set_option maxRecDepth 8000
theorem ba_len (s : Bs) : (ByteArray.mk s.toArray).size = s.length := by simp [ByteArray.size]
theorem ba_get (s : Bs) (j : Nat) (h : j < s.length) : (ByteArray.mk s.toArray)[j]? = some (s.getD j 0) := by
  show (s.toArray)[j]? = _
  simp [h]
theorem take_snoc {α : Type} (l : List α) (k : Nat) (h : k < l.length) : l.take (k + 1) = l.take k ++ [l[k]] := List.take_succ_eq_append_getElem h
theorem all_no (P : UInt8 → Bool) (s : Bs) (k : Nat) (h : k < s.length) (hp : P s[k] = false) : s.all P = false := by
  rw [Bool.eq_false_iff]
  intro q
  rw [List.all_eq_true] at q
  rw [q _ (List.getElem_mem h)] at hp
  cases hp
theorem nok_no (s : Bs) (h : s.length = 0 ∨ 16 < s.length ∨ s.all isL = false) : nok s = false := by
  unfold nok
  rcases h with h | h | h
  · simp [h]
  · have : ¬ s.length ≤ 16 := by omega
    simp [this]
  · simp [h]
theorem isName_any (s : Bs) (w : World) (hs : s.length ≤ 281474976710656) : Calls Try.prog 22 #[S s] w fun e w' => e = .returned (.bool (nok s)) ∧ Below w.heap.size w w' := by
  by_cases h0 : s.length = 0
  · have := List.eq_nil_of_length_eq_zero h0
    subst this
    go_enter Try.func22, Try.ntmps22
    go_wp2
    go_ret
    exact ⟨ret_bool rfl, Below.refl _ _⟩
  · have hne : s.isEmpty = false := by cases s <;> simp_all
    by_cases h1 : s.length ≤ 16
    · have i1 : decide (16 < (s.length : Int)) = false := by simp; omega
      go_enter Try.func22, Try.ntmps22
      go_wp2_with (refine wpList_bytes rfl (.tmp 12) rfl s (by rfl) ?_; intro w1 cap1 hb1 hbe1)
      have HB1 := hide hb1
      have HE1 := hide hbe1
      clear hb1 hbe1
      go_loop [15] (fun i => ∃ k : Nat, k ≤ s.length ∧ i = .int .i64 k ∧ (s.take k).all isL = true) (fun i => s.length - (Go.RowKit.intOf i).toNat)
      case atStart => exact ⟨0, by omega, rfl, by simp⟩
      case round =>
        obtain ⟨k, hk, rfl, ha⟩ := hrel
        by_cases hlt : k < s.length
        · have hcell := (unhide HB1).cell k hlt
          rw [Nat.zero_add] at hcell
          have hl := (unhide HB1).lt
          have hgd : s.getD k 0 = s[k] := by simp [hlt]
          rw [hgd] at hcell
          have hA := hide ha
          have hT := hide (take_snoc s k hlt)
          have hE := hide (all_no isL s k hlt)
          have hklt : (k : Int) < (s.length : Int) := by omega
          have HQ := hide (fun W => letter_any s[k] W)
          clear ha hgd
          generalize s[k] = c at *
          cases hsg : isL c with
          | true =>
            go_wp2_with (refine (unhide HQ _).mono ?_; rintro e wx ⟨rfl, rfl⟩; rw [hsg])
            go_round
            case rel => exact ⟨k + 1, by omega, by go_num, by rw [unhide hT, List.all_append, unhide hA]; simp [hsg]⟩
            case measure => simp [intOf]; omega
          | false =>
            go_wp2_with (refine (unhide HQ _).mono ?_; rintro e wx ⟨rfl, rfl⟩; rw [hsg])
            go_ret
            exact ⟨ret_bool (nok_no s (Or.inr (Or.inr (unhide hE hsg)))).symm, unhide HE1⟩
        · have hkk : k = s.length := by omega
          have hklt : ¬ (k : Int) < (s.length : Int) := by omega
          go_wp2
          go_ret
          refine ⟨ret_bool ?_, unhide HE1⟩
          rw [hkk, List.take_length] at ha
          unfold nok
          simp [ha]
          omega
    · have i1 : decide (16 < (s.length : Int)) = true := by simp; omega
      go_enter Try.func22, Try.ntmps22
      go_wp2
      go_ret
      exact ⟨ret_bool (nok_no s (by omega)).symm, Below.refl _ _⟩
end Go.Proofs.Yteejnfkbjdpccaa
