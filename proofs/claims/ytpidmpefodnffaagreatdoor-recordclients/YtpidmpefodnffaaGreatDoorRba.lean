import Derived.Test.YtpidmpefodnffaaGreatDoorWrtd
import Derived.Laws.CopyRow
import Derived.Laws.MakeOwn
namespace Go.Proofs.YtpidmpefodnffaaGreatDoor
open Go.RowKit Go.Lib
/-- A block of values of one cell each. -/
def Rb (e : TypeId) (g : Nat) (xs : List Value) (w : World) : Prop := w.heap[g]? = some (.cells xs.toArray e (0, 0))
variable {e : TypeId} {g : Nat} {xs : List Value} {w w' : World}
theorem Rb.cell (h : Rb e g xs w) (k : Nat) : w.cell? ⟨g, k, none⟩ = xs[k]? := by
  rw [cell_of_row w g k _ e (0, 0) h]; simp
theorem Rb.fz (h : Rb e g xs w) (j : Nat) : w.frozen? ⟨g, j, none⟩ = false := frozen_of_row w g j _ e h
theorem Rb.set (h : Rb e g xs w) (k : Nat) (v : Value) : Rb e g (xs.set k v) (w.setCell ⟨g, k, none⟩ v) := by
  have hr := heap_setCell_same w g k _ e v h
  unfold Rb
  simpa using hr
theorem made1 (z : Value) (hz : z.cells = #[z]) (m : Nat) : (madeCells z.cells m).toList = List.replicate m z := by
  rw [hz]
  unfold madeCells
  apply List.ext_getElem
  · simp
  · intro i h1 h2
    simp [Nat.mod_one]
/-- make([]T, n), each of one cell. -/
theorem make1 {t : TypeId} {K : IntKind} (hinfo : (Tryz.prog.info? e).map (fun i => (i.zero, i.size, decide (i.bytes ≤ 8))) = some (some (.int K 0), 1, true)) (hu : Tryz.prog.underlying t = some (.slice e)) {ops : Array Oper} {rest : List Oper} {o : Oper} {a : Act} {Q : Exit → Act → World → Prop} (hgd : o.guard = none) (l c : Operand) (hop : o.op = Op.makeSlice t l c)
    (L C : Int) (n : Nat) (hl : a.eval l = .int .i64 L) (hc : a.eval c = .int .i64 C) (hL : L = (n : Int)) (hC : C = (n : Int)) (hn : n ≤ 1000000000000)
    (h : ∀ w', Rb e w.heap.size (List.replicate n (.int K 0)) w' → Below w.heap.size w w' → wpList Tryz.prog ops Q rest (a.put o.dst (.slice (some ⟨w.heap.size, 0, none⟩) n n)) w') : wpList Tryz.prog ops Q (o :: rest) a w := by
  obtain ⟨i0, hi, hz0, hz1, hz2⟩ : ∃ i, Tryz.prog.info? e = some i ∧ i.zero = some (.int K 0) ∧ i.size = 1 ∧ i.bytes ≤ 8 := by
    cases q : Tryz.prog.info? e with
    | none => rw [q] at hinfo; simp at hinfo
    | some i => rw [q] at hinfo; simp at hinfo; exact ⟨i, rfl, hinfo.1, hinfo.2.1, hinfo.2.2⟩
  refine wpList_make_full w hgd l c t hop w.heap.size e i0 _ 1 hu hi hz0 hz1 .i64 .i64 L C n hl hc hL hC ?_ (by unfold maxLen; omega) (Nat.le_refl _) ?_
  · have := Nat.mul_le_mul hz2 hn
    omega
  intro w' ho hg
  refine h w' ?_ ((Below.refl _ _).grown hg (Nat.le_refl _) (fun k e => by cases e))
  rcases ho.2 with ⟨e, _⟩ | ⟨g, cap, cur, e, _, hgg, _, _, hsz, htk⟩
  · cases e
  · simp only [Value.slice.injEq, Option.some.injEq, Addr.mk.injEq, and_true] at e
    obtain ⟨rfl, rfl⟩ : w.heap.size = g ∧ n = cap := ⟨e.1, e.2.2⟩
    unfold Rb
    rw [hgg]
    have h1 : cur.toList = List.replicate n (.int K 0) := by
      have h2 : cur.toList.take (n * 1) = cur.toList := List.take_of_length_le (by simp; omega)
      rw [← h2, htk, Nat.mul_one]
      exact made1 _ rfl n
    rw [← h1]
theorem inf5 : (Tryz.prog.info? 5).map (fun i => (i.zero, i.size, decide (i.bytes ≤ 8))) = some (some (.int .u8 0), 1, true) := by kernel_rfl
theorem div_pow_succ (n k : Nat) : n / 256 ^ (k + 1) = n / 256 ^ k / 256 := by rw [Nat.pow_succ, Nat.div_div_eq_div_mul]
/-- How far By has come: the last k bytes are laid. -/
def bw (size n k j : Nat) : UInt8 := if size ≤ j + k then UInt8.ofNat (n / 256 ^ (size - 1 - j)) else 0
def bws (size n k : Nat) : List Value := (List.range size).map fun j => .int .u8 ((bw size n k j).toNat : Int)
theorem bws_zero (size n : Nat) : bws size n 0 = List.replicate size (.int .u8 0) := by
  unfold bws
  apply List.ext_getElem
  · simp
  · intro i h1 h2
    simp at h1
    simp [bw, show ¬ size ≤ i by omega]
theorem bws_step (size n k : Nat) (hk : k < size) : (bws size n k).set (size - 1 - k) (.int .u8 ((UInt8.ofNat (n / 256 ^ k)).toNat : Int)) = bws size n (k + 1) := by
  unfold bws
  apply List.ext_getElem
  · simp
  · intro i h1 h2
    simp at h1 h2
    rw [List.getElem_set]
    by_cases e : size - 1 - k = i
    · subst e
      simp [bw, show size ≤ size - 1 - k + (k + 1) by omega, show size - 1 - (size - 1 - k) = k by omega]
    · rw [if_neg e]
      simp [bw]
      by_cases q : size ≤ i + k
      · rw [if_pos q, if_pos (by omega)]
      · rw [if_neg q, if_neg (by omega)]
theorem bws_at (size n j : Nat) (hj : j < size) : (bws size n size)[j]? = some (.int .u8 (((be size n).getD j 0).toNat : Int)) := by
  unfold bws be
  simp [hj, bw]
set_option maxHeartbeats 1000000 in
set_option maxRecDepth 8000 in
theorem by_any (size n : Nat) (w : World) (h1 : 1 ≤ size) (h8 : size ≤ 8) (hn : n < 9223372036854775808) :
    Calls Tryz.prog 62 #[.int .i64 n, .int .i64 size] w fun e w' => e = .returned (.string ⟨(be size n).toArray⟩) ∧ Below w.heap.size w w' := by
  go_enter Tryz.func62, Tryz.ntmps62
  go_wp2_with (refine make1 inf5 Tryz.underlying105 rfl (.tmp 7) (.tmp 7) rfl _ _ size (by rfl) (by rfl) rfl rfl (by omega) ?_; intro w1 hb1 k1)
  rw [← bws_zero size n] at hb1
  have HB := hide hb1
  have HK := hide k1
  clear hb1 k1
  go_loopw [0, 6] (fun r i wr => ∃ k : Nat, k ≤ size ∧ i = .int .i64 ((size : Int) - 1 - k) ∧ r = .int .i64 ((n / 256 ^ k : Nat) : Int) ∧ Rb 5 w.heap.size (bws size n k) wr ∧ Below w.heap.size w wr) (fun _ i _ => (Go.RowKit.intOf i + 1).toNat)
  case atStart => exact ⟨0, by omega, by simp, by simp, unhide HB, unhide HK⟩
  case round =>
    obtain ⟨k, hk, rfl, rfl, hrw, hbr⟩ := hrel
    have hle : n / 256 ^ k ≤ n := Nat.div_le_self _ _
    by_cases hlt : k < size
    · have hnx := hide (div_pow_succ n k)
      have hst := hrw.set (size - 1 - k) (.int .u8 ((UInt8.ofNat (n / 256 ^ k)).toNat : Int))
      rw [bws_step size n k hlt] at hst
      have hb : ((UInt8.ofNat (n / 256 ^ k)).toNat : Int) = ((n / 256 ^ k : Nat) : Int) % 256 := by
        rw [UInt8.toNat_ofNat']
        omega
      rw [hb] at hst
      have hcell := hrw.cell (size - 1 - k)
      rw [List.getElem?_eq_getElem (show size - 1 - k < (bws size n k).length by unfold bws; simp; omega)] at hcell
      have hfz := hrw.fz (size - 1 - k)
      obtain ⟨v0, hv0⟩ : ∃ v0, (bws size n k)[size - 1 - k]'(by unfold bws; simp; omega) = v0 := ⟨_, rfl⟩
      rw [hv0] at hcell
      have HST := hide hst
      have HBR := hide (hbr.setCell (p := ⟨w.heap.size, size - 1 - k, none⟩) (Nat.le_refl _) (.int .u8 (((n / 256 ^ k : Nat) : Int) % 256)))
      obtain ⟨I, hI⟩ : ∃ I, size - 1 - k = I := ⟨_, rfl⟩
      have hIi : (size : Int) - 1 - k = (I : Int) := by omega
      rw [hI] at hcell hfz HST HBR
      rw [hIi]
      clear hst hb hrw hbr hv0
      generalize n / 256 ^ k = N at *
      have hI2 : (I : Int) < (size : Int) := by omega
      have hw8 : IntKind.u8.wrap ((N : Int) % 256) = (N : Int) % 256 := by rw [IntKind.wrap_u8]; omega
      have hA : bits .and .i64 (N : Int) 255 = (N : Int) % 256 := by have := and_mod 8 N (by decide) (by omega); simpa using this
      go_wp2
      go_roundw
      case rel => exact ⟨k + 1, by omega, congrArg (Value.int .i64) (by omega), congrArg (Value.int .i64) (by rw [unhide hnx]; omega), unhide HST, unhide HBR⟩
      case measure => simp [Go.RowKit.intOf]
    · have hks : k = size := by omega
      subst hks
      have hneg : ((k : Int) - 1 - k) = -1 := by omega
      rw [hneg]
      have hcells : ∀ j, j < k → wr.cell? ⟨w.heap.size, 0 + j, none⟩ = some (.int .u8 (((be k n).getD j 0).toNat : Int)) := fun j hj => by
        rw [Nat.zero_add, hrw.cell, bws_at k n j hj]
      have HX := hide (run_text wr w.heap.size 0 k k (be k n) (be_len k n) hcells)
      have HBR := hide hbr
      clear hcells hrw hbr
      go_wp2_with (refine wpList_conv rfl 105 9 (.tmp 23) rfl _ _ (by rfl) (unhide HX) ?_)
      go_ret
      exact ⟨rfl, unhide HBR⟩
end Go.Proofs.YtpidmpefodnffaaGreatDoor
