import Derived.Test.YthddilflldkmfaaDoorWrtd
import Derived.Test.YthddilflldkmfaaDoorOpc
import Derived.Test.YthddilflldkmfaaDoorYrz
import Derived.Laws.CopyRow
import Derived.Laws.MakeOwn
namespace Go.Proofs.YthddilflldkmfaaDoor
open Go.RowKit Go.Lib
/-- A Writer of the document's answer: what was laid, what was wrong. -/
def ZAt (z : Nat) (X : List UInt8) (E : Nat) (w : World) : Prop := w.heap[z]? = some (.cells #[.string ⟨X.toArray⟩, .int .i64 (E : Int)] 74 (0, 0))
variable {z : Nat} {X X' : List UInt8} {E E' : Nat} {w w' : World}
theorem ZAt.c0 (h : ZAt z X E w) : w.cell? ⟨z, 0, none⟩ = some (.string ⟨X.toArray⟩) := by
  rw [cell_of_row w z 0 _ 74 (0, 0) h]; rfl
theorem ZAt.c1 (h : ZAt z X E w) : w.cell? ⟨z, 1, none⟩ = some (.int .i64 (E : Int)) := by
  rw [cell_of_row w z 1 _ 74 (0, 0) h]; rfl
theorem ZAt.fz (h : ZAt z X E w) (j : Nat) : w.frozen? ⟨z, j, none⟩ = false := frozen_of_row w z j _ 74 h
theorem ZAt.keep {P : Nat → Prop} (h : ZAt z X E w) (ho : Only P w w') (hb : ¬ P z) : ZAt z X E w' := (ho.block z (lt_of_row h) hb).trans h
theorem ZAt.set1 (h : ZAt z X E w) : ZAt z X E' (w.setCell ⟨z, 1, none⟩ (.int .i64 (E' : Int))) := by
  have hr := heap_setCell_same w z 1 _ 74 (.int .i64 (E' : Int)) h
  unfold ZAt
  simpa using hr
theorem ZAt.set0 (h : ZAt z X E w) : ZAt z X' E (w.setCell ⟨z, 0, none⟩ (.string ⟨X'.toArray⟩)) := by
  have hr := heap_setCell_same w z 0 _ 74 (.string ⟨X'.toArray⟩) h
  unfold ZAt
  simpa using hr
/-- What it becomes. -/
def ZTo (z : Nat) (X' : List UInt8) (E' : Nat) (w w' : World) : Prop := ZAt z X' E' w' ∧ Only (fun k => k = z) w w'
theorem ZTo.same (h : ZAt z X E w) : ZTo z X E w w := ⟨h, Only.refl _ _⟩
theorem ZTo.err (h : ZAt z X E w) : ZTo z X E' w (w.setCell ⟨z, 1, none⟩ (.int .i64 (E' : Int))) := ⟨h.set1, Only.setCell w ⟨z, 1, none⟩ _⟩
theorem ZTo.cut (h : ZAt z X E w) : ZTo z X' E w (w.setCell ⟨z, 0, none⟩ (.string ⟨X'.toArray⟩)) := ⟨h.set0, Only.setCell w ⟨z, 0, none⟩ _⟩
theorem cat_list (a b : List UInt8) : (ByteArray.mk a.toArray ++ ByteArray.mk b.toArray) = ⟨(a ++ b).toArray⟩ := by
  apply ByteArray.ext
  simp
theorem znew_any (w : World) :
    Calls Tryd.prog 11 #[] w fun e w' => e = .returned (.pointer (some ⟨w.heap.size, 0, none⟩)) ∧ ZAt w.heap.size [] 0 w' ∧ Below w.heap.size w w' := by
  go_enter Tryd.func11, Tryd.ntmps11
  go_wp2
  go_ret
  refine ⟨rfl, ?_, (Below.refl _ _).alloc (Nat.le_refl _) _⟩
  show (w.heap.push _)[w.heap.size]? = _
  simp
theorem zwrong_any (z : Nat) (X : List UInt8) (E e : Nat) (w : World) (h : ZAt z X E w) :
    Calls Tryd.prog 55 #[.pointer (some ⟨z, 0, none⟩), .int .i64 (e : Int)] w fun ev w' => ev = .returned (.tuple #[]) ∧ ZTo z X (if E = 0 then e else E) w w' := by
  have c1 := h.c1
  have f1 := h.fz 1
  have H := hide h
  clear h
  by_cases hE : E = 0
  · subst hE
    go_enter Tryd.func55, Tryd.ntmps55
    go_wp2
    go_end0
    exact ⟨rfl, ZTo.err (unhide H)⟩
  · have hE' : ¬ (E : Int) = 0 := by omega
    rw [if_neg hE]
    go_enter Tryd.func55, Tryd.ntmps55
    go_wp2
    go_end0
    exact ⟨rfl, ZTo.same (unhide H)⟩
theorem zraw_any (z : Nat) (X : List UInt8) (E : Nat) (s : List UInt8) (w : World) (h : ZAt z X E w) (hl : X.length + s.length ≤ 1000000000000) :
    Calls Tryd.prog 18 #[.pointer (some ⟨z, 0, none⟩), .string ⟨s.toArray⟩] w fun ev w' => ev = .returned (.tuple #[]) ∧ ZTo z (X ++ s) E w w' := by
  have c0 := h.c0
  have f0 := h.fz 0
  have H := hide h
  have hc := cat_list X s
  clear h
  go_enter Tryd.func18, Tryd.ntmps18
  go_wp2
  go_end0
  exact ⟨rfl, ZTo.cut (unhide H)⟩
theorem div_pow_succ (n k : Nat) : n / 256 ^ (k + 1) = n / 256 ^ k / 256 := by rw [Nat.pow_succ, Nat.div_div_eq_div_mul]
theorem stnB_div (size m : Nat) : stnB size (m : Int) = decide (m / 256 ^ size = 0) := by
  have e : ((256 ^ size : Nat) : Int) = (256 : Int) ^ size := by simp
  have hp : (0 : Nat) < 256 ^ size := Nat.pow_pos (by decide)
  unfold stnB
  rw [← e]
  congr 1
  apply propext
  rw [Nat.div_eq_zero_iff]
  generalize 256 ^ size = P at *
  omega
set_option maxHeartbeats 1000000 in
theorem fits_any (size : Nat) (n : Int) (w : World) (h8 : size ≤ 8) (hn : n ≤ 9223372036854775807) :
    Calls Tryd.prog 56 #[.int .i64 size, .int .i64 n] w fun e w' => e = .returned (.bool (stnB size n)) ∧ w' = w := by
  by_cases h0 : n < 0
  · have e : stnB size n = false := by simp [stnB]; omega
    rw [e]
    go_enter Tryd.func56, Tryd.ntmps56
    go_wp2
    go_ret
    exact ⟨rfl, rfl⟩
  · obtain ⟨m, rfl⟩ : ∃ m : Nat, n = (m : Int) := ⟨n.toNat, by omega⟩
    obtain ⟨T, hT⟩ : ∃ T, stnB size m = T := ⟨_, rfl⟩
    have HT : Hid (T = decide (m / 256 ^ size = 0)) := hide (by rw [← hT]; exact stnB_div size m)
    rw [hT]
    clear hT h0
    have hd0 : ¬ (m : Int) < 0 := by omega
    go_enter Tryd.func56, Tryd.ntmps56
    go_wp2
    go_loop [1, 5] (fun r i => ∃ k : Nat, k ≤ size ∧ i = .int .i64 k ∧ r = .int .i64 ((m / 256 ^ k : Nat) : Int)) (fun _ i => size - (intOf i).toNat)
    case atStart => exact ⟨0, by omega, rfl, by simp⟩
    case round =>
      obtain ⟨k, hk, rfl, rfl⟩ := hrel
      have hle : m / 256 ^ k ≤ m := Nat.div_le_self _ _
      by_cases hlt : k < size
      · have hnx := hide (div_pow_succ m k)
        generalize m / 256 ^ k = N at *
        go_wp2
        go_round
        case rel => exact ⟨k + 1, by omega, by go_num, congrArg (Value.int .i64) (by rw [unhide hnx]; omega)⟩
        case measure => simp [intOf]; omega
      · have : k = size := by omega
        subst this
        have hd : decide (k < k) = false := by simp
        generalize m / 256 ^ k = N at *
        go_wp2
        go_ret
        refine ⟨?_, rfl⟩
        rw [unhide HT]
        by_cases q : N = 0 <;> simp [q]
set_option maxHeartbeats 1000000 in
theorem zdone_any (z : Nat) (X : List UInt8) (E : Nat) (w : World) (h : ZAt z X E w) :
    Calls Tryd.prog 21 #[.pointer (some ⟨z, 0, none⟩)] w fun e w' => e = .returned (.tuple #[.string ⟨(if E = 0 then X else []).toArray⟩, .int .i64 E]) ∧ Below w.heap.size w w' := by
  have c0 := h.c0
  have c1 := h.c1
  by_cases hE : E = 0
  · subst hE
    clear h
    go_enter Tryd.func21, Tryd.ntmps21
    go_wp2
    go_ret2
    exact ⟨rfl, Below.refl _ _⟩
  · have hE' : ¬ (E : Int) = 0 := by omega
    rw [if_neg hE]
    clear h
    go_enter Tryd.func21, Tryd.ntmps21
    go_wp2_with fail
    go_quiet (fail)
    go_wp2
    go_ret2
    exact ⟨rfl, (Only.drewN (fun _ => False) w _) |> fun o => ⟨o.os, o.tape, o.output, o.size, fun k hk => o.block k hk (fun q => q)⟩⟩
end Go.Proofs.YthddilflldkmfaaDoor
namespace Go.Proofs.YthddilflldkmfaaDoor
open Go.RowKit Go.Lib
/-- A block of values of one cell each. -/
def Rw (e : TypeId) (g : Nat) (xs : List Value) (w : World) : Prop := w.heap[g]? = some (.cells xs.toArray e (0, 0))
variable {e : TypeId} {g : Nat} {xs : List Value} {w w' : World}
theorem Rw.cell (h : Rw e g xs w) (k : Nat) : w.cell? ⟨g, k, none⟩ = xs[k]? := by
  rw [cell_of_row w g k _ e (0, 0) h]; simp
theorem Rw.fz (h : Rw e g xs w) (j : Nat) : w.frozen? ⟨g, j, none⟩ = false := frozen_of_row w g j _ e h
theorem Rw.keep {P : Nat → Prop} (h : Rw e g xs w) (ho : Only P w w') (hg : ¬ P g) : Rw e g xs w' := (ho.block g (lt_of_row h) hg).trans h
theorem Rw.below (h : Rw e g xs w) (k : Below w.heap.size w w') : Rw e g xs w' := (k.block g (lt_of_row h)).trans h
theorem Rw.set (h : Rw e g xs w) (k : Nat) (v : Value) : Rw e g (xs.set k v) (w.setCell ⟨g, k, none⟩ v) := by
  have hr := heap_setCell_same w g k _ e v h
  unfold Rw
  simpa using hr
theorem made1 (z : Value) (hz : z.cells = #[z]) (m : Nat) : (madeCells z.cells m).toList = List.replicate m z := by
  rw [hz]
  unfold madeCells
  apply List.ext_getElem
  · simp
  · intro i h1 h2
    simp [Nat.mod_one]
/-- make([]T, n), each of one cell. -/
theorem make1 {t : TypeId} {K : IntKind} (hinfo : (Tryd.prog.info? e).map (fun i => (i.zero, i.size, decide (i.bytes ≤ 8))) = some (some (.int K 0), 1, true)) (hu : Tryd.prog.underlying t = some (.slice e)) {ops : Array Oper} {rest : List Oper} {o : Oper} {a : Act} {Q : Exit → Act → World → Prop} (hgd : o.guard = none) (l c : Operand) (hop : o.op = Op.makeSlice t l c)
    (L C : Int) (n : Nat) (hl : a.eval l = .int .i64 L) (hc : a.eval c = .int .i64 C) (hL : L = (n : Int)) (hC : C = (n : Int)) (hn : n ≤ 1000000000000)
    (h : ∀ w', Rw e w.heap.size (List.replicate n (.int K 0)) w' → Below w.heap.size w w' → wpList Tryd.prog ops Q rest (a.put o.dst (.slice (some ⟨w.heap.size, 0, none⟩) n n)) w') : wpList Tryd.prog ops Q (o :: rest) a w := by
  obtain ⟨i0, hi, hz0, hz1, hz2⟩ : ∃ i, Tryd.prog.info? e = some i ∧ i.zero = some (.int K 0) ∧ i.size = 1 ∧ i.bytes ≤ 8 := by
    cases q : Tryd.prog.info? e with
    | none => rw [q] at hinfo; simp at hinfo
    | some i => rw [q] at hinfo; simp at hinfo; exact ⟨i, rfl, hinfo.1, hinfo.2.1, hinfo.2.2⟩
  refine wpList_make_full w hgd l c t hop w.heap.size e i0 _ 1 hu hi hz0 hz1 .i64 .i64 L C n hl hc hL hC ?_ (by unfold maxLen; omega) (Nat.le_refl _) ?_
  · have := Nat.mul_le_mul hz2 hn
    omega
  intro w' ho hg
  refine h w' ?_ ((Below.refl _ _).grown hg (Nat.le_refl _) (fun k e => by cases e))
  rcases ho.2 with ⟨e, _⟩ | ⟨g, cap, cur, e, _, hgg, _, _, hsz, htk⟩
  · cases e
  · simp only [Value.slice.injEq, Option.some.injEq, Addr.mk.injEq, and_true] at e
    obtain ⟨rfl, rfl⟩ : w.heap.size = g ∧ n = cap := ⟨e.1, e.2.2⟩
    unfold Rw
    rw [hgg]
    have h1 : cur.toList = List.replicate n (.int K 0) := by
      have h2 : cur.toList.take (n * 1) = cur.toList := List.take_of_length_le (by simp; omega)
      rw [← h2, htk, Nat.mul_one]
      exact made1 _ rfl n
    rw [← h1]
theorem inf5 : (Tryd.prog.info? 5).map (fun i => (i.zero, i.size, decide (i.bytes ≤ 8))) = some (some (.int .u8 0), 1, true) := by kernel_rfl
/-- How far By has come: the last k bytes are laid. -/
def bw (size n k j : Nat) : UInt8 := if size ≤ j + k then UInt8.ofNat (n / 256 ^ (size - 1 - j)) else 0
def bws (size n k : Nat) : List Value := (List.range size).map fun j => .int .u8 ((bw size n k j).toNat : Int)
theorem bws_zero (size n : Nat) : bws size n 0 = List.replicate size (.int .u8 0) := by
  unfold bws
  apply List.ext_getElem
  · simp
  · intro i h1 h2
    simp at h1
    simp [bw, show ¬ size ≤ i by omega]
theorem bws_step (size n k : Nat) (hk : k < size) : (bws size n k).set (size - 1 - k) (.int .u8 ((UInt8.ofNat (n / 256 ^ k)).toNat : Int)) = bws size n (k + 1) := by
  unfold bws
  apply List.ext_getElem
  · simp
  · intro i h1 h2
    simp at h1 h2
    rw [List.getElem_set]
    by_cases e : size - 1 - k = i
    · subst e
      simp [bw, show size ≤ size - 1 - k + (k + 1) by omega, show size - 1 - (size - 1 - k) = k by omega]
    · rw [if_neg e]
      simp [bw]
      by_cases q : size ≤ i + k
      · rw [if_pos q, if_pos (by omega)]
      · rw [if_neg q, if_neg (by omega)]
theorem bws_at (size n j : Nat) (hj : j < size) : (bws size n size)[j]? = some (.int .u8 (((be size n).getD j 0).toNat : Int)) := by
  unfold bws be
  simp [hj, bw]
set_option maxHeartbeats 1000000 in
set_option maxRecDepth 8000 in
theorem by_any (size n : Nat) (w : World) (h1 : 1 ≤ size) (h8 : size ≤ 8) (hn : n < 9223372036854775808) :
    Calls Tryd.prog 57 #[.int .i64 size, .int .i64 n] w fun e w' => e = .returned (.string ⟨(be size n).toArray⟩) ∧ Below w.heap.size w w' := by
  go_enter Tryd.func57, Tryd.ntmps57
  go_wp2_with (refine make1 inf5 Tryd.underlying68 rfl (.tmp 7) (.tmp 7) rfl _ _ size (by rfl) (by rfl) rfl rfl (by omega) ?_; intro w1 hb1 k1)
  rw [← bws_zero size n] at hb1
  have HB := hide hb1
  have HK := hide k1
  clear hb1 k1
  go_loopw [1, 6] (fun r i wr => ∃ k : Nat, k ≤ size ∧ i = .int .i64 ((size : Int) - 1 - k) ∧ r = .int .i64 ((n / 256 ^ k : Nat) : Int) ∧ Rw 5 w.heap.size (bws size n k) wr ∧ Below w.heap.size w wr) (fun _ i _ => (Go.RowKit.intOf i + 1).toNat)
  case atStart => exact ⟨0, by omega, by simp, by simp, unhide HB, unhide HK⟩
  case round =>
    obtain ⟨k, hk, rfl, rfl, hrw, hbr⟩ := hrel
    have hle : n / 256 ^ k ≤ n := Nat.div_le_self _ _
    by_cases hlt : k < size
    · have hnx := hide (div_pow_succ n k)
      have hst := hrw.set (size - 1 - k) (.int .u8 ((UInt8.ofNat (n / 256 ^ k)).toNat : Int))
      rw [bws_step size n k hlt] at hst
      have hb : ((UInt8.ofNat (n / 256 ^ k)).toNat : Int) = ((n / 256 ^ k : Nat) : Int) % 256 := by
        rw [UInt8.toNat_ofNat']
        omega
      rw [hb] at hst
      have hcell := hrw.cell (size - 1 - k)
      rw [List.getElem?_eq_getElem (show size - 1 - k < (bws size n k).length by unfold bws; simp; omega)] at hcell
      have hfz := hrw.fz (size - 1 - k)
      obtain ⟨v0, hv0⟩ : ∃ v0, (bws size n k)[size - 1 - k]'(by unfold bws; simp; omega) = v0 := ⟨_, rfl⟩
      rw [hv0] at hcell
      have HST := hide hst
      have HBR := hide (hbr.setCell (p := ⟨w.heap.size, size - 1 - k, none⟩) (Nat.le_refl _) (.int .u8 (((n / 256 ^ k : Nat) : Int) % 256)))
      obtain ⟨I, hI⟩ : ∃ I, size - 1 - k = I := ⟨_, rfl⟩
      have hIi : (size : Int) - 1 - k = (I : Int) := by omega
      rw [hI] at hcell hfz HST HBR
      rw [hIi]
      clear hst hb hrw hbr hv0
      generalize n / 256 ^ k = N at *
      have hI2 : (I : Int) < (size : Int) := by omega
      have hw8 : IntKind.u8.wrap ((N : Int) % 256) = (N : Int) % 256 := by rw [IntKind.wrap_u8]; omega
      go_wp2
      go_roundw
      case rel => exact ⟨k + 1, by omega, congrArg (Value.int .i64) (by omega), congrArg (Value.int .i64) (by rw [unhide hnx]; omega), unhide HST, unhide HBR⟩
      case measure => simp [Go.RowKit.intOf]
    · have hks : k = size := by omega
      subst hks
      have hneg : ((k : Int) - 1 - k) = -1 := by omega
      rw [hneg]
      have hcells : ∀ j, j < k → wr.cell? ⟨w.heap.size, 0 + j, none⟩ = some (.int .u8 (((be k n).getD j 0).toNat : Int)) := fun j hj => by
        rw [Nat.zero_add, hrw.cell, bws_at k n j hj]
      have HX := hide (run_text wr w.heap.size 0 k k (be k n) (be_len k n) hcells)
      have HBR := hide hbr
      clear hcells hrw hbr
      go_wp2_with (refine wpList_conv rfl 68 9 (.tmp 23) rfl _ _ (by rfl) (unhide HX) ?_)
      go_ret
      exact ⟨rfl, unhide HBR⟩
end Go.Proofs.YthddilflldkmfaaDoor
