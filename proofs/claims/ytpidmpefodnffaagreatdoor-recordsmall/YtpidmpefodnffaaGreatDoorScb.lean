import Derived.Test.YtpidmpefodnffaaGreatDoorShla
import Derived.Test.YtpidmpefodnffaaGreatDoorZcob
import Derived.Shelf.Strings.Builder1
import Derived.Shelf.Strings.BuilderF
import Derived.Shelf.Strings.BuilderK
import Derived.Shelf.LaysM
import Derived.Shelf.Strconv.Clone
import Derived.Test.YtpidmpefodnffaaGreatDoorProg
namespace Go.Proofs.YtpidmpefodnffaaGreatDoor
open Go.RowKit Go.Lib
theorem blk_lt {w : World} {p o : Nat} {v : Value} (h : w.cell? ⟨p, o, none⟩ = some v) : p < w.heap.size := by
  rcases Nat.lt_or_ge p w.heap.size with h' | h'
  · exact h'
  · simp [World.cell?, Array.getElem?_eq_none h'] at h
/-- Texts, one behind the other in memory. -/
def Sts (w : World) (a : Option Addr) (n : Nat) (l : List Bs) : Prop :=
  n = l.length ∧ (0 < n → ∃ p o, a = some ⟨p, o, none⟩ ∧ ∀ j, j < n → w.cell? ⟨p, o + j, none⟩ = some (S (l.getD j [])))
theorem Sts.at {w : World} {a : Option Addr} {n : Nat} {l : List Bs} (h : Sts w a n l) {j : Nat} (hj : j < n) : ∃ p o, a = some ⟨p, o, none⟩ ∧ p < w.heap.size ∧ w.cell? ⟨p, o + j, none⟩ = some (S (l.getD j [])) := by
  obtain ⟨p, o, e, hc⟩ := h.2 (by omega)
  exact ⟨p, o, e, blk_lt (hc j hj), hc j hj⟩
theorem Sts.below {w w' : World} {a : Option Addr} {n : Nat} {l : List Bs} (h : Sts w a n l) (hb : Below w.heap.size w w') : Sts w' a n l := by
  refine ⟨h.1, fun hn => ?_⟩
  obtain ⟨p, o, e, hc⟩ := h.2 hn
  exact ⟨p, o, e, fun j hj => (hb.cell (by exact blk_lt (hc j hj))).trans (hc j hj)⟩
/-! ### The text of names -/
theorem tl_append (u v : List Bs) : tl (u ++ v) = tl u ++ tl v := by
  induction u with
  | nil => rfl
  | cons a r ih => simp [tl, ih]
theorem tx_snoc (u : List Bs) (x : Bs) (h : u ≠ []) : tx (u ++ [x]) = tx u ++ [32] ++ x := by
  cases u with
  | nil => exact absurd rfl h
  | cons a r => simp [tx, tl_append, tl]
theorem tx_one (x : Bs) : tx [x] = x := by simp [tx, tl]
theorem tx_le (l : List Bs) (k : Nat) : (tx (l.take k)).length ≤ (tx l).length := by
  have := tl_len (List.take_sublist k l)
  rw [tx_tl, tx_tl]
  omega
theorem tx_step (l : List Bs) (k : Nat) (h : k < l.length) (h0 : 0 < k) : tx (l.take (k + 1)) = tx (l.take k) ++ [32] ++ l.getD k [] := by
  rw [take_snocS l k h, tx_snoc _ _ (by intro e; have := congrArg List.length e; rw [List.length_take] at this; simp only [List.length_nil] at this; omega)]
  simp [h]
theorem tx_first (l : List Bs) (h : 0 < l.length) : tx (l.take 1) = l.getD 0 [] := by
  rw [take_snocS l 0 h]
  simp [tx_one, h]
def Bd (B b : Nat) (l : Bs) (w : World) : Prop := IsBuilderF 265 5 B b (byteCells l) w
theorem write_any (B b : Nat) (acc s : Bs) (w : World) (h : Bd B b acc w) (hl : acc.length + s.length ≤ 140737488355328) (hB : B ≤ w.heap.size) :
    Calls Tryz.prog 178 #[(.pointer (some ⟨b, 0, none⟩) : Value), S s] w fun e w' => e = .returned (.tuple #[.int .i64 s.length, .nilIface]) ∧ Bd B b (acc ++ s) w' ∧ Below B w w' := by
  have hbc : (byteCells acc).length = acc.length := by simp [byteCells]
  refine (Tryz.Builder_WriteString_k B b (byteCells acc) ⟨s.toArray⟩ w h (by rw [hbc, ba_len]; exact hl) hB).mono ?_
  rintro e w' ⟨rfl, h1, h2, h3⟩
  refine ⟨by rw [ba_len], ?_, h2⟩
  unfold Bd
  have e : byteCells (acc ++ s) = byteCells acc ++ strCells ⟨s.toArray⟩ := by
    simp [byteCells, strCells]
  rw [e]
  exact .inr h1
theorem byte_any (B b : Nat) (acc : Bs) (w : World) (h : Bd B b acc w) (hl : acc.length + 1 ≤ 140737488355328) (hB : B ≤ w.heap.size) :
    Calls Tryz.prog 177 #[(.pointer (some ⟨b, 0, none⟩) : Value), .int .u8 32] w fun e w' => e = .returned .nilIface ∧ Bd B b (acc ++ [32]) w' ∧ Below B w w' := by
  have hbc : (byteCells acc).length = acc.length := by simp [byteCells]
  refine (Tryz.Builder_WriteByte_k B b (byteCells acc) 32 w h (by rw [hbc]; exact hl) hB).mono ?_
  rintro e w' ⟨rfl, h1, h2, h3⟩
  refine ⟨rfl, ?_, h2⟩
  unfold Bd
  have e : byteCells (acc ++ [32]) = byteCells acc ++ [.int .u8 32] := by
    simp [byteCells]
  rw [e]
  exact .inr h1
set_option maxHeartbeats 8000000 in
set_option maxRecDepth 8000 in
theorem text_any (a : Option Addr) (n cap : Nat) (l : List Bs) (w : World) (hp : Sts w a n l) (hl : (tx l).length ≤ 140737488355000) (hn : n ≤ 140737488355000) :
    Calls Tryz.prog 173 #[.slice a n cap] w fun e w' => e = .returned (S (tx l)) ∧ Below w.heap.size w w' := by
  have hb0 : Below w.heap.size w (w.alloc (.cells #[.pointer none, .slice none 0 0] 265)) := (Below.refl _ w).alloc (Nat.le_refl _) _
  have HB := hide (show Bd w.heap.size w.heap.size [] (w.alloc (.cells #[.pointer none, .slice none 0 0] 265)) from IsBuilderF.of (fresh_isBuilder 265 5 w))
  have HB0 := hide hb0
  have HP := hide hp
  have HN := hide hp.1
  have hz0 : w.heap.size < (w.alloc (.cells #[.pointer none, .slice none 0 0] 265)).heap.size := by simp
  clear hp hb0
  go_enter Tryz.func173, Tryz.ntmps173
  go_wp2
  go_loopw [8] (fun i wr => ∃ k : Nat, k ≤ n ∧ i = .int .i64 k ∧ Bd w.heap.size w.heap.size (tx (l.take k)) wr ∧ Below w.heap.size w wr ∧ w.heap.size < wr.heap.size) (fun i _ => n - (Go.RowKit.intOf i).toNat)
  case atStart => exact ⟨0, by omega, rfl, by simpa [tx] using unhide HB, unhide HB0, hz0⟩
  case round =>
    obtain ⟨k, hk, rfl, hbd, hbr, hsz⟩ := hrel
    clear HB HB0 hz0
    have hle := tx_le l k
    by_cases hlt : k < n
    · obtain ⟨p, o, rfl, hpl, hc0⟩ := ((unhide HP).below hbr).at hlt
      have hkl : k < l.length := by have := unhide HN; omega
      have hl2 := tx_le l (k + 1)
      have HB1 := hide hbd
      have HR1 := hide hbr
      have hlt' : (k : Int) < (n : Int) := by omega
      clear hbd hbr
      by_cases h0 : k = 0
      · subst h0
        have HT := hide (tx_first l hkl)
        rw [unhide HT] at hl2
        rw [Nat.add_zero] at hc0
        have HB1' := hide (show Bd w.heap.size w.heap.size [] wr by simpa [tx] using unhide HB1)
        generalize l.getD 0 [] = x at *
        go_wp2_with fail
        refine (write_any w.heap.size w.heap.size [] x wr (unhide HB1') (by simp; omega) (by omega)).mono ?_
        rintro e w2 ⟨rfl, q1, q2⟩
        have HB2 := hide q1
        have HW2 := hide ((unhide HR1).trans q2)
        have hz2 : w.heap.size < w2.heap.size := by have := q2.size; omega
        clear q1 q2
        go_wp2
        refine ⟨⟨1, by omega, by go_num, by rw [unhide HT]; exact unhide HB2, unhide HW2, hz2⟩, ?_⟩
        simp [Go.RowKit.intOf]; omega
      · have HT := hide (tx_step l k hkl (by omega))
        rw [unhide HT, List.length_append, List.length_append] at hl2
        generalize l.getD k [] = x at *
        generalize tx (l.take k) = ACC at *
        have h0' : (0 : Int) < (k : Int) := by omega
        simp only [List.length_cons, List.length_nil] at hl2
        go_wp2_with fail
        refine (byte_any w.heap.size w.heap.size ACC wr (unhide HB1) (by omega) (by omega)).mono ?_
        rintro e w1 ⟨rfl, q1, q2⟩
        have HB2 := hide q1
        have HW2 := hide ((unhide HR1).trans q2)
        have hz2 : w.heap.size < w1.heap.size := by have := q2.size; omega
        clear q1 q2 HB1 HR1
        go_wp2_with fail
        refine (write_any w.heap.size w.heap.size (ACC ++ [32]) x w1 (unhide HB2) (by simp; omega) (by omega)).mono ?_
        rintro e w2 ⟨rfl, q1, q2⟩
        have HB3 := hide q1
        have HW3 := hide ((unhide HW2).trans q2)
        have hz3 : w.heap.size < w2.heap.size := by have := q2.size; omega
        clear q1 q2
        go_wp2
        refine ⟨⟨k + 1, by omega, by go_num, by rw [unhide HT]; exact unhide HB3, unhide HW3, hz3⟩, ?_⟩
        simp [Go.RowKit.intOf]; omega
    · have hd : decide (k < n) = false := by simp; omega
      have e : l.take k = l := List.take_of_length_le (by have := unhide HN; omega)
      rw [e] at hbd
      have HB1 := hide hbd
      have HR1 := hide hbr
      clear hbd hbr e
      go_wp2_with fail
      refine (Tryz.Builder_String_any_k w.heap.size w.heap.size (tx l) wr (unhide HB1) (by omega)).mono ?_
      rintro e w2 ⟨rfl, _, b2, _⟩
      have HW := hide ((unhide HR1).trans b2)
      go_wp2
      go_ret
      exact ⟨rfl, unhide HW⟩
end Go.Proofs.YtpidmpefodnffaaGreatDoor
