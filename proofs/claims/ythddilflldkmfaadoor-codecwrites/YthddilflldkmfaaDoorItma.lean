import Derived.Test.YthddilflldkmfaaDoorPick
import Derived.Test.YthddilflldkmfaaDoorPure
import Derived.BigQuiet
import Derived.Deep.QuietTactic
import Derived.Deep.RegionWith
namespace Go.Proofs.YthddilflldkmfaaDoor
open Go.RowKit Go.Lib
/-- An item as it is handed in. -/
structure Raw where
  k : Int
  s : Int
  n : Int
  m : Int
  t : List UInt8
def i64 (n : Int) : Prop := -9223372036854775808 ≤ n ∧ n ≤ 9223372036854775807
structure Raw.Fit (x : Raw) : Prop where
  k : i64 x.k
  s : i64 x.s
  n : i64 x.n
  m : i64 x.m
  t : x.t.length ≤ 9223372036854775807
def Raw.val (x : Raw) : Value := .agg #[.int .i64 x.k, .int .i64 x.s, .int .i64 x.n, .int .i64 x.m, .string ⟨x.t.toArray⟩]
def absN (n : Int) : Nat := (if n < 0 then -(n + 1) else n).toNat
def Raw.size (x : Raw) : Nat := 1 + pk x.s 8
def Raw.num (x : Raw) : Nat := if x.size < 8 then absN x.n % 256 ^ x.size else absN x.n
def Raw.most (x : Raw) : Nat := max (pk x.m 65536) (min x.t.length 65535)
def Raw.itm (x : Raw) : Itm := ⟨pk x.k 3, x.size, x.num, x.most, x.t⟩
theorem Raw.size_bd (x : Raw) : 1 ≤ x.size ∧ x.size ≤ 8 := by
  have := pk_lt x.s 8 (by omega)
  unfold Raw.size
  omega
theorem absN_bd {n : Int} (h : i64 n) : absN n < 9223372036854775808 := by
  unfold absN
  unfold i64 at h
  split <;> omega
theorem Raw.ok {x : Raw} (h : x.Fit) : x.itm.Ok := by
  have hs := x.size_bd
  have hn := absN_bd h.n
  refine ⟨hs.1, hs.2, ?_, ?_, ?_, ?_⟩
  · show x.num < _
    unfold Raw.num
    split
    · exact Nat.lt_of_le_of_lt (Nat.mod_le _ _) hn
    · exact hn
  · show x.num < 256 ^ x.size
    unfold Raw.num
    split
    · exact Nat.mod_lt _ (Nat.pow_pos (by omega))
    · have : x.size = 8 := by omega
      rw [this]
      exact Nat.lt_of_lt_of_le hn (by decide)
  · show x.most ≤ 65535
    have := pk_lt x.m 65536 (by omega)
    unfold Raw.most
    omega
  · show (x.t.take 65535).length ≤ x.most
    unfold Raw.most
    rw [List.length_take]
    omega
set_option maxHeartbeats 1000000 in
theorem isize_any (x : Raw) (w : World) (h : x.Fit) :
    Calls Tryd.prog 71 #[x.val] w fun e w' => e = .returned (.int .i64 x.size) ∧ Below w.heap.size w w' := by
  have hk := pk_lt x.s 8 (by omega)
  have HP := hide (fun W => pick_any x.s 8 W h.s.1 h.s.2 (by omega) (by omega))
  have HS : Hid ((x.size : Int) = 1 + (pk x.s 8 : Int)) := hide (by unfold Raw.size; omega)
  unfold Raw.val
  generalize pk x.s 8 = p at *
  go_enter Tryd.func71, Tryd.ntmps71
  go_wp2_with fail
  refine (unhide HP _).mono ?_
  rintro e w1 ⟨rfl, rfl⟩
  go_wp2
  go_ret
  exact ⟨ret_int (unhide HS).symm, (Below.refl _ _).alloc (Nat.le_refl _) _⟩
theorem below_drewN' {B : Nat} {a w : World} (h : Below B a w) (n : Nat) : Below B a (w.drewN n) := ⟨h.os, h.tape, h.output, h.size, h.block⟩
set_option maxHeartbeats 1000000 in
theorem imost_any (x : Raw) (w : World) (h : x.Fit) :
    Calls Tryd.prog 73 #[x.val] w fun e w' => e = .returned (.int .i64 x.most) ∧ Below w.heap.size w w' := by
  have hk := pk_lt x.m 65536 (by omega)
  have hq : ∀ W, Calls Tryd.prog 12 #[.int .i64 x.m, .int .i64 65536] W fun e w' => e = .returned (.int .i64 (pk x.m 65536)) ∧ w' = W := fun W => pick_any x.m 65536 W h.m.1 h.m.2 (by omega) (by omega)
  have HP := hide hq
  have HS : Hid ((x.most : Int) = max (pk x.m 65536 : Int) (min (x.t.length : Int) 65535)) := hide (by unfold Raw.most; omega)
  have ht := h.t
  unfold Raw.val
  clear hq
  generalize pk x.m 65536 = p at *
  go_enter Tryd.func73, Tryd.ntmps73
  go_wp2_with fail
  go_quiet ((go_at_call 12; exact Calls.quiet_of_same (unhide HP _)))
  all_goals go_wp2
  all_goals (go_ret; exact ⟨ret_int (by rw [unhide HS]; first | rfl | omega), below_drewN' ((Below.refl _ _).alloc (Nat.le_refl _) _) nq⟩)
theorem absN_int (n : Int) : (absN n : Int) = if n < 0 then -(n + 1) else n := by
  unfold absN
  split <;> omega
set_option maxHeartbeats 4000000 in
theorem inum_any (x : Raw) (w : World) (h : x.Fit) :
    Calls Tryd.prog 72 #[x.val] w fun e w' => e = .returned (.int .i64 x.num) ∧ Below w.heap.size w w' := by
  have hab := absN_bd h.n
  have hai := absN_int x.n
  have hsb := x.size_bd
  have hn := h.n
  unfold i64 at hn
  have HI := hide (fun W => isize_any x W h)
  have HN : Hid (x.num = if x.size < 8 then absN x.n % 256 ^ x.size else absN x.n) := hide rfl
  clear h
  generalize absN x.n = A at *
  generalize x.size = z at *
  by_cases hneg : x.n < 0
  · rw [if_pos hneg] at hai
    rcases (by omega : z = 8 ∨ z = 1 ∨ z = 2 ∨ z = 3 ∨ z = 4 ∨ z = 5 ∨ z = 6 ∨ z = 7) with rfl | rfl | rfl | rfl | rfl | rfl | rfl | rfl
    · have HI2 := HI
      unfold Raw.val at HI2 ⊢
      have HA := hide hai
      clear hai HI
      go_enter Tryd.func72, Tryd.ntmps72
      go_wp2_with fail
      refine (unhide HI2 _).mono ?_
      rintro e w1 ⟨rfl, hb1⟩
      go_wp2
      go_ret
      exact ⟨ret_int (by have h1 := unhide HN; have h2 := unhide HA; simp at h1; omega), ((Below.refl w.heap.size w).alloc (Nat.le_refl _) _).trans (hb1.mono (by simp))⟩
    all_goals
      have HI2 := HI
      unfold Raw.val at HI2 ⊢
      have HA := hide hai
      clear hai HI
      go_enter Tryd.func72, Tryd.ntmps72
      go_wp2_with fail
      refine (unhide HI2 _).mono ?_
      rintro e w1 ⟨rfl, hb1⟩
      have c0 := (hb1.cell (p := ⟨w.heap.size, 0, none⟩) (by simp)).trans (show _ = some (.int .i64 x.k) by simp)
      have c1 := (hb1.cell (p := ⟨w.heap.size, 1, none⟩) (by simp)).trans (show _ = some (.int .i64 x.s) by simp)
      have c2 := (hb1.cell (p := ⟨w.heap.size, 2, none⟩) (by simp)).trans (show _ = some (.int .i64 x.n) by simp)
      have c3 := (hb1.cell (p := ⟨w.heap.size, 3, none⟩) (by simp)).trans (show _ = some (.int .i64 x.m) by simp)
      have c4 := (hb1.cell (p := ⟨w.heap.size, 4, none⟩) (by simp)).trans (show _ = some (.string ⟨x.t.toArray⟩) by simp)
      have HB1 := hide (((Below.refl w.heap.size w).alloc (Nat.le_refl _) _).trans (hb1.mono (by simp)))
      clear hb1
      go_wp2_with fail
      refine (unhide HI2 _).mono ?_
      rintro e w2 ⟨rfl, hb2⟩
      have HB2 := hide ((unhide HB1).trans (hb2.mono (unhide HB1).size))
      clear hb2 HB1 c0 c1 c2 c3 c4
      go_wp2
      go_ret
      exact ⟨ret_int (by have h1 := unhide HN; have h2 := unhide HA; simp at h1; first | omega | (rw [← Int.neg_tmod, Int.tmod_eq_emod_of_nonneg (by omega)]; omega)), unhide HB2⟩
  · rw [if_neg hneg] at hai
    rcases (by omega : z = 8 ∨ z = 1 ∨ z = 2 ∨ z = 3 ∨ z = 4 ∨ z = 5 ∨ z = 6 ∨ z = 7) with rfl | rfl | rfl | rfl | rfl | rfl | rfl | rfl
    · have HI2 := HI
      unfold Raw.val at HI2 ⊢
      have HA := hide hai
      clear hai HI
      go_enter Tryd.func72, Tryd.ntmps72
      go_wp2_with fail
      refine (unhide HI2 _).mono ?_
      rintro e w1 ⟨rfl, hb1⟩
      go_wp2
      go_ret
      exact ⟨ret_int (by have h1 := unhide HN; have h2 := unhide HA; simp at h1; omega), ((Below.refl w.heap.size w).alloc (Nat.le_refl _) _).trans (hb1.mono (by simp))⟩
    all_goals
      have HI2 := HI
      unfold Raw.val at HI2 ⊢
      have HA := hide hai
      clear hai HI
      go_enter Tryd.func72, Tryd.ntmps72
      go_wp2_with fail
      refine (unhide HI2 _).mono ?_
      rintro e w1 ⟨rfl, hb1⟩
      have c0 := (hb1.cell (p := ⟨w.heap.size, 0, none⟩) (by simp)).trans (show _ = some (.int .i64 x.k) by simp)
      have c1 := (hb1.cell (p := ⟨w.heap.size, 1, none⟩) (by simp)).trans (show _ = some (.int .i64 x.s) by simp)
      have c2 := (hb1.cell (p := ⟨w.heap.size, 2, none⟩) (by simp)).trans (show _ = some (.int .i64 x.n) by simp)
      have c3 := (hb1.cell (p := ⟨w.heap.size, 3, none⟩) (by simp)).trans (show _ = some (.int .i64 x.m) by simp)
      have c4 := (hb1.cell (p := ⟨w.heap.size, 4, none⟩) (by simp)).trans (show _ = some (.string ⟨x.t.toArray⟩) by simp)
      have HB1 := hide (((Below.refl w.heap.size w).alloc (Nat.le_refl _) _).trans (hb1.mono (by simp)))
      clear hb1
      go_wp2_with fail
      refine (unhide HI2 _).mono ?_
      rintro e w2 ⟨rfl, hb2⟩
      have HB2 := hide ((unhide HB1).trans (hb2.mono (unhide HB1).size))
      clear hb2 HB1 c0 c1 c2 c3 c4
      go_wp2
      go_ret
      exact ⟨ret_int (by have h1 := unhide HN; have h2 := unhide HA; simp at h1; first | omega | (rw [← Int.neg_tmod, Int.tmod_eq_emod_of_nonneg (by omega)]; omega)), unhide HB2⟩
end Go.Proofs.YthddilflldkmfaaDoor
