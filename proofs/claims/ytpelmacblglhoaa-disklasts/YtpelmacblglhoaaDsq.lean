import Derived.Test.YtpelmacblglhoaaDsm
namespace Go.Proofs.Ytpelmacblglhoaa
open Go.RowKit
set_option maxHeartbeats 4000000
set_option maxRecDepth 8000
def isS (n : Int) : Bool := decide (0 ≤ n) && decide (n < 256)
theorem isSet_any (n : Int) (w : World) : Calls Try.prog 69 #[I n] w fun e w' => e = .returned (.bool (isS n)) ∧ w' = w := by
  unfold isS
  by_cases h1 : 0 ≤ n
  · by_cases h2 : n < 256
    · go_enter Try.func69, Try.ntmps69
      go_wp2
      go_ret
      exact ⟨ret_bool (by simp <;> omega), rfl⟩
    · go_enter Try.func69, Try.ntmps69
      go_wp2
      go_ret
      exact ⟨ret_bool (by simp <;> omega), rfl⟩
  · go_enter Try.func69, Try.ntmps69
    go_wp2
    go_ret
    exact ⟨ret_bool (by simp <;> omega), rfl⟩
abbrev Kp := Int × Int
/-- Keeps in memory. -/
def Kls (w : World) (a : Option Addr) (n : Nat) (l : List Kp) : Prop :=
  n = l.length ∧ (0 < n → ∃ p o, a = some ⟨p, o, none⟩ ∧ ∀ j, j < n → w.cell? ⟨p, o + j * 2, none⟩ = some (I (l.getD j (0, 0)).1) ∧ w.cell? ⟨p, o + j * 2 + 1, none⟩ = some (I (l.getD j (0, 0)).2))
theorem Kls.at {w : World} {a : Option Addr} {n : Nat} {l : List Kp} (h : Kls w a n l) {j : Nat} (hj : j < n) : ∃ p o, a = some ⟨p, o, none⟩ ∧ p < w.heap.size ∧ w.cell? ⟨p, o + j * 2, none⟩ = some (I (l.getD j (0, 0)).1) ∧ w.cell? ⟨p, o + j * 2 + 1, none⟩ = some (I (l.getD j (0, 0)).2) := by
  obtain ⟨p, o, e, hc⟩ := h.2 (by omega)
  exact ⟨p, o, e, blk_lt (hc j hj).1, (hc j hj).1, (hc j hj).2⟩
theorem Kls.below {w w' : World} {a : Option Addr} {n : Nat} {l : List Kp} (h : Kls w a n l) (hb : Below w.heap.size w w') : Kls w' a n l := by
  refine ⟨h.1, fun hn => ?_⟩
  obtain ⟨p, o, e, hc⟩ := h.2 hn
  exact ⟨p, o, e, fun j hj => ⟨(hb.cell (by exact blk_lt (hc j hj).1)).trans (hc j hj).1, (hb.cell (by exact blk_lt (hc j hj).2)).trans (hc j hj).2⟩⟩
/-- Which sectors are to stay of each pending write: none that was not named. -/
abbrev St := List (Option Nat)
def stp (st : St) (k : Kp) : Option St := if k.1 < 0 then none else if (st.length : Int) ≤ k.1 then none else if (st.getD k.1.toNat none).isSome then none else if isS k.2 = false then none else some (st.set k.1.toNat (some k.2.toNat))
def stps (st : St) : List Kp → Option St
  | [] => some st
  | k :: l => match stp st k with | none => none | some s => stps s l
theorem stps_append (st : St) (a b : List Kp) : stps st (a ++ b) = match stps st a with | none => none | some s => stps s b := by
  induction a generalizing st with
  | nil => rfl
  | cons k a ih =>
    simp only [List.cons_append, stps]
    cases stp st k with
    | none => rfl
    | some s => exact ih s
theorem stps_next (st : St) (l : List Kp) (k : Nat) (hk : k < l.length) : stps st (l.take (k + 1)) = match stps st (l.take k) with | none => none | some s => stp s (l.getD k (0, 0)) := by
  have e : l.getD k (0, 0) = l[k] := by simp [hk]
  rw [List.take_succ_eq_append_getElem hk, stps_append, e]
  cases stps st (l.take k) with
  | none => rfl
  | some s =>
    simp only [stps]
    cases stp s l[k] <;> rfl
theorem stps_bad (st : St) (l : List Kp) (k : Nat) (h : stps st (l.take k) = none) : stps st l = none := by
  have := stps_append st (l.take k) (l.drop k)
  rw [List.take_append_drop, h] at this
  exact this
theorem stp_len {st s : St} {k : Kp} (h : stp st k = some s) : s.length = st.length := by
  unfold stp at h
  repeat' split at h
  all_goals first | cases h | skip
  all_goals simp
def cellsN (st : St) : List Value := st.map fun o => I (o.getD 0 : Nat)
def cellsB (st : St) : List Value := st.map fun o => .bool o.isSome
theorem cellsN_set (st : St) (i m : Nat) : (cellsN st).set i (I m) = cellsN (st.set i (some m)) := by simp [cellsN, List.map_set]
theorem cellsB_set (st : St) (i m : Nat) : (cellsB st).set i (.bool true) = cellsB (st.set i (some m)) := by simp [cellsB, List.map_set]
theorem cellsN_at (st : St) (i : Nat) (h : i < st.length) : (cellsN st)[i]? = some (I ((st.getD i none).getD 0 : Nat)) := by simp [cellsN, h]
theorem cellsB_at (st : St) (i : Nat) (h : i < st.length) : (cellsB st)[i]? = some (.bool (st.getD i none).isSome) := by simp [cellsB, h]
theorem made3 (m : Nat) : (madeCells (Value.int .i64 0).cells (m * 1)).toList = cellsN (List.replicate m none) := by
  rw [show (Value.int .i64 0).cells = #[I 0] from rfl, Nat.mul_one]
  unfold madeCells
  apply List.ext_getElem
  · simp [cellsN]
  · intro i h1 h2
    simp [Nat.mod_one, cellsN]
theorem made4 (m : Nat) : (madeCells (Value.bool false).cells (m * 1)).toList = cellsB (List.replicate m none) := by
  rw [show (Value.bool false).cells = #[.bool false] from rfl, Nat.mul_one]
  unfold madeCells
  apply List.ext_getElem
  · simp [cellsB]
  · intro i h1 h2
    simp [Nat.mod_one, cellsB]
/-- Between two keeps. -/
structure Sts2 (w : World) (g1 g2 n : Nat) (st : St) (W : World) : Prop where
  r1 : W.ownsRow 0 3 1 (.slice (some ⟨g1, 0, none⟩) n n) n (cellsN st)
  r2 : W.ownsRow 0 4 1 (.slice (some ⟨g2, 0, none⟩) n n) n (cellsB st)
  len : st.length = n
  h1 : w.heap.size ≤ g1
  h2 : w.heap.size ≤ g2
  bel : Below w.heap.size w W
theorem Sts2.ne {w W : World} {g1 g2 n : Nat} {st : St} (h : Sts2 w g1 g2 n st W) : g1 ≠ g2 := by
  intro e
  obtain ⟨c1, q1⟩ := owns_lt h.r1 g1 rfl
  obtain ⟨c2, q2⟩ := owns_lt h.r2 g2 rfl
  rw [e, q2] at q1
  cases q1
theorem Sts2.below {w W W' : World} {g1 g2 n : Nat} {st : St} (h : Sts2 w g1 g2 n st W) (b : Below W.heap.size W W') : Sts2 w g1 g2 n st W' :=
  ⟨owns_below h.r1 b, owns_below h.r2 b, h.len, h.h1, h.h2, h.bel.trans (b.mono h.bel.size)⟩
theorem Sts2.set {w W : World} {g1 g2 n : Nat} {st : St} (h : Sts2 w g1 g2 n st W) (i m : Nat) : Sts2 w g1 g2 n (st.set i (some m)) ((W.setCell ⟨g1, i, none⟩ (I m)).setCell ⟨g2, i, none⟩ (.bool true)) := by
  have o1 := owns_set h.r1 i (I m)
  have o2 := owns_only h.r2 (Only.setCell W ⟨g1, i, none⟩ (I m)) (fun k hk q => by cases hk; exact h.ne q.symm)
  have o3 := owns_set o2 i (.bool true)
  have o4 := owns_only o1 (Only.setCell (W.setCell ⟨g1, i, none⟩ (I m)) ⟨g2, i, none⟩ (.bool true)) (fun k hk q => by cases hk; exact h.ne q)
  rw [cellsN_set] at o4
  rw [cellsB_set st i m] at o3
  exact ⟨o4, o3, by simp [h.len], h.h1, h.h2, (h.bel.setCell (p := ⟨g1, i, none⟩) h.h1 _).setCell (p := ⟨g2, i, none⟩) h.h2 _⟩
end Go.Proofs.Ytpelmacblglhoaa
