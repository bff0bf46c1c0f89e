import Derived.Test.YtpelmacblglhoaaDsa
namespace Go.Proofs.Ytpelmacblglhoaa
open Go.RowKit
abbrev Wr := Nat × Bs
/-- What a disk has. -/
structure Ds where
  ws : List Wr
  last : List Bs
  fuse : Int
  dead : Bool
  acts : Int
def cellsW (l : List Wr) : List Value := l.flatMap fun x => [I x.1, S x.2]
theorem cellsW_len (l : List Wr) : (cellsW l).length = l.length * 2 := by
  unfold cellsW
  induction l with
  | nil => rfl
  | cons f l ih => simp at ih ⊢; omega
theorem cellsW_append (a b : List Wr) : cellsW (a ++ b) = cellsW a ++ cellsW b := by simp [cellsW]
theorem cellsW_at (l : List Wr) (j : Nat) (hj : j < l.length) : (cellsW l)[j * 2]? = some (I (l.getD j (0, [])).1) ∧ (cellsW l)[j * 2 + 1]? = some (S (l.getD j (0, [])).2) := by
  induction l generalizing j with
  | nil => simp at hj
  | cons f l ih =>
    have e : cellsW (f :: l) = I f.1 :: S f.2 :: cellsW l := rfl
    rw [e]
    cases j with
    | zero => exact ⟨rfl, rfl⟩
    | succ j =>
      have := ih j (by simpa using hj)
      rw [show (j + 1) * 2 = j * 2 + 1 + 1 by omega]
      simpa using this
def dcs (d : Ds) (vw vl : Value) : Array Value := #[vw, vl, I d.fuse, .bool d.dead, I d.acts]
/-- A disk in memory. -/
structure DAt (D : Nat) (d : Ds) (vw vl : Value) (w : World) : Prop where
  blk : w.heap[D]? = some (.cells (dcs d vw vl) 87 (0, 0))
  ws : w.ownsRow 0 69 2 vw d.ws.length (cellsW d.ws)
  ls : w.ownsRow 0 9 1 vl d.last.length (d.last.map S)
theorem DAt.lt {D : Nat} {d : Ds} {vw vl : Value} {w : World} (h : DAt D d vw vl w) : D < w.heap.size := lt_of_row h.blk
theorem DAt.c {D : Nat} {d : Ds} {vw vl : Value} {w : World} (h : DAt D d vw vl w) : w.cell? ⟨D, 0, none⟩ = some vw ∧ w.cell? ⟨D, 1, none⟩ = some vl ∧ w.cell? ⟨D, 2, none⟩ = some (I d.fuse) ∧ w.cell? ⟨D, 3, none⟩ = some (.bool d.dead) ∧ w.cell? ⟨D, 4, none⟩ = some (I d.acts) := by
  have := fun j => cell_of_row w D j _ 87 (0, 0) h.blk
  refine ⟨?_, ?_, ?_, ?_, ?_⟩ <;> (rw [this]; rfl)
theorem DAt.nw {D : Nat} {d : Ds} {vw vl : Value} {w : World} (h : DAt D d vw vl w) : ∀ k, vw.ownBlock = some k → k ≠ D := by
  intro k hk e
  obtain ⟨cs, q⟩ := owns_lt h.ws k hk
  subst e
  rw [h.blk] at q
  cases q
theorem DAt.nl {D : Nat} {d : Ds} {vw vl : Value} {w : World} (h : DAt D d vw vl w) : ∀ k, vl.ownBlock = some k → k ≠ D := by
  intro k hk e
  obtain ⟨cs, q⟩ := owns_lt h.ls k hk
  subst e
  rw [h.blk] at q
  cases q
theorem DAt.wl {D : Nat} {d : Ds} {vw vl : Value} {w : World} (h : DAt D d vw vl w) : ∀ k, vw.ownBlock = some k → vl.ownBlock ≠ some k := by
  intro k hk e
  obtain ⟨cs, q⟩ := owns_lt h.ws k hk
  obtain ⟨cs2, q2⟩ := owns_lt h.ls k e
  rw [q2] at q
  cases q
/-- The blocks that are a disk's. -/
def Of (D : Nat) (vw vl : Value) (k : Nat) : Prop := k = D ∨ vw.ownBlock = some k ∨ vl.ownBlock = some k
theorem DAt.only {P : Nat → Prop} {D : Nat} {d : Ds} {vw vl : Value} {w w' : World} (h : DAt D d vw vl w) (ho : Only P w w') (hp : ∀ k, Of D vw vl k → ¬ P k) : DAt D d vw vl w' :=
  ⟨(ho.block D h.lt (hp D (.inl rfl))).trans h.blk, owns_only h.ws ho (fun k hk => hp k (.inr (.inl hk))), owns_only h.ls ho (fun k hk => hp k (.inr (.inr hk)))⟩
theorem DAt.below {D : Nat} {d : Ds} {vw vl : Value} {w w' : World} (h : DAt D d vw vl w) (hb : Below w.heap.size w w') : DAt D d vw vl w' :=
  ⟨(hb.block D h.lt).trans h.blk, owns_below h.ws hb, owns_below h.ls hb⟩
theorem DAt.old {D : Nat} {d : Ds} {vw vl : Value} {w : World} (h : DAt D d vw vl w) : ∀ k, Of D vw vl k → k < w.heap.size := by
  rintro k (rfl | hk | hk)
  · exact h.lt
  · exact owns_blk h.ws k hk
  · exact owns_blk h.ls k hk
/-- A cell of its own block. -/
theorem DAt.set {D : Nat} {d d' : Ds} {vw vl vw' vl' : Value} {w : World} (h : DAt D d vw vl w) (j : Nat) (u : Value) (hc : (dcs d vw vl).setIfInBounds j u = dcs d' vw' vl') (hw : w.ownsRow 0 69 2 vw' d'.ws.length (cellsW d'.ws)) (hl : w.ownsRow 0 9 1 vl' d'.last.length (d'.last.map S)) : DAt D d' vw' vl' (w.setCell ⟨D, j, none⟩ u) := by
  have o := Only.setCell w ⟨D, j, none⟩ u
  have nb : ∀ {e n m : Nat} {v : Value} {xs : List Value}, w.ownsRow 0 e n v m xs → e ≠ 87 → ∀ k, v.ownBlock = some k → ¬ k = D := by
    intro e n m v xs hv he k hk q
    obtain ⟨cs, q2⟩ := owns_lt hv k hk
    rw [q, h.blk] at q2
    cases q2
    exact he rfl
  refine ⟨?_, owns_only hw o (nb hw (by decide)), owns_only hl o (nb hl (by decide))⟩
  rw [heap_setCell_same w D j _ 87 u h.blk, hc]
set_option maxHeartbeats 4000000
set_option maxRecDepth 8000
def mayv (n : Int) : Bool := decide (8 ≤ n) && decide (n ≤ 4096)
theorem mayHave_any (n : Int) (w : World) : Calls Try.prog 43 #[I n] w fun e w' => e = .returned (.bool (mayv n)) ∧ w' = w := by
  unfold mayv
  by_cases h1 : 8 ≤ n
  · by_cases h2 : n ≤ 4096
    · go_enter Try.func43, Try.ntmps43
      go_wp2
      go_ret
      exact ⟨ret_bool (by simp <;> omega), rfl⟩
    · go_enter Try.func43, Try.ntmps43
      go_wp2
      go_ret
      exact ⟨ret_bool (by simp <;> omega), rfl⟩
  · go_enter Try.func43, Try.ntmps43
    go_wp2
    go_ret
    exact ⟨ret_bool (by simp <;> omega), rfl⟩
theorem wrongSize_any (s : Bs) (w : World) : Calls Try.prog 47 #[S s] w fun e w' => e = .returned (.bool (decide (s.length ≠ 512))) ∧ w' = w := by
  by_cases h : s.length = 512
  · have h1 : ((s.length : Nat) : Int) = 512 := by omega
    go_enter Try.func47, Try.ntmps47
    go_wp2
    go_ret
    exact ⟨ret_bool (by simp <;> first | exact h1 | omega), rfl⟩
  · have h1 : ((s.length : Nat) : Int) ≠ 512 := by omega
    go_enter Try.func47, Try.ntmps47
    go_wp2
    go_ret
    exact ⟨ret_bool (by simp [h] <;> exact h1), rfl⟩
theorem dead_any {D : Nat} {d : Ds} {vw vl : Value} {w : World} (h : DAt D d vw vl w) : Calls Try.prog 16 #[ptr D] w fun e w' => e = .returned (.bool d.dead) ∧ w' = w := by
  obtain ⟨c0, c1, c2, c3, c4⟩ := h.c
  have hl := h.lt
  clear h
  generalize d.dead = x at *
  go_enter Try.func16, Try.ntmps16
  go_wp2
  go_ret
  exact ⟨rfl, rfl⟩
theorem acts_any {D : Nat} {d : Ds} {vw vl : Value} {w : World} (h : DAt D d vw vl w) : Calls Try.prog 17 #[ptr D] w fun e w' => e = .returned (I d.acts) ∧ w' = w := by
  obtain ⟨c0, c1, c2, c3, c4⟩ := h.c
  have hl := h.lt
  clear h
  generalize d.acts = x at *
  go_enter Try.func17, Try.ntmps17
  go_wp2
  go_ret
  exact ⟨rfl, rfl⟩
theorem size_any {D : Nat} {d : Ds} {vw vl : Value} {w : World} (h : DAt D d vw vl w) : Calls Try.prog 23 #[ptr D] w fun e w' => e = .returned (I d.last.length) ∧ w' = w := by
  obtain ⟨c0, c1, c2, c3, c4⟩ := h.c
  have hl := h.lt
  obtain ⟨p, cap, rfl⟩ := owns_form h.ls
  clear h
  generalize d.last.length = x at *
  go_enter Try.func23, Try.ntmps23
  go_wp2
  go_ret
  exact ⟨rfl, rfl⟩
def reachv (d : Ds) (b : Int) : Int := if d.dead then 2 else if b < 0 then 80 else if (d.last.length : Int) ≤ b then 80 else 0
theorem reach_any {D : Nat} {d : Ds} {vw vl : Value} {w : World} (h : DAt D d vw vl w) (b : Int) : Calls Try.prog 50 #[ptr D, I b] w fun e w' => e = .returned (I (reachv d b)) ∧ w' = w := by
  obtain ⟨c0, c1, c2, c3, c4⟩ := h.c
  have hl := h.lt
  obtain ⟨p, cap, rfl⟩ := owns_form h.ls
  clear h
  unfold reachv
  generalize d.last.length = x at *
  generalize d.dead = de at *
  cases de
  · by_cases h1 : b < 0
    · go_enter Try.func50, Try.ntmps50
      go_wp2
      go_ret
      exact ⟨ret_int (by (repeat' split) <;> first | rfl | omega | contradiction), rfl⟩
    · by_cases h2 : (x : Int) ≤ b
      · go_enter Try.func50, Try.ntmps50
        go_wp2
        go_ret
        exact ⟨ret_int (by (repeat' split) <;> first | rfl | omega | contradiction), rfl⟩
      · go_enter Try.func50, Try.ntmps50
        go_wp2
        go_ret
        exact ⟨ret_int (by (repeat' split) <;> first | rfl | omega | contradiction), rfl⟩
  · go_enter Try.func50, Try.ntmps50
    go_wp2
    go_ret
    exact ⟨rfl, rfl⟩
def armv (d : Ds) (n : Int) : Int := if n < 0 then 1 else if d.dead then 2 else 0
def Ds.arm (d : Ds) (n : Int) : Ds := if n < 0 then d else if d.dead then d else { d with fuse := n }
theorem arm_any {D : Nat} {d : Ds} {vw vl : Value} {w : World} (h : DAt D d vw vl w) (n : Int) : Calls Try.prog 24 #[ptr D, I n] w fun e w' => e = .returned (I (armv d n)) ∧ DAt D (d.arm n) vw vl w' ∧ Only (fun k => k = D) w w' := by
  obtain ⟨c0, c1, c2, c3, c4⟩ := h.c
  have hl := h.lt
  have hz := frz h.blk 2
  have H := hide h
  have HS := hide (h.set (d' := { d with fuse := n }) (vw' := vw) (vl' := vl) 2 (I n) rfl h.ws h.ls)
  clear h
  unfold armv Ds.arm
  by_cases h1 : n < 0
  · rw [if_pos h1, if_pos h1]
    go_enter Try.func24, Try.ntmps24
    go_wp2
    go_ret
    exact ⟨rfl, unhide H, Only.refl _ _⟩
  · rw [if_neg h1, if_neg h1]
    cases hd : d.dead with
    | true =>
      rw [hd] at c3
      go_enter Try.func24, Try.ntmps24
      go_wp2
      go_ret
      exact ⟨rfl, unhide H, Only.refl _ _⟩
    | false =>
      rw [hd] at c3 HS
      go_enter Try.func24, Try.ntmps24
      go_wp2
      go_ret
      exact ⟨rfl, unhide HS, Only.setCell w ⟨D, _, none⟩ _⟩
/-- An act: does the disk die in it? -/
def actv (d : Ds) : Int := if d.fuse = 1 then 2 else 0
def Ds.act (d : Ds) : Ds := if d.fuse = 1 then { d with dead := true } else { d with fuse := max (d.fuse - 1) 0, acts := d.acts + 1 }
theorem act_any {D : Nat} {d : Ds} {vw vl : Value} {w : World} (h : DAt D d vw vl w) (hf : 0 ≤ d.fuse ∧ d.fuse ≤ 9223372036854775807) (ha : 0 ≤ d.acts ∧ d.acts ≤ 1000000000000000000) : Calls Try.prog 48 #[ptr D] w fun e w' => e = .returned (I (actv d)) ∧ DAt D d.act vw vl w' ∧ Only (fun k => k = D) w w' := by
  obtain ⟨c0, c1, c2, c3, c4⟩ := h.c
  have hl := h.lt
  have hz2 := frz h.blk 2
  have hz3 := frz h.blk 3
  have HS := hide (h.set (d' := { d with dead := true }) (vw' := vw) (vl' := vl) 3 (.bool true) rfl h.ws h.ls)
  have h5 := h.set (d' := { d with fuse := max (d.fuse - 1) 0 }) (vw' := vw) (vl' := vl) 2 (I (max (d.fuse - 1) 0)) rfl h.ws h.ls
  have HS2 := hide (h5.set (d' := { d with fuse := max (d.fuse - 1) 0, acts := d.acts + 1 }) (vw' := vw) (vl' := vl) 4 (I (d.acts + 1)) rfl h5.ws h5.ls)
  have c4' := h5.c.2.2.2.2
  have hz4 := frz h5.blk 4
  have hl5 := h5.lt
  have O2 := hide ((Only.setCell w ⟨D, 2, none⟩ (I (max (d.fuse - 1) 0))).put ⟨D, 4, none⟩ (I (d.acts + 1)) (.inl rfl))
  clear h h5
  unfold actv Ds.act
  simp only at c4'
  obtain ⟨f1, f2⟩ := hf
  obtain ⟨a1, a2⟩ := ha
  by_cases h1 : d.fuse = 1
  · rw [if_pos h1, if_pos h1]
    rw [h1] at c2
    clear HS2 O2 c4' hz4 hl5
    go_enter Try.func48, Try.ntmps48
    go_wp2
    go_ret
    exact ⟨rfl, unhide HS, Only.setCell w ⟨D, _, none⟩ _⟩
  · rw [if_neg h1, if_neg h1]
    clear HS
    by_cases h2 : d.fuse = 0
    · have e : max (d.fuse - 1) 0 = 0 := by omega
      rw [e] at c4' hz4 hl5
      rw [e] at HS2 O2 ⊢
      rw [h2] at c2
      go_enter Try.func48, Try.ntmps48
      go_wp2
      go_ret
      exact ⟨rfl, unhide HS2, unhide O2⟩
    · have e : max (d.fuse - 1) 0 = d.fuse - 1 := by omega
      rw [e] at c4' hz4 hl5
      rw [e] at HS2 O2 ⊢
      generalize d.fuse = F at *
      go_enter Try.func48, Try.ntmps48
      go_wp2
      go_ret
      exact ⟨rfl, unhide HS2, unhide O2⟩
theorem empty_any {D : Nat} {d : Ds} {vw vl : Value} {w : World} (h : DAt D d vw vl w) : Calls Try.prog 49 #[ptr D] w fun e w' => e = .returned vw ∧ DAt D { d with ws := [] } (.slice none 0 0) vl w' ∧ Only (fun k => k = D) w w' := by
  obtain ⟨c0, c1, c2, c3, c4⟩ := h.c
  have hl := h.lt
  have hz := frz h.blk 0
  have HS := hide (h.set (d' := { d with ws := [] }) (vw' := .slice none 0 0) (vl' := vl) 0 (.slice none 0 0) rfl (owns_nil _ _ _) h.ls)
  obtain ⟨p, cap, rfl⟩ := owns_form h.ws
  clear h
  generalize d.ws.length = n at *
  go_enter Try.func49, Try.ntmps49
  go_wp2
  go_ret
  exact ⟨rfl, unhide HS, Only.setCell w ⟨D, _, none⟩ _⟩
end Go.Proofs.Ytpelmacblglhoaa
