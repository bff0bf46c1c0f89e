import Derived.Test.YtpelmacblglhoaaZzai
namespace Go.Proofs.Ytpelmacblglhoaa
open Go.RowKit
set_option maxHeartbeats 4000000
set_option maxRecDepth 8000
def isS (n : Int) : Bool := decide (0 ≤ n) && decide (n < 256)
theorem isSet_any (n : Int) (w : World) : Calls Try.prog 69 #[I n] w fun e w' => e = .returned (.bool (isS n)) ∧ w' = w := by
  unfold isS
  by_cases h1 : 0 ≤ n
  · by_cases h2 : n < 256
    · go_enter Try.func69, Try.ntmps69
      go_wp2
      go_ret
      exact ⟨ret_bool (by simp <;> omega), rfl⟩
    · go_enter Try.func69, Try.ntmps69
      go_wp2
      go_ret
      exact ⟨ret_bool (by simp <;> omega), rfl⟩
  · go_enter Try.func69, Try.ntmps69
    go_wp2
    go_ret
    exact ⟨ret_bool (by simp <;> omega), rfl⟩
abbrev Kp := Int × Int
/-- Keeps in memory. -/
def Kls (w : World) (a : Option Addr) (n : Nat) (l : List Kp) : Prop :=
  n = l.length ∧ (0 < n → ∃ p o, a = some ⟨p, o, none⟩ ∧ ∀ j, j < n → w.cell? ⟨p, o + j * 2, none⟩ = some (I (l.getD j (0, 0)).1) ∧ w.cell? ⟨p, o + j * 2 + 1, none⟩ = some (I (l.getD j (0, 0)).2))
theorem Kls.at {w : World} {a : Option Addr} {n : Nat} {l : List Kp} (h : Kls w a n l) {j : Nat} (hj : j < n) : ∃ p o, a = some ⟨p, o, none⟩ ∧ p < w.heap.size ∧ w.cell? ⟨p, o + j * 2, none⟩ = some (I (l.getD j (0, 0)).1) ∧ w.cell? ⟨p, o + j * 2 + 1, none⟩ = some (I (l.getD j (0, 0)).2) := by
  obtain ⟨p, o, e, hc⟩ := h.2 (by omega)
  exact ⟨p, o, e, blk_lt (hc j hj).1, (hc j hj).1, (hc j hj).2⟩
theorem Kls.below {w w' : World} {a : Option Addr} {n : Nat} {l : List Kp} (h : Kls w a n l) (hb : Below w.heap.size w w') : Kls w' a n l := by
  refine ⟨h.1, fun hn => ?_⟩
  obtain ⟨p, o, e, hc⟩ := h.2 hn
  exact ⟨p, o, e, fun j hj => ⟨(hb.cell (by exact blk_lt (hc j hj).1)).trans (hc j hj).1, (hb.cell (by exact blk_lt (hc j hj).2)).trans (hc j hj).2⟩⟩
/-- Which sectors are to stay of each pending write: none that was not named. -/
abbrev St := List (Option Nat)
def stp (st : St) (k : Kp) : Option St := if k.1 < 0 then none else if (st.length : Int) ≤ k.1 then none else if (st.getD k.1.toNat none).isSome then none else if isS k.2 = false then none else some (st.set k.1.toNat (some k.2.toNat))
def stps (st : St) : List Kp → Option St
  | [] => some st
  | k :: l => match stp st k with | none => none | some s => stps s l
theorem stps_append (st : St) (a b : List Kp) : stps st (a ++ b) = match stps st a with | none => none | some s => stps s b := by
  induction a generalizing st with
  | nil => rfl
  | cons k a ih =>
    simp only [List.cons_append, stps]
    cases stp st k with
    | none => rfl
    | some s => exact ih s
theorem stps_next (st : St) (l : List Kp) (k : Nat) (hk : k < l.length) : stps st (l.take (k + 1)) = match stps st (l.take k) with | none => none | some s => stp s (l.getD k (0, 0)) := by
  have e : l.getD k (0, 0) = l[k] := by simp [hk]
  rw [List.take_succ_eq_append_getElem hk, stps_append, e]
  cases stps st (l.take k) with
  | none => rfl
  | some s =>
    simp only [stps]
    cases stp s l[k] <;> rfl
theorem stps_bad (st : St) (l : List Kp) (k : Nat) (h : stps st (l.take k) = none) : stps st l = none := by
  have := stps_append st (l.take k) (l.drop k)
  rw [List.take_append_drop, h] at this
  exact this
theorem stp_len {st s : St} {k : Kp} (h : stp st k = some s) : s.length = st.length := by
  unfold stp at h
  repeat' split at h
  all_goals first | cases h | skip
  all_goals simp
def cellsN (st : St) : List Value := st.map fun o => I (o.getD 0 : Nat)
def cellsB (st : St) : List Value := st.map fun o => .bool o.isSome
theorem cellsN_set (st : St) (i m : Nat) : (cellsN st).set i (I m) = cellsN (st.set i (some m)) := by simp [cellsN, List.map_set]
theorem cellsB_set (st : St) (i m : Nat) : (cellsB st).set i (.bool true) = cellsB (st.set i (some m)) := by simp [cellsB, List.map_set]
theorem cellsN_at (st : St) (i : Nat) (h : i < st.length) : (cellsN st)[i]? = some (I ((st.getD i none).getD 0 : Nat)) := by simp [cellsN, h]
theorem cellsB_at (st : St) (i : Nat) (h : i < st.length) : (cellsB st)[i]? = some (.bool (st.getD i none).isSome) := by simp [cellsB, h]
theorem made3 (m : Nat) : (madeCells (Value.int .i64 0).cells (m * 1)).toList = cellsN (List.replicate m none) := by
  rw [show (Value.int .i64 0).cells = #[I 0] from rfl, Nat.mul_one]
  unfold madeCells
  apply List.ext_getElem
  · simp [cellsN]
  · intro i h1 h2
    simp [Nat.mod_one, cellsN]
theorem made4 (m : Nat) : (madeCells (Value.bool false).cells (m * 1)).toList = cellsB (List.replicate m none) := by
  rw [show (Value.bool false).cells = #[.bool false] from rfl, Nat.mul_one]
  unfold madeCells
  apply List.ext_getElem
  · simp [cellsB]
  · intro i h1 h2
    simp [Nat.mod_one, cellsB]
/-- Between two keeps. -/
structure Sts2 (w : World) (g1 g2 n : Nat) (st : St) (W : World) : Prop where
  r1 : W.ownsRow 0 3 1 (.slice (some ⟨g1, 0, none⟩) n n) n (cellsN st)
  r2 : W.ownsRow 0 4 1 (.slice (some ⟨g2, 0, none⟩) n n) n (cellsB st)
  len : st.length = n
  h1 : w.heap.size ≤ g1
  h2 : w.heap.size ≤ g2
  bel : Below w.heap.size w W
theorem Sts2.ne {w W : World} {g1 g2 n : Nat} {st : St} (h : Sts2 w g1 g2 n st W) : g1 ≠ g2 := by
  intro e
  obtain ⟨c1, q1⟩ := owns_lt h.r1 g1 rfl
  obtain ⟨c2, q2⟩ := owns_lt h.r2 g2 rfl
  rw [e, q2] at q1
  cases q1
theorem Sts2.below {w W W' : World} {g1 g2 n : Nat} {st : St} (h : Sts2 w g1 g2 n st W) (b : Below W.heap.size W W') : Sts2 w g1 g2 n st W' :=
  ⟨owns_below h.r1 b, owns_below h.r2 b, h.len, h.h1, h.h2, h.bel.trans (b.mono h.bel.size)⟩
theorem Sts2.set {w W : World} {g1 g2 n : Nat} {st : St} (h : Sts2 w g1 g2 n st W) (i m : Nat) : Sts2 w g1 g2 n (st.set i (some m)) ((W.setCell ⟨g1, i, none⟩ (I m)).setCell ⟨g2, i, none⟩ (.bool true)) := by
  have o1 := owns_set h.r1 i (I m)
  have o2 := owns_only h.r2 (Only.setCell W ⟨g1, i, none⟩ (I m)) (fun k hk q => by cases hk; exact h.ne q.symm)
  have o3 := owns_set o2 i (.bool true)
  have o4 := owns_only o1 (Only.setCell (W.setCell ⟨g1, i, none⟩ (I m)) ⟨g2, i, none⟩ (.bool true)) (fun k hk q => by cases hk; exact h.ne q)
  rw [cellsN_set] at o4
  rw [cellsB_set st i m] at o3
  exact ⟨o4, o3, by simp [h.len], h.h1, h.h2, (h.bel.setCell (p := ⟨g1, i, none⟩) h.h1 _).setCell (p := ⟨g2, i, none⟩) h.h2 _⟩
end Go.Proofs.Ytpelmacblglhoaa
namespace Go.Proofs.Ytpelmacblglhoaa
open Go.RowKit
set_option maxHeartbeats 4000000
set_option maxRecDepth 8000
theorem Sts2.more {w W : World} {g1 g2 n : Nat} {st : St} (h : Sts2 w g1 g2 n st W) (o : Obj) : Sts2 w g1 g2 n st (W.alloc o).drew :=
  h.below (((Below.refl _ _).alloc (Nat.le_refl _) o).trans ⟨rfl, rfl, rfl, Nat.le_refl _, fun _ _ => rfl⟩)
theorem Sts2.set2 {w W : World} {g1 g2 n : Nat} {st : St} (h : Sts2 w g1 g2 n st W) (i m : Nat) : Sts2 w g1 g2 n (st.set i (some m)) ((W.setCell ⟨g2, i, none⟩ (.bool true)).setCell ⟨g1, i, none⟩ (I m)) := by
  have o1 := owns_set h.r2 i (.bool true)
  have o2 := owns_only h.r1 (Only.setCell W ⟨g2, i, none⟩ (.bool true)) (fun k hk q => by cases hk; exact h.ne q)
  have o3 := owns_set o2 i (I m)
  have o4 := owns_only o1 (Only.setCell (W.setCell ⟨g2, i, none⟩ (.bool true)) ⟨g1, i, none⟩ (I m)) (fun k hk q => by cases hk; exact h.ne q.symm)
  rw [cellsB_set st i m] at o4
  rw [cellsN_set] at o3
  exact ⟨o3, o4, by simp [h.len], h.h1, h.h2, (h.bel.setCell (p := ⟨g2, i, none⟩) h.h2 _).setCell (p := ⟨g1, i, none⟩) h.h1 _⟩
theorem sets_any {D : Nat} {d : Ds} {vw vl : Value} {w : World} (h : DAt D d vw vl w) (ho : Ok d) (a : Option Addr) (n cap : Nat) (l : List Kp) (hp : Kls w a n l) (hn : n ≤ 1000000000000000) :
    Calls Try.prog 52 #[ptr D, .slice a n cap] w fun e w' => (stps (List.replicate d.ws.length none) l = none ∧ e = .returned (.tuple #[.slice none 0 0, .bool false]) ∧ Below w.heap.size w w') ∨
      ∃ st g1, stps (List.replicate d.ws.length none) l = some st ∧ e = .returned (.tuple #[.slice (some ⟨g1, 0, none⟩) d.ws.length d.ws.length, .bool true]) ∧ w'.ownsRow 0 3 1 (.slice (some ⟨g1, 0, none⟩) d.ws.length d.ws.length) d.ws.length (cellsN st) ∧ st.length = d.ws.length ∧ w.heap.size ≤ g1 ∧ Below w.heap.size w w' := by
  have hN := hp.1
  subst hN
  obtain ⟨c0, c1, c2, c3, c4⟩ := h.c
  have hl := h.lt
  have hm := ho.few
  have HD := hide h
  have HP := hide hp
  obtain ⟨p0, cap0, rfl⟩ := owns_form h.ws
  clear h hp ho
  generalize hnn : d.ws.length = m at *
  clear hnn
  go_enter Try.func52, Try.ntmps52
  go_wp2_with (first
    | (refine make_own 60 3 _ 1 8 Try.underlying60 info3 rfl (.tmp 14) (.tmp 14) rfl _ _ m rfl rfl rfl rfl (by omega) (by omega) ?_; intro w1 ho1 b1 l1; rw [made3] at ho1; have HO1 := hide ho1; have HB1 := hide b1; have cc := (b1.cell (p := ⟨D, 0, none⟩) (by exact hl)).trans c0; have hl1 : D < w1.heap.size := Nat.lt_of_lt_of_le hl b1.size; clear ho1 b1)
    | (refine make_own 45 4 _ 1 1 Try.underlying45 info4 rfl (.tmp 20) (.tmp 20) rfl _ _ m rfl rfl rfl rfl (by omega) (by omega) ?_; intro w2 ho2 b2 l2; rw [made4] at ho2; have HS := hide (show Sts2 w w.heap.size w1.heap.size m (List.replicate m none) w2 from ⟨owns_below (unhide HO1) b2, ho2, by simp, Nat.le_refl _, (unhide HB1).size, (unhide HB1).trans (b2.mono (unhide HB1).size)⟩); have h1s := (unhide HB1).size; clear ho2 b2 HO1 HB1)
    | fail)
  go_loopw [24] (fun i wr => ∃ (k : Nat) (st : St), k ≤ l.length ∧ i = .int .i64 k ∧ stps (List.replicate m none) (l.take k) = some st ∧ Sts2 w w.heap.size w1.heap.size m st wr) (fun i _ => l.length - (Go.RowKit.intOf i).toNat)
  case atStart => exact ⟨0, _, by omega, rfl, rfl, unhide HS⟩
  case round =>
    obtain ⟨k, st, hk, rfl, hst, hs⟩ := hrel
    have HK := hide hs
    by_cases hlt : k < l.length
    · obtain ⟨g, o, rfl, hpl, q0, q1⟩ := ((unhide HP).below hs.bel).at hlt
      have hlt' : (k : Int) < (l.length : Int) := by omega
      have hnx := stps_next (List.replicate m none) l k hlt
      rw [hst] at hnx
      simp only at hnx
      have hbd := fun e => stps_bad (List.replicate m none) l (k + 1) e
      generalize l.getD k (0, 0) = x at *
      obtain ⟨x1, x2⟩ := x
      simp only at q0 q1
      have hz := heap_alloc_new wr (.cells #[I x1, I x2] 71)
      have z0 : (wr.alloc (.cells #[I x1, I x2] 71)).cell? ⟨wr.heap.size, 0, none⟩ = some (I x1) := cell_of_row _ _ 0 _ 71 (0, 0) hz
      have z1 : (wr.alloc (.cells #[I x1, I x2] 71)).cell? ⟨wr.heap.size, 1, none⟩ = some (I x2) := cell_of_row _ _ 1 _ 71 (0, 0) hz
      have ba := (Below.refl wr.heap.size wr).alloc (Nat.le_refl _) (.cells #[I x1, I x2] 71)
      have HA := hide (hs.below ba)
      have HBd := hide hbd
      have HNx := hide hnx
      have HBl := hide (hs.bel.trans (ba.mono hs.bel.size))
      have HI := hide (fun W => isSet_any x2 W)
      have hlen := hs.len
      clear hbd hnx ba hz hs hst
      unfold stp at HNx
      simp only at HNx
      by_cases t1 : x1 < 0
      · rw [if_pos t1] at HNx
        have HZ := hide (unhide HBd (unhide HNx))
        go_wp2
        go_ret2
        exact .inl ⟨unhide HZ, rfl, unhide HBl⟩
      · rw [if_neg t1, hlen] at HNx
        by_cases t2 : (m : Int) ≤ x1
        · rw [if_pos t2] at HNx
          have HZ := hide (unhide HBd (unhide HNx))
          go_wp2
          go_ret2
          exact .inl ⟨unhide HZ, rfl, unhide HBl⟩
        · rw [if_neg t2] at HNx
          obtain ⟨i, rfl⟩ : ∃ i : Nat, x1 = (i : Int) := ⟨x1.toNat, by omega⟩
          simp only [Int.toNat_natCast] at HNx
          have t3 : i < m := by omega
          have v0 := owns_cell (unhide HA).r2 i _ (cellsB_at st i (by omega))
          by_cases t4 : (st.getD i none).isSome = true
          · rw [if_pos t4] at HNx
            rw [t4] at v0
            have HZ := hide (unhide HBd (unhide HNx))
            go_wp2
            go_ret2
            exact .inl ⟨unhide HZ, rfl, unhide HBl⟩
          · rw [if_neg t4] at HNx
            have t4' : (st.getD i none).isSome = false := by simpa using t4
            rw [t4'] at v0
            cases t5 : isS x2 with
            | false =>
              rw [if_pos t5] at HNx
              rw [t5] at HI
              have HZ := hide (unhide HBd (unhide HNx))
              go_wp2_with fail
              refine (unhide HI _).mono ?_
              rintro e w3 ⟨rfl, rfl⟩
              go_wp2
              go_ret2
              exact .inl ⟨unhide HZ, rfl, unhide HBl⟩
            | true =>
              rw [t5] at HNx HI
              simp only [Bool.true_eq_false, if_false] at HNx
              obtain ⟨t6, t7⟩ : 0 ≤ x2 ∧ x2 < 256 := by simpa [isS] using t5
              obtain ⟨mm, rfl⟩ : ∃ mm : Nat, x2 = (mm : Int) := ⟨x2.toNat, by omega⟩
              simp only [Int.toNat_natCast] at HNx
              have hne := (unhide HA).ne
              have v1 := owns_cell (unhide HA).r1 i _ (cellsN_at st i (by omega))
              obtain ⟨cs1, f1⟩ := owns_lt (unhide HA).r1 _ rfl
              obtain ⟨cs2, f2⟩ := owns_lt (unhide HA).r2 _ rfl
              have f1' := frz f1 i
              have f2' := frz f2 i
              have e1 := lt_of_row f1
              have e2 := lt_of_row f2
              have u0 := owns_cell (unhide HK).r2 i _ (cellsB_at st i (by omega))
              rw [t4'] at u0
              have u1 := owns_cell (unhide HK).r1 i _ (cellsN_at st i (by omega))
              obtain ⟨cs3, f3⟩ := owns_lt (unhide HK).r1 _ rfl
              obtain ⟨cs4, f4⟩ := owns_lt (unhide HK).r2 _ rfl
              have f3' := frz f3 i
              have f4' := frz f4 i
              clear f3 f4
              have HT := hide ((unhide HA).set i mm)
              have n1 : w.heap.size < wr.heap.size := owns_blk (unhide HK).r1 _ rfl
              have n2 : w1.heap.size < wr.heap.size := owns_blk (unhide HK).r2 _ rfl
              have n3 : w.heap.size ≠ wr.heap.size := by omega
              have n4 : w1.heap.size ≠ wr.heap.size := by omega
              have n5 : wr.heap.size ≠ w.heap.size := by omega
              have n6 : wr.heap.size ≠ w1.heap.size := by omega
              have n7 : w1.heap.size ≠ w.heap.size := fun q => hne q.symm
              clear f1 f2
              go_wp2_with fail
              refine (unhide HI _).mono ?_
              rintro e w3 ⟨rfl, rfl⟩
              go_wp2
              go_region
              all_goals go_wp2
              all_goals go_round
              all_goals first
                | (simp [Go.RowKit.intOf]; omega)
                | exact ⟨k + 1, _, by omega, by simp, unhide HNx, ((unhide HK).set i mm).more _⟩
                | exact ⟨k + 1, _, by omega, by simp, unhide HNx, ((unhide HK).set2 i mm).more _⟩
    · have hlt' : ¬ (k : Int) < (l.length : Int) := by omega
      obtain rfl : k = l.length := by omega
      rw [List.take_of_length_le (Nat.le_refl _)] at hst
      have HST := hide hst
      clear hs hst
      go_wp2
      go_ret2
      exact .inr ⟨st, unhide HST, w.heap.size, rfl, (unhide HK).r1, (unhide HK).len, Nat.le_refl _, (unhide HK).bel⟩
end Go.Proofs.Ytpelmacblglhoaa
