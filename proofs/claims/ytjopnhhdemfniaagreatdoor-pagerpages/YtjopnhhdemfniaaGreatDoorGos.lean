import Derived.Test.YtjopnhhdemfniaaGreatDoorRgpp
import Derived.Test.YtjopnhhdemfniaaGreatDoorZdetl
import Derived.Test.YtjopnhhdemfniaaGreatDoorZpgf
/- One more number behind the list that a page's box holds, in a drawn region: load, build, append, store. -/
namespace Go.Proofs.YtjopnhhdemfniaaGreatDoor
open Go.RowKit
structure Ap1 (wr : World) (X : Nat) (row : Value → Array Value) (v : Value) (n : Nat) (xs : List Value) (z : Int) (il ib ia is : Nat) (c : Cav) (L : Nat → Bool) (W : World) : Prop where
  pre : L ib = false → W = wr.drew
  mid : L ib = true → c.a = wr.heap.size ∧ (L ia = false → W = wr.drew.alloc (.cells #[I z] 3))
  post : L ia = true → L ib = true ∧ L il = true ∧ ∃ p cap, c.v = .slice p (n + 1) cap ∧ W.ownsRow 0 3 1 c.v (n + 1) (xs ++ [I z]) ∧ Only (fun k => v.ownBlock = some k ∨ k = X) wr W ∧ (∀ k, c.v.ownBlock = some k → v.ownBlock = some k ∨ wr.heap.size ≤ k) ∧ W.heap[X]? = some (.cells (row (if L is = true then c.v else v)) 24 (0, 0))
  lst : L is = true → L ia = true
variable {wr : World} {X : Nat} {row : Value → Array Value} {v : Value} {n : Nat} {xs : List Value} {z : Int} {il ib ia is : Nat} {c : Cav} {L : Nat → Bool} {W : World}
theorem Ap1.start (wr : World) (X : Nat) (row : Value → Array Value) (v : Value) (n : Nat) (xs : List Value) (z : Int) (il ib ia is : Nat) : Ap1 wr X row v n xs z il ib ia is ⟨0, v⟩ (fun _ => false) wr.drew :=
  ⟨fun _ => rfl, (fun q => nomatch q), (fun q => nomatch q), (fun q => nomatch q)⟩
theorem Ap1.pure (h : Ap1 wr X row v n xs z il ib ia is c L W) {i : Nat} (h1 : i ≠ ib) (h2 : i ≠ ia) (h3 : i ≠ is) : Ap1 wr X row v n xs z il ib ia is c (upd L i) W := by
  refine ⟨?_, ?_, ?_, ?_⟩
  · rw [upd_ne (Ne.symm h1)]; exact h.pre
  · rw [upd_ne (Ne.symm h1), upd_ne (Ne.symm h2)]; exact h.mid
  · rw [upd_ne (Ne.symm h1), upd_ne (Ne.symm h2), upd_ne (Ne.symm h3)]
    intro q
    obtain ⟨a, b, r⟩ := h.post q
    refine ⟨a, ?_, r⟩
    by_cases e : il = i
    · rw [e]; exact upd_self _ _
    · rw [upd_ne e]; exact b
  · rw [upd_ne (Ne.symm h2), upd_ne (Ne.symm h3)]; exact h.lst
/-- The blocks of before stand, as long as the list was not loaded. -/
theorem Ap1.old (h : Ap1 wr X row v n xs z il ib ia is c L W) (hl : L il = false) {k : Nat} (hk : k < wr.heap.size) : W.heap[k]? = wr.heap[k]? := by
  cases hb : L ib
  · rw [h.pre hb]; rfl
  · have ha : L ia = false := by
      cases q : L ia
      · rfl
      · rw [(h.post q).2.1] at hl; cases hl
    rw [(h.mid hb).2 ha]
    exact heap_alloc_old wr.drew _ hk
/-- Blocks that are neither the list's nor the box stand always. -/
theorem Ap1.off (h : Ap1 wr X row v n xs z il ib ia is c L W) {k : Nat} (hk : k < wr.heap.size) (h1 : v.ownBlock ≠ some k) (h2 : k ≠ X) : W.heap[k]? = wr.heap[k]? := by
  cases hb : L ib
  · rw [h.pre hb]; rfl
  · cases ha : L ia
    · rw [(h.mid hb).2 ha]
      exact heap_alloc_old wr.drew _ hk
    · obtain ⟨_, _, p, cap, _, _, o, _⟩ := h.post ha
      exact o.block k hk (fun q => q.elim h1 h2)
theorem Ap1.build (h : Ap1 wr X row v n xs z il ib ia is c L W) (hL : L ib = false) (h1 : ib ≠ ia) (h2 : ib ≠ is) : W = wr.drew ∧ Ap1 wr X row v n xs z il ib ia is ⟨wr.heap.size, c.v⟩ (upd L ib) (wr.drew.alloc (.cells #[I z] 3)) := by
  have ha : L ia = false := by
    cases q : L ia
    · rfl
    · rw [(h.post q).1] at hL; cases hL
  refine ⟨h.pre hL, ⟨?_, ?_, ?_, ?_⟩⟩
  · intro q; rw [upd_self] at q; cases q
  · intro _; exact ⟨rfl, fun _ => rfl⟩
  · rw [upd_ne (Ne.symm h1), ha]; exact fun q => nomatch q
  · rw [upd_ne (Ne.symm h1), upd_ne (Ne.symm h2)]; exact h.lst
theorem s_bs22 (z : Int) (W : World) : (Instr.buildSlice 22 1 #[(0, I z)]).run Tryz.prog W = .ok (.slice (some ⟨W.heap.size, 0, none⟩) 1 1) (W.alloc (.cells #[I z] 3)) := by
  simp [go_sem, Tryz.zeroValue3, Tryz.sizeOf3]
theorem Ap1.app (h : Ap1 wr X row v n xs z il ib ia is c L W) (hI : L il = true) (hB : L ib = true) (hA : L ia = false) (hown : wr.ownsRow 0 3 1 v n xs) (hX : wr.heap[X]? = some (.cells (row v) 24 (0, 0))) (hn : n + 1 ≤ 1000000000000) (ty : TypeId) (h1 : ia ≠ ib) (h2 : ia ≠ is) :
    ∃ c' W', c'.a = c.a ∧ (Builtin.append_ #[22, 22] ty #[v, .slice (some ⟨c.a, 0, none⟩) 1 1]).run Tryz.prog W = .ok c'.v W' ∧ Ap1 wr X row v n xs z il ib ia is c' (upd L ia) W' := by
  obtain ⟨m1, m2⟩ := h.mid hB
  have hS : L is = false := by
    cases q : L is
    · rfl
    · rw [h.lst q] at hA; cases hA
  have hown' : wr.drew.ownsRow 0 3 1 v n xs := owns_below hown (Below.refl _ _).drew
  obtain ⟨p, cap, w', hr, q2, q3, q4⟩ := app_own 22 3 ty _ 1 8 Tryz.underlying22 info3 rfl (by decide) v n xs wr.drew hown' [I z] rfl (by intro u hu; simp at hu; subst hu; rfl) (by omega) (by omega)
  refine ⟨⟨c.a, .slice p (n + 1) cap⟩, w', rfl, ?_, ⟨?_, ?_, ?_, ?_⟩⟩
  · rw [m2 hA, m1]
    exact hr
  · rw [upd_ne (Ne.symm h1), hB]; exact fun q => nomatch q
  · rw [upd_ne (Ne.symm h1), upd_self]
    exact fun _ => ⟨m1, fun q => nomatch q⟩
  · intro _
    rw [upd_ne (Ne.symm h1), upd_ne (Ne.symm h2), hS]
    have hXl := lt_of_row hX
    have hXv : v.ownBlock ≠ some X := fun e => by
      obtain ⟨cs, q⟩ := owns_lt hown X e
      rw [hX] at q
      cases q
    refine ⟨hB, ?_, p, cap, rfl, q2, (Only.of_below (P := fun k => v.ownBlock = some k ∨ k = X) (Below.refl _ _).drew).trans q3 (fun k _ q => .inl q), q4, ?_⟩
    · by_cases e : il = ia
      · rw [e]; exact upd_self _ _
      · rw [upd_ne e]; exact hI
    · rw [if_neg (by simp)]
      exact (q3.block X hXl hXv).trans hX
  · rw [upd_ne (Ne.symm h2), hS]; exact fun q => nomatch q
theorem Ap1.store (h : Ap1 wr X row v n xs z il ib ia is c L W) (hA : L ia = true) (hS : L is = false) (h1 : is ≠ ib) (h2 : is ≠ ia) (h3 : is ≠ il) (hrow : ((row v).toList.take 3 ++ [c.v] ++ (row v).toList.drop 4).toArray = row c.v) (hsz : 3 + 1 ≤ (row v).size) :
    (Instr.storeAt 22 (.pointer (some ⟨X, 0 + 3, none⟩)) c.v).run Tryz.prog W = .ok () (W.setRow X (row c.v)) ∧ Ap1 wr X row v n xs z il ib ia is c (upd L is) (W.setRow X (row c.v)) := by
  obtain ⟨a, b, p, cap, e, q1, q2, q3, q4⟩ := h.post hA
  rw [hS, if_neg (by simp)] at q4
  constructor
  · have hst := s_sta Tryz.sizeOf22 (o := 0 + 3) q4 c.v (by rw [e]; rfl) (by omega) (by rw [e]; show ∀ y ∈ [Value.slice p (n + 1) cap], y.oneCell' = true; simp [Value.oneCell'])
    rw [hst]
    have e2 : c.v.cells.toList = [c.v] := by rw [e]; rfl
    rw [e2]
    exact congrArg (fun r => Result.ok () (W.setRow X r)) hrow
  · refine ⟨?_, ?_, ?_, ?_⟩
    · rw [upd_ne (Ne.symm h1), a]; exact fun q => nomatch q
    · rw [upd_ne (Ne.symm h1), upd_ne (Ne.symm h2)]
      intro q
      refine ⟨(h.mid q).1, fun q2 => ?_⟩
      rw [hA] at q2
      cases q2
    · intro _
      rw [upd_ne (Ne.symm h1), upd_ne (Ne.symm h3), upd_self, if_pos rfl]
      have hne : ∀ k, c.v.ownBlock = some k → ¬ k = X := fun k hk e' => by
        obtain ⟨cs, q⟩ := owns_lt q1 k hk
        rw [e', q4] at q
        cases q
      exact ⟨a, b, p, cap, e, owns_only q1 (setRow_Only _ _ _) hne, q2.trans (setRow_Only _ _ _) (fun k _ q => .inr q), q3, setRow_row q4⟩
    · intro _
      rw [upd_ne (Ne.symm h2)]
      exact hA
end Go.Proofs.YtjopnhhdemfniaaGreatDoor
