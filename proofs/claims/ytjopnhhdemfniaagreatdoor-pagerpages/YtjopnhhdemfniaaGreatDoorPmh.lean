import Derived.Test.YtjopnhhdemfniaaGreatDoorPmg
import Derived.Test.YtjopnhhdemfniaaGreatDoorZdsa
/- Lists that are marked and grown: whose mark a block bears, and how far. -/
namespace Go.Proofs.YtjopnhhdemfniaaGreatDoor
open Go.RowKit
set_option maxHeartbeats 8000000
set_option maxRecDepth 8000
def mk9 (i : Nat) : Int := -100 - (i : Int)
theorem reads_any (a : Option Addr) (n cap : Nat) (m : Int) (w : World) (hp : Ins w a n (List.replicate n m)) (hn : n ≤ 1000000000000) :
    Calls Tryz.prog 68 #[.slice a n cap, I m] w fun e w' => e = .returned (.bool true) ∧ w' = w := by
  have HP := hide hp
  clear hp
  go_enter Tryz.func68, Tryz.ntmps68
  go_wp2
  go_loopw [5] (fun i wr => ∃ j : Nat, j ≤ n ∧ i = .int .i64 j ∧ wr = w) (fun i _ => n - (Go.RowKit.intOf i).toNat)
  case atStart => exact ⟨0, by omega, rfl, rfl⟩
  case round =>
    obtain ⟨j, hj, rfl, rfl⟩ := hrel
    by_cases hlt : j < n
    · have hlt' : (j : Int) < (n : Int) := by omega
      obtain ⟨p, o, rfl, hpl, hc0⟩ := (unhide HP).at hlt
      rw [show (List.replicate n m).getD j 0 = m by simp [List.getD_eq_getElem?_getD, hlt]] at hc0
      have d3 : (m != m) = false := by simp
      go_wp2
      go_round
      case measure => simp [Go.RowKit.intOf] <;> omega
      case rel => exact ⟨j + 1, by omega, by simp, trivial⟩
    · have hlt' : ¬ (j : Int) < (n : Int) := by omega
      obtain rfl : j = n := by omega
      go_wp2
      go_ret
      exact ⟨rfl, rfl⟩
abbrev Tgs := Nat → Option Nat
structure MG (tag : Tgs) (used : Nat → Nat) (W : World) : Prop where
  row : ∀ k i, tag k = some i → ∃ cs, W.heap[k]? = some (.cells cs 3 (0, 0)) ∧ ∀ j, j < used k → W.cell? ⟨k, j, none⟩ = some (I (mk9 i))
variable {tag tag' : Tgs} {used used' : Nat → Nat} {W W' : World}
theorem MG.lt (h : MG tag used W) {k i : Nat} (hk : tag k = some i) : k < W.heap.size := by
  obtain ⟨cs, q, _⟩ := h.row k i hk
  exact lt_of_row q
theorem MG.only {F : Nat → Prop} (h : MG tag used W) (o : Only F W W') (hF : ∀ k, F k → tag k = none) : MG tag used W' := by
  refine ⟨fun k i hk => ?_⟩
  obtain ⟨cs, q, c⟩ := h.row k i hk
  have e := o.block k (lt_of_row q) (fun r => by rw [hF k r] at hk; cases hk)
  exact ⟨cs, e.trans q, fun j hj => (World.cell?_of_block e).trans (c j hj)⟩
theorem MG.below (h : MG tag used W) (o : Below W.heap.size W W') : MG tag used W' := h.only (F := fun _ => False) (Only.of_below o) (fun _ q => q.elim)
/-- A view: so many marks of i. -/
def Vw (tag : Tgs) (used : Nat → Nat) (v : Value) (n i : Nat) : Prop := ∃ a c, v = .slice a n c ∧ (0 < n → ∃ g, a = some ⟨g, 0, none⟩ ∧ tag g = some i ∧ n ≤ used g)
theorem Vw.ext {v : Value} {n i : Nat} (h : Vw tag used v n i) (he : ∀ k i, tag k = some i → tag' k = some i ∧ used k ≤ used' k) : Vw tag' used' v n i := by
  obtain ⟨a, c, e, q⟩ := h
  refine ⟨a, c, e, fun hn => ?_⟩
  obtain ⟨g, e1, e2, e3⟩ := q hn
  exact ⟨g, e1, (he g i e2).1, Nat.le_trans e3 (he g i e2).2⟩
theorem Vw.ins {v : Value} {n i : Nat} (h : Vw tag used v n i) (m : MG tag used W) : ∃ a c, v = .slice a n c ∧ Ins W a n (List.replicate n (mk9 i)) := by
  obtain ⟨a, c, e, q⟩ := h
  refine ⟨a, c, e, by simp, fun hn => ?_⟩
  obtain ⟨g, rfl, e2, e3⟩ := q hn
  obtain ⟨cs, _, r⟩ := m.row g i e2
  refine ⟨g, 0, rfl, fun j hj => ?_⟩
  rw [Nat.zero_add, r j (by omega)]
  simp [List.getD_eq_getElem?_getD, hj]
/-- The current view is grown. -/
def tgx (tag : Tgs) (v : Value) (i : Nat) : Tgs := fun k => if v.ownBlock = some k then some i else tag k
def usx (used : Nat → Nat) (v : Value) (n : Nat) : Nat → Nat := fun k => if v.ownBlock = some k then n else used k
theorem repl_at (n j : Nat) (z : Value) (h : j < n) : (List.replicate n z)[j]? = some z := by simp [h]
theorem grow_mg {x x' : Value} {n i : Nat} (h : MG tag used W) (hg : Gr 3 1 x n W W') (hx : ∀ k, x.ownBlock = some k → tag k = some i ∧ used k = n) (ho : W'.ownsRow 0 3 1 x' (n + 1) (List.replicate (n + 1) (I (mk9 i)))) : MG (tgx tag x' i) (usx used x' (n + 1)) W' := by
  refine ⟨fun k i' hk => ?_⟩
  unfold tgx at hk
  unfold usx
  by_cases hc : x'.ownBlock = some k
  · rw [if_pos hc] at hk
    rw [if_pos hc]
    cases hk
    obtain ⟨g, cap, cur, e, q, _⟩ := owns_at ho (by omega)
    subst e
    have hgk : g = k := by simpa [Value.ownBlock] using hc
    subst hgk
    exact ⟨cur, q, fun j hj => owns_cell ho j _ (repl_at _ _ _ hj)⟩
  · rw [if_neg hc] at hk
    rw [if_neg hc]
    obtain ⟨cs, q, c⟩ := h.row k i' hk
    by_cases hxk : x.ownBlock = some k
    · obtain ⟨t1, t2⟩ := hx k hxk
      obtain ⟨cs', q'⟩ := hg.kind k cs hxk q
      exact ⟨cs', q', fun j hj => (hg.cell k j hxk (by omega)).trans (c j hj)⟩
    · have e := hg.block k (lt_of_row q) hxk
      exact ⟨cs, e.trans q, fun j hj => (World.cell?_of_block e).trans (c j hj)⟩
theorem grow_ext {x x' : Value} {n i : Nat} (h : MG tag used W) (hx : ∀ k, x.ownBlock = some k → tag k = some i ∧ used k = n) (hn : ∀ k, x'.ownBlock = some k → x.ownBlock = some k ∨ W.heap.size ≤ k) : ∀ k i', tag k = some i' → tgx tag x' i k = some i' ∧ used k ≤ usx used x' (n + 1) k := by
  intro k i' hk
  unfold tgx usx
  by_cases hc : x'.ownBlock = some k
  · rw [if_pos hc, if_pos hc]
    rcases hn k hc with q | q
    · obtain ⟨t1, t2⟩ := hx k q
      rw [t1] at hk
      exact ⟨hk, by omega⟩
    · have := h.lt hk
      omega
  · rw [if_neg hc, if_neg hc]
    exact ⟨hk, Nat.le_refl _⟩
end Go.Proofs.YtjopnhhdemfniaaGreatDoor
