import Derived.Test.YthlacailhfhjnaaGreatDoorWdj
import Derived.Test.YthlacailhfhjnaaGreatDoorRgm
import Derived.Test.YthlacailhfhjnaaGreatDoorWcq
namespace Go.Proofs.YthlacailhfhjnaaGreatDoor
open Go.RowKit Go.Lib
def CAP : Bs := [65, 66, 67, 68, 69, 70, 71, 72, 73, 74, 75, 76, 77, 78, 79, 80, 81, 82, 83, 84, 85, 86, 87, 88, 89, 90]
theorem vmg_m (X : Nat) (pa : Option Addr) (nn cc : Nat) (m0 p0 b : Bs) (c c' : ChM) (e : c.p = c'.p ∧ c.a = c'.a ∧ c.n = c'.n ∧ c.k = c'.k) : ∀ (j : Nat) (_ : j ≠ 2) (_ : j ≠ 13), vmg X pa nn cc m0 p0 b c' j = vmg X pa nn cc m0 p0 b c j := by
  obtain ⟨m, p, a, n, k⟩ := c
  obtain ⟨m', p', a', n', k'⟩ := c'
  simp only at e
  obtain ⟨rfl, rfl, rfl, rfl⟩ := e
  intro j h2 h13
  match j, h2, h13 with
  | 0, _, _ => rfl
  | 1, _, _ => rfl
  | 2, h2, _ => exact absurd rfl h2
  | 3, _, _ => rfl
  | 4, _, _ => rfl
  | 5, _, _ => rfl
  | 6, _, _ => rfl
  | 7, _, _ => rfl
  | 8, _, _ => rfl
  | 9, _, _ => rfl
  | 10, _, _ => rfl
  | 11, _, _ => rfl
  | 12, _, _ => rfl
  | 13, _, h13 => exact absurd rfl h13
  | 14, _, _ => rfl
  | (n + 15), _, _ => rfl
theorem vmg_p (X : Nat) (pa : Option Addr) (nn cc : Nat) (m0 p0 b : Bs) (c c' : ChM) (e : c.m = c'.m ∧ c.a = c'.a ∧ c.n = c'.n ∧ c.k = c'.k) : ∀ (j : Nat) (_ : j ≠ 5) (_ : j ≠ 6) (_ : j ≠ 13), vmg X pa nn cc m0 p0 b c' j = vmg X pa nn cc m0 p0 b c j := by
  obtain ⟨m, p, a, n, k⟩ := c
  obtain ⟨m', p', a', n', k'⟩ := c'
  simp only at e
  obtain ⟨rfl, rfl, rfl, rfl⟩ := e
  intro j h5 h6 h13
  match j, h5, h6, h13 with
  | 0, _, _, _ => rfl
  | 1, _, _, _ => rfl
  | 2, _, _, _ => rfl
  | 3, _, _, _ => rfl
  | 4, _, _, _ => rfl
  | 5, h5, _, _ => exact absurd rfl h5
  | 6, _, h6, _ => exact absurd rfl h6
  | 7, _, _, _ => rfl
  | 8, _, _, _ => rfl
  | 9, _, _, _ => rfl
  | 10, _, _, _ => rfl
  | 11, _, _, _ => rfl
  | 12, _, _, _ => rfl
  | 13, _, _, h13 => exact absurd rfl h13
  | 14, _, _, _ => rfl
  | (n + 15), _, _, _ => rfl
theorem vmg_h (X : Nat) (pa : Option Addr) (nn cc : Nat) (m0 p0 b : Bs) (c c' : ChM) (e : c.m = c'.m ∧ c.p = c'.p) : ∀ (j : Nat) (_ : j ≠ 9) (_ : j ≠ 13), vmg X pa nn cc m0 p0 b c' j = vmg X pa nn cc m0 p0 b c j := by
  obtain ⟨m, p, a, n, k⟩ := c
  obtain ⟨m', p', a', n', k'⟩ := c'
  simp only at e
  obtain ⟨rfl, rfl⟩ := e
  intro j h9 h13
  match j, h9, h13 with
  | 0, _, _ => rfl
  | 1, _, _ => rfl
  | 2, _, _ => rfl
  | 3, _, _ => rfl
  | 4, _, _ => rfl
  | 5, _, _ => rfl
  | 6, _, _ => rfl
  | 7, _, _ => rfl
  | 8, _, _ => rfl
  | 9, h9, _ => exact absurd rfl h9
  | 10, _, _ => rfl
  | 11, _, _ => rfl
  | 12, _, _ => rfl
  | 13, _, h13 => exact absurd rfl h13
  | 14, _, _ => rfl
  | (n + 15), _, _ => rfl
def set4 (W : World) (A : Nat) (c : ChM) (b : Bs) : World := (((W.setCell ⟨A, 0, none⟩ (S c.m)).setCell ⟨A, 1, none⟩ (S ([47] ++ c.p))).setCell ⟨A, 2, none⟩ (.slice c.a c.n c.k)).setCell ⟨A, 3, none⟩ (S (b.take 4000))
/-- What holds as a message is made. -/
structure WdM (W0 : World) (A : Nat) (b : Bs) (c : ChM) (L : Nat → Bool) (W : World) : Prop where
  d14 : L 14 = true → L 13 = true
  d13 : L 13 = true → L 2 = true ∧ L 6 = true ∧ L 9 = true
  d6 : L 6 = true → L 5 = true
  nm : L 2 = true → 1 ≤ c.m.length ∧ c.m.length ≤ 16 ∧ ∀ x ∈ c.m, x ∈ CAP
  pt : L 5 = true → c.p.length ≤ 199 ∧ ∀ x ∈ c.p, 33 ≤ x.toNat ∧ x.toNat ≤ 126
  hd : L 9 = true → ∃ hs, c.n = hs.length ∧ W.ownsRow 0 35 2 (.slice c.a c.n c.k) hs.length (cellsF hs) ∧ (∀ k, (Value.slice c.a c.n c.k).ownBlock = some k → W0.heap.size ≤ k) ∧ hs.length ≤ 32 ∧ hs.all hdr = true
  wd0 : L 14 = false → Below W0.heap.size W0 W
  wd1 : L 14 = true → ∃ Wp, Below W0.heap.size W0 Wp ∧ W = set4 Wp A c b
theorem set4_other (W : World) (A : Nat) (c : ChM) (b : Bs) (j : Nat) (h : j ≠ A) : (set4 W A c b).heap[j]? = W.heap[j]? := by
  unfold set4
  rw [heap_setCell_other _ _ _ _ h, heap_setCell_other _ _ _ _ h, heap_setCell_other _ _ _ _ h, heap_setCell_other _ _ _ _ h]
variable {W0 : World} {A : Nat} {b : Bs} {c : ChM} {L : Nat → Bool} {W : World}
theorem WdM.old (h : WdM W0 A b c L W) {j : Nat} (hj : j < W0.heap.size) (hA : j ≠ A) : W.heap[j]? = W0.heap[j]? := by
  cases e : L 14 with
  | false => exact (h.wd0 e).block j hj
  | true =>
    obtain ⟨Wp, h1, rfl⟩ := h.wd1 e
    rw [set4_other _ _ _ _ _ hA]
    exact h1.block j hj
theorem WdM.pure (h : WdM W0 A b c L W) (i : Nat) (hi : i ≠ 2 ∧ i ≠ 5 ∧ i ≠ 6 ∧ i ≠ 9 ∧ i ≠ 13 ∧ i ≠ 14) : WdM W0 A b c (upd L i) W := by
  refine ⟨?_, ?_, ?_, ?_, ?_, ?_, ?_, ?_⟩
  · rw [upd_ne (j := 14) (by omega), upd_ne (j := 13) (by omega)]; exact h.d14
  · rw [upd_ne (j := 13) (by omega), upd_ne (j := 2) (by omega), upd_ne (j := 6) (by omega), upd_ne (j := 9) (by omega)]; exact h.d13
  · rw [upd_ne (j := 6) (by omega), upd_ne (j := 5) (by omega)]; exact h.d6
  · rw [upd_ne (j := 2) (by omega)]; exact h.nm
  · rw [upd_ne (j := 5) (by omega)]; exact h.pt
  · rw [upd_ne (j := 9) (by omega)]; exact h.hd
  · rw [upd_ne (j := 14) (by omega)]; exact h.wd0
  · rw [upd_ne (j := 14) (by omega)]; exact h.wd1
theorem WdM.no14 (h : WdM W0 A b c L W) (hz : L 2 = false ∨ L 5 = false ∨ L 9 = false) : L 13 = false ∧ L 14 = false := by
  have h13 : L 13 = false := by
    cases e : L 13 with
    | false => rfl
    | true =>
      obtain ⟨q1, q2, q3⟩ := h.d13 e
      have q4 := h.d6 q2
      rcases hz with z | z | z
      · rw [z] at q1; cases q1
      · rw [z] at q4; cases q4
      · rw [z] at q3; cases q3
  refine ⟨h13, ?_⟩
  cases e : L 14 with
  | false => rfl
  | true => rw [h.d14 e] at h13; cases h13
theorem WdM.first (h : WdM W0 A b c L W) (h2 : L 2 = false) {l : Bs} {W' : World} (hb : Below W.heap.size W W') (g : 1 ≤ l.length ∧ l.length ≤ 16 ∧ ∀ x ∈ l, x ∈ CAP) : WdM W0 A b { c with m := l } (upd L 2) W' := by
  have hn := h.no14 (.inl h2)
  have hb0 := h.wd0 hn.2
  refine ⟨?_, ?_, ?_, fun _ => g, ?_, ?_, ?_, ?_⟩
  · rw [upd_ne (j := 14) (by omega), hn.2]; intro q; cases q
  · rw [upd_ne (j := 13) (by omega), hn.1]; intro q; cases q
  · rw [upd_ne (j := 6) (by omega), upd_ne (j := 5) (by omega)]; exact h.d6
  · rw [upd_ne (j := 5) (by omega)]; exact h.pt
  · rw [upd_ne (j := 9) (by omega)]
    intro q
    obtain ⟨hs, e, r, s⟩ := h.hd q
    exact ⟨hs, e, owns_same r (fun k hk => by obtain ⟨cs, z⟩ := owns_lt r k hk; exact hb.block k (lt_of_row z)), s⟩
  · intro _; exact hb0.trans (hb.mono hb0.size)
  · rw [upd_ne (j := 14) (by omega), hn.2]; intro q; cases q
theorem WdM.second (h : WdM W0 A b c L W) (h5 : L 5 = false) {l : Bs} {W' : World} (hb : Below W.heap.size W W') (g : l.length ≤ 199 ∧ ∀ x ∈ l, 33 ≤ x.toNat ∧ x.toNat ≤ 126) : WdM W0 A b { c with p := l } (upd L 5) W' := by
  have hn := h.no14 (.inr (.inl h5))
  have hb0 := h.wd0 hn.2
  refine ⟨?_, ?_, ?_, ?_, fun _ => g, ?_, ?_, ?_⟩
  · rw [upd_ne (j := 14) (by omega), hn.2]; intro q; cases q
  · rw [upd_ne (j := 13) (by omega), hn.1]; intro q; cases q
  · intro _; exact upd_eq
  · rw [upd_ne (j := 2) (by omega)]; exact h.nm
  · rw [upd_ne (j := 9) (by omega)]
    intro q
    obtain ⟨hs, e, r, s⟩ := h.hd q
    exact ⟨hs, e, owns_same r (fun k hk => by obtain ⟨cs, z⟩ := owns_lt r k hk; exact hb.block k (lt_of_row z)), s⟩
  · intro _; exact hb0.trans (hb.mono hb0.size)
  · rw [upd_ne (j := 14) (by omega), hn.2]; intro q; cases q
theorem WdM.third (h : WdM W0 A b c L W) (h9 : L 9 = false) {a : Option Addr} {k : Nat} {hs : List Fl} {W' : World} (g : Hds (.slice a hs.length k) hs W W') : WdM W0 A b { c with a := a, n := hs.length, k := k } (upd L 9) W' := by
  have hn := h.no14 (.inr (.inr h9))
  have hb0 := h.wd0 hn.2
  refine ⟨?_, ?_, ?_, ?_, ?_, fun _ => ⟨hs, rfl, g.row, fun j hj => Nat.le_trans hb0.size (g.new j hj), g.few, g.all⟩, ?_, ?_⟩
  · rw [upd_ne (j := 14) (by omega), hn.2]; intro q; cases q
  · rw [upd_ne (j := 13) (by omega), hn.1]; intro q; cases q
  · rw [upd_ne (j := 6) (by omega), upd_ne (j := 5) (by omega)]; exact h.d6
  · rw [upd_ne (j := 2) (by omega)]; exact h.nm
  · rw [upd_ne (j := 5) (by omega)]; exact h.pt
  · intro _; exact hb0.trans (g.bel.mono hb0.size)
  · rw [upd_ne (j := 14) (by omega), hn.2]; intro q; cases q
theorem WdM.six (h : WdM W0 A b c L W) (h5 : L 5 = true) : WdM W0 A b c (upd L 6) W := by
  refine ⟨?_, ?_, ?_, ?_, ?_, ?_, ?_, ?_⟩
  · rw [upd_ne (j := 14) (by omega), upd_ne (j := 13) (by omega)]; exact h.d14
  · rw [upd_ne (j := 13) (by omega), upd_ne (j := 2) (by omega), upd_eq, upd_ne (j := 9) (by omega)]; exact fun q => ⟨(h.d13 q).1, rfl, (h.d13 q).2.2⟩
  · intro _; rw [upd_ne (j := 5) (by omega)]; exact h5
  · rw [upd_ne (j := 2) (by omega)]; exact h.nm
  · rw [upd_ne (j := 5) (by omega)]; exact h.pt
  · rw [upd_ne (j := 9) (by omega)]; exact h.hd
  · rw [upd_ne (j := 14) (by omega)]; exact h.wd0
  · rw [upd_ne (j := 14) (by omega)]; exact h.wd1
theorem WdM.built (h : WdM W0 A b c L W) (h2 : L 2 = true) (h6 : L 6 = true) (h9 : L 9 = true) : WdM W0 A b c (upd L 13) W := by
  refine ⟨?_, ?_, ?_, ?_, ?_, ?_, ?_, ?_⟩
  · intro _; exact upd_eq
  · intro _; rw [upd_ne (j := 2) (by omega), upd_ne (j := 6) (by omega), upd_ne (j := 9) (by omega)]; exact ⟨h2, h6, h9⟩
  · rw [upd_ne (j := 6) (by omega), upd_ne (j := 5) (by omega)]; exact h.d6
  · rw [upd_ne (j := 2) (by omega)]; exact h.nm
  · rw [upd_ne (j := 5) (by omega)]; exact h.pt
  · rw [upd_ne (j := 9) (by omega)]; exact h.hd
  · rw [upd_ne (j := 14) (by omega)]; exact h.wd0
  · rw [upd_ne (j := 14) (by omega)]; exact h.wd1
theorem WdM.stored (h : WdM W0 A b c L W) (h14 : L 14 = false) (h13 : L 13 = true) (hA : W.heap[A]? = some (.cells #[S [], S [], .slice none 0 0, S []] 24 (0, 0))) : WdM W0 A b c (upd L 14) (set4 W A c b) := by
  refine ⟨?_, ?_, ?_, ?_, ?_, ?_, ?_, ?_⟩
  · intro _; rw [upd_ne (j := 13) (by omega)]; exact h13
  · rw [upd_ne (j := 13) (by omega), upd_ne (j := 2) (by omega), upd_ne (j := 6) (by omega), upd_ne (j := 9) (by omega)]; exact h.d13
  · rw [upd_ne (j := 6) (by omega), upd_ne (j := 5) (by omega)]; exact h.d6
  · rw [upd_ne (j := 2) (by omega)]; exact h.nm
  · rw [upd_ne (j := 5) (by omega)]; exact h.pt
  · rw [upd_ne (j := 9) (by omega)]
    intro q
    obtain ⟨hs, e, r, s⟩ := h.hd q
    exact ⟨hs, e, owns_same r (fun k hk => set4_other _ _ _ _ _ (fun z => by
      obtain ⟨cs, z2⟩ := owns_lt r k hk
      rw [z, hA] at z2
      simp at z2)), s⟩
  · rw [upd_eq]; intro q; cases q
  · intro _; exact ⟨W, h.wd0 h14, rfl⟩
theorem WdM.cut (h : WdM W0 A b c L W) : WdM W0 A b c (upd L 12) W := h.pure 12 (by omega)
end Go.Proofs.YthlacailhfhjnaaGreatDoor
