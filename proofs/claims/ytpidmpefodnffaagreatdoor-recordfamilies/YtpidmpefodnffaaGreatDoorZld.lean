import Derived.Test.YtpidmpefodnffaaGreatDoorZrdg
import Derived.Maps.AppendAt
namespace Go.Proofs.YtpidmpefodnffaaGreatDoor
open Go.RowKit Go.Lib
set_option maxHeartbeats 4000000
set_option maxRecDepth 8000
/-- all = append(all, x): where the new row lies, too. -/
theorem pushA {b : Nat} {ops : Array Oper} {rest : List Oper} {o : Oper} {a : Act} {Q : Exit → Act → World → Prop} (hgd : o.guard = none) (s x : Operand)
    (ho : o.op = .call { callee := .builtin .append, args := #[s, x], argTypes := #[26, 26] }) (v : Value) (xs : List Value) (hs : a.eval s = v) (w0 : World) (p : Option Addr) (n c : Nat) (hb : Seq b 22 w0 v xs)
    (hx : a.eval x = .slice (some ⟨w0.heap.size, 0, none⟩) 1 1) (hL : xs.length ≤ 1000000000) (hB : b ≤ w0.heap.size)
    (h : ∀ v' w', Seq b 22 w' v' (xs ++ [.slice p n c]) → (w0.alloc (.cells #[.slice p n c] 22)).grownBy w' v.ownBlock → (v'.ownBlock = v.ownBlock ∨ v'.ownBlock = some (w0.heap.size + 1)) → wpList Tryz.prog ops Q rest (a.put o.dst v') w') : wpList Tryz.prog ops Q (o :: rest) a (w0.alloc (.cells #[.slice p n c] 22)) := by
  obtain ⟨i0, hi, hz0, hz1, hz2⟩ := info_parts info22
  refine wpList_append_own_at _ hgd s x 26 ho b 22 i0 (.slice none 0 0) 1 24 Tryz.underlying26 hi hz0 hz1 hz2 rfl (by decide) v xs.length xs hs (hb.keep (fun g hg => Below.heap_alloc w0 _ g (hb.lt g hg))) ⟨w0.heap.size, 0, none⟩ 1 1 [.slice p n c] hx rfl ?_ ?_ (by unfold maxLen; omega) (by omega) (by simp; omega) ?_
  · intro j u hj
    match j, hj with
    | 0, hj => simp at hj; subst hj; simp [Addr.add]
    | (j + 1), hj => simp at hj
  · intro u hu; simp at hu; subst hu; rfl
  · intro v' w' ho' hg _ hat
    refine h v' w' ?_ hg ?_
    · unfold Seq
      rw [List.length_append]
      exact ho'
    · rcases hat with q | q
      · exact .inl q
      · exact .inr (by rw [q]; simp)
/-- A block of another kind stands when a row of lists has grown. -/
theorem grown_row {b : Nat} {w w' : World} {v v0 : Value} {xs : List Value} {q : Nat} {cs : Array Value} {t : TypeId} {f : Nat × Nat} (h : Seq b 22 w v xs) (hg : (w.alloc (.cells #[v0] 22)).grownBy w' v.ownBlock) (hq : w.heap[q]? = some (.cells cs t f)) (ht : t ≠ 22) : w'.heap[q]? = some (.cells cs t f) := by
  have hlt := lt_heap hq
  have hsz : (w.alloc (.cells #[v0] 22)).heap.size = w.heap.size + 1 := by simp
  refine (hg.block q (by omega) ?_).trans ((Below.heap_alloc w _ q hlt).trans hq)
  intro e
  obtain ⟨cur, hc⟩ := h.kind q e.symm
  rw [hq] at hc
  cases hc
  exact ht rfl
/-- The lists that came out so far, and those that are wanted. -/
structure Cw (B : Nat) (w0 wr : World) (l want : Value) (L : List (Value × List Bs)) (M : List Value) : Prop where
  build ::
  below : Below B w0 wr
  sz : B ≤ wr.heap.size
  s1 : Seq B 22 wr l (L.map (·.1))
  s2 : Seq B 22 wr want M
  sapart : ∀ g, l.ownBlock = some g → want.ownBlock ≠ some g
  rows : ∀ (j : Nat) (x : Value × List Bs), L[j]? = some x → OwnS B wr x.1 x.2
  apart : ∀ (j k : Nat) (x y : Value × List Bs), L[j]? = some x → L[k]? = some y → j ≠ k → ∀ g, x.1.ownBlock = some g → y.1.ownBlock ≠ some g
  small : ∀ (j : Nat) (x : Value × List Bs), L[j]? = some x → x.2.length ≤ 8
  wnt : ∀ (j : Nat) (x : Value × List Bs), j < M.length → L[j]? = some x → ∃ p c, M[j]? = some (.slice p x.2.length c) ∧ OwnS B wr (.slice p x.2.length c) x.2
section
variable {B : Nat} {w0 wr w' : World} {l want : Value} {L : List (Value × List Bs)} {M : List Value}
theorem Cw.keep (h : Cw B w0 wr l want L M) (k : Below wr.heap.size wr w') : Cw B w0 w' l want L M :=
  ⟨h.below.trans (k.mono h.sz), Nat.le_trans h.sz k.size, h.s1.below k, h.s2.below k, h.sapart, fun j x hx => (h.rows j x hx).below k (Nat.le_refl _), h.apart, h.small, fun j x hj hx => by
    obtain ⟨p, c, h1, h2⟩ := h.wnt j x hj hx
    exact ⟨p, c, h1, h2.below k (Nat.le_refl _)⟩⟩
theorem Cw.old (h : Cw B w0 wr l want L M) : ∀ (j : Nat) (x : Value × List Bs), L[j]? = some x → ∀ g, x.1.ownBlock = some g → g < wr.heap.size := fun j x hx g hg => (World.ownsRow.lt (h.rows j x hx) g hg).2
theorem owns_kind {v : Value} {u : List Bs} (h : OwnS B wr v u) : ∀ g, v.ownBlock = some g → ∃ cur, wr.heap[g]? = some (.cells cur 9 (0, 0)) := by
  intro g hg
  rcases h.2 with ⟨q, _⟩ | ⟨g', cap, cur, e1, e2, e3, e4⟩
  · rw [q] at hg; cases hg
  · have : g' = g := by rw [e1] at hg; simpa [Value.ownBlock] using hg
    subst this
    exact ⟨cur, e3⟩
theorem owns_keep {v : Value} {u : List Bs} (h : OwnS B wr v u) (hb : ∀ g, v.ownBlock = some g → w'.heap[g]? = wr.heap[g]?) : OwnS B w' v u := by
  refine ⟨h.1, ?_⟩
  rcases h.2 with q | ⟨g, cap, cur, e1, e2, e3, e4⟩
  · exact .inl q
  · exact .inr ⟨g, cap, cur, e1, e2, (hb g (by rw [e1]; rfl)).trans e3, e4⟩
theorem own_grown {b' : Nat} {v v0 v1 : Value} {xs : List Value} {u : List Bs} (h : Seq B 22 wr v xs) (hg : (wr.alloc (.cells #[v0] 22)).grownBy w' v.ownBlock) (hv : OwnS b' wr v1 u) : OwnS b' w' v1 u :=
  owns_keep hv (fun g hg' => by
    obtain ⟨cur, hc⟩ := owns_kind hv g hg'
    exact (grown_row h hg hc (by decide)).trans hc.symm)
theorem Cw.start (w0 : World) (wr : World) (hb : Below w0.heap.size w0 wr) : Cw w0.heap.size w0 wr (.slice none 0 0) (.slice none 0 0) [] [] :=
  ⟨hb, hb.size, Seq.nil _ _ _, Seq.nil _ _ _, fun g e => (by cases e), fun j x h => (by simp at h), fun j k x y h => (by simp at h), fun j x h => (by simp at h), fun j x h => (by simp at h)⟩
theorem Cw.push1 {p : Option Addr} {c : Nat} {u : List Bs} {l' : Value} {b0 : Nat} (h : Cw B w0 wr l want L M) (hm : M.length = L.length) (hold : ∀ (j : Nat) (x : Value × List Bs), L[j]? = some x → ∀ g, x.1.ownBlock = some g → g < b0) (ho : OwnS b0 wr (.slice p u.length c) u) (hB : B ≤ b0) (hu : u.length ≤ 8)
    (hs : Seq B 22 w' l' (L.map (·.1) ++ [.slice p u.length c])) (hg : (wr.alloc (.cells #[.slice p u.length c] 22)).grownBy w' l.ownBlock) (hat : l'.ownBlock = l.ownBlock ∨ l'.ownBlock = some (wr.heap.size + 1)) :
    Cw B w0 w' l' want (L ++ [(.slice p u.length c, u)]) M := by
  have hsz : (wr.alloc (.cells #[.slice p u.length c] 22)).heap.size = wr.heap.size + 1 := by simp
  have hst : ∀ k, k < wr.heap.size → l.ownBlock ≠ some k → w'.heap[k]? = wr.heap[k]? := fun k hk hne => (hg.block k (by omega) (Ne.symm hne)).trans (Below.heap_alloc wr _ k hk)
  have h9 : ∀ g cur, wr.heap[g]? = some (.cells cur 9 (0, 0)) → l.ownBlock ≠ some g := fun g cur hc q => by
    obtain ⟨cur', e'⟩ := h.s1.kind g q
    rw [hc] at e'
    cases e'
  have hown : ∀ {b : Nat} {v : Value} {u : List Bs}, OwnS b wr v u → OwnS b w' v u := fun {b v u} hv => owns_keep hv (fun g hg' => by
    obtain ⟨cur, hc⟩ := owns_kind hv g hg'
    exact hst g (lt_heap hc) (h9 g cur hc))
  have split : ∀ (j : Nat) (x : Value × List Bs), (L ++ [(.slice p u.length c, u)])[j]? = some x → (L[j]? = some x) ∨ (j = L.length ∧ x = (.slice p u.length c, u)) := fun j x hx => by
    rcases Nat.lt_or_ge j L.length with q | q
    · rw [List.getElem?_append_left q] at hx
      exact .inl hx
    · rw [List.getElem?_append_right q] at hx
      rcases Nat.eq_zero_or_pos (j - L.length) with q2 | q2
      · rw [q2] at hx
        simp at hx
        exact .inr ⟨by omega, hx.symm⟩
      · rw [List.getElem?_eq_none (by simp; omega)] at hx
        cases hx
  refine ⟨h.below.trans ⟨hg.os, hg.tape, hg.output, by have := hg.size; omega, fun k hk => hst k (by have := h.sz; omega) (fun q => by have := h.s1.high k q; omega)⟩, by have := hg.size; have := h.sz; omega, by rw [List.map_append]; exact hs, h.s2.keep (fun g hg' => hst g (h.s2.lt g hg') (fun q => h.sapart g q hg')), ?_, ?_, ?_, ?_, ?_⟩
  · intro g e q
    rcases hat with e2 | e2
    · exact h.sapart g (e2 ▸ e) q
    · rw [e2] at e
      cases e
      have := h.s2.lt _ q
      omega
  · intro j x hx
    rcases split j x hx with q | ⟨_, rfl⟩
    · exact hown (h.rows j x q)
    · exact (hown ho).below (Below.refl _ _) hB
  · intro j k x y hx hy hne g e1 e2
    rcases split j x hx with q | ⟨r, rfl⟩ <;> rcases split k y hy with q2 | ⟨r2, rfl⟩
    · exact h.apart j k x y q q2 hne g e1 e2
    · have := hold j x q g e1
      have := (World.ownsRow.lt ho g e2).1
      omega
    · have := hold k y q2 g e2
      have := (World.ownsRow.lt ho g e1).1
      omega
    · omega
  · intro j x hx
    rcases split j x hx with q | ⟨_, rfl⟩
    · exact h.small j x q
    · exact hu
  · intro j x hj hx
    rcases split j x hx with q | ⟨r, rfl⟩
    · obtain ⟨q1, c1, h1, h2⟩ := h.wnt j x hj q
      exact ⟨q1, c1, h1, hown h2⟩
    · omega
theorem Cw.push2 {p : Option Addr} {c : Nat} {u : List Bs} {v : Value} {want' : Value} (h : Cw B w0 wr l want (L ++ [(v, u)]) M) (hm : M.length = L.length) (ho : OwnS B wr (.slice p u.length c) u)
    (hs : Seq B 22 w' want' (M ++ [.slice p u.length c])) (hg : (wr.alloc (.cells #[.slice p u.length c] 22)).grownBy w' want.ownBlock) (hat : want'.ownBlock = want.ownBlock ∨ want'.ownBlock = some (wr.heap.size + 1)) :
    Cw B w0 w' l want' (L ++ [(v, u)]) (M ++ [.slice p u.length c]) := by
  have hsz : (wr.alloc (.cells #[.slice p u.length c] 22)).heap.size = wr.heap.size + 1 := by simp
  have hst : ∀ k, k < wr.heap.size → want.ownBlock ≠ some k → w'.heap[k]? = wr.heap[k]? := fun k hk hne => (hg.block k (by omega) (Ne.symm hne)).trans (Below.heap_alloc wr _ k hk)
  have h9 : ∀ g cur, wr.heap[g]? = some (.cells cur 9 (0, 0)) → want.ownBlock ≠ some g := fun g cur hc q => by
    obtain ⟨cur', e'⟩ := h.s2.kind g q
    rw [hc] at e'
    cases e'
  have hown : ∀ {b : Nat} {v : Value} {u : List Bs}, OwnS b wr v u → OwnS b w' v u := fun {b v u} hv => owns_keep hv (fun g hg' => by
    obtain ⟨cur, hc⟩ := owns_kind hv g hg'
    exact hst g (lt_heap hc) (h9 g cur hc))
  refine ⟨h.below.trans ⟨hg.os, hg.tape, hg.output, by have := hg.size; omega, fun k hk => hst k (by have := h.sz; omega) (fun q => by have := h.s2.high k q; omega)⟩, by have := hg.size; have := h.sz; omega, h.s1.keep (fun g hg' => hst g (h.s1.lt g hg') (fun q => h.sapart g hg' q)), hs, ?_, fun j x hx => hown (h.rows j x hx), h.apart, h.small, ?_⟩
  · intro g e q
    rcases hat with e2 | e2
    · exact h.sapart g e (e2 ▸ q)
    · rw [e2] at q
      cases q
      have := h.s1.lt _ e
      omega
  · intro j x hj hx
    rcases Nat.lt_or_ge j M.length with q | q
    · obtain ⟨q1, c1, h1, h2⟩ := h.wnt j x q hx
      exact ⟨q1, c1, by rw [List.getElem?_append_left q]; exact h1, hown h2⟩
    · obtain rfl : j = L.length := by simp at hj; omega
      have e : x = (v, u) := by
        rw [List.getElem?_append_right (Nat.le_refl _)] at hx
        simpa using hx.symm
      subst e
      exact ⟨p, c, by rw [List.getElem?_append_right q, hm]; simp, hown ho⟩
/-- The rows, when all three have come. -/
theorem Cw.rws (h : Cw B w0 wr l want L M) (hL : L.length = 3) (hM : M.length = 3) : ∃ G c1 H c2, l = .slice (some ⟨G, 0, none⟩) 3 c1 ∧ want = .slice (some ⟨H, 0, none⟩) 3 c2 ∧ Rws B G 3 (fun j => (L.getD j (undef, [])).1) wr (fun j => (L.getD j (undef, [])).2) ∧ Wnt H 3 wr (fun j => (L.getD j (undef, [])).2) ∧ ∀ i, i < 3 → ((L.getD i (undef, [])).2).length ≤ 100000 := by
  have hat : ∀ j, j < 3 → L[j]? = some (L.getD j (undef, [])) := fun j hj => by
    rw [List.getD_eq_getElem?_getD, List.getElem?_eq_getElem (by omega)]
    rfl
  obtain ⟨G, c1, e1, _⟩ := h.s1.at 0 (by simp; omega)
  obtain ⟨H, c2, e2, _⟩ := h.s2.at 0 (by omega)
  rw [List.length_map, hL] at e1
  rw [hM] at e2
  refine ⟨G, c1, H, c2, e1, e2, ⟨h.s1.kind G (by rw [e1]; rfl), h.s1.high G (by rw [e1]; rfl), fun i hi => ?_, fun i hi => (h.rows i _ (hat i hi)).below (Below.refl _ _) (Nat.zero_le _), fun i j hi hj hne g => h.apart i j _ _ (hat i hi) (hat j hj) hne g, fun i hi g hg => (World.ownsRow.lt (h.rows i _ (hat i hi)) g hg).1⟩, fun i hi => ?_, fun i hi => Nat.le_trans (h.small i _ (hat i hi)) (by decide)⟩
  · obtain ⟨G', c', e', hc⟩ := h.s1.at i (by simp; omega)
    have : G' = G := by
      have q := congrArg Value.ownBlock (e'.symm.trans e1)
      simpa [Value.ownBlock] using q
    subst this
    rw [hc, List.getD_eq_getElem?_getD, List.getElem?_map, hat i hi]
    rfl
  · obtain ⟨p, c, q1, q2⟩ := h.wnt i _ (by omega) (hat i hi)
    obtain ⟨H', c', e', hc⟩ := h.s2.at i (by omega)
    have : H' = H := by
      have q := congrArg Value.ownBlock (e'.symm.trans e2)
      simpa [Value.ownBlock] using q
    subst this
    refine ⟨p, c, ?_, q2.sts⟩
    rw [hc, List.getD_eq_getElem?_getD, q1]
    rfl
end
end Go.Proofs.YtpidmpefodnffaaGreatDoor
