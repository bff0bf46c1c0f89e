import Derived.Test.YthlacailhfhjnaaGreatDoorWfj
namespace Go.Proofs.YthlacailhfhjnaaGreatDoor
open Go.RowKit Go.Lib
/-- append([]Field(nil), l...): fields in a row of one's own. -/
theorem wp_appF {ops : Array Oper} {rest : List Oper} {o : Oper} {a : Act} {w : World} {Q : Exit → Act → World → Prop} (hgd : o.guard = none) (s x : Operand)
    (ho : o.op = .call { callee := .builtin .append, args := #[s, x], argTypes := #[22, 22] }) (hs : a.eval s = .slice none 0 0)
    (g n cap : Nat) (F : List Fl) (hx : a.eval x = .slice (some ⟨g, 0, none⟩) n cap) (hf : Fls w (some ⟨g, 0, none⟩) n F) (hlen : n ≤ 1000000000000)
    (h : ∀ p c w', w'.ownsRow 0 35 2 (.slice p n c) n (cellsF F) → Below w.heap.size w w' → (∀ k, (Value.slice p n c).ownBlock = some k → w.heap.size ≤ k) → wpList Tryz.prog ops Q rest (a.put o.dst (.slice p n c)) w') : wpList Tryz.prog ops Q (o :: rest) a w := by
  obtain ⟨i0, hi, hz0, hz1, hz2⟩ := info_parts info35
  refine wpList_append_own_at w hgd s x 22 ho 0 35 i0 _ 2 32 Tryz.underlying22 hi hz0 hz1 hz2 rfl (by decide) (.slice none 0 0) 0 [] hs (World.ownsRow_nil _ _ _ _) ⟨g, 0, none⟩ n cap (cellsF F) hx (by rw [cellsF_len, hf.1]) ?_ (cellsF_one F) (by unfold maxLen; omega) (by omega) (Nat.zero_le _) ?_
  · intro j v hv
    obtain ⟨k, hk, hc⟩ := cellsF_get _ _ _ hv
    rw [← hf.1] at hk
    obtain ⟨p, q, e, hcells⟩ := hf.2 (by omega)
    cases e
    have hadd : ∀ i, (⟨g, 0, none⟩ : Addr).add i = ⟨g, 0 + i, none⟩ := fun i => by unfold Addr.add; split <;> simp_all
    rcases hc with ⟨rfl, rfl⟩ | ⟨rfl, rfl⟩
    · rw [hadd]; exact (hcells k hk).1
    · rw [hadd, ← Nat.add_assoc]; exact (hcells k hk).2
  · intro v' w' ho' hg _ hat
    rw [Nat.zero_add, List.nil_append] at ho'
    obtain ⟨p, c, rfl⟩ := owns_form ho'
    refine h p c w' ho' ((Below.refl _ _).grown hg (Nat.le_refl _) (fun k hk => by cases hk)) (fun k hk => ?_)
    rcases hat with q | q
    · rw [q] at hk; cases hk
    · rw [hk] at q
      have := Option.some.inj q
      omega
/-- A list, turned round so far. -/
def rvd (l : List Fl) (i : Nat) : List Fl := l.reverse.take i ++ l.drop i
theorem rvd_len (l : List Fl) (i : Nat) (h : i ≤ l.length) : (rvd l i).length = l.length := by simp [rvd]; omega
theorem rvd_zero (l : List Fl) : rvd l 0 = l := by simp [rvd]
theorem rvd_all (l : List Fl) : rvd l l.length = l.reverse := by
  unfold rvd
  rw [List.take_of_length_le (by simp), List.drop_of_length_le (by simp), List.append_nil]
theorem rvd_set (l : List Fl) (i : Nat) (h : i < l.length) : (rvd l i).set i (l.getD (l.length - 1 - i) fl0) = rvd l (i + 1) := by
  unfold rvd
  have hl : (l.reverse.take i).length = i := by simp; omega
  have e : l.getD (l.length - 1 - i) fl0 = l.reverse[i]'(by simpa using h) := by
    rw [List.getElem_reverse]
    have : l.length - 1 - i < l.length := by omega
    simp [this]
  rw [e, List.set_append, if_neg (by omega), hl, Nat.sub_self, List.drop_eq_getElem_cons h, List.set_cons_zero, List.take_succ_eq_append_getElem (by simpa using h), List.append_assoc]
  rfl
theorem rvd_lens {l : List Fl} (h : Lens l) : Lens l.reverse := by
  intro j
  by_cases hj : j < l.length
  · have e : l.reverse.getD j fl0 = l.getD (l.length - 1 - j) fl0 := by
      have h1 : j < l.reverse.length := by simpa using hj
      have h2 : l.length - 1 - j < l.length := by omega
      simp [h2, hj]
    rw [e]
    exact h _
  · have e : l.reverse.getD j fl0 = fl0 := by simp [List.getD, show l.reverse[j]? = none from List.getElem?_eq_none (by simp; omega)]
    rw [e]
    exact ⟨Nat.zero_le _, Nat.zero_le _⟩
/-- What lies in a lent block: so many fields, and four spare ones. -/
theorem Blk.front {g : Nat} {l t : List Fl} {w : World} (h : Blk g (l ++ t) w) : Fls w (some ⟨g, 0, none⟩) l.length l := by
  have q := h.fls
  refine ⟨rfl, fun h0 => ?_⟩
  obtain ⟨p, o, e, hc⟩ := q.2 (by simp; omega)
  refine ⟨p, o, e, fun j hj => ?_⟩
  have := hc j (by simp; omega)
  have e2 : (l ++ t).getD j fl0 = l.getD j fl0 := by
    rw [List.getD_eq_getElem?_getD, List.getElem?_append_left hj, List.getD_eq_getElem?_getD]
  rw [e2] at this
  exact this
end Go.Proofs.YthlacailhfhjnaaGreatDoor
