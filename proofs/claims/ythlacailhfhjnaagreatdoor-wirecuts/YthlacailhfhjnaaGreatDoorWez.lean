import Derived.Test.YthlacailhfhjnaaGreatDoorWdp
import Derived.Test.YthlacailhfhjnaaGreatDoorWco
import Derived.Test.YthlacailhfhjnaaGreatDoorWdo
import Derived.Test.YthlacailhfhjnaaGreatDoorWcf
import Derived.Test.YthlacailhfhjnaaGreatDoorWcp
import Derived.Test.YthlacailhfhjnaaGreatDoorWdt
import Derived.Deep.CutRange
namespace Go.Proofs.YthlacailhfhjnaaGreatDoor
open Go.RowKit Go.Lib
/-- Messages, printed one behind the other. -/
def prm (m : Ms) : Bs := lay (mline m.m m.p) m.hs m.b
def prs (l : List Ms) : Bs := l.flatMap prm
theorem prs_append (a b : List Ms) : prs (a ++ b) = prs a ++ prs b := by simp [prs]
theorem prm_fd {m : Ms} (h : may m = true) (t : Bs) (l : List Ms) : fd p0 (prm m ++ t) l = fd p0 t (l ++ [m]) := by
  have hb : m.b.length ≤ 4000 := by
    unfold may at h
    simp only [Bool.and_eq_true] at h
    exact (flw_len h.2).2.2
  obtain ⟨i, c, q, e, hr, s1, s2, s3⟩ := msg_back h (by have := dec_len m.b.length (by omega); omega)
  unfold prm
  rw [e, List.append_assoc, fd_run hr]
  simp only [List.cons_append, List.nil_append, fd]
  rw [if_neg (by simp [s1]), if_pos s2, s3]
theorem prs_fd {ms : List Ms} (h : ∀ m ∈ ms, may m = true) (t : Bs) (l : List Ms) : fd p0 (prs ms ++ t) l = fd p0 t (l ++ ms) := by
  induction ms generalizing l with
  | nil => simp [prs]
  | cons m ms ih =>
    have e : prs (m :: ms) ++ t = prm m ++ (prs ms ++ t) := by simp [prs]
    rw [e, prm_fd (h m List.mem_cons_self), ih (fun x hx => h x (List.mem_cons_of_mem _ hx))]
    simp
theorem fd_pre (p : Ps) (s t : Bs) (l : List Ms) (h : (fd p (s ++ t) l).2.2 = 0) : (fd p s l).2.2 = 0 := by
  rw [fd_append] at h
  split at h
  · exact h
  · rename_i q; simpa using q
/-- No beginning of what was printed is wrong. -/
theorem prs_ok {ms : List Ms} (h : ∀ m ∈ ms, may m = true) (t : Bs) (k : Nat) (hk : k ≤ (prs ms).length) : (fd p0 ((prs ms ++ t).take k) []).2.2 = 0 := by
  rw [List.take_append_of_le_length hk]
  refine fd_pre p0 _ ((prs ms).drop k) [] ?_
  rw [List.take_append_drop]
  have := prs_fd h [] []
  rw [List.append_nil] at this
  rw [this]
  rfl
theorem prs_first {ms : List Ms} (h : ∀ m ∈ ms, may m = true) (t : Bs) : ∃ l, (fd p0 (prs ms ++ t) []).2.1 = ms ++ l := by
  rw [prs_fd h, fd_acc]
  exact ⟨_, rfl⟩
theorem fd_err (p : Ps) (s : Bs) (l : List Ms) (h : (fd p s l).2.2 ≠ 0) : (fd p s l).1 = pov := by
  induction s generalizing p l with
  | nil => simp [fd] at h
  | cons b s ih =>
    simp only [fd] at h ⊢
    split
    · rename_i h1; exact step_err opM p b h1
    · rename_i h1
      rw [if_neg h1] at h
      split
      · rename_i h2; rw [if_pos h2] at h; exact ih _ _ h
      · rename_i h2; rw [if_neg h2] at h; exact ih _ _ h
/-- What is kept to all along: the parser, and the messages that were told. -/
theorem fd_ok (p : Ps) (s : Bs) (l : List Ms) (hp : OkP p) (h : (fd p s l).2.2 = 0) : OkP (fd p s l).1 := by
  induction s generalizing p l with
  | nil => exact hp
  | cons b s ih =>
    simp only [fd] at h ⊢
    split
    · rename_i h1; rw [if_pos h1] at h; exact absurd h h1
    · rename_i h1
      rw [if_neg h1] at h
      have h1' : (step opM p b).2 = 0 := by simpa using h1
      split
      · rename_i h2; rw [if_pos h2] at h; exact ih _ _ okP0 h
      · rename_i h2; rw [if_neg h2] at h; exact ih _ _ (step_ok opM p b hp h1' h2) h
theorem fd_cnt (p : Ps) (s : Bs) (l : List Ms) : (fd p s l).2.1.length ≤ l.length + s.length := by
  induction s generalizing p l with
  | nil => simp [fd]
  | cons b s ih =>
    simp only [fd, List.length_cons]
    split
    · simp
    · split
      · have := ih p0 (l ++ [(step opM p b).1.ms])
        simp at this ⊢
        omega
      · have := ih (step opM p b).1 l
        omega
theorem step_hs (op : Bs → Option Fst) (p : Ps) (b : UInt8) : (step op p b).1.hs.length ≤ p.hs.length + 1 := by
  have h0 : pov.hs.length = 0 := rfl
  unfold step
  split
  · split
    · unfold judge
      split
      · unfold jFst
        split
        · simp only [h0]; omega
        · split
          · simp
          · simp only [h0]; omega
      · split
        · unfold jEnd
          split <;> simp
        · unfold jHdr
          split
          · simp only [h0]; omega
          · split
            · unfold jLen
              split
              · simp only [h0]; omega
              · split
                · simp only [h0]; omega
                · simp
            · split
              · simp only [h0]; omega
              · simp
    · split
      · simp only [h0]; omega
      · simp
  · split <;> simp
theorem fd_hs (p : Ps) (s : Bs) (l : List Ms) (hp : OkP p) (hl : ∀ m ∈ l, m.hs.length ≤ 33) : ∀ m ∈ (fd p s l).2.1, m.hs.length ≤ 33 := by
  induction s generalizing p l with
  | nil => exact hl
  | cons b s ih =>
    simp only [fd]
    split
    · exact hl
    · rename_i h1
      have h1' : (step opM p b).2 = 0 := by simpa using h1
      split
      · refine ih _ _ okP0 ?_
        intro m hm
        rw [List.mem_append, List.mem_singleton] at hm
        rcases hm with hm | rfl
        · exact hl m hm
        · have := step_hs opM p b
          have := hp.2.2.1
          show (step opM p b).1.hs.length ≤ 33
          omega
      · rename_i h2
        exact ih _ _ (step_ok opM p b hp h1' h2) hl
theorem hs_getD {l : List Ms} (h : ∀ m ∈ l, m.hs.length ≤ 33) (j : Nat) (ms0 : Ms) (h0 : ms0.hs = []) : (l.getD j ms0).hs.length ≤ 1000000000000 := by
  by_cases hj : j < l.length
  · have e : l.getD j ms0 = l[j] := by simp [hj]
    rw [e]
    have := h _ (List.getElem_mem hj)
    omega
  · have e : l.getD j ms0 = ms0 := by simp [List.getD, show l[j]? = none from List.getElem?_eq_none (by omega)]
    rw [e, h0]
    exact Nat.zero_le _
/-- One more piece. -/
theorem cut_err (s : Bs) {a b : Nat} (hab : a ≤ b) (h : (fd p0 (s.take a) []).2.2 ≠ 0) : fd p0 (s.take b) [] = fd p0 (s.take a) [] ∧ feed (fd p0 (s.take a) []).1 ((s.take b).drop a) = (pov, [], 54) := by
  have e : s.take b = s.take a ++ (s.take b).drop a := by
    have q := List.take_append_drop a (s.take b)
    rw [List.take_take, Nat.min_eq_left hab] at q
    exact q.symm
  refine ⟨?_, ?_⟩
  · rw [e, fd_append, if_pos h]
  · rw [fd_err _ _ _ h]
    rfl
theorem cut_ok (s : Bs) {a b : Nat} (hab : a ≤ b) (h : (fd p0 (s.take a) []).2.2 = 0) : fd p0 (s.take b) [] = ((feed (fd p0 (s.take a) []).1 ((s.take b).drop a)).1, (fd p0 (s.take a) []).2.1 ++ (feed (fd p0 (s.take a) []).1 ((s.take b).drop a)).2.1, (feed (fd p0 (s.take a) []).1 ((s.take b).drop a)).2.2) := by
  have e : s.take b = s.take a ++ (s.take b).drop a := by
    have q := List.take_append_drop a (s.take b)
    rw [List.take_take, Nat.min_eq_left hab] at q
    exact q.symm
  have hok := fd_ok p0 (s.take a) [] okP0 h
  unfold feed
  rw [if_neg (by have := hok.1; omega)]
  conv => lhs; rw [e]
  rw [fd_append, if_neg (by simp [h]), fd_acc]
theorem feed_p0 (s : Bs) : feed p0 s = fd p0 s [] := rfl
end Go.Proofs.YthlacailhfhjnaaGreatDoor
namespace Go.Proofs.YthlacailhfhjnaaGreatDoor
open Go.RowKit Go.Lib
theorem app_nilM (p : Option Addr) (n c tt : Nat) (hc : n ≤ c) (w : World) : (Builtin.append_ #[54, 54] tt #[.slice p n c, .slice none 0 0]).run Tryz.prog w = .ok (.slice p n c) w := by
  obtain ⟨i0, hi, hz0, hz1, hz2⟩ := info_parts info24
  cases p <;> simp [Builtin.append_, run_underlying Tryz.underlying54, sizeOf, typeInfo, hi, Builtin.lenOf, Builtin.firstCells, loadCells, hc, storeCells]
theorem cellsM_len (l : List (Ms × Value)) : (cellsM l).length = l.length * 4 := by
  unfold cellsM
  induction l with
  | nil => rfl
  | cons f l ih => simp at ih ⊢; omega
theorem cellsM_one {l : List (Ms × Value)} (h : ∀ x ∈ l, ∃ p n c, x.2 = Value.slice p n c) : ∀ u ∈ cellsM l, u.oneCell' = true := by
  intro u hu
  unfold cellsM at hu
  rw [List.mem_flatMap] at hu
  obtain ⟨x, hx, hu⟩ := hu
  obtain ⟨p, n, c, e⟩ := h x hx
  simp only [List.mem_cons, List.not_mem_nil, or_false] at hu
  rcases hu with rfl | rfl | rfl | rfl
  · rfl
  · rfl
  · rw [e]; rfl
  · rfl
theorem MAt.ne {V : Value} {l : List (Ms × Value)} {M : Nat → Prop} {w : World} (h : MAt V l M w) (x : Ms × Value) (hx : x ∈ l) (k : Nat) (hk : x.2.ownBlock = some k) : V.ownBlock ≠ some k := by
  intro e
  obtain ⟨cs, q⟩ := owns_lt h.row k e
  obtain ⟨cs2, q2⟩ := owns_lt (h.hrow x hx) k hk
  have := q.symm.trans q2
  simp at this
/-- Messages behind messages. -/
theorem MAt.app {V V2 : Value} {l l2 : List (Ms × Value)} {M M2 : Nat → Prop} {w : World} (tt : Nat) (h : MAt V l M w) (h2 : MAt V2 l2 M2 w) (hd : ∀ k, M k → ¬ M2 k) (hn : l.length + l2.length ≤ 1000000000000) :
    ∃ V' M' w', (Builtin.append_ #[54, 54] tt #[V, V2]).run Tryz.prog w = .ok V' w' ∧ MAt V' (l ++ l2) M' w' ∧ Only M w w' ∧ (∀ k, M' k → M k ∨ M2 k ∨ w.heap.size ≤ k) := by
  rcases h2.row.2 with ⟨e, q⟩ | ⟨g, cap, cur, e1, e2, e3, e4, e5, e6, e7⟩
  · obtain rfl : l2 = [] := List.eq_nil_of_length_eq_zero q
    subst e
    rw [List.append_nil]
    refine ⟨V, M, w, ?_, h, Only.refl _ _, fun k hk => .inl hk⟩
    rcases h.row.2 with ⟨e, q⟩ | ⟨g, cap, cur, e1, e2, e3, e4, e5⟩
    · rw [e]; exact app_nilM _ _ _ _ (Nat.le_refl _) w
    · rw [e1]; exact app_nilM _ _ _ _ e4 w
  · obtain ⟨i0, hi, hz0, hz1, hz2⟩ := info_parts info24
    have hnew : ∀ j u, (cellsM l2)[j]? = some u → w.cell? ((⟨g, 0, none⟩ : Addr).add j) = some u := by
      intro j u hj
      have hadd : (⟨g, 0, none⟩ : Addr).add j = ⟨g, j, none⟩ := by unfold Addr.add; split <;> simp_all
      rw [hadd, cell_of_row w g j _ 24 (0, 0) e3]
      rw [← e7, List.getElem?_take] at hj
      split at hj
      · simpa using hj
      · cases hj
    have hone := cellsM_one (fun x hx => by
      obtain ⟨p, c, q⟩ := owns_form (h2.hrow x hx)
      exact ⟨p, _, c, q⟩)
    obtain ⟨V', w', hr, a2, a3, _, a5⟩ := run_append_own_at (P := Tryz.prog) w 0 54 tt 24 i0 _ 4 72 Tryz.underlying54 hi hz0 hz1 hz2 rfl (by decide) V l.length (cellsM l) h.row ⟨g, 0, none⟩ l2.length cap (cellsM l2) (cellsM_len l2) hnew hone (by unfold maxLen; omega) (by omega) (Nat.zero_le _)
    rw [e1]
    have ho := Only.of_grown a3
    have hlt : ∀ k, V'.ownBlock = some k → k < w'.heap.size := fun k hk => by
      obtain ⟨cs, q⟩ := owns_lt a2 k hk
      exact lt_of_row q
    refine ⟨V', fun k => (M k ∨ M2 k) ∨ V'.ownBlock = some k, w', hr, ⟨?_, ?_, fun k hk => .inr hk, ?_, ?_, ?_⟩, ho.mono (fun k _ hk => h.inV k hk), ?_⟩
    · rw [List.length_append, cellsM_append]; exact a2
    · intro x hx
      rw [List.mem_append] at hx
      rcases hx with hx | hx
      · exact owns_same (h.hrow x hx) (fun k hk => ho.block k (h.lt k (h.inH x hx k hk)) (h.ne x hx k hk))
      · exact owns_same (h2.hrow x hx) (fun k hk => ho.block k (h2.lt k (h2.inH x hx k hk)) (fun q => hd k (h.inV k q) (h2.inH x hx k hk)))
    · intro x hx k hk
      rw [List.mem_append] at hx
      rcases hx with hx | hx
      · exact .inl (.inl (h.inH x hx k hk))
      · exact .inl (.inr (h2.inH x hx k hk))
    · rw [List.pairwise_append]
      refine ⟨h.apart, h2.apart, fun x hx y hy k hk q => ?_⟩
      exact hd k (h.inH x hx k hk) (h2.inH y hy k q)
    · intro k hk
      rcases hk with (hk | hk) | hk
      · exact Nat.lt_of_lt_of_le (h.lt k hk) ho.size
      · exact Nat.lt_of_lt_of_le (h2.lt k hk) ho.size
      · exact hlt k hk
    · intro k hk
      rcases hk with (hk | hk) | hk
      · exact .inl hk
      · exact .inr (.inl hk)
      · rcases a5 with a5 | a5
        · exact .inl (h.inV k (by rw [← a5]; exact hk))
        · rw [hk] at a5
          exact .inr (.inr (by have := Option.some.inj a5; omega))
theorem wp_appM {ops : Array Oper} {rest : List Oper} {o : Oper} {a : Act} {Q : Exit → Act → World → Prop} (hgd : o.guard = none) (s x : Operand) (ho : o.op = .call { callee := .builtin .append, args := #[s, x], argTypes := #[54, 54] })
    {V V2 : Value} (hs : a.eval s = V) (hx : a.eval x = V2) {l l2 : List (Ms × Value)} {M M2 : Nat → Prop} {w : World} (h1 : MAt V l M w) (h2 : MAt V2 l2 M2 w) (hd : ∀ k, M k → ¬ M2 k) (hn : l.length + l2.length ≤ 1000000000000)
    (h : ∀ V' M' w', MAt V' (l ++ l2) M' w' → Only M w w' → (∀ k, M' k → M k ∨ M2 k ∨ w.heap.size ≤ k) → wpList Tryz.prog ops Q rest (a.put o.dst V') w') : wpList Tryz.prog ops Q (o :: rest) a w := by
  obtain ⟨V', M', w', hr, a1, a2, a3⟩ := h1.app o.type h2 hd hn
  refine wpList_plain hgd fun K hK => ?_
  unfold Oper.wp execOp
  simp only [ho, resolve, invoke, builtin, Sem.run_bind, Sem.run_pure, Result.andThen_ok, List.map_toArray, List.map_cons, List.map_nil, hs, hx, hr]
  exact hK _ _ (h V' M' w' a1 a2 a3)
/-- A row of one message, in a block that was just made. -/
theorem mat_one {w : World} {z : Ms} {a : Option Addr} {k : Nat} (hr : w.ownsRow 0 35 2 (.slice a z.hs.length k) z.hs.length (cellsF z.hs)) :
    MAt (.slice (some ⟨w.heap.size, 0, none⟩) 1 1) [(z, .slice a z.hs.length k)] (fun j => j = w.heap.size ∨ (Value.slice a z.hs.length k).ownBlock = some j) (w.alloc (.cells #[S z.m, S z.p, .slice a z.hs.length k, S z.b] 24)) := by
  refine ⟨⟨rfl, .inr ⟨w.heap.size, 1, _, rfl, Nat.zero_le _, heap_alloc_new _ _, Nat.le_refl _, by decide, rfl, rfl⟩⟩, ?_, ?_, ?_, ?_, ?_⟩
  · intro x hx
    obtain rfl := List.mem_singleton.1 hx
    exact owns_alloc hr _
  · intro k hk
    cases hk
    exact .inl rfl
  · intro x hx k hk
    obtain rfl := List.mem_singleton.1 hx
    exact .inr hk
  · exact List.pairwise_singleton _ _
  · intro j hj
    rcases hj with rfl | hj
    · simp
    · obtain ⟨cs, q⟩ := owns_lt hr j hj
      have := lt_of_row q
      simp
      omega
end Go.Proofs.YthlacailhfhjnaaGreatDoor
namespace Go.Proofs.YthlacailhfhjnaaGreatDoor
open Go.RowKit Go.Lib
/-- What one reader says of the first bytes; what the reader that has had some says of the next. -/
def fq (s : Bs) (a : Nat) : Ps × List Ms × Nat := fd p0 (s.take a) []
def pz (s : Bs) (a b : Nat) : Ps × List Ms × Nat := feed (fq s a).1 ((s.take b).drop a)
theorem fq_rd (s : Bs) (a : Nat) : (fq s a).1.rd ≤ s.length := by
  by_cases h : (fq s a).2.2 = 0
  · have := (fd_rd p0 (s.take a) [] (by decide) h).1
    have e : p0.rd = 0 := rfl
    rw [e, List.length_take] at this
    unfold fq
    omega
  · have := fd_err p0 (s.take a) [] h
    unfold fq
    rw [this]
    exact Nat.zero_le _
theorem fq_len (s : Bs) (a : Nat) : (fq s a).2.1.length ≤ s.length := by
  have := fd_cnt p0 (s.take a) []
  rw [List.length_take] at this
  unfold fq
  simp at this
  omega
theorem fq_err (s : Bs) {a b : Nat} (hab : a ≤ b) (h : (fq s a).2.2 ≠ 0) : fq s b = fq s a ∧ pz s a b = (pov, [], 54) ∧ (fq s a).1 = pov := ⟨(cut_err s hab h).1, (cut_err s hab h).2, fd_err _ _ _ h⟩
theorem fq_ok (s : Bs) {a b : Nat} (hab : a ≤ b) (h : (fq s a).2.2 = 0) : fq s b = ((pz s a b).1, (fq s a).2.1 ++ (pz s a b).2.1, (pz s a b).2.2) := cut_ok s hab h
/-- Between two pieces: what was told, and the reader. -/
structure Cut (W1 : World) (R : Nat) (s : Bs) (a : Nat) (V : Value) (wr : World) : Prop where
  ex : ∃ L O M, L.map (·.1) = (fq s a).2.1 ∧ MAt V L M wr ∧ Rdr R (fq s a).1 O wr ∧ (∀ k, O k → W1.heap.size ≤ k) ∧ (∀ k, M k → W1.heap.size ≤ k) ∧ (∀ k, O k → ¬ M k)
  bel : Below W1.heap.size W1 wr
/-- A piece was fed. -/
structure Mid (W1 : World) (R : Nat) (s : Bs) (a b : Nat) (V V2 : Value) (wr : World) : Prop where
  ex : ∃ L L2 O M M2, L.map (·.1) = (fq s a).2.1 ∧ L2.map (·.1) = (pz s a b).2.1 ∧ MAt V L M wr ∧ MAt V2 L2 M2 wr ∧ Rdr R (pz s a b).1 O wr ∧ (∀ k, O k → W1.heap.size ≤ k) ∧ (∀ k, M k → W1.heap.size ≤ k) ∧ (∀ k, M2 k → W1.heap.size ≤ k) ∧ (∀ k, O k → ¬ M k) ∧ (∀ k, O k → ¬ M2 k) ∧ (∀ k, M k → ¬ M2 k)
  bel : Below W1.heap.size W1 wr
variable {W1 wr w' : World} {R a b B : Nat} {s : Bs} {V V2 : Value}
theorem Cut.keep (h : Cut W1 R s a V wr) {X : Nat → Prop} (ho : Only X wr w') (hx : ∀ k, X k → wr.heap.size ≤ k) : Cut W1 R s a V w' := by
  obtain ⟨L, O, M, h1, h2, h3, h4, h5, h6⟩ := h.ex
  exact ⟨⟨L, O, M, h1, h2.keep ho (fun k hk q => by have := h2.lt k hk; have := hx k q; omega), h3.keep ho (fun k hk q => by have := h3.lt k hk; have := hx k q; omega), h4, h5, h6⟩, ho.below h.bel h.bel.size (fun k hk => Nat.le_trans h.bel.size (hx k hk))⟩
theorem Cut.below (h : Cut W1 R s a V wr) (hb : Below wr.heap.size wr w') : Cut W1 R s a V w' := h.keep (Only.of_below (P := fun _ => False) hb) (fun _ q => q.elim)
theorem MAt.form {V : Value} {l : List (Ms × Value)} {M : Nat → Prop} {w : World} (h : MAt V l M w) : ∃ p c, V = .slice p l.length c ∧ l.length ≤ c := by
  rcases h.row.2 with ⟨e, q⟩ | ⟨g, cap, cur, e1, e2, e3, e4, e5⟩
  · exact ⟨none, 0, by rw [e, q], by omega⟩
  · exact ⟨_, cap, e1, e4⟩
theorem Cut.form (h : Cut W1 R s a V wr) : ∃ p c, V = .slice p (fq s a).2.1.length c ∧ (fq s a).2.1.length ≤ c ∧ Mls wr p (fq s a).2.1.length (fq s a).2.1 := by
  obtain ⟨L, O, M, h1, h2, h3, h4, h5, h6⟩ := h.ex
  obtain ⟨p, c, e, hc⟩ := h2.form
  obtain ⟨p', c', e', hm⟩ := h2.mls
  rw [e] at e'
  rw [← h1]
  have hl : (L.map (·.1)).length = L.length := List.length_map _
  rw [hl] at e' hm ⊢
  injection e' with a1 a2 a3
  subst a1
  exact ⟨p, c, e, hc, hm⟩
theorem Cut.start (hR : ∃ O, Rdr R p0 O wr ∧ ∀ k, O k → W1.heap.size ≤ k) (hb : Below W1.heap.size W1 wr) (s : Bs) : Cut W1 R s 0 (.slice none 0 0) wr := by
  obtain ⟨O, h1, h2⟩ := hR
  exact ⟨⟨[], O, fun _ => False, rfl, MAt.nil wr, h1, h2, fun _ q => q.elim, fun _ _ q => q⟩, hb⟩
theorem cut_feed (h : Cut W1 R s a V wr) (hE : Env B W1) (hs : s.length ≤ 1000000000000) :
    Calls Tryz.prog 21 #[ptr R, S ((s.take b).drop a)] wr fun e w' => ∃ V2, e = .returned (.tuple #[V2, .int .i64 (pz s a b).2.2]) ∧ Mid W1 R s a b V V2 w' := by
  obtain ⟨L, O, M, h1, h2, h3, h4, h5, h6⟩ := h.ex
  have hl : ((s.take b).drop a).length ≤ s.length := by simp; omega
  have hrd := fq_rd s a
  refine (feed_any h3 (hE.below (h.bel.mono hE.le)) (fun k hk => Nat.le_trans hE.le (h4 k hk)) ((s.take b).drop a) (by omega) (by omega)).mono ?_
  rintro e w' ⟨V2, rfl, hF⟩
  obtain ⟨L2, O', M2, e1, hm, hr', s1, s2, s3⟩ := hF.ex
  have hsz := h.bel.size
  refine ⟨V2, rfl, ⟨⟨L, L2, O', M, M2, h1, e1.symm, h2.keep hF.only (fun k hk q => h6 k q hk), hm, hr', fun k hk => ?_, h5, fun k hk => ?_, fun k hk q => ?_, s3, fun k hk q => ?_⟩, hF.only.below h.bel h.bel.size h4⟩⟩
  · rcases s1 k hk with q | q
    · exact h4 k q
    · omega
  · rcases s2 k hk with q | q
    · exact h4 k q
    · omega
  · rcases s1 k hk with r | r
    · exact h6 k r q
    · have := h2.lt k q; omega
  · rcases s2 k q with r | r
    · exact h6 k r hk
    · have := h2.lt k hk; omega
theorem Mid.form (h : Mid W1 R s a b V V2 wr) : ∃ p c, V2 = .slice p (pz s a b).2.1.length c := by
  obtain ⟨L, L2, O, M, M2, h1, h2, h3, h4, _⟩ := h.ex
  obtain ⟨p, c, e, hc⟩ := h4.form
  rw [← h2, List.length_map]
  exact ⟨p, c, e⟩
theorem Mid.over (h : Mid W1 R s a b V V2 wr) (hab : a ≤ b) (he : (fq s a).2.2 ≠ 0) : Cut W1 R s b V wr := by
  obtain ⟨L, L2, O, M, M2, h1, h2, h3, h4, h5, h6, h7, h8, h9, h10, h11⟩ := h.ex
  obtain ⟨f1, f2, f3⟩ := fq_err s hab he
  rw [f2] at h5
  refine ⟨⟨L, O, M, by rw [f1]; exact h1, h3, by rw [f1, f3]; exact h5, h6, h7, h9⟩, h.bel⟩
theorem wp_told {ops : Array Oper} {rest : List Oper} {o : Oper} {ac : Act} {Q : Exit → Act → World → Prop} (hgd : o.guard = none) (x y : Operand) (ho : o.op = .call { callee := .builtin .append, args := #[x, y], argTypes := #[54, 54] })
    (hx : ac.eval x = V) (hy : ac.eval y = V2) (h : Mid W1 R s a b V V2 wr) (hab : a ≤ b) (he : (fq s a).2.2 = 0) (hs : s.length ≤ 1000000000000)
    (hn : ∀ V' w', Cut W1 R s b V' w' → wpList Tryz.prog ops Q rest (ac.put o.dst V') w') : wpList Tryz.prog ops Q (o :: rest) ac wr := by
  obtain ⟨L, L2, O, M, M2, h1, h2, h3, h4, h5, h6, h7, h8, h9, h10, h11⟩ := h.ex
  have f := fq_ok s hab he
  have hl := fq_len s b
  rw [f] at hl
  simp only [List.length_append] at hl
  rw [← h1, ← h2, List.length_map, List.length_map] at hl
  refine wp_appM hgd x y ho hx hy h3 h4 h11 (by omega) ?_
  intro V' M' w' m1 m2 m3
  refine hn V' w' ⟨⟨L ++ L2, O, M', by rw [f, List.map_append, h1, h2], m1, ?_, h6, fun k hk => ?_, fun k hk q => ?_⟩, m2.below h.bel h.bel.size h7⟩
  · rw [f]
    exact h5.keep m2 h9
  · rcases m3 k hk with q | q | q
    · exact h7 k q
    · exact h8 k q
    · exact Nat.le_trans h.bel.size q
  · rcases m3 k q with r | r | r
    · exact h9 k hk r
    · exact h10 k hk r
    · have := h5.lt k hk; omega
/-- The fresh reader beside it, that was fed all. -/
structure Beside (W1 : World) (R F : Nat) (s : Bs) (b : Nat) (V : Value) (wr : World) : Prop where
  cut : Cut W1 R s b V wr
  rdr : ∃ O, Rdr F (fq s b).1 O wr
theorem Beside.below {F : Nat} (h : Beside W1 R F s b V wr) (hb : Below wr.heap.size wr w') : Beside W1 R F s b V w' := by
  obtain ⟨O, h2⟩ := h.rdr
  exact ⟨h.cut.below hb, O, h2.below hb⟩
structure Fresh (W1 : World) (R F : Nat) (s : Bs) (b : Nat) (V : Value) (wr : World) : Prop where
  ex : ∃ w3 O, Cut W1 R s b V w3 ∧ Rdr F p0 O wr ∧ (∀ k, O k → w3.heap.size ≤ k) ∧ Below w3.heap.size w3 wr
theorem cut_fresh (h : Cut W1 R s b V wr) :
    Calls Tryz.prog 19 #[] wr fun e w' => ∃ F, e = .returned (ptr F) ∧ Fresh W1 R F s b V w' := by
  refine (newReader_any wr).mono ?_
  rintro e w' ⟨F, O, rfl, h1, h2, h3⟩
  exact ⟨F, rfl, ⟨wr, O, h, h1, h2, h3⟩⟩
theorem fresh_feed {F : Nat} (h : Fresh W1 R F s b V wr) (hE : Env B W1) (hs : s.length ≤ 1000000000000) :
    Calls Tryz.prog 21 #[ptr F, S (s.take b)] wr fun e w' => ∃ p c, e = .returned (.tuple #[.slice p (fq s b).2.1.length c, .int .i64 (fq s b).2.2]) ∧ Mls w' p (fq s b).2.1.length (fq s b).2.1 ∧ Beside W1 R F s b V w' := by
  obtain ⟨w3, O, h1, h2, h3, h4⟩ := h.ex
  have hsz := h1.bel.size
  have hl : (s.take b).length ≤ s.length := by simp; omega
  refine (feed_any h2 (hE.below ((h1.bel.trans (h4.mono hsz)).mono hE.le)) (fun k hk => Nat.le_trans (Nat.le_trans hE.le hsz) (h3 k hk)) (s.take b) (by omega) (by simp only [show p0.rd = 0 from rfl]; omega)).mono ?_
  rintro e w' ⟨V3, rfl, hF⟩
  obtain ⟨L3, O3, M3, e1, hm, hr', s1, s2, s3⟩ := hF.ex
  have e0 : feed p0 (s.take b) = fq s b := rfl
  rw [e0] at e1 hr'
  rw [e0]
  obtain ⟨p, c, e2, hl3⟩ := hm.mls
  rw [← e1] at e2 hl3
  subst e2
  obtain ⟨L, O1, M, g1, g2, g3, g4, g5, g6⟩ := h1.ex
  have hlt3 := h4.size
  refine ⟨p, c, rfl, hl3, ⟨⟨⟨L, O1, M, g1, ?_, ?_, g4, g5, g6⟩, ?_⟩, O3, hr'⟩⟩
  · exact (g2.keep (Only.of_below (P := fun _ => False) h4) (fun _ _ q => q)).keep hF.only (fun k hk q => by have := g2.lt k hk; have := h3 k q; omega)
  · exact (g3.below h4).keep hF.only (fun k hk q => by have := g3.lt k hk; have := h3 k q; omega)
  · exact hF.only.below (h1.bel.trans (h4.mono hsz)) (Nat.le_trans hsz hlt3) (fun k hk => Nat.le_trans hsz (h3 k hk))
theorem beside_same {F : Nat} {p : Option Addr} {c : Nat} (h : Beside W1 R F s b V wr) (hm : Mls wr p (fq s b).2.1.length (fq s b).2.1) (hs : s.length ≤ 1000000000000) :
    Calls Tryz.prog 23 #[.slice p (fq s b).2.1.length c, V] wr fun e w' => e = .returned (.bool true) ∧ Beside W1 R F s b V w' := by
  obtain ⟨p', c', e, _, hm'⟩ := h.cut.form
  subst e
  have hl := fq_len s b
  refine (messages_eq p p' _ c c' _ wr hm hm' (by omega) (fun j => hs_getD (fd_hs p0 (s.take b) [] okP0 (fun m hm => nomatch hm)) j ms0 rfl)).mono ?_
  rintro e w' ⟨rfl, hb⟩
  exact ⟨rfl, h.below hb⟩
theorem beside_waits {F : Nat} (h : Beside W1 R F s b V wr) :
    Calls Tryz.prog 25 #[ptr R] wr (fun e w' => e = .returned (.int .i64 (fq s b).1.rd) ∧ w' = wr) ∧ Calls Tryz.prog 25 #[ptr F] wr (fun e w' => e = .returned (.int .i64 (fq s b).1.rd) ∧ w' = wr) := by
  obtain ⟨L, O, M, h1, h2, h3, _⟩ := h.cut.ex
  obtain ⟨O', h4⟩ := h.rdr
  exact ⟨waiting_any h3, waiting_any h4⟩
end Go.Proofs.YthlacailhfhjnaaGreatDoor
namespace Go.Proofs.YthlacailhfhjnaaGreatDoor
open Go.RowKit Go.Lib
theorem addv_100 {x y : Int} (hx : 0 ≤ x) (hy : 100 ≤ y) : 100 ≤ addv x y := by
  unfold addv
  split <;> omega
theorem siz_100 (m : Ms) : 100 ≤ siz m := by
  have h1 : 100 ≤ addv (m.b.length : Int) 100 := addv_100 (by omega) (by omega)
  have h2 := addv_100 (wgt_bd m.hs).1 h1
  exact addv_100 (addv_bd2 (by omega) (by omega)).1 h2
theorem prm_len {m : Ms} (h : may m = true) : (prm m).length ≤ 40000 := by
  unfold may at h
  simp only [Bool.and_eq_true] at h
  have hl := (mline_op h.1.1 h.1.2).2.2
  obtain ⟨h1, h2, h3⟩ := flw_len h.2
  have h4 := dec_len m.b.length (by omega)
  unfold prm lay hln
  simp [CL]
  omega
theorem prs_len {l : List Ms} (h : ∀ m ∈ l, may m = true) : (prs l).length ≤ l.length * 40000 := by
  induction l with
  | nil => simp [prs]
  | cons m l ih =>
    have h1 := prm_len (h m List.mem_cons_self)
    have h2 := ih (fun x hx => h x (List.mem_cons_of_mem _ hx))
    have e : prs (m :: l) = prm m ++ prs l := by simp [prs]
    rw [e, List.length_append, List.length_cons]
    omega
theorem prm_pmsg {m : Ms} (h : may m = true) : pmsg m = (prm m, 0) := by unfold pmsg prm; rw [if_pos h]
/-- What is wanted, so far. -/
structure Wnt (w : World) (V : Value) (zs : List Ms) (wr : World) : Prop where
  ex : ∃ L M, L.map (·.1) = zs ∧ MAt V L M wr ∧ (∀ k, M k → w.heap.size ≤ k)
  bel : Below w.heap.size w wr
/-- The same, and one message more that is at hand. -/
structure Wnz (w : World) (V : Value) (zs : List Ms) (z : Ms) (a : Option Addr) (c : Nat) (wr : World) : Prop where
  ex : ∃ L M, L.map (·.1) = zs ∧ MAt V L M wr ∧ (∀ k, M k → w.heap.size ≤ k) ∧ (∀ k, (Value.slice a z.hs.length c).ownBlock = some k → w.heap.size ≤ k ∧ ¬ M k)
  row : wr.ownsRow 0 35 2 (.slice a z.hs.length c) z.hs.length (cellsF z.hs)
  bel : Below w.heap.size w wr
variable {w wr w' : World} {V : Value} {zs : List Ms} {z : Ms} {a : Option Addr} {c : Nat}
theorem MAt.below {V : Value} {l : List (Ms × Value)} {M : Nat → Prop} {w w' : World} (h : MAt V l M w) (hb : Below w.heap.size w w') : MAt V l M w' := h.keep (Only.of_below (P := fun _ => False) hb) (fun _ _ q => q)
theorem Wnt.start (w : World) : Wnt w (.slice none 0 0) [] w := ⟨⟨[], fun _ => False, rfl, MAt.nil w, fun _ q => q.elim⟩, Below.refl _ _⟩
theorem Wnt.below (h : Wnt w V zs wr) (hb : Below wr.heap.size wr w') : Wnt w V zs w' := by
  obtain ⟨L, M, h1, h2, h3⟩ := h.ex
  exact ⟨⟨L, M, h1, h2.below hb, h3⟩, h.bel.trans (hb.mono h.bel.size)⟩
theorem Wnt.more (h : Wnt w V zs wr) (hk : Mok z a c wr w') : Wnz w V zs z a c w' := by
  obtain ⟨L, M, h1, h2, h3⟩ := h.ex
  refine ⟨⟨L, M, h1, h2.below hk.bel, h3, fun k q => ⟨Nat.le_trans h.bel.size (hk.new k q), fun r => ?_⟩⟩, hk.row, h.bel.trans (hk.bel.mono h.bel.size)⟩
  have := h2.lt k r
  have := hk.new k q
  omega
theorem Wnz.below (h : Wnz w V zs z a c wr) (hb : Below wr.heap.size wr w') : Wnz w V zs z a c w' := by
  obtain ⟨L, M, h1, h2, h3, h4⟩ := h.ex
  exact ⟨⟨L, M, h1, h2.below hb, h3, h4⟩, owns_same h.row (fun k hk => by
    obtain ⟨cs, q⟩ := owns_lt h.row k hk
    exact hb.block k (lt_of_row q)), h.bel.trans (hb.mono h.bel.size)⟩
theorem Wnz.fls (h : Wnz w V zs z a c wr) : Fls wr a z.hs.length z.hs := owns_fls h.row rfl
theorem wp_want {ops : Array Oper} {rest : List Oper} {o : Oper} {ac : Act} {Q : Exit → Act → World → Prop} (hgd : o.guard = none) (x y : Operand) (ho : o.op = .call { callee := .builtin .append, args := #[x, y], argTypes := #[54, 54] })
    (hx : ac.eval x = V) (hy : ac.eval y = .slice (some ⟨wr.heap.size, 0, none⟩) 1 1) (h : Wnz w V zs z a c wr) (hs : zs.length ≤ 100000000000)
    (hn : ∀ V' w', Wnt w V' (zs ++ [z]) w' → wpList Tryz.prog ops Q rest (ac.put o.dst V') w') : wpList Tryz.prog ops Q (o :: rest) ac (wr.alloc (.cells #[S z.m, S z.p, .slice a z.hs.length c, S z.b] 24)) := by
  obtain ⟨L, M, h1, h2, h3, h4⟩ := h.ex
  have b1 := (Below.refl wr.heap.size wr).alloc (Nat.le_refl _) (.cells #[S z.m, S z.p, .slice a z.hs.length c, S z.b] 24)
  refine wp_appM hgd x y ho hx hy (h2.below b1) (mat_one h.row) (fun k hk q => ?_) (by rw [← h1, List.length_map] at hs; simp; omega) ?_
  · rcases q with rfl | q
    · have := h2.lt _ hk; omega
    · exact (h4 k q).2 hk
  · intro V' M' w' m1 m2 m3
    refine hn V' w' ⟨⟨_, M', by rw [List.map_append, h1]; rfl, m1, fun k hk => ?_⟩, m2.below (h.bel.trans (b1.mono h.bel.size)) (Nat.le_trans h.bel.size b1.size) h3⟩
    rcases m3 k hk with q | q | q
    · exact h3 k q
    · rcases q with rfl | q
      · exact h.bel.size
      · exact (h4 k q).1
    · exact Nat.le_trans h.bel.size (Nat.le_trans b1.size q)
/-- Numbers, one behind the other in memory. -/
def Ils (w : World) (a : Option Addr) (n : Nat) (zs : List Int) : Prop :=
  n = zs.length ∧ (0 < n → ∃ p o, a = some ⟨p, o, none⟩ ∧ ∀ j, j < n → w.cell? ⟨p, o + j, none⟩ = some (.int .i64 (zs.getD j 0)))
theorem Ils.below {n : Nat} {zs : List Int} (h : Ils w a n zs) (hb : Below w.heap.size w w') : Ils w' a n zs := by
  refine ⟨h.1, fun hn => ?_⟩
  obtain ⟨p, o, e, hc⟩ := h.2 hn
  exact ⟨p, o, e, fun j hj => (hb.cell (by exact blk_lt (hc j hj))).trans (hc j hj)⟩
/-- How long a message's texts can be. -/
structure Lnm (m : Ms) : Prop where
  x1 : Lens m.hs
  x2 : m.hs.length ≤ 140737488351232
  x3 : m.m.length ≤ 140737488351232
  x4 : m.p.length ≤ 140737488351232
  x5 : m.b.length ≤ 140737488351232
/-- The printed messages come first. -/
theorem Mls.take {n k : Nat} {ms : List Ms} {p : Option Addr} (h : Mls w p n ms) (hk : k ≤ n) : Mls w p k (ms.take k) := by
  have hn := h.1
  refine ⟨by simp; omega, fun h0 => ?_⟩
  obtain ⟨q, o, e, hc⟩ := h.2 (by omega)
  refine ⟨q, o, e, fun j hj => ?_⟩
  have e2 : (ms.take k).getD j ms0 = ms.getD j ms0 := by simp [List.getD, hj]
  rw [e2]
  exact hc j (by omega)
end Go.Proofs.YthlacailhfhjnaaGreatDoor
namespace Go.Proofs.YthlacailhfhjnaaGreatDoor
open Go.RowKit Go.Lib
set_option maxHeartbeats 8000000 in
set_option maxRecDepth 8000 in
theorem wireCuts_any {B : Nat} (pm : Option Addr) (nm cm : Nat) (ms : List Ms) (tail : Bs) (pc : Option Addr) (nc cc : Nat) (cs : List Int) (w : World) (hE : Env B w)
    (hM : Mls w pm nm ms) (hL : ∀ j, Lnm (ms.getD j ms0)) (hnm : nm ≤ 140737488351232) (htl : tail.length ≤ 140737488351232)
    (hC : Ils w pc nc cs) (hci : ∀ j, -9223372036854775808 ≤ cs.getD j 0 ∧ cs.getD j 0 ≤ 9223372036854775807) (hnc : nc ≤ 140737488351232) :
    Calls Tryz.prog 6 #[.slice pm nm cm, S tail, .slice pc nc cc] w fun e w' => e = .returned (.bool true) ∧ Below w.heap.size w w' := by
  have HE := hide (And.intro hE (And.intro hM hC))
  have HL := hide hL
  have HI := hide hci
  clear hE hM hC hL hci
  have A0 := hide (fun W => add2_any tail.length 100 W (by omega) (by omega) (by omega) (by omega))
  have hq0 := addv_bd2 (show (0 : Int) ≤ tail.length by omega) (show (0 : Int) ≤ 100 by omega)
  have hq1 : addv (tail.length : Int) 100 ≤ 2147483647 → (tail.length : Int) ≤ addv (tail.length : Int) 100 := by
    unfold addv
    split <;> omega
  generalize addv (tail.length : Int) 100 = Z0 at *
  go_enter Tryz.func6, Tryz.ntmps6
  go_wp2_with fail
  refine (unhide A0 _).mono ?_
  rintro e w0 ⟨rfl, hw⟩
  rw [hw]
  clear hw w0 A0
  go_wp2_with fail
  go_loopw [7, 8] (fun mo i wr => ∃ (k : Nat) (Z : Int), k ≤ nm ∧ i = .int .i64 k ∧ mo = .int .i64 Z ∧ 0 ≤ Z ∧ Z ≤ 2147483648 ∧ (Z ≤ 2147483647 → (k : Int) * 100 + tail.length ≤ Z) ∧ Below w.heap.size w wr) (fun _ i _ => nm - (Go.RowKit.intOf i).toNat)
  case atStart => exact ⟨0, Z0, by omega, rfl, rfl, hq0.1, hq0.2, by omega, Below.refl _ _⟩
  case round =>
    obtain ⟨k, Z, hk, rfl, rfl, hz0, hz1, hz2, hb⟩ := hrel
    have HB := hide hb
    clear hb
    by_cases hlt : k < nm
    · by_cases hz : Z ≤ 2147483647
      · have hm1 := (unhide HE).2.1.below (unhide HB)
        obtain ⟨p1, q1, rfl, f1⟩ := hm1.2 (by omega)
        obtain ⟨b1, d1, x0, x1, x2, x3, x4⟩ := f1 k hlt
        have hsk := unhide HL k
        generalize ms.getD k ms0 = F at *
        have HS := hide (size_any F b1 F.hs.length d1 wr x4 hsk.x2 hsk.x1 hsk.x3 hsk.x4 hsk.x5)
        have hs1 := sizbd F
        have hs2 := siz_100 F
        have hz3 := hz2 hz
        have A1 := hide (fun W => add2_any Z (siz F) W hz0 hs1.1 (by omega) (by omega))
        have hq2 := addv_bd2 hz0 hs1.1
        have hq3 : addv Z (siz F) ≤ 2147483647 → Z + siz F ≤ addv Z (siz F) := by
          unfold addv
          split <;> omega
        generalize addv Z (siz F) = Y at *
        generalize siz F = SF at *
        have hlt' : (k : Int) < (nm : Int) := by omega
        clear hm1 f1 x4 hsk
        go_wp2_with fail
        refine (unhide HS).mono ?_
        rintro e w2 ⟨rfl, b2⟩
        have HB2 := hide ((unhide HB).trans (b2.mono (unhide HB).size))
        clear b2 HS x0 x1 x2 x3
        go_wp2_with fail
        refine (unhide A1 _).mono ?_
        rintro e w3 ⟨rfl, hw⟩
        rw [hw]
        clear hw w3 A1
        go_wp2_with fail
        go_roundw
        case rel => exact ⟨k + 1, Y, by omega, by go_num, rfl, hq2.1, hq2.2, by omega, unhide HB2⟩
        case measure => simp [Go.RowKit.intOf]; omega
      · have hlt' : (k : Int) < (nm : Int) := by omega
        have hzd : decide (Z ≤ 2147483647) = false := by simpa using hz
        clear hz2 hq0 hq1
        go_wp2_with fail
        go_loopw [9, 10] (fun n i wr => i = .int .i64 0 ∧ n = .int .i64 Z ∧ Below w.heap.size w wr) (fun _ _ _ => 0)
        case atStart => exact ⟨rfl, rfl, unhide HB⟩
        case round =>
          obtain ⟨rfl, rfl, hb⟩ := hrel
          have HB2 := hide hb
          clear hb
          by_cases hc : 0 < nc
          · have hc' : (0 : Int) < (nc : Int) := by omega
            have hz9 : (2147483647 : Int) < Z := by omega
            go_wp2
            go_ret
            exact ⟨rfl, unhide HB2⟩
          · have hc' : decide ((0 : Int) < (nc : Int)) = false := by simp; omega
            have hz9 : (2147483647 : Int) < Z := by omega
            go_wp2
            go_ret
            exact ⟨rfl, unhide HB2⟩
    · have hd : decide ((k : Int) < (nm : Int)) = false := by simp; omega
      have hkn : k = nm := by omega
      subst hkn
      go_wp2_with fail
      go_loopw [9, 10] (fun n i wr => ∃ (j : Nat) (Y : Int), j ≤ nc ∧ i = .int .i64 j ∧ n = .int .i64 Y ∧ 0 ≤ Y ∧ Y ≤ 2147483648 ∧ (Y ≤ 2147483647 → Z ≤ Y) ∧ Below w.heap.size w wr) (fun _ i _ => nc - (Go.RowKit.intOf i).toNat)
      case atStart => exact ⟨0, Z, by omega, rfl, rfl, hz0, hz1, fun _ => Int.le_refl _, unhide HB⟩
      case round =>
        obtain ⟨j, Y, hj, rfl, rfl, hy0, hy1, hy2, hb⟩ := hrel
        have HB2 := hide hb
        clear hb
        by_cases hlc : j < nc
        · have hlc' : (j : Int) < (nc : Int) := by omega
          by_cases hy : Y ≤ 2147483647
          · have A1 := hide (fun W => add2_any Z Z W hz0 hz0 (by omega) (by omega))
            have hq2 := addv_bd2 hz0 hz0
            have A2 := hide (fun W => add2_any Y (addv Z Z) W hy0 hq2.1 (by omega) (by omega))
            have hq3 := addv_bd2 hy0 hq2.1
            have hq4 : addv Y (addv Z Z) ≤ 2147483647 → Y ≤ addv Y (addv Z Z) := by
              unfold addv
              split <;> split <;> omega
            generalize addv Y (addv Z Z) = X at *
            generalize addv Z Z = ZZ at *
            go_wp2_with fail
            refine (unhide A1 _).mono ?_
            rintro e w3 ⟨rfl, hw⟩
            rw [hw]
            clear hw w3 A1
            go_wp2_with fail
            refine (unhide A2 _).mono ?_
            rintro e w3 ⟨rfl, hw⟩
            rw [hw]
            clear hw w3 A2
            go_wp2_with fail
            go_roundw
            case rel => exact ⟨j + 1, X, by omega, by go_num, rfl, hq3.1, hq3.2, by omega, unhide HB2⟩
            case measure => simp [Go.RowKit.intOf]; omega
          · have hyd : decide (Y ≤ 2147483647) = false := by simpa using hy
            have hz9 : (2147483647 : Int) < Y := by omega
            go_wp2
            go_ret
            exact ⟨rfl, unhide HB2⟩
        · have hlc' : decide ((j : Int) < (nc : Int)) = false := by simp; omega
          by_cases hy : 2147483647 < Y
          · go_wp2
            go_ret
            exact ⟨rfl, unhide HB2⟩
          · have hyd : decide ((2147483647 : Int) < Y) = false := by simpa using hy
            have hgood : (k : Int) * 100 + tail.length ≤ 2147483647 := by
              have := hy2 (by omega)
              have := hz2 (by omega)
              omega
            clear hq0 hq1 hz0 hz1 hz2 hy0 hy1 hy2
            go_wp2_with fail
            have H3 := hide (awake_any wr ((unhide HE).1.below ((unhide HB2).mono (unhide HE).1.le)))
            refine (unhide H3).mono ?_
            rintro e w4 ⟨rfl, b4⟩
            have HB3 := hide ((unhide HB2).trans (b4.mono (unhide HB2).size))
            clear H3 b4
            go_wp2_with fail
            go_loopw [12, 13, 14] (fun s V i wr => ∃ (t : Nat) (zs : List Ms), t ≤ k ∧ i = .int .i64 t ∧ s = S (prs zs) ∧ zs.length = t ∧ (∀ z ∈ zs, may z = true) ∧ Wnt w V zs wr) (fun _ _ i _ => k - (Go.RowKit.intOf i).toNat)
            case atStart => exact ⟨0, [], by omega, rfl, rfl, rfl, (fun z hz => nomatch hz), ⟨[], fun _ => False, rfl, MAt.nil w4, fun _ q => q.elim⟩, unhide HB3⟩
            case round =>
              obtain ⟨t, zs, ht, rfl, rfl, hzl, hzm, hwn⟩ := hrel
              have hpl := prs_len hzm
              have HW := hide (And.intro hzm hwn)
              clear hzm hwn
              by_cases htk : t < k
              · have htk' : (t : Int) < (k : Int) := by omega
                have hm1 := (unhide HE).2.1.below (unhide HW).2.bel
                obtain ⟨p1, q1, rfl, f1⟩ := hm1.2 (by omega)
                obtain ⟨b1, d1, x0, x1, x2, x3, x4⟩ := f1 t htk
                have hsk := unhide HL t
                generalize ms.getD t ms0 = F at *
                have HS := hide (message_any F b1 F.hs.length d1 wr x4 hsk.x1 hsk.x2 hsk.x3 hsk.x4 hsk.x5)
                clear hm1 f1 x4 hsk
                go_wp2_with fail
                refine (unhide HS).mono ?_
                rintro e w5 ⟨z, za, zk, rfl, hok⟩
                have hmay := hok.may
                have HW5 := hide (And.intro (unhide HW).1 ((unhide HW).2.more hok))
                clear hok HS x0 x1 x2 x3
                go_wp2_with fail
                change Calls Tryz.prog 31 #[.agg #[S z.m, S z.p, .slice za z.hs.length zk, S z.b]] (w5.alloc (.cells #[S z.m, S z.p, .slice za z.hs.length zk, S z.b] 24)) _
                have b6 := (Below.refl w5.heap.size w5).alloc (Nat.le_refl _) (.cells #[S z.m, S z.p, .slice za z.hs.length zk, S z.b] 24)
                have u6' := heap_alloc_new w5 (.cells #[S z.m, S z.p, .slice za z.hs.length zk, S z.b] 24)
                generalize w5.alloc (.cells #[S z.m, S z.p, .slice za z.hs.length zk, S z.b] 24) = w6 at *
                have hw6 := (unhide HW5).2.below b6
                have hm2 := hmay
                unfold may at hm2
                simp only [Bool.and_eq_true] at hm2
                have hz := flw_len hm2.2
                have H14 := printMessage_any z za z.hs.length zk w6 hw6.fls ((unhide HE).1.below (hw6.bel.mono (unhide HE).1.le)) (lens_flw hm2.2) (by have := meth_len hm2.1.1; omega) (by have := pth_len hm2.1.2; omega) (by omega) (by omega)
                rw [prm_pmsg hmay] at H14
                have X6 := hide (And.intro u6' hw6)
                clear b6 u6' hw6 hz hm2 HW5
                refine H14.mono ?_
                rintro e w7 ⟨rfl, b7⟩
                clear H14
                have u7 := (b7.block _ (lt_of_row (unhide X6).1)).trans (unhide X6).1
                have X7 := hide (unhide X6).2
                have X8 := hide ((unhide X6).2.below b7)
                have d0 : w7.cell? ⟨w5.heap.size, 0, none⟩ = some (S z.m) := cell_of_row w7 _ 0 _ 24 (0, 0) u7
                have d1 : w7.cell? ⟨w5.heap.size, 1, none⟩ = some (S z.p) := cell_of_row w7 _ 1 _ 24 (0, 0) u7
                have d2 : w7.cell? ⟨w5.heap.size, 2, none⟩ = some (.slice za z.hs.length zk) := cell_of_row w7 _ 2 _ 24 (0, 0) u7
                have d3 : w7.cell? ⟨w5.heap.size, 3, none⟩ = some (S z.b) := cell_of_row w7 _ 3 _ 24 (0, 0) u7
                clear b7 u7 X6 X7
                have hT1 : (prs zs).length ≤ 1000000000000 := by omega
                have hT2 := prm_len hmay
                go_wp2_with (first | (at_builtin; refine wp_want (z := z) rfl (.tmp 91) (.tmp 93) rfl (by rfl) (by rfl) (unhide X8) (by omega) ?_) | fail)
                intro V' w8 hw8
                have HW8 := hide hw8
                clear hw8 X8 d0 d1 d2 d3
                go_wp2_with fail
                refine ⟨⟨t + 1, zs ++ [z], by omega, by go_num, ?_, by simp [hzl], ?_, unhide HW8⟩, by simp [Go.RowKit.intOf]; omega⟩
                · rw [ba_append, prs_append]
                  simp [prs]
                · intro y hy
                  rw [List.mem_append, List.mem_singleton] at hy
                  rcases hy with hy | rfl
                  · exact (unhide HW).1 y hy
                  · exact hmay
              · have htk' : decide ((t : Int) < (k : Int)) = false := by simp; omega
                have hT1 : (prs zs).length ≤ 900000000000 := by omega
                have hT2 : tail.length ≤ 2147483647 := by omega
                have hT3 : (prs zs ++ tail).length ≤ 1000000000000 := by simp; omega
                have PF := hide (And.intro (fun b (hb : b ≤ (prs zs).length) => show (fq (prs zs ++ tail) b).2.2 = 0 from prs_ok (unhide HW).1 tail b hb) (show ∃ l, (fq (prs zs ++ tail) (prs zs ++ tail).length).2.1 = zs ++ l by
                  obtain ⟨l, h⟩ := prs_first (unhide HW).1 tail
                  exact ⟨l, by unfold fq; rw [List.take_length]; exact h⟩))
                have HN := hide (newReader_any wr)
                go_wp2_with fail
                refine (unhide HN).mono ?_
                rintro e w5 ⟨R, O, rfl, hr, hO, b5⟩
                have HC := hide (Cut.start (W1 := wr) ⟨O, hr, hO⟩ b5 (prs zs ++ tail))
                clear hr hO b5 HN
                rw [ba_append]
                generalize prs zs ++ tail = X at *
                generalize (prs zs).length = Wl at *
                go_wp2_with fail
                have hzn : zs.length ≤ 21474836 := by omega
                clear HB HB2 HB3 HL hgood hnm
                obtain ⟨W1, rfl⟩ : ∃ W1, W1 = wr := ⟨_, rfl⟩
                have HE1 : Hid (Env B W1 ∧ Ils W1 pc nc cs) := hide ⟨(unhide HE).1.below ((unhide HW).2.bel.mono (unhide HE).1.le), (unhide HE).2.2.below (unhide HW).2.bel⟩
                go_loopw [20, 21, 22, 23] (fun V f at' i wq => ∃ a j : Nat, j ≤ nc + 1 ∧ i = .int .i64 j ∧ at' = .int .i64 a ∧ a ≤ X.length ∧ (j = nc + 1 → a = X.length) ∧ f = .int .i64 (fq X a).2.2 ∧ Cut W1 R X a V wq) (fun _ _ _ i _ => nc + 1 - (Go.RowKit.intOf i).toNat)
                case atStart => exact ⟨0, 0, by omega, rfl, rfl, by omega, by omega, rfl, unhide HC⟩
                case round =>
                  obtain ⟨a, j2, hj2, rfl, rfl, ha, hend, rfl, hct⟩ := hrel
                  have HC2 := hide hct
                  clear hct HC
                  by_cases hjl : j2 ≤ nc
                  · have hjl' : (j2 : Int) ≤ (nc : Int) := by omega
                    go_upto_if 118 with fail
                    go_cut [24] from 107 to 190 (fun s24 wx => ∃ b : Nat, a ≤ b ∧ b ≤ X.length ∧ (j2 = nc → b = X.length) ∧ s24 = .int .i64 b ∧ wx = wr)
                    case first =>
                      by_cases hjc : j2 < nc
                      · have hjc' : (j2 : Int) < (nc : Int) := by omega
                        obtain ⟨p3, q3, hpc, f3⟩ := ((unhide HE1).2.below (unhide HC2).bel).2 (by omega)
                        subst hpc
                        have c3 := f3 j2 hjc
                        have hci := unhide HI j2
                        generalize cs.getD j2 0 = C at *
                        have HP := hide (fun W => pick_any C (X.length - a + 1) W (by omega) (by omega) hci.1 hci.2)
                        have hpk := pkv_lt C (X.length - a + 1) (by omega)
                        generalize pkv C (X.length - a + 1) = kk at *
                        rw [show (((X.length - a + 1 : Nat)) : Int) = (X.length : Int) - a + 1 by omega] at HP
                        clear f3 hci
                        go_wp2_with fail
                        refine (unhide HP _).mono ?_
                        rintro e w6 ⟨rfl, hw⟩
                        rw [hw]
                        clear hw w6 HP
                        go_wp2_with fail
                        go_meet
                        case rel => exact ⟨a + kk, by omega, by omega, by omega, by go_num, rfl⟩
                      · have hjc' : decide ((j2 : Int) < (nc : Int)) = false := by simp; omega
                        go_wp2_with fail
                        go_meet
                        case rel => exact ⟨X.length, by omega, by omega, by omega, rfl, rfl⟩
                    case rest =>
                      obtain ⟨b, hab, hbl, hbe, rfl, rfl⟩ := hcut
                      have hab' : (a : Int) ≤ (b : Int) := by omega
                      have hbl' : (b : Int) ≤ (X.length : Int) := by omega
                      have HF := hide (cut_feed (b := b) (unhide HC2) (unhide HE1).1 hT3)
                      go_wp2_with fail
                      rw [show ({ data := List.toArray X } : ByteArray).extract a b = ⟨((X.take b).drop a).toArray⟩ by rw [extract_eq, List.drop_take]]
                      refine (unhide HF).mono ?_
                      rintro e w6 ⟨V2, rfl, hmid⟩
                      obtain ⟨p2, c2, rfl⟩ := hmid.form
                      have HM := hide hmid
                      clear hmid HF HC2
                      go_upto_if 141 with fail
                      go_cut [20, 21, 25, 26] from 107 to 190 (fun V f _ _ wx => f = .int .i64 (fq X b).2.2 ∧ Cut W1 R X b V wx)
                      case first =>
                        by_cases he : (fq X a).2.2 = 0
                        · have hfq := fq_ok X hab he
                          have he' : (((fq X a).2.2 : Nat) : Int) = 0 := by omega
                          go_wp2_with (first | (at_builtin; refine wp_told rfl (.tmp 149) (.tmp 150) rfl (by rfl) (by rfl) (unhide HM) hab he hT3 ?_; intro V' w7 hw7) | fail)
                          all_goals go_meet
                          case rel => exact ⟨by rw [hfq], hw7⟩
                        · obtain ⟨g1, g2, g3⟩ := fq_err X hab he
                          have hov := hide ((unhide HM).over hab he)
                          rw [g2]
                          have he' : ¬ (((fq X a).2.2 : Nat) : Int) = 0 := by omega
                          go_wp2_with fail
                          go_meet
                          case rel => exact ⟨by rw [g1], unhide hov⟩
                      case rest =>
                        obtain ⟨rfl, hct⟩ := hcut
                        have HC3 := hide hct
                        have HG := hide (cut_fresh hct)
                        clear hct HM
                        go_wp2_with fail
                        refine (unhide HG).mono ?_
                        rintro e w7 ⟨F, rfl, hfr⟩
                        have HF := hide (fresh_feed hfr (unhide HE1).1 hT3)
                        clear hfr HG HC3
                        go_wp2_with fail
                        rw [show ({ data := List.toArray X } : ByteArray).extract 0 b = ⟨(X.take b).toArray⟩ by rw [extract_eq]; simp]
                        refine (unhide HF).mono ?_
                        rintro e w8 ⟨p8, c8, rfl, hm8, hbs⟩
                        have HQ := hide (beside_same (c := c8) hbs hm8 hT3)
                        clear hm8 hbs HF
                        go_wp2_with fail
                        refine (unhide HQ).mono ?_
                        rintro e w9 ⟨rfl, hbs⟩
                        have HX := hide hbs
                        have HY1 := hide (beside_waits hbs).1
                        have HY2 := hide (beside_waits hbs).2
                        clear hbs HQ
                        by_cases hbw : b ≤ Wl
                        · have hbw' : (b : Int) ≤ (Wl : Int) := by omega
                          have e0 := (unhide PF).1 b hbw
                          go_wp2_with fail
                          refine (unhide HY1).mono ?_
                          rintro e w10 ⟨rfl, hw⟩
                          rw [hw]
                          clear hw w10 HY1
                          go_wp2_with fail
                          refine (unhide HY2).mono ?_
                          rintro e w10 ⟨rfl, hw⟩
                          rw [hw]
                          clear hw w10 HY2
                          go_wp2_with fail
                          go_roundw
                          case rel =>
                            exact ⟨b, j2 + 1, by omega, by go_num, rfl, hbl, fun h => hbe (by omega), by rw [e0]; rfl, (unhide HX).cut⟩
                          case measure => simp [Go.RowKit.intOf]; omega
                        · have hbw' : decide ((b : Int) ≤ (Wl : Int)) = false := by simp; omega
                          go_wp2_with fail
                          refine (unhide HY1).mono ?_
                          rintro e w10 ⟨rfl, hw⟩
                          rw [hw]
                          clear hw w10 HY1
                          go_wp2_with fail
                          refine (unhide HY2).mono ?_
                          rintro e w10 ⟨rfl, hw⟩
                          rw [hw]
                          clear hw w10 HY2
                          go_wp2_with fail
                          go_roundw
                          case rel =>
                            exact ⟨b, j2 + 1, by omega, by go_num, rfl, hbl, fun h => hbe (by omega), rfl, (unhide HX).cut⟩
                          case measure => simp [Go.RowKit.intOf]; omega
                  · have hjl' : decide ((j2 : Int) ≤ (nc : Int)) = false := by simp; omega
                    obtain rfl := hend (by omega)
                    obtain ⟨l, hl⟩ := (unhide PF).2
                    obtain ⟨pt, ct, rfl, hct, hmt⟩ := (unhide HC2).form
                    rw [hl] at hct hmt
                    rw [hl]
                    obtain ⟨Lw, Mw, hlw, hmw, _⟩ := (unhide HW).2.ex
                    obtain ⟨pw, cw, rfl, hmw'⟩ := hmw.mls
                    rw [hlw] at hmw'
                    rw [hlw]
                    have hmt2 := hmt.take (k := zs.length) (by simp)
                    rw [List.take_left] at hmt2
                    have HQ := hide (messages_eq pt pw zs.length ct cw zs wr hmt2 (hmw'.below (unhide HC2).bel) (by omega) (fun j => hs_getD (fun m hm => by
                      have := (unhide HW).1 m hm
                      unfold may at this
                      simp only [Bool.and_eq_true] at this
                      have := (flw_len this.2).2.1
                      omega) j ms0 rfl))
                    have HZ := hide ((unhide HW).2.bel.trans ((unhide HC2).bel.mono (unhide HW).2.bel.size))
                    have hcz : (zs.length : Int) ≤ (ct : Int) := by simp at hct; omega
                    have hge : (zs.length : Int) ≤ ((zs ++ l).length : Int) := by simp; omega
                    clear hmt hmt2 hmw hmw' hct
                    generalize (zs ++ l).length = NN at *
                    go_wp2_with fail
                    rw [hzl] at HQ
                    refine (unhide HQ).mono ?_
                    rintro e w6 ⟨rfl, b6⟩
                    have HZ2 := hide ((unhide HZ).trans (b6.mono (unhide HZ).size))
                    clear b6 HQ HZ
                    go_wp2
                    go_ret
                    exact ⟨by first | rfl | simp, unhide HZ2⟩
end Go.Proofs.YthlacailhfhjnaaGreatDoor
