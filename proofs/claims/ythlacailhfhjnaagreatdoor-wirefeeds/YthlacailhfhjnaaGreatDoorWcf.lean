import Derived.Test.YthlacailhfhjnaaGreatDoorZwbd
import Derived.Maps.AppendAt
namespace Go.Proofs.YthlacailhfhjnaaGreatDoor
open Go.RowKit Go.Lib
theorem info35 : (Tryz.prog.info? 35).map (fun i => (i.zero, i.size, i.bytes)) = some (some (.agg #[.string ⟨#[]⟩, .string ⟨#[]⟩]), 2, 32) := by kernel_rfl
theorem info24 : (Tryz.prog.info? 24).map (fun i => (i.zero, i.size, i.bytes)) = some (some (.agg #[.string ⟨#[]⟩, .string ⟨#[]⟩, .slice none 0 0, .string ⟨#[]⟩]), 4, 72) := by kernel_rfl
theorem owns_alloc {e n m : Nat} {w : World} {v : Value} {xs : List Value} (h : w.ownsRow 0 e n v m xs) (o : Obj) : (w.alloc o).ownsRow 0 e n v m xs :=
  owns_same h (fun k hk => by
    obtain ⟨cs, q⟩ := owns_lt h k hk
    exact heap_alloc_old _ _ (lt_of_row q))
/-- What append of one thing does, to a row of one's own. -/
theorem app_own (T e tt : Nat) (z : Value) (sz bys : Nat) (ht : Tryz.prog.underlying T = some (.slice e)) (hinfo : (Tryz.prog.info? e).map (fun i => (i.zero, i.size, i.bytes)) = some (some z, sz, bys)) (hzs : z.cells.size = sz) (hsz : 0 < sz)
    (v : Value) (n : Nat) (xs : List Value) (w0 : World) (hown : w0.ownsRow 0 e sz v n xs) (news : List Value) (hl : news.length = sz) (h1 : ∀ u ∈ news, u.oneCell' = true) (hn : n + 1 ≤ 140737488355328) (hby : (n + 1) * bys ≤ 140737488355328) :
    ∃ p cap w', (Builtin.append_ #[T, T] tt #[v, .slice (some ⟨w0.heap.size, 0, none⟩) 1 1]).run Tryz.prog (w0.alloc (.cells news.toArray e)) = .ok (.slice p (n + 1) cap) w' ∧ w'.ownsRow 0 e sz (.slice p (n + 1) cap) (n + 1) (xs ++ news) ∧ Only (fun k => v.ownBlock = some k) w0 w' ∧ (∀ k, (Value.slice p (n + 1) cap).ownBlock = some k → v.ownBlock = some k ∨ w0.heap.size ≤ k) := by
  obtain ⟨i0, hi, hz0, hz1, hz2⟩ := info_parts hinfo
  have hown' := owns_alloc hown (.cells news.toArray e)
  have hnew : ∀ j u, news[j]? = some u → (w0.alloc (.cells news.toArray e)).cell? ((⟨w0.heap.size, 0, none⟩ : Addr).add j) = some u := by
    intro j u hj
    have hadd : (⟨w0.heap.size, 0, none⟩ : Addr).add j = ⟨w0.heap.size, j, none⟩ := by unfold Addr.add; split <;> simp_all
    rw [hadd, cell_of_row _ _ j _ e (0, 0) (heap_alloc_new _ _)]
    simpa using hj
  obtain ⟨v', w', hr, h2, h3, _, h5⟩ := run_append_own_at (P := Tryz.prog) (w0.alloc (.cells news.toArray e)) 0 T tt e i0 z sz bys ht hi hz0 hz1 hz2 hzs hsz v n xs hown' ⟨w0.heap.size, 0, none⟩ 1 1 news (by omega) hnew h1 (by unfold maxLen; omega) hby (Nat.zero_le _)
  obtain ⟨p, cap, rfl⟩ := owns_form h2
  refine ⟨p, cap, w', hr, h2, (Only.alloc _ w0 _).trans (Only.of_grown h3) (fun k _ q => q), ?_⟩
  intro k hk
  rcases h5 with h5 | h5
  · left; rw [← h5]; exact hk
  · right; rw [hk] at h5; have := Option.some.inj h5; simp at this; omega
theorem push_own {ops : Array Oper} {rest : List Oper} {o : Oper} {a : Act} {Q : Exit → Act → World → Prop} (T e : Nat) (z : Value) (sz bys : Nat) (ht : Tryz.prog.underlying T = some (.slice e)) (hinfo : (Tryz.prog.info? e).map (fun i => (i.zero, i.size, i.bytes)) = some (some z, sz, bys)) (hzs : z.cells.size = sz) (hsz : 0 < sz)
    (hgd : o.guard = none) (s x : Operand) (ho : o.op = .call { callee := .builtin .append, args := #[s, x], argTypes := #[T, T] })
    (v : Value) (n : Nat) (xs : List Value) (hs : a.eval s = v) (w0 : World) (hown : w0.ownsRow 0 e sz v n xs) (news : List Value) (hl : news.length = sz) (h1 : ∀ u ∈ news, u.oneCell' = true) (hx : a.eval x = .slice (some ⟨w0.heap.size, 0, none⟩) 1 1) (hn : n + 1 ≤ 140737488355328) (hby : (n + 1) * bys ≤ 140737488355328)
    (h : ∀ p cap w', w'.ownsRow 0 e sz (.slice p (n + 1) cap) (n + 1) (xs ++ news) → Only (fun k => v.ownBlock = some k) w0 w' → (∀ k, (Value.slice p (n + 1) cap).ownBlock = some k → v.ownBlock = some k ∨ w0.heap.size ≤ k) → wpList Tryz.prog ops Q rest (a.put o.dst (.slice p (n + 1) cap)) w') :
    wpList Tryz.prog ops Q (o :: rest) a (w0.alloc (.cells news.toArray e)) := by
  obtain ⟨p, cap, w', hr, h2, h3, h4⟩ := app_own T e o.type z sz bys ht hinfo hzs hsz v n xs w0 hown news hl h1 hn hby
  refine wpList_plain hgd fun K hK => ?_
  unfold Oper.wp execOp
  simp only [ho, resolve, invoke, builtin, Sem.run_bind, Sem.run_pure, Result.andThen_ok, List.map_toArray, List.map_cons, List.map_nil, hs, hx, hr]
  exact hK _ _ (h p cap w' h2 h3 h4)
end Go.Proofs.YthlacailhfhjnaaGreatDoor
