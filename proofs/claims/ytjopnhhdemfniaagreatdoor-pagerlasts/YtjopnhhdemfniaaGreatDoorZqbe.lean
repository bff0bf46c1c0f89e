import Derived.Test.YtjopnhhdemfniaaGreatDoorZqaf
import Derived.Test.YtjopnhhdemfniaaGreatDoorZqab
import Derived.Test.YtjopnhhdemfniaaGreatDoorPjh
namespace Go.Proofs.YtjopnhhdemfniaaGreatDoor
open Go.RowKit
/-- What holds whatever is written at these blocks. -/
def Frm (F : Nat → Prop) (w : World) (Φ : World → Prop) : Prop := ∀ W, Only F w W → Φ W
theorem Frm.here {F : Nat → Prop} {w : World} {Φ : World → Prop} (h : Frm F w Φ) : Φ w := h w (Only.refl _ _)
theorem Frm.step {F F1 : Nat → Prop} {w w1 : World} {Φ : World → Prop} (h : Frm F w Φ) (o : Only F w w1) (hs : ∀ k, k < w.heap.size → F1 k → F k) : Frm F1 w1 Φ := fun W hW => h W (o.trans hW hs)
theorem Frm.below {F : Nat → Prop} {w w1 : World} {Φ : World → Prop} (h : Frm F w Φ) (b : Below w.heap.size w w1) : Frm F w1 Φ := h.step (Only.of_below b) (fun _ _ q => q)
theorem Frm.only {F G : Nat → Prop} {w w1 : World} {Φ : World → Prop} (h : Frm F w Φ) (o : Only G w w1) (hG : ∀ k, G k → F k) : Frm F w1 Φ := h.step (o.mono (fun k _ q => hG k q)) (fun _ _ q => q)
/-- A page's links. -/
def Lnk (W : World) (x : Pv) : Prop := ∃ q c, x.2 = .slice q x.1.links.length c ∧ Ins W q x.1.links.length x.1.links
theorem pvs_get (L : List Pv) (j i : Nat) (hj : j < L.length) (hi : i < 5) : (pvs L)[j * 5 + i]? = (pvc L[j])[i]? := by
  induction L generalizing j with
  | nil => simp at hj
  | cons x L ih =>
    have e : pvs (x :: L) = pvc x ++ pvs L := rfl
    have hl : (pvc x).length = 5 := rfl
    rw [e]
    cases j with
    | zero => rw [Nat.zero_mul, Nat.zero_add, List.getElem?_append_left (by omega)]; rfl
    | succ j =>
      rw [List.getElem?_append_right (by omega), hl, show (j + 1) * 5 + i - 5 = j * 5 + i by omega, ih j (by simpa using hj)]
      rfl
/-- Pages, of their cells and their links. -/
theorem pgs_of {W : World} {q : Option Addr} {L : List Pv} (hc : 0 < L.length → ∃ g o, q = some ⟨g, o, none⟩ ∧ ∀ j u, (pvs L)[j]? = some u → W.cell? ⟨g, o + j, none⟩ = some u) (hl : ∀ x ∈ L, Lnk W x) : Pgs W q L.length (L.map (·.1)) := by
  refine ⟨by simp, fun h0 => ?_⟩
  obtain ⟨g, o, e, hcell⟩ := hc h0
  refine ⟨g, o, e, fun j hj => ?_⟩
  obtain ⟨ql, cl, e2, hi⟩ := hl L[j] (List.getElem_mem hj)
  have eg : (L.map (·.1)).getD j noPg = L[j].1 := by simp [hj]
  have c := fun i u (hi : i < 5) (hu : (pvc L[j])[i]? = some u) => hcell (j * 5 + i) u ((pvs_get L j i hj hi).trans hu)
  rw [eg]
  refine ⟨ql, cl, c 0 _ (by omega) rfl, c 1 _ (by omega) rfl, c 2 _ (by omega) rfl, ?_, c 4 _ (by omega) rfl, hi⟩
  rw [← e2]
  exact c 3 _ (by omega) rfl
theorem row_cells {W : World} {v : Value} {L : List Pv} {q : Option Addr} {n c : Nat} (hv : v = .slice q n c) (h : W.ownsRow 0 24 5 v L.length (pvs L)) : 0 < L.length → ∃ g o, q = some ⟨g, o, none⟩ ∧ ∀ j u, (pvs L)[j]? = some u → W.cell? ⟨g, o + j, none⟩ = some u := by
  intro h0
  obtain ⟨g, cap, cur, e, _⟩ := owns_at h h0
  rw [hv] at e
  injection e with e1 e2 e3
  refine ⟨g, 0, e1, fun j u hj => ?_⟩
  subst e1
  have := World.ownsRow.cells h (g := g) (by rw [hv]; rfl) j u hj
  rw [add_at] at this
  rw [Nat.zero_add]
  exact this
/-- What the law's next comes to. -/
structure NxOut (w : World) (gen root how cc : Int) (fr : List Int) (Lp : List Pv) (rt : Int) (Lf Ln : List Pv) (G : List Int) (vf vn vg : Value) (w' : World) : Prop where
  hf : Lf.map (·.1) = frs how fr root cc (gen + 1)
  hrt : rt = if pkv how 5 ≤ 3 then fr.getD (fr.length - 1) 0 else root
  hg : G = gns how (Lp.map (·.1))
  perm : Ln.Perm (if G = [] then Lf ++ Lp else Lf)
  srt : Ln.Pairwise (fun x y => x.1.number ≤ y.1.number)
  rf : w'.ownsRow 0 24 5 vf Lf.length (pvs Lf)
  nf : ∀ k, vf.ownBlock = some k → w.heap.size ≤ k
  rn : w'.ownsRow 0 24 5 vn Ln.length (pvs Ln)
  nn : ∀ k, vn.ownBlock = some k → w.heap.size ≤ k
  rg : w'.ownsRow 0 3 1 vg G.length (G.map fun z => I z)
  ng : ∀ k, vg.ownBlock = some k → w.heap.size ≤ k
  lk : ∀ x ∈ Lf, (x.2 = nlv ∧ x.1.links = []) ∨ (w'.ownsRow 0 3 1 x.2 x.1.links.length (x.1.links.map fun z => I z) ∧ ∀ k, x.2.ownBlock = some k → w.heap.size ≤ k)
  bel : Below w.heap.size w w'
/-- Behind the switch. -/
structure NxM (w : World) (X : Nat) (gen : Int) (nc : Bs) (rt : Int) (Lf : List Pv) (G : List Int) (vf vg : Value) (W : World) : Prop where
  xb : W.heap[X]? = some (.cells #[I (gen + 1), I rt, S nc, .slice none 0 0] 83 (0, 0))
  xn : w.heap.size + 3 ≤ X
  rf : W.ownsRow 0 24 5 vf Lf.length (pvs Lf)
  nf : ∀ k, vf.ownBlock = some k → w.heap.size + 3 ≤ k
  rg : W.ownsRow 0 3 1 vg G.length (G.map fun z => I z)
  ng : ∀ k, vg.ownBlock = some k → w.heap.size + 3 ≤ k
  lk : ∀ x ∈ Lf, (x.2 = nlv ∧ x.1.links = []) ∨ (W.ownsRow 0 3 1 x.2 x.1.links.length (x.1.links.map fun z => I z) ∧ ∀ k, x.2.ownBlock = some k → w.heap.size + 3 ≤ k)
theorem rows_ne {W : World} {e1 e2 : TypeId} {n1 n2 m1 m2 : Nat} {v1 v2 : Value} {c1 c2 : List Value} (h1 : W.ownsRow 0 e1 n1 v1 m1 c1) (h2 : W.ownsRow 0 e2 n2 v2 m2 c2) (h : e1 ≠ e2) : ∀ k, v1.ownBlock = some k → v2.ownBlock ≠ some k := fun k q r => by
  obtain ⟨a1, e⟩ := owns_lt h1 k q
  obtain ⟨a2, e'⟩ := owns_lt h2 k r
  rw [e] at e'
  cases e'
  exact h rfl
theorem row_ne {W : World} {e1 e2 : TypeId} {n1 m1 g : Nat} {v1 : Value} {c1 : List Value} {cs : Array Value} (h1 : W.ownsRow 0 e1 n1 v1 m1 c1) (h2 : W.heap[g]? = some (.cells cs e2 (0, 0))) (h : e1 ≠ e2) : ∀ k, v1.ownBlock = some k → k ≠ g := fun k q r => by
  subst r
  obtain ⟨a1, e⟩ := owns_lt h1 k q
  rw [e] at h2
  cases h2
  exact h rfl
end Go.Proofs.YtjopnhhdemfniaaGreatDoor
namespace Go.Proofs.YtjopnhhdemfniaaGreatDoor
open Go.RowKit
set_option maxHeartbeats 4000000
theorem app_e (T : TypeId) (p q : Option Addr) (n cap c : Nat) (h : n ≤ cap) (w : World) : (Builtin.append_ #[27, 27] T #[.slice p n cap, .slice q 0 c]).run Tryz.prog w = .ok (.slice p n cap) w := by
  have z := Tryz.sizeOf24
  cases p <;> cases q <;> simp [Builtin.append_, go_sem, z, h, Builtin.lenOf, Builtin.firstCells, loadCells, storeCells]
/-- append(v, pages...), whatever both are. -/
theorem appP_all (T : TypeId) (v : Value) (L M : List Pv) (w : World) (h : w.ownsRow 0 24 5 v L.length (pvs L)) (q : Option Addr) (c : Nat) (hM : 0 < M.length → ∃ g o, q = some ⟨g, o, none⟩ ∧ ∀ j u, (pvs M)[j]? = some u → w.cell? ⟨g, o + j, none⟩ = some u) (hone : ∀ u ∈ pvs M, u.oneCell' = true) (hn : L.length + M.length ≤ 1000000000) :
    ∃ v' w', (Builtin.append_ #[27, 27] T #[v, .slice q M.length c]).run Tryz.prog w = .ok v' w' ∧ w'.ownsRow 0 24 5 v' (L ++ M).length (pvs (L ++ M)) ∧ Only (fun k => v.ownBlock = some k) w w' ∧ (∀ k, v'.ownBlock = some k → v.ownBlock = some k ∨ w.heap.size ≤ k) := by
  by_cases h0 : M.length = 0
  · have e : M = [] := List.length_eq_zero_iff.1 h0
    subst e
    have hv : ∃ p cap, v = .slice p L.length cap ∧ L.length ≤ cap := by
      rcases h.2 with ⟨e, q⟩ | ⟨g, cap, cur, e1, _, e2, e3, _⟩
      · exact ⟨none, 0, by rw [e, q], by omega⟩
      · exact ⟨_, cap, e1, e3⟩
    obtain ⟨p, cap, e, hc⟩ := hv
    refine ⟨v, w, by rw [e]; exact app_e T p q L.length cap c hc w, by rw [List.append_nil]; exact h, Only.refl _ _, fun k hk => .inl hk⟩
  · obtain ⟨g, o, e, hc⟩ := hM (by omega)
    subst e
    exact appP_run T v L M w h ⟨g, o, none⟩ c (fun j u hj => by rw [WideShapes.add_plain]; exact hc j u hj) hone hn
theorem wp_appA {ops : Array Oper} {rest : List Oper} {o : Oper} {act : Act} {Q : Exit → Act → World → Prop} (hgd : o.guard = none) (s x : Operand) (ho : o.op = .call { callee := .builtin .append, args := #[s, x], argTypes := #[27, 27] }) (v : Value) (L M : List Pv) (w : World) (hs : act.eval s = v) (h : w.ownsRow 0 24 5 v L.length (pvs L)) (q : Option Addr) (c n : Nat) (hx : act.eval x = .slice q n c) (hl : M.length = n) (hM : 0 < M.length → ∃ g o, q = some ⟨g, o, none⟩ ∧ ∀ j u, (pvs M)[j]? = some u → w.cell? ⟨g, o + j, none⟩ = some u) (hone : ∀ u ∈ pvs M, u.oneCell' = true) (hn : L.length + M.length ≤ 1000000000)
    (hK : ∀ v' w', w'.ownsRow 0 24 5 v' (L ++ M).length (pvs (L ++ M)) → Only (fun k => v.ownBlock = some k) w w' → (∀ k, v'.ownBlock = some k → v.ownBlock = some k ∨ w.heap.size ≤ k) → wpList Tryz.prog ops Q rest (act.put o.dst v') w') : wpList Tryz.prog ops Q (o :: rest) act w := by
  obtain ⟨v', w', hr, h2, h3, h4⟩ := appP_all o.type v L M w h q c hM hone hn
  rw [hl] at hr
  refine wpList_plain hgd fun K hK2 => ?_
  unfold Oper.wp execOp
  simp only [ho, resolve, invoke, builtin, Sem.run_bind, Sem.run_pure, Result.andThen_ok, List.map_toArray, List.map_cons, List.map_nil, hs, hx, hr]
  exact hK2 _ _ (hK v' w' h2 h3 h4)
theorem bkl_all (L : List Pv) (b : Int) : bkl L b L.length = L.map (born b) := by simp [bkl]
theorem perm_step {L : List Pv} {k : Nat} (h : k < L.length) : (L[k] :: L.eraseIdx k).Perm L := perm_erase L k h
end Go.Proofs.YtjopnhhdemfniaaGreatDoor
/- The pages by rising numbers, as the law's next lays them: what stands from turn to turn. -/
namespace Go.Proofs.YtjopnhhdemfniaaGreatDoor
open Go.RowKit
set_option maxHeartbeats 4000000
def lenv : Value → Nat
  | .slice _ n _ => n
  | _ => 0
structure NxI (wr : World) (X : Nat) (A B C : Value) (All : List Pv) (a vn : Value) (La Ln : List Pv) (W : World) : Prop where
  xb : W.heap[X]? = some (.cells #[A, B, C, vn] 83 (0, 0))
  ra : W.ownsRow 0 24 5 a La.length (pvs La)
  na : ∀ k, a.ownBlock = some k → wr.heap.size ≤ k
  rn : W.ownsRow 0 24 5 vn Ln.length (pvs Ln)
  nn : ∀ k, vn.ownBlock = some k → wr.heap.size ≤ k
  ne : ∀ k, a.ownBlock = some k → vn.ownBlock ≠ some k
  pm : (Ln ++ La).Perm All
  so : Ln.Pairwise (fun x y => x.1.number ≤ y.1.number)
  le : ∀ x ∈ Ln, ∀ y ∈ La, x.1.number ≤ y.1.number
  on : Only (fun k => k = X) wr W
variable {wr : World} {X : Nat} {A B C : Value} {All : List Pv} {a vn : Value} {La Ln : List Pv} {W : World}
theorem NxI.below {W' : World} (h : NxI wr X A B C All a vn La Ln W) (b : Below W.heap.size W W') : NxI wr X A B C All a vn La Ln W' :=
  ⟨(b.block _ (lt_of_row h.xb)).trans h.xb, owns_below h.ra b, h.na, owns_below h.rn b, h.nn, h.ne, h.pm, h.so, h.le, h.on.trans (Only.of_below b) (fun _ _ q => q)⟩
theorem NxI.start (hx : W.heap[X]? = some (.cells #[A, B, C, .slice none 0 0] 83 (0, 0))) (ra : W.ownsRow 0 24 5 a La.length (pvs La)) (na : ∀ k, a.ownBlock = some k → wr.heap.size ≤ k) (b : Below wr.heap.size wr W) : NxI wr X A B C La a (.slice none 0 0) La [] W :=
  ⟨hx, ra, na, owns_nil _ _ _, (fun _ q => nomatch q), (fun _ _ q => nomatch q), List.Perm.refl _, .nil, (fun _ q => nomatch q), Only.of_below b⟩
theorem NxI.step {g n cap kk : Nat} (h : NxI wr X A B C All (.slice (some ⟨g, 0, none⟩) n cap) vn La Ln W) (hk : kk < La.length) (hle : ∀ y ∈ La, La[kk].1.number ≤ y.1.number) {v1 : Value} {W1 : World} (r1 : W1.ownsRow 0 24 5 v1 (Ln.length + 1) (pvs Ln ++ pvc La[kk])) (o1 : Only (fun k => vn.ownBlock = some k ∨ k = X) W W1) (n1 : ∀ k, v1.ownBlock = some k → vn.ownBlock = some k ∨ W.heap.size ≤ k) (x1 : W1.heap[X]? = some (.cells #[A, B, C, v1] 83 (0, 0))) :
    W1.ownsRow 0 24 5 (.slice (some ⟨g, 0, none⟩) n cap) La.length (pvs La) ∧ ∀ W2, W2.ownsRow 0 24 5 (.slice (some ⟨g, 0, none⟩) (n - 1) cap) (La.length - 1) (pvs (La.eraseIdx kk)) → Only (fun q => q = g) W1 W2 → NxI wr X A B C All (.slice (some ⟨g, 0, none⟩) (n - 1) cap) v1 (La.eraseIdx kk) (Ln ++ [La[kk]]) W2 := by
  have hgX : g ≠ X := row_ne h.ra h.xb (by decide) g rfl
  have hgn : vn.ownBlock ≠ some g := h.ne g rfl
  obtain ⟨cs, hgr⟩ := owns_lt h.ra g rfl
  have hgl := lt_of_row hgr
  have hg1 : ∀ k, v1.ownBlock = some k → ¬ k = g := fun k hk e => by
    subst e
    rcases n1 k hk with q | q
    · exact hgn q
    · omega
  have hlen : (La.eraseIdx kk).length = La.length - 1 := by rw [List.length_eraseIdx, if_pos hk]
  refine ⟨owns_only h.ra o1 (fun k hk e => by cases hk; exact e.elim hgn hgX), fun W2 r2 o2 => ?_⟩
  refine ⟨(o2.block X (lt_of_row x1) (fun e => hgX e.symm)).trans x1, by rw [hlen]; exact r2, fun k hk => h.na k hk, ?_, ?_, ?_, ?_, ?_, ?_, ?_⟩
  · have := owns_only r1 o2 hg1
    rw [List.length_append, List.length_singleton, show pvs (Ln ++ [La[kk]]) = pvs Ln ++ pvc La[kk] by simp [pvs]]
    exact this
  · intro k hk
    rcases n1 k hk with q | q
    · exact h.nn k q
    · exact Nat.le_trans h.on.size q
  · intro k hk q
    exact hg1 k q (by cases hk; rfl)
  · refine List.Perm.trans ?_ h.pm
    rw [List.append_assoc]
    exact (perm_step hk).append_left Ln
  · rw [List.pairwise_append]
    refine ⟨h.so, List.pairwise_singleton _ _, fun x hx y hy => ?_⟩
    rw [List.mem_singleton.1 hy]
    exact h.le x hx _ (List.getElem_mem hk)
  · intro x hx y hy
    have hy' := List.mem_of_mem_eraseIdx hy
    rcases List.mem_append.1 hx with q | q
    · exact h.le x q y hy'
    · rw [List.mem_singleton.1 q]
      exact hle y hy'
  · refine (h.on.trans o1 (fun k hk q => q.elim (fun e => ?_) id)).trans o2 (fun k hk e => ?_)
    · have := h.nn k e
      omega
    · subst e
      have := h.na k rfl
      omega
/-- The page at a place, read whole. -/
theorem pg_row {g n cap kk : Nat} (h : W.ownsRow 0 24 5 (.slice (some ⟨g, 0, none⟩) n cap) La.length (pvs La)) (hk : kk < La.length) : ∃ cur, W.heap[g]? = some (.cells cur 24 (0, 0)) ∧ (cur.toList.drop (kk * 5)).take 5 = pvc La[kk] := by
  obtain ⟨g', cap', cur, e, hg, _, _, _, ht⟩ := owns_at h (by omega)
  injection e with e1 e2 e3
  injection e1 with e1
  injection e1 with e1
  subst e1
  refine ⟨cur, hg, ?_⟩
  have h1 : ((pvs La).drop (kk * 5)).take 5 = pvc La[kk] := by
    rw [pvs_drop, ← List.getElem_cons_drop hk]
    simp only [pvs, List.flatMap_cons]
    exact List.take_left' (by simp [pvc])
  rw [← h1, ← ht, List.drop_take, List.take_take, Nat.min_eq_left (by omega)]
theorem num_cell {g n cap kk : Nat} (h : W.ownsRow 0 24 5 (.slice (some ⟨g, 0, none⟩) n cap) La.length (pvs La)) (hk : kk < La.length) : W.cell? ⟨g, kk * 5 + 1, none⟩ = some (I La[kk].1.number) := by
  have hn : n = La.length := by
    obtain ⟨p, c, e⟩ := owns_form h
    injection e
  rw [← hn] at h
  have := pvs_cells h (kk * 5 + 1) (I La[kk].1.number) (by rw [pvs_get La kk 1 hk (by omega)]; rfl)
  rw [add_at] at this
  exact this
theorem imn_at (l : List Pv) (j : Nat) (h : j < l.length) : ((l.map (·.1)).getD j noPg) = l[j].1 := by simp [h]
theorem imn_min (l : List Pv) (h : 0 < l.length) (hk : imn (l.map (·.1)) (l.length - 1) < l.length) : ∀ y ∈ l, (l[imn (l.map (·.1)) (l.length - 1)]).1.number ≤ y.1.number := by
  intro y hy
  obtain ⟨j, hj, rfl⟩ := List.getElem_of_mem hy
  have := imn_least (l.map (·.1)) (l.length - 1) j (by omega)
  rw [imn_at l _ hk, imn_at l j hj] at this
  exact this
/-- A struct in its cell and two words come out. -/
theorem out3c {T : TypeId} {n : Nat} (hA : ∀ w, (isAgg T).run Tryz.prog w = .ok true w) (hs : ∀ w, (sizeOf T).run Tryz.prog w = .ok n w) {fn : Func} {p q r : Tmp} {W : World} {a : Act} {Z : Nat} {cs : Array Value} {t : TypeId} {v u : Value} {Post : Ending → World → Prop} (hf : fn.results = #[.cell p T, .tmp q, .tmp r]) (hd : a.defers = []) (ht : a.tmps.getD p undef = .pointer (some ⟨Z, 0, none⟩)) (hv : a.tmps.getD q undef = v) (hu : a.tmps.getD r undef = u) (h : W.heap[Z]? = some (.cells cs t (0, 0))) (hn : cs.size = n) (hp : Post (.returned (.tuple #[.agg cs, v, u])) W) : bodyPost Tryz.prog fn Post .ret a W := by
  subst hv
  subst hu
  refine bodyPost_ret ?_ hd hp
  have ht' : a.tmps[p]?.getD undef = .pointer (some ⟨Z, 0, none⟩) := by simpa using ht
  simp only [results, hf]
  simp [ht', asAddr, lv_row hA hs h hn]
theorem info83s : (Tryz.prog.info? 83).map (·.size) = some 4 := by kernel_rfl
theorem wp_st83 {ops : Array Oper} {rest : List Oper} {o : Oper} {a : Act} {w : World} {Q : Exit → Act → World → Prop} (hgd : o.guard = none) (x y : Operand) (ho : o.op = .store 83 x y)
    (P : Nat) (hx : a.eval x = .pointer (some ⟨P, 0, none⟩)) (g r : Int) (s : Bs) (v : Value) (hv : v.oneCell' = true) (hy : a.eval y = .agg #[I g, I r, S s, v]) (old : Array Value) (ho5 : old.size = 4)
    (hg : w.heap[P]? = some (.cells old 83 (0, 0)))
    (h : wpList Tryz.prog ops Q rest (a.put o.dst undef) (w.setRow P #[I g, I r, S s, v])) : wpList Tryz.prog ops Q (o :: rest) a w :=
  wpList_store_row hgd 83 x y ho P _ hx hy 83 old hg info83s (by rw [ho5]; rfl) (by have e := hv; simp [Value.oneCell'] at e ⊢; exact e) h
end Go.Proofs.YtjopnhhdemfniaaGreatDoor
