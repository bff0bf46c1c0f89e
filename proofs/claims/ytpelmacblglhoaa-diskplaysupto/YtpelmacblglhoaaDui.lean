import Derived.Test.YtpelmacblglhoaaDue
namespace Go.Proofs.Ytpelmacblglhoaa
open Go.RowKit
set_option maxHeartbeats 2000000
set_option maxRecDepth 8000
/-- Whose a block is. -/
abbrev Tg := Nat × Nat
def ext (tag : Nat → Tg) (n : Nat) (t : Tg) : Nat → Tg := fun k => if k < n then tag k else t
theorem ext_old {tag : Nat → Tg} {n : Nat} {t : Tg} {k : Nat} (h : k < n) : ext tag n t k = tag k := if_pos h
theorem ext_new {tag : Nat → Tg} {n : Nat} {t : Tg} {k : Nat} (h : n ≤ k) : ext tag n t k = t := if_neg (by omega)
/-- The lists that are free: the row of them, and each in a block of its own. -/
structure LB (κ e sz T : Nat) (tag : Nat → Tg) (N : Nat) (vs : Nat → Value) (ns : Nat → Nat) (C : Nat → List Value) (vf : Value) (lo : Nat) (w : World) : Prop where
  rf : w.ownsRow 0 T 1 vf N ((List.range N).map vs)
  tf : ∀ k, vf.ownBlock = some k → tag k = (0, 1 + 3 * κ)
  fl : ∀ i, lo ≤ i → i < N → w.ownsRow 0 e sz (vs i) (ns i) (C i)
  ft : ∀ i, lo ≤ i → i < N → ∀ k, (vs i).ownBlock = some k → tag k = (3 + κ, i)
  sm : ∀ i, i < N → ns i ≤ 100000
section
variable {κ e sz T : Nat} {tag tag' : Nat → Tg} {N : Nat} {vs : Nat → Value} {ns : Nat → Nat} {C : Nat → List Value} {vf vd : Value} {lo : Nat} {w w' : World} {Q : Nat → Prop} {mk : Nat → List Value} {P : Tg → Prop} {Dn : List Value} {x : Value} {len : Nat}
theorem LB.only (h : LB κ e sz T tag N vs ns C vf lo w) (ho : Only Q w w') (hp : ∀ k, Q k → k < w.heap.size → tag k ≠ (0, 1 + 3 * κ) ∧ ∀ i, lo ≤ i → tag k ≠ (3 + κ, i)) : LB κ e sz T tag N vs ns C vf lo w' :=
  ⟨owns_only h.rf ho (fun k hk q => (hp k q (owns_blk h.rf k hk)).1 (h.tf k hk)), h.tf, fun i h1 h2 => owns_only (h.fl i h1 h2) ho (fun k hk q => (hp k q (owns_blk (h.fl i h1 h2) k hk)).2 i h1 (h.ft i h1 h2 k hk)), h.ft, h.sm⟩
theorem LB.below (h : LB κ e sz T tag N vs ns C vf lo w) (hb : Below w.heap.size w w') : LB κ e sz T tag N vs ns C vf lo w' :=
  h.only (Q := fun _ => False) (Only.of_below hb) (fun _ q => q.elim)
theorem LB.retag (h : LB κ e sz T tag N vs ns C vf lo w) (ha : ∀ k, k < w.heap.size → tag' k = tag k) : LB κ e sz T tag' N vs ns C vf lo w :=
  ⟨h.rf, fun k hk => (ha k (owns_blk h.rf k hk)).trans (h.tf k hk), h.fl, fun i h1 h2 k hk => (ha k (owns_blk (h.fl i h1 h2) k hk)).trans (h.ft i h1 h2 k hk), h.sm⟩
/-- One list has other cells. -/
theorem LB.set (h : LB κ e sz T tag N vs ns C vf lo w) {i : Nat} {c' : List Value} (hr : w'.ownsRow 0 e sz (vs i) (ns i) c') (ho : Only Q w w') (hq : ∀ k, Q k → k < w.heap.size → tag k = (3 + κ, i)) : LB κ e sz T tag N vs ns (fun j => if j = i then c' else C j) vf lo w' := by
  refine ⟨owns_only h.rf ho (fun k hk q => ?_), h.tf, fun j h1 h2 => ?_, h.ft, h.sm⟩
  · have a := hq k q (owns_blk h.rf k hk)
    rw [h.tf k hk] at a
    have := congrArg Prod.fst a
    simp at this
    omega
  · by_cases e : j = i
    · subst e
      rw [if_pos rfl]
      exact hr
    · rw [if_neg e]
      refine owns_only (h.fl j h1 h2) ho (fun k hk q => ?_)
      have a := hq k q (owns_blk (h.fl j h1 h2) k hk)
      rw [h.ft j h1 h2 k hk] at a
      exact e (congrArg Prod.snd a)
theorem LB.take (h : LB κ e sz T tag N vs ns C vf lo w) : LB κ e sz T tag N vs ns C vf (lo + 1) w :=
  ⟨h.rf, h.tf, fun i h1 h2 => h.fl i (by omega) h2, fun i h1 h2 => h.ft i (by omega) h2, h.sm⟩
/-- The row at a place. -/
theorem LB.at (h : LB κ e sz T tag N vs ns C vf lo w) {i : Nat} (hi : i < N) : ∃ g c, vf = .slice (some ⟨g, 0, none⟩) N c ∧ w.cell? ⟨g, i, none⟩ = some (vs i) ∧ tag g = (0, 1 + 3 * κ) := by
  obtain ⟨g, c, cur, e1, _⟩ := owns_at h.rf (by omega)
  have q := h.rf
  rw [e1] at q
  exact ⟨g, c, e1, owns_cell q i _ (by simp [hi]), h.tf g (by rw [e1]; rfl)⟩
/-- A list that reads as marks. -/
def Vi (e sz : Nat) (tag : Nat → Tg) (P : Tg → Prop) (x : Value) (len : Nat) (w : World) (v : Value) (m : List Value) : Prop :=
  ∃ p n c, v = .slice p n c ∧ n ≤ 1000000 ∧ (0 < n → ∃ g cur, p = some ⟨g, 0, none⟩ ∧ P (tag g) ∧ w.heap[g]? = some (.cells cur e (0, 0)) ∧ (x.ownBlock = some g → n ≤ len) ∧ ∀ j, j < n → ∀ t u, t < sz → m[t]? = some u → w.cell? ⟨g, j * sz + t, none⟩ = some u)
/-- The lists that are done: marked, some of them grown. -/
structure LD (κ e sz T : Nat) (mk : Nat → List Value) (tag : Nat → Tg) (P : Tg → Prop) (vd : Value) (Dn : List Value) (x : Value) (len : Nat) (w : World) : Prop where
  rd : w.ownsRow 0 T 1 vd Dn.length Dn
  td : ∀ k, vd.ownBlock = some k → tag k = (0, 3 + 3 * κ)
  dn : ∀ j v, Dn[j]? = some v → Vi e sz tag P x len w v (mk (j / 12))
theorem Vi.same {v : Value} {m : List Value} (h : Vi e sz tag P x len w v m) (hb : ∀ g, g < w.heap.size → P (tag g) → w'.heap[g]? = w.heap[g]?) : Vi e sz tag P x len w' v m := by
  obtain ⟨p, n, c, e1, e2, e3⟩ := h
  refine ⟨p, n, c, e1, e2, fun hn => ?_⟩
  obtain ⟨g, cur, f1, f2, f3, f4, f5⟩ := e3 hn
  have q := hb g (lt_of_row f3) f2
  exact ⟨g, cur, f1, f2, q.trans f3, f4, fun j hj t u ht hu => (World.cell?_of_block q).trans (f5 j hj t u ht hu)⟩
theorem Vi.retag {v : Value} {m : List Value} {P' : Tg → Prop} (h : Vi e sz tag P x len w v m) (ha : ∀ k, k < w.heap.size → P (tag k) → P' (tag' k)) : Vi e sz tag' P' x len w v m := by
  obtain ⟨p, n, c, e1, e2, e3⟩ := h
  refine ⟨p, n, c, e1, e2, fun hn => ?_⟩
  obtain ⟨g, cur, f1, f2, f3, f4, f5⟩ := e3 hn
  exact ⟨g, cur, f1, ha g (lt_of_row f3) f2, f3, f4, f5⟩
theorem LD.only (h : LD κ e sz T mk tag P vd Dn x len w) (ho : Only Q w w') (hq : ∀ k, Q k → k < w.heap.size → tag k ≠ (0, 3 + 3 * κ) ∧ ¬ P (tag k)) : LD κ e sz T mk tag P vd Dn x len w' :=
  ⟨owns_only h.rd ho (fun k hk q => (hq k q (owns_blk h.rd k hk)).1 (h.td k hk)), h.td, fun j v hv => (h.dn j v hv).same (fun g hg hp => ho.block g hg (fun q => (hq g q hg).2 hp))⟩
theorem LD.below (h : LD κ e sz T mk tag P vd Dn x len w) (hb : Below w.heap.size w w') : LD κ e sz T mk tag P vd Dn x len w' :=
  h.only (Q := fun _ => False) (Only.of_below hb) (fun _ q => q.elim)
theorem LD.retag {P' : Tg → Prop} (h : LD κ e sz T mk tag P vd Dn x len w) (ha : ∀ k, k < w.heap.size → tag k = (0, 3 + 3 * κ) → tag' k = (0, 3 + 3 * κ)) (hb : ∀ k, k < w.heap.size → P (tag k) → P' (tag' k)) : LD κ e sz T mk tag' P' vd Dn x len w :=
  ⟨h.rd, fun k hk => ha k (owns_blk h.rd k hk) (h.td k hk), fun j v hv => (h.dn j v hv).retag hb⟩
theorem LD.at (h : LD κ e sz T mk tag P vd Dn x len w) {j : Nat} {v : Value} (hj : Dn[j]? = some v) : ∃ g c, vd = .slice (some ⟨g, 0, none⟩) Dn.length c ∧ w.cell? ⟨g, j, none⟩ = some v := by
  have hl : j < Dn.length := (List.getElem?_eq_some_iff.1 hj).1
  obtain ⟨g, c, cur, e1, _⟩ := owns_at h.rd (by omega)
  have q := h.rd
  rw [e1] at q
  exact ⟨g, c, e1, owns_cell q j _ hj⟩
/-- One view more. -/
theorem LD.push {vd' v : Value} (h : LD κ e sz T mk tag P vd Dn x len w) (hr : w'.ownsRow 0 T 1 vd' (Dn.length + 1) (Dn ++ [v])) (ho : Only (fun k => vd.ownBlock = some k) w w') (hn : ∀ k, vd'.ownBlock = some k → vd.ownBlock = some k ∨ w.heap.size ≤ k)
    (hv : Vi e sz tag P x len w v (mk (Dn.length / 12))) (hP : ∀ b, ¬ P (0, b)) : LD κ e sz T mk (ext tag w.heap.size (0, 3 + 3 * κ)) P vd' (Dn ++ [v]) x len w' := by
  have key : ∀ {u : Value} {m : List Value}, Vi e sz tag P x len w u m → Vi e sz (ext tag w.heap.size (0, 3 + 3 * κ)) P x len w' u m := by
    intro u m hu
    have h1 : Vi e sz (ext tag w.heap.size (0, 3 + 3 * κ)) P x len w u m := hu.retag (fun k hk hp => by rw [ext_old hk]; exact hp)
    refine h1.same (fun g hg hp => ho.block g hg (fun q => ?_))
    rw [ext_old hg, h.td g q] at hp
    exact hP _ hp
  refine ⟨by rw [List.length_append]; exact hr, fun k hk => ?_, fun j u hj => ?_⟩
  · rcases hn k hk with q | q
    · rw [ext_old (owns_blk h.rd k q)]; exact h.td k q
    · exact ext_new q
  · by_cases hl : j < Dn.length
    · rw [List.getElem?_append_left hl] at hj
      exact key (h.dn j u hj)
    · rw [List.getElem?_append_right (by omega)] at hj
      have hj0 : j - Dn.length = 0 := by
        have := (List.getElem?_eq_some_iff.1 hj).1
        simp at this
        omega
      rw [hj0] at hj
      simp at hj
      subst hj
      rw [show j = Dn.length by omega]
      exact key hv
/-- What an append of one thing leaves as it was: every other block, and of the slice's own block what stands below its length. -/
structure Gr (e sz : Nat) (v : Value) (n : Nat) (w w' : World) : Prop where
  os : w'.os = w.os
  tape : w'.tape = w.tape
  output : w'.output = w.output
  size : w.heap.size ≤ w'.heap.size
  block : ∀ k, k < w.heap.size → v.ownBlock ≠ some k → w'.heap[k]? = w.heap[k]?
  cell : ∀ g j, v.ownBlock = some g → j < n * sz → w'.cell? ⟨g, j, none⟩ = w.cell? ⟨g, j, none⟩
  kind : ∀ g cur, v.ownBlock = some g → w.heap[g]? = some (.cells cur e (0, 0)) → ∃ cur', w'.heap[g]? = some (.cells cur' e (0, 0))
theorem Gr.only {v : Value} {n : Nat} (h : Gr e sz v n w w') : Only (fun k => v.ownBlock = some k) w w' := ⟨h.os, h.tape, h.output, h.size, h.block⟩
theorem LD.grow {x' : Value} {t : Tg} (h : LD κ e sz T mk tag P vd Dn x len w) (hg : Gr e sz x len w w') (hx : (∃ g, x.ownBlock = some g ∧ x'.ownBlock = some g) ∨ x'.ownBlock = some w.heap.size) (hd : ∀ k, x.ownBlock = some k → tag k ≠ (0, 3 + 3 * κ)) :
    LD κ e sz T mk (ext tag w.heap.size t) P vd Dn x' (len + 1) w' := by
  refine ⟨owns_only h.rd hg.only (fun k hk q => hd k q (h.td k hk)), fun k hk => ?_, fun j v hj => ?_⟩
  · rw [ext_old (owns_blk h.rd k hk)]; exact h.td k hk
  · obtain ⟨p, n, c, e1, e2, e3⟩ := h.dn j v hj
    refine ⟨p, n, c, e1, e2, fun hn => ?_⟩
    obtain ⟨g, cur, f1, f2, f3, f4, f5⟩ := e3 hn
    have hlt := lt_of_row f3
    by_cases q : x.ownBlock = some g
    · obtain ⟨cur', k1⟩ := hg.kind g cur q f3
      have hle := f4 q
      refine ⟨g, cur', f1, by rw [ext_old hlt]; exact f2, k1, fun _ => by omega, fun j hj t u ht hu => ?_⟩
      rw [hg.cell g _ q ?_]
      · exact f5 j hj t u ht hu
      · have h1 : (j + 1) * sz ≤ len * sz := Nat.mul_le_mul_right _ (by omega)
        rw [Nat.add_mul, Nat.one_mul] at h1
        omega
    · have k1 := hg.block g hlt q
      refine ⟨g, cur, f1, by rw [ext_old hlt]; exact f2, k1.trans f3, fun q' => ?_, fun j hj t u ht hu => (World.cell?_of_block k1).trans (f5 j hj t u ht hu)⟩
      exfalso
      rcases hx with ⟨g', a1, a2⟩ | a
      · rw [q'] at a2; cases a2; exact q a1
      · rw [q'] at a; cases a; exact Nat.lt_irrefl _ hlt
/-- A list of its own, all marks, as a view. -/
theorem Vi.of {m : List Value} (hr : w.ownsRow 0 e sz x len ((List.replicate len m).flatten)) (hm : m.length = sz) (hl : len ≤ 1000000) (hP : ∀ k, x.ownBlock = some k → P (tag k)) : Vi e sz tag P x len w x m := by
  rcases hr.2 with ⟨q, q2⟩ | ⟨g, cap, cur, e1, _, e2, e3⟩
  · exact ⟨none, 0, 0, q, by omega, fun h => by omega⟩
  · refine ⟨_, len, cap, e1, hl, fun _ => ⟨g, cur, rfl, hP g (by rw [e1]; rfl), e2, fun _ => Nat.le_refl _, fun j hj t u ht hu => ?_⟩⟩
    subst e1
    refine owns_cell hr _ _ ?_
    have key : ∀ (l j : Nat), j < l → ((List.replicate l m).flatten)[j * sz + t]? = some u := by
      intro l
      induction l with
      | zero => intro j hj; omega
      | succ l ih =>
        intro j hj
        rw [List.replicate_succ, List.flatten_cons]
        cases j with
        | zero => rw [List.getElem?_append_left (by omega)]; simpa using hu
        | succ j =>
          rw [List.getElem?_append_right (by rw [hm, Nat.add_mul]; omega), show (j + 1) * sz + t - m.length = j * sz + t by rw [hm, Nat.add_mul]; omega]
          exact ih j (by omega)
    exact key len j hj
/-- The view of another x. -/
theorem Vi.other {x' : Value} {len' : Nat} {v : Value} {m : List Value} (h : Vi e sz tag P x len w v m) (hx : ∀ k, x'.ownBlock = some k → k < w.heap.size → ¬ P (tag k)) : Vi e sz tag P x' len' w v m := by
  obtain ⟨p, n, c, e1, e2, e3⟩ := h
  refine ⟨p, n, c, e1, e2, fun hn => ?_⟩
  obtain ⟨g, cur, f1, f2, f3, f4, f5⟩ := e3 hn
  exact ⟨g, cur, f1, f2, f3, fun q => absurd f2 (hx g q (lt_of_row f3)), f5⟩
theorem LD.other {x' : Value} {len' : Nat} (h : LD κ e sz T mk tag P vd Dn x len w) (hx : ∀ k, x'.ownBlock = some k → k < w.heap.size → ¬ P (tag k)) : LD κ e sz T mk tag P vd Dn x' len' w :=
  ⟨h.rd, h.td, fun j v hj => (h.dn j v hj).other hx⟩
/-- What append of one thing does to a row of one's own. -/
theorem gr_run (T e ty : TypeId) (z : Value) (sz bys : Nat) (ht : Try.prog.underlying T = some (.slice e)) (hinfo : (Try.prog.info? e).map (fun i => (i.zero, i.size, i.bytes)) = some (some z, sz, bys)) (hzs : z.cells.size = sz) (hsz : 0 < sz) (hby : bys ≤ 100)
    (w : World) (v : Value) (n : Nat) (xs news : List Value) (h : w.ownsRow 0 e sz v n xs) (hl : news.length = sz) (hone : ∀ u ∈ news, u.oneCell' = true) (q c : Nat) (hq : w.heap[q]? = some (.cells news.toArray e (0, 0))) (hL : n ≤ 1000000000) :
    ∃ v' w', (Builtin.append_ #[T, T] ty #[v, .slice (some ⟨q, 0, none⟩) 1 c]).run Try.prog w = .ok v' w' ∧ w'.ownsRow 0 e sz v' (n + 1) (xs ++ news) ∧ Gr e sz v n w w' ∧ ((∃ g, v.ownBlock = some g ∧ v'.ownBlock = some g) ∨ v'.ownBlock = some w.heap.size) := by
  obtain ⟨i0, hi, hz0, hz1, hz2⟩ := info_parts hinfo
  have hnews : ∀ j u, news[j]? = some u → w.cell? ((⟨q, 0, none⟩ : Addr).add j) = some u := by
    intro j u hj
    rw [add_at, cell_of_row w q j _ e (0, 0) hq]
    simpa using hj
  have hbb : (n + 1) * bys ≤ 1000000001 * 100 := Nat.mul_le_mul (by omega) hby
  obtain ⟨v', w', hr, ho, hg, hv⟩ := run_append_own (P := Try.prog) w 0 T ty e i0 _ sz bys ht hi hz0 hz1 hz2 hzs hsz v n xs h ⟨q, 0, none⟩ 1 c news (by simpa using hl) hnews hone (by unfold maxLen; omega) (by omega) (Nat.zero_le _)
  refine ⟨v', w', hr, ho, ?_⟩
  have hal : ∀ (o : Obj) (k : Nat), k < w.heap.size → (w.drew.alloc o).heap[k]? = w.heap[k]? := fun o k hk => Below.heap_alloc w.drew o k hk
  have hgrow : ∀ o, Gr e sz v n w (w.drew.alloc o) := fun o => by
    refine ⟨rfl, rfl, rfl, by simp, fun k hk _ => hal o k hk, fun g j hg _ => ?_, fun g cur hg e => ⟨cur, (hal o g (owns_blk h g hg)).trans e⟩⟩
    exact World.cell?_of_block (hal o g (owns_blk h g hg))
  rcases h.2 with ⟨rfl, rfl⟩ | ⟨g, cap, cur, rfl, _, e2, e3, e4, e5, e6⟩
  · have hr2 := run_append_nil (P := Try.prog) w T ty e i0 _ ht hi hz0 ⟨q, 0, none⟩ 1 c news (by rw [hz1, Nat.one_mul]; exact hl) hnews (by omega) (by omega) (by rw [hz2]; omega)
    rw [hr2] at hr
    cases hr
    exact ⟨hgrow _, .inr rfl⟩
  · by_cases hroom : n + 1 ≤ cap
    · have hfit : n * i0.size + news.length ≤ cur.size := by
        rw [hz1, e5, hl]
        have : (n + 1) * sz ≤ cap * sz := Nat.mul_le_mul_right _ hroom
        rw [Nat.add_mul, Nat.one_mul] at this
        exact this
      have hr2 := run_append_room (P := Try.prog) w T ty e i0 ht hi g n cap cur e2 ⟨q, 0, none⟩ 1 c news (by rw [hz1, Nat.one_mul]; exact hl) hnews hone hroom hfit
      rw [hr2] at hr
      cases hr
      refine ⟨⟨rfl, rfl, rfl, by simp, fun k _ hk => setRow_other w g k _ (fun e => hk (by simp [Value.ownBlock, e])), fun g' j hg' hj => ?_, fun g' cur' hg' ee => by
        obtain rfl : g = g' := by simpa [Value.ownBlock] using hg'
        exact ⟨_, setRow_heap w g cur _ e _ e2⟩⟩, .inl ⟨g, rfl, rfl⟩⟩
      obtain rfl : g = g' := by simpa [Value.ownBlock] using hg'
      rw [cell_of_row _ g j _ e (0, 0) (setRow_heap w g cur _ e _ e2), cell_of_row w g j _ e (0, 0) e2, hz1]
      have hlt : j < cur.size := by
        have : n * sz ≤ cap * sz := Nat.mul_le_mul_right _ e3
        omega
      have ee : (cur.toList.take (n * sz) ++ news ++ cur.toList.drop (n * sz + news.length))[j]? = cur.toList[j]? := by
        rw [List.append_assoc, List.getElem?_append_left (by rw [List.length_take]; have : n * sz ≤ cap * sz := Nat.mul_le_mul_right _ e3; simp; omega), List.getElem?_take, if_pos hj]
      simpa using ee
    · have holds : ∀ j u, xs[j]? = some u → w.cell? ((⟨g, 0, none⟩ : Addr).add j) = some u := World.ownsRow.cells h (g := g) rfl
      have hr2 := run_append_grow (P := Try.prog) w T ty e i0 _ ht hi hz0 ⟨g, 0, none⟩ n cap xs (by rw [hz1]; exact h.1) holds ⟨q, 0, none⟩ 1 c news (by rw [hz1, Nat.one_mul]; exact hl) hnews (by omega) (by omega) (growslice_fits (by omega) (by rw [hz2]; omega))
      rw [hr2] at hr
      cases hr
      exact ⟨hgrow _, .inr rfl⟩
/-- x = append(x, m), the new thing in a block that was just laid. -/
theorem wp_gr {ops : Array Oper} {rest : List Oper} {o : Oper} {a : Act} {Q : Exit → Act → World → Prop} (T e : TypeId) (z : Value) (sz bys : Nat) (ht : Try.prog.underlying T = some (.slice e)) (hinfo : (Try.prog.info? e).map (fun i => (i.zero, i.size, i.bytes)) = some (some z, sz, bys)) (hzs : z.cells.size = sz) (hsz : 0 < sz) (hby : bys ≤ 100)
    (hgd : o.guard = none) (s y : Operand) (ho : o.op = .call { callee := .builtin .append, args := #[s, y], argTypes := #[T, T] }) (v : Value) (n : Nat) (xs news : List Value) (hs : a.eval s = v) (w0 : World) (hb : w0.ownsRow 0 e sz v n xs) (hl : news.length = sz) (hone : ∀ u ∈ news, u.oneCell' = true)
    (hx : a.eval y = .slice (some ⟨w0.heap.size, 0, none⟩) 1 1) (hL : n ≤ 1000000000)
    (h : ∀ p c w', w'.ownsRow 0 e sz (.slice p (n + 1) c) (n + 1) (xs ++ news) → Gr e sz v n (w0.alloc (.cells news.toArray e)) w' → ((∃ g, v.ownBlock = some g ∧ (Value.slice p (n + 1) c).ownBlock = some g) ∨ (Value.slice p (n + 1) c).ownBlock = some (w0.heap.size + 1)) → wpList Try.prog ops Q rest (a.put o.dst (.slice p (n + 1) c)) w') : wpList Try.prog ops Q (o :: rest) a (w0.alloc (.cells news.toArray e)) := by
  refine wpList_plain hgd fun K hK => ?_
  have hb' : (w0.alloc (.cells news.toArray e)).ownsRow 0 e sz v n xs := owns_alloc hb _
  obtain ⟨v', w', hr, h2, h3, h4⟩ := gr_run T e o.type z sz bys ht hinfo hzs hsz hby _ v n xs news hb' hl hone w0.heap.size 1 (heap_alloc_new _ _) hL
  have hsz : (w0.alloc (.cells news.toArray e)).heap.size = w0.heap.size + 1 := by simp
  rw [hsz] at h4
  obtain ⟨p, c, rfl⟩ := owns_form h2
  unfold Oper.wp execOp
  simp only [ho, resolve, invoke, builtin, Sem.run_bind, Sem.run_pure, Result.andThen_ok, List.map_toArray, List.map_cons, List.map_nil, hs, hx, hr]
  exact hK _ _ (h p c w' h2 h3 h4)
/-- What the lists were. -/
structure LW (κ T : Nat) (tag : Nat → Tg) (N : Nat) (ws : Nat → Value) (ns : Nat → Nat) (C : Nat → List Value) (vw : Value) (w : World) : Prop where
  rw_ : w.ownsRow 0 T 1 vw N ((List.range N).map ws)
  tw : ∀ k, vw.ownBlock = some k → tag k = (0, 2 + 3 * κ)
  wl : ∀ i, i < N → ∃ p c, ws i = .slice p (ns i) c ∧ (0 < ns i → ∃ g, p = some ⟨g, 0, none⟩ ∧ g < w.heap.size ∧ tag g = (5, 0) ∧ ∀ j u, (C i)[j]? = some u → w.cell? ⟨g, j, none⟩ = some u)
theorem LW.only {ws : Nat → Value} {vw : Value} (h : LW κ T tag N ws ns C vw w) (ho : Only Q w w') (hq : ∀ k, Q k → k < w.heap.size → tag k ≠ (0, 2 + 3 * κ) ∧ tag k ≠ (5, 0)) : LW κ T tag N ws ns C vw w' := by
  refine ⟨owns_only h.rw_ ho (fun k hk q => (hq k q (owns_blk h.rw_ k hk)).1 (h.tw k hk)), h.tw, fun i hi => ?_⟩
  obtain ⟨p, c, e1, e2⟩ := h.wl i hi
  refine ⟨p, c, e1, fun hn => ?_⟩
  obtain ⟨g, f1, f2, f3, f4⟩ := e2 hn
  have k1 := ho.block g f2 (fun q => (hq g q f2).2 f3)
  exact ⟨g, f1, Nat.lt_of_lt_of_le f2 ho.size, f3, fun j u hu => (World.cell?_of_block k1).trans (f4 j u hu)⟩
theorem LW.below {ws : Nat → Value} {vw : Value} (h : LW κ T tag N ws ns C vw w) (hb : Below w.heap.size w w') : LW κ T tag N ws ns C vw w' :=
  h.only (Q := fun _ => False) (Only.of_below hb) (fun _ q => q.elim)
theorem LW.retag {ws : Nat → Value} {vw : Value} (h : LW κ T tag N ws ns C vw w) (ha : ∀ k, k < w.heap.size → tag' k = tag k) : LW κ T tag' N ws ns C vw w := by
  refine ⟨h.rw_, fun k hk => (ha k (owns_blk h.rw_ k hk)).trans (h.tw k hk), fun i hi => ?_⟩
  obtain ⟨p, c, e1, e2⟩ := h.wl i hi
  refine ⟨p, c, e1, fun hn => ?_⟩
  obtain ⟨g, f1, f2, f3, f4⟩ := e2 hn
  exact ⟨g, f1, f2, (ha g f2).trans f3, f4⟩
theorem LW.at {ws : Nat → Value} {vw : Value} (h : LW κ T tag N ws ns C vw w) {i : Nat} (hi : i < N) : ∃ g c, vw = .slice (some ⟨g, 0, none⟩) N c ∧ w.cell? ⟨g, i, none⟩ = some (ws i) := by
  obtain ⟨g, c, cur, e1, _⟩ := owns_at h.rw_ (by omega)
  have q := h.rw_
  rw [e1] at q
  exact ⟨g, c, e1, owns_cell q i _ (by simp [hi])⟩
end
end Go.Proofs.Ytpelmacblglhoaa
