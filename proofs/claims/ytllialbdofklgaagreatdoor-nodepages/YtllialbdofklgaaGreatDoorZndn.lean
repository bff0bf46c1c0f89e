import Derived.Test.YtllialbdofklgaaGreatDoorNdm
import Derived.Lib.AppendZerosOnto
namespace Go.Proofs.YtllialbdofklgaaGreatDoor
open Go.RowKit
set_option maxHeartbeats 8000000
set_option maxRecDepth 8000
theorem zero9 (k : Nat) : (Builtin.zeroCells (Value.string ⟨#[]⟩).cells k).size = k := by
  simp [Builtin.zeroCells, Value.cells]
theorem wp_gz {ops : Array Oper} {rest : List Oper} {o : Oper} {a : Act} {Q : Exit → Act → World → Prop} {w w1 : World} {v : Value} {n : Nat} (hgd : o.guard = none) (s x : Operand) (ho : o.op = .call { callee := .builtin .append, args := #[s, x], argTypes := #[22, 3] })
    (hs : a.eval s = .slice none 0 0) (hx : a.eval x = I n) (hr : ∀ ty, (Builtin.append_ #[22, 3] ty #[.slice none 0 0, I n]).run Tryz.prog w = .ok v w1) (h : wpList Tryz.prog ops Q rest (a.put o.dst v) w1) : wpList Tryz.prog ops Q (o :: rest) a w := by
  refine wpList_plain hgd fun K hK => ?_
  unfold Oper.wp execOp
  simp only [ho, resolve, invoke, builtin, Sem.run_bind, Sem.run_pure, Result.andThen_ok, List.map_toArray, List.map_cons, List.map_nil, hs, hx, hr]
  exact hK _ _ h
/-- slices.Grow of nil. -/
theorem grow_nil (n : Nat) (w : World) (hn : n ≤ 4294967296) :
    Calls Tryz.prog 126 #[.slice none 0 0, I n] w fun e w' => ∃ V, e = .returned V ∧ w'.ownsRow 0 9 1 V 0 [] ∧ (∀ k, V.ownBlock = some k → w.heap.size ≤ k) ∧ Below w.heap.size w w' := by
  by_cases h0 : n = 0
  · subst h0
    go_enter Tryz.func126, Tryz.ntmps126
    go_wp2
    go_ret
    exact ⟨_, rfl, owns_nil _ _ _, (fun k hk => nomatch hk), Below.refl _ _⟩
  · obtain ⟨i0, hi0, hz0, hz1, hz2⟩ := info_parts info9
    have hold : (Builtin.firstCells i0.size 0 (.slice none 0 0)).run Tryz.prog w.drew = .ok ([] : List Value).toArray w.drew := by
      simp [Builtin.firstCells]
    have hr0 := fun ty => Lib.run_append_grow_zeros w 22 3 ty 9 i0 _ .i64 .i64 Tryz.underlying22 Tryz.underlying3 hi0 hz0 none 0 0 [] hold n (by omega) (by rw [hz1]; omega) (by omega) (by omega) (by rw [hz2]; omega) (by rw [hz2, Nat.zero_add, nextslicecap_zero (by omega)]; omega)
    simp only [Nat.zero_add] at hr0
    have hG1 := grownCap_ge w n 0 9
    have hG2 := grownCap_le_maxLen w n 0 9 (by unfold maxLen; omega)
    generalize grownCap w n 0 9 = G at *
    have hG3 : G ≤ 9223372036854775807 := by unfold maxLen at hG2; omega
    obtain ⟨ROW, hROW⟩ : ∃ ROW : Array Value, ROW = ([] : List Value).toArray ++ Builtin.zeroCells (Value.string ⟨#[]⟩).cells n ++ Builtin.zeroCells (Value.string ⟨#[]⟩).cells (G - n) := ⟨_, rfl⟩
    simp only [← hROW] at hr0
    have hRs : ROW.size = G * 1 := by
      rw [hROW]
      simp only [Array.size_append, zero9, List.size_toArray, List.length_nil]
      omega
    obtain ⟨w1, e1⟩ : ∃ w1, w1 = w.drew.alloc (.cells ROW 9) := ⟨_, rfl⟩
    simp only [← e1] at hr0
    have HR0 := hide hr0
    clear hr0
    have B1 : Below w.heap.size w w1 := by rw [e1]; exact (Below.refl _ _).drew.alloc (Nat.le_refl _) _
    have hg1 : w1.heap[w.heap.size]? = some (.cells ROW 9 (0, 0)) := by rw [e1]; exact heap_alloc_new w.drew _
    have HO : Hid (w1.ownsRow 0 9 1 (.slice (some ⟨w.heap.size, 0, none⟩) 0 G) 0 []) := ⟨rfl, .inr ⟨w.heap.size, G, ROW, rfl, Nat.zero_le _, hg1, Nat.zero_le _, hG2, hRs, rfl⟩⟩
    have HB := hide B1
    have hn' : (0 : Int) < (n : Int) := by omega
    clear hold hROW hRs e1 B1 hg1 hG2
    go_enter Tryz.func126, Tryz.ntmps126
    go_wp2_with (at_builtin; refine wp_gz (n := n) rfl (.tmp 20) (.tmp 21) rfl (by rfl) (by rfl) (unhide HR0) ?_)
    go_ret
    exact ⟨_, rfl, unhide HO, fun k hk => by cases hk; exact Nat.le_refl _, unhide HB⟩
/-- Texts behind a row of one's own. -/
theorem wp_appS {ops : Array Oper} {rest : List Oper} {o : Oper} {a : Act} {Q : Exit → Act → World → Prop} {w : World} (hgd : o.guard = none) (s x : Operand) (ho : o.op = .call { callee := .builtin .append, args := #[s, x], argTypes := #[22, 22] })
    (v : Value) (n : Nat) (l : List Bs) (hs : a.eval s = v) (hown : w.ownsRow 0 9 1 v n (l.map S)) (g q m c : Nat) (u : List Bs) (hu : Sts w (some ⟨g, q, none⟩) m u) (hx : a.eval x = .slice (some ⟨g, q, none⟩) m c) (hl : n + m ≤ 8589934592) 
    (h : ∀ p cap w', w'.ownsRow 0 9 1 (.slice p (n + m) cap) (n + m) ((l ++ u).map S) → Only (fun k => v.ownBlock = some k) w w' → (∀ k, (Value.slice p (n + m) cap).ownBlock = some k → v.ownBlock = some k ∨ w.heap.size ≤ k) → wpList Tryz.prog ops Q rest (a.put o.dst (.slice p (n + m) cap)) w') :
    wpList Tryz.prog ops Q (o :: rest) a w := by
  obtain ⟨i0, hi, hz0, hz1, hz2⟩ := info_parts info9
  obtain ⟨v', w', hr, h2, h3, _, h5⟩ := run_append_own_at (P := Tryz.prog) w 0 22 o.type 9 i0 (.string ⟨#[]⟩) 1 16 Tryz.underlying22 hi hz0 hz1 hz2 rfl (by decide) v n (l.map S) hown ⟨g, q, none⟩ m c (u.map S) (by rw [List.length_map, ← hu.1]; omega) (fun j z hj => by
      rw [add_off]
      obtain ⟨hj1, hj2⟩ := List.getElem?_eq_some_iff.1 hj
      rw [List.length_map] at hj1
      obtain ⟨p, o, e, hcs⟩ := hu.2 (by rw [hu.1]; omega)
      cases e
      rw [hcs j (by rw [hu.1]; exact hj1), ← hj2, List.getElem_map, List.getD_eq_getElem?_getD, List.getElem?_eq_getElem hj1]
      rfl) (by intro z hz; obtain ⟨y, _, rfl⟩ := List.mem_map.1 hz; rfl) (by unfold maxLen; omega) (by omega) (Nat.zero_le _)
  rw [← List.map_append] at h2
  obtain ⟨p, cap, rfl⟩ := owns_form h2
  refine wpList_plain hgd fun K hK => ?_
  unfold Oper.wp execOp
  simp only [ho, resolve, invoke, builtin, Sem.run_bind, Sem.run_pure, Result.andThen_ok, List.map_toArray, List.map_cons, List.map_nil, hs, hx, hr]
  refine hK _ _ (h p cap w' h2 (Only.of_grown h3) ?_)
  intro k hk
  rcases h5 with h5 | h5
  · left; rw [← h5]; exact hk
  · right; rw [hk] at h5; have := Option.some.inj h5; omega
/-- slices.Concat of two rows of texts. -/
theorem concat2 (g g1 o1 n1 c1 g2 o2 n2 c2 : Nat) (l1 l2 : List Bs) (w : World) (hg : w.heap[g]? = some (.cells #[.slice (some ⟨g1, o1, none⟩) n1 c1, .slice (some ⟨g2, o2, none⟩) n2 c2] 22 (0, 0)))
    (h1 : Sts w (some ⟨g1, o1, none⟩) n1 l1) (h2 : Sts w (some ⟨g2, o2, none⟩) n2 l2) (b1 : n1 ≤ 2147483648) (b2 : n2 ≤ 2147483648) :
    Calls Tryz.prog 105 #[.slice (some ⟨g, 0, none⟩) 2 2] w fun e w' => ∃ V, e = .returned V ∧ w'.ownsRow 0 9 1 V (n1 + n2) ((l1 ++ l2).map S) ∧ (∀ k, V.ownBlock = some k → w.heap.size ≤ k) ∧ Below w.heap.size w w' := by
  have k0 : w.cell? ⟨g, 0, none⟩ = some (.slice (some ⟨g1, o1, none⟩) n1 c1) := by rw [cell_of_row w g 0 _ 22 (0, 0) hg]; rfl
  have k1 : w.cell? ⟨g, 1, none⟩ = some (.slice (some ⟨g2, o2, none⟩) n2 c2) := by rw [cell_of_row w g 1 _ 22 (0, 0) hg]; rfl
  have hgl := lt_of_row hg
  have HG := hide hg
  have S1 := hide h1
  have S2 := hide h2
  have H0 := hide (grow_nil (n1 + n2) w (by omega))
  clear h1 h2 hg
  go_enter Tryz.func105, Tryz.ntmps105
  go_wp2
  go_loopw [3, 11] (fun s i wr => ∃ k : Nat, k ≤ 2 ∧ i = .int .i64 k ∧ s = .int .i64 ((if k = 0 then 0 else if k = 1 then n1 else n1 + n2 : Nat) : Int) ∧ wr = w) (fun _ i _ => 2 - (Go.RowKit.intOf i).toNat)
  case atStart => exact ⟨0, by omega, rfl, rfl, rfl⟩
  case round =>
    obtain ⟨k, hk, rfl, rfl, rfl⟩ := hrel
    match k, hk with
    | 0, _ =>
      simp only [if_true]
      go_wp2
      go_round
      case measure => simp [Go.RowKit.intOf]
      case rel => exact ⟨1, by omega, by simp, by simp, by first | trivial | rfl⟩
    | 1, _ =>
      simp only [if_true, Nat.one_ne_zero, if_false]
      go_wp2
      go_round
      case measure => simp [Go.RowKit.intOf]
      case rel => exact ⟨2, by omega, by simp, by simp, by first | trivial | rfl⟩
    | 2, _ =>
      simp only [show (2 : Nat) = 0 ↔ False by decide, show (2 : Nat) = 1 ↔ False by decide, if_false]
      go_wp2_with fail
      refine (unhide H0).mono ?_
      rintro e w2 ⟨V, rfl, r2, o2', b2'⟩
      have HR := hide r2
      have HV := hide o2'
      have HB := hide b2'
      clear r2 o2' b2' H0
      go_wp2
      go_loopw [6, 27] (fun v i W => ∃ k : Nat, k ≤ 2 ∧ i = .int .i64 k ∧ W.ownsRow 0 9 1 v (if k = 0 then 0 else if k = 1 then n1 else n1 + n2) ((if k = 0 then [] else if k = 1 then l1 else l1 ++ l2 : List Bs).map S) ∧ (∀ j, v.ownBlock = some j → wr.heap.size ≤ j) ∧ Below wr.heap.size wr W) (fun _ i _ => 2 - (Go.RowKit.intOf i).toNat)
      case atStart => exact ⟨0, by omega, rfl, unhide HR, unhide HV, unhide HB⟩
      case round =>
        clear HR HV HB
        obtain ⟨k, hk, rfl, hr, hv, hb⟩ := hrel
        have HB := hide hb
        have HV := hide hv
        match k, hk with
        | 0, _ =>
          simp only [if_true] at hr
          obtain ⟨p, c, rfl⟩ := owns_form hr
          have HR := hide hr
          have k0' := (hb.cell hgl).trans k0
          have T1 := hide ((unhide S1).below hb)
          have hgl' := Nat.lt_of_lt_of_le hgl hb.size
          clear hr hv hb
          go_wp2_with (at_builtin; refine wp_appS rfl (.tmp 31) (.tmp 32) rfl (.slice p 0 c) 0 [] (by rfl) (unhide HR) g1 o1 n1 c1 l1 (unhide T1) (by rfl) (by omega) ?_; intro p3 c3 w3 r3 o3 n3; have HR3 := hide r3; have HO3 := hide o3; have HN3 := hide n3; clear r3 o3 n3)
          go_round
          case measure => simp [Go.RowKit.intOf]
          case rel =>
            refine ⟨1, by omega, by simp, by simpa using unhide HR3, fun j hj => ?_, (unhide HO3).below (unhide HB) (unhide HB).size (fun j hj => unhide HV j hj)⟩
            rcases unhide HN3 j (by rw [Nat.zero_add]; exact hj) with q | q
            · exact unhide HV j q
            · exact Nat.le_trans (unhide HB).size q
        | 1, _ =>
          simp only [if_true, Nat.one_ne_zero, if_false] at hr
          obtain ⟨p, c, rfl⟩ := owns_form hr
          have HR := hide hr
          have k1' := (hb.cell hgl).trans k1
          have T1 := hide ((unhide S2).below hb)
          have hgl' := Nat.lt_of_lt_of_le hgl hb.size
          clear hr hv hb
          go_wp2_with (at_builtin; refine wp_appS rfl (.tmp 31) (.tmp 32) rfl (.slice p n1 c) n1 l1 (by rfl) (unhide HR) g2 o2 n2 c2 l2 (unhide T1) (by rfl) (by omega) ?_; intro p3 c3 w3 r3 o3 n3; have HR3 := hide r3; have HO3 := hide o3; have HN3 := hide n3; clear r3 o3 n3)
          go_round
          case measure => simp [Go.RowKit.intOf]
          case rel =>
            refine ⟨2, by omega, by simp, unhide HR3, fun j hj => ?_, (unhide HO3).below (unhide HB) (unhide HB).size (fun j hj => unhide HV j hj)⟩
            rcases unhide HN3 j hj with q | q
            · exact unhide HV j q
            · exact Nat.le_trans (unhide HB).size q
        | 2, _ =>
          simp only [show (2 : Nat) = 0 ↔ False by decide, show (2 : Nat) = 1 ↔ False by decide, if_false] at hr
          have HR := hide hr
          clear hr hv hb
          go_wp2
          go_ret
          exact ⟨_, rfl, unhide HR, unhide HV, unhide HB⟩
end Go.Proofs.YtllialbdofklgaaGreatDoor
namespace Go.Proofs.YtllialbdofklgaaGreatDoor
open Go.RowKit
set_option maxHeartbeats 16000000
set_option maxRecDepth 8000
/-- Between two operations of joined's region: base W2, the box A, what is put together. -/
structure Wj (W2 : World) (A : Nat) (e1 e2 f1 f2 : Value) (K V : List Bs) (c : Ch2) (L : Nat → Bool) (W : World) : Prop where
  bel : Below A W2 W
  sz : W2.heap.size ≤ W.heap.size
  g1 : L 4 = true → W.heap[c.g1]? = some (.cells #[e1, e2] 22 (0, 0)) ∧ W2.heap.size ≤ c.g1
  g2 : L 10 = true → W.heap[c.g2]? = some (.cells #[f1, f2] 22 (0, 0)) ∧ W2.heap.size ≤ c.g2
  k : L 5 = true → W.ownsRow 0 9 1 (.slice c.p1 K.length c.c1) K.length (K.map S) ∧ ∀ i, (Value.slice c.p1 K.length c.c1).ownBlock = some i → W2.heap.size ≤ i
  v : L 11 = true → W.ownsRow 0 9 1 (.slice c.p2 V.length c.c2) V.length (V.map S) ∧ ∀ i, (Value.slice c.p2 V.length c.c2).ownBlock = some i → W2.heap.size ≤ i
  d1 : L 5 = true → L 4 = true
  d2 : L 11 = true → L 10 = true
  d : L 12 = true → L 5 = true ∧ L 11 = true
  e : L 13 = true → L 12 = true
  b0 : L 13 = false → W.heap[A]? = some (.cells #[.bool false, .slice none 0 0, .slice none 0 0, .slice none 0 0] 25 (0, 0))
  b1 : L 13 = true → W.heap[A]? = some (.cells #[.bool true, .slice c.p1 K.length c.c1, .slice c.p2 V.length c.c2, .slice none 0 0] 25 (0, 0))
variable {W2 : World} {A : Nat} {e1 e2 f1 f2 : Value} {K V : List Bs} {c : Ch2} {L : Nat → Bool} {W W' : World}
theorem Wj.grow (h : Wj W2 A e1 e2 f1 f2 K V c L W) (q : Below W.heap.size W W') (hA : A < W2.heap.size) : Wj W2 A e1 e2 f1 f2 K V c L W' :=
  ⟨h.bel.trans (q.mono (by have := h.sz; omega)), Nat.le_trans h.sz q.size, fun e => ⟨(q.block _ (lt_of_row (h.g1 e).1)).trans (h.g1 e).1, (h.g1 e).2⟩, fun e => ⟨(q.block _ (lt_of_row (h.g2 e).1)).trans (h.g2 e).1, (h.g2 e).2⟩, fun e => ⟨owns_below (h.k e).1 q, (h.k e).2⟩, fun e => ⟨owns_below (h.v e).1 q, (h.v e).2⟩, h.d1, h.d2, h.d, h.e, fun e => (q.block A (by have := h.sz; omega)).trans (h.b0 e), fun e => (q.block A (by have := h.sz; omega)).trans (h.b1 e)⟩
theorem Wj.pure (h : Wj W2 A e1 e2 f1 f2 K V c L W) (i : Nat) (h1 : i ≠ 4) (h2 : i ≠ 5) (h3 : i ≠ 10) (h4 : i ≠ 11) (h5 : i ≠ 13) (h6 : i = 12 → L 5 = true ∧ L 11 = true) : Wj W2 A e1 e2 f1 f2 K V c (upd L i) W := by
  refine ⟨h.bel, h.sz, fun q => h.g1 (by rwa [upd_ne h1.symm] at q), fun q => h.g2 (by rwa [upd_ne h3.symm] at q), fun q => h.k (by rwa [upd_ne h2.symm] at q), fun q => h.v (by rwa [upd_ne h4.symm] at q), fun q => ?_, fun q => ?_, fun q => ?_, fun q => ?_, fun q => h.b0 (by rwa [upd_ne h5.symm] at q), fun q => h.b1 (by rwa [upd_ne h5.symm] at q)⟩
  · rw [upd_ne h1.symm]; exact h.d1 (by rwa [upd_ne h2.symm] at q)
  · rw [upd_ne h3.symm]; exact h.d2 (by rwa [upd_ne h4.symm] at q)
  · rw [upd_ne h2.symm, upd_ne h4.symm]
    by_cases e : i = 12
    · exact h6 e
    · exact h.d (by rwa [upd_ne (Ne.symm e)] at q)
  · by_cases e : i = 12
    · rw [e]; exact upd_eq _ _
    · rw [upd_ne (Ne.symm e)]
      exact h.e (by rwa [upd_ne h5.symm] at q)
theorem fls {b : Bool} (h : b = true → False) : b = false := by cases b; rfl; exact (h rfl).elim
theorem Sts.some {w : World} {a : Option Addr} {n : Nat} {l : List Bs} (h : Sts w a n l) (hn : 0 < n) : ∃ g o, a = some ⟨g, o, none⟩ := by
  obtain ⟨p, o, e, _⟩ := h.2 hn
  exact ⟨p, o, e⟩
theorem joined_leaf (m n : Nd) (ka va kb vb : Option Addr) (kc vc kd vd : Nat) (key : Bs) (w : World) (hm : NA m ka va none w) (hn : NA n kb vb none w) (bm : NB m) (bn : NB n) (lm : m.leaf = true) (im : m.kids = []) (inn : n.kids = [])
    (p1 : 0 < m.keys.length) (p2 : 0 < n.keys.length) (p3 : 0 < m.vals.length) (p4 : 0 < n.vals.length) (q1 : m.keys.length ≤ 2147483648) (q2 : n.keys.length ≤ 2147483648) (q3 : m.vals.length ≤ 2147483648) (q4 : n.vals.length ≤ 2147483648) :
    Calls Tryz.prog 73 #[nda m ka va none kc vc 0, S key, nda n kb vb none kd vd 0] w fun e w' => ∃ vK vV, e = .returned (.agg #[.bool true, vK, vV, .slice none 0 0]) ∧ w'.ownsRow 0 9 1 vK (m.keys ++ n.keys).length ((m.keys ++ n.keys).map S) ∧ w'.ownsRow 0 9 1 vV (m.vals ++ n.vals).length ((m.vals ++ n.vals).map S) ∧ (∀ i, vK.ownBlock = some i → w.heap.size ≤ i) ∧ (∀ i, vV.ownBlock = some i → w.heap.size ≤ i) ∧ Below w.heap.size w w' := by
  obtain ⟨lf, ks, vs, is⟩ := m
  obtain ⟨lg, ls, us, js⟩ := n
  simp only at lm im inn p1 p2 p3 p4 q1 q2 q3 q4
  subst lm im inn
  obtain ⟨ga, oa, rfl⟩ := hm.ks.some p1
  obtain ⟨gb, ob, rfl⟩ := hn.ks.some p2
  obtain ⟨gc, oc, rfl⟩ := hm.vs.some p3
  obtain ⟨gd, od, rfl⟩ := hn.vs.some p4
  unfold nda
  simp only [List.length_nil]
  obtain ⟨E1, hE1⟩ : ∃ E1 : Value, E1 = .slice (some ⟨ga, oa, none⟩) ks.length kc := ⟨_, rfl⟩
  obtain ⟨E2, hE2⟩ : ∃ E2 : Value, E2 = .slice (some ⟨gb, ob, none⟩) ls.length kd := ⟨_, rfl⟩
  obtain ⟨F1, hF1⟩ : ∃ F1 : Value, F1 = .slice (some ⟨gc, oc, none⟩) vs.length vc := ⟨_, rfl⟩
  obtain ⟨F2, hF2⟩ : ∃ F2 : Value, F2 = .slice (some ⟨gd, od, none⟩) us.length vd := ⟨_, rfl⟩
  have hA := (Below.refl w.heap.size w).alloc (Nat.le_refl _) (.cells #[.bool true, .slice (some ⟨ga, oa, none⟩) ks.length kc, .slice (some ⟨gc, oc, none⟩) vs.length vc, .slice none 0 0] 25)
  have hg := heap_alloc_new w (.cells #[.bool true, .slice (some ⟨ga, oa, none⟩) ks.length kc, .slice (some ⟨gc, oc, none⟩) vs.length vc, .slice none 0 0] 25)
  have hs0 := size_alloc w (.cells #[.bool true, .slice (some ⟨ga, oa, none⟩) ks.length kc, .slice (some ⟨gc, oc, none⟩) vs.length vc, .slice none 0 0] 25)
  generalize hW0 : w.alloc (.cells #[.bool true, .slice (some ⟨ga, oa, none⟩) ks.length kc, .slice (some ⟨gc, oc, none⟩) vs.length vc, .slice none 0 0] 25) = W0 at hA hg hs0
  have hz0 := lt_of_row hg
  have hA1 := hA.alloc hA.size (.cells #[.bool lg, .slice (some ⟨gb, ob, none⟩) ls.length kd, .slice (some ⟨gd, od, none⟩) us.length vd, .slice none 0 0] 25)
  have hg1 := (heap_alloc_old W0 (.cells #[.bool lg, .slice (some ⟨gb, ob, none⟩) ls.length kd, .slice (some ⟨gd, od, none⟩) us.length vd, .slice none 0 0] 25) hz0).trans hg
  have hk := heap_alloc_new W0 (.cells #[.bool lg, .slice (some ⟨gb, ob, none⟩) ls.length kd, .slice (some ⟨gd, od, none⟩) us.length vd, .slice none 0 0] 25)
  have hs1 := size_alloc W0 (.cells #[.bool lg, .slice (some ⟨gb, ob, none⟩) ls.length kd, .slice (some ⟨gd, od, none⟩) us.length vd, .slice none 0 0] 25)
  generalize hW1 : W0.alloc (.cells #[.bool lg, .slice (some ⟨gb, ob, none⟩) ls.length kd, .slice (some ⟨gd, od, none⟩) us.length vd, .slice none 0 0] 25) = W1 at hA1 hg1 hk hs1
  have hA2 := hA1.alloc hA1.size (.cells #[.bool false, .slice none 0 0, .slice none 0 0, .slice none 0 0] 25)
  have hp := heap_alloc_new W1 (.cells #[.bool false, .slice none 0 0, .slice none 0 0, .slice none 0 0] 25)
  have hg2 := (heap_alloc_old W1 (.cells #[.bool false, .slice none 0 0, .slice none 0 0, .slice none 0 0] 25) (lt_of_row hg1)).trans hg1
  have hk2 := (heap_alloc_old W1 (.cells #[.bool false, .slice none 0 0, .slice none 0 0, .slice none 0 0] 25) (lt_of_row hk)).trans hk
  have hs2 := size_alloc W1 (.cells #[.bool false, .slice none 0 0, .slice none 0 0, .slice none 0 0] 25)
  have b12 : Below W1.heap.size W1 (W1.alloc (.cells #[.bool false, .slice none 0 0, .slice none 0 0, .slice none 0 0] 25)) := (Below.refl _ _).alloc (Nat.le_refl _) _
  generalize hW2 : W1.alloc (.cells #[.bool false, .slice none 0 0, .slice none 0 0, .slice none 0 0] 25) = W2 at hA2 hp hg2 hk2 hs2 b12
  have HX := hide (show W0.heap.size = w.heap.size + 1 ∧ W1.heap.size = W0.heap.size + 1 ∧ W2.heap.size = W1.heap.size + 1 from ⟨hs0, hs1, hs2⟩)
  have HSt := hide (fun (W : World) (q : Below W1.heap.size W2 W) => show Below w.heap.size w W from hA1.trans ((b12.trans q).mono hA1.size))
  have HM := hide hm
  have HN := hide hn
  have HA2 := hide hA2
  have HP := hide hp
  have HG := hide hg2
  have HK := hide hk2
  obtain ⟨c0, c1, c2, c3⟩ := box4 hg2 (Below.refl _ _) (lt_of_row hg2)
  have hz2 := lt_of_row hg2
  clear hA hg hA1 hg1 hk hA2 hp hg2 hk2 b12 hm hn bm bn hs0 hs1 hs2 hz0
  go_enter Tryz.func73, Tryz.ntmps73
  go_wp2
  have hX := unhide HX
  refine rjn w.heap.size W0.heap.size W1.heap.size ks.length ls.length vs.length us.length kc kd vc vd (ks ++ ls).length (vs ++ us).length (some ⟨ga, oa, none⟩) (some ⟨gb, ob, none⟩) (some ⟨gc, oc, none⟩) (some ⟨gd, od, none⟩) (by kernel_rfl) (by kernel_rfl) (by kernel_rfl) _ _ (by show 22 ≤ Array.size _; simp) rfl rfl rfl (Wj W2 W1.heap.size E1 E2 F1 F2 (ks ++ ls) (vs ++ us)) ?_ ?_ ?_ ?_ ?_ ?_ ?_ ?_ ?_ ?_ ?_ ?_ ?_
  · exact ⟨⟨none, 0, none, 0, 0, 0⟩, ⟨(Below.refl _ _).drew, Nat.le_refl _, (fun q => nomatch q), (fun q => nomatch q), (fun q => nomatch q), (fun q => nomatch q), (fun q => nomatch q), (fun q => nomatch q), (fun q => nomatch q), (fun q => nomatch q), fun _ => unhide HP, (fun q => nomatch q)⟩⟩
  · intro i hi c L W hW
    simp only [List.mem_cons, List.not_mem_nil, or_false, not_or] at hi
    exact hW.pure i hi.1 hi.2.1 hi.2.2.1 hi.2.2.2.1 hi.2.2.2.2.1 (fun e => absurd e hi.2.2.2.2.2)
  · intro c L W hW
    exact (box4 (unhide HG) hW.bel (by omega)).2.1
  · intro c L W hW
    exact (box4 (unhide HK) hW.bel (by omega)).2.1
  · intro c L W hW
    exact (box4 (unhide HG) hW.bel (by omega)).2.2.1
  · intro c L W hW
    exact (box4 (unhide HK) hW.bel (by omega)).2.2.1
  · intro c L W hW h4 h7
    exact hW.pure 12 (by decide) (by decide) (by decide) (by decide) (by decide) (fun _ => ⟨h4, h7⟩)
  · intro c L W hW h4
    have hb := (Below.refl W.heap.size W).alloc (Nat.le_refl _) (.cells #[E1, E2] 22)
    have hg := hW.grow hb (by omega)
    have h5 : L 5 = false := fls fun q => by rw [hW.d1 q] at h4; cases h4
    have h12 : L 12 = false := fls fun q => by rw [(hW.d q).1] at h5; cases h5
    have h13 : L 13 = false := fls fun q => by rw [hW.e q] at h12; cases h12
    subst hE1 hE2
    refine ⟨{ c with g1 := W.heap.size }, fun j hj => ?_, rfl, hg.bel, hg.sz, fun _ => ⟨heap_alloc_new _ _, hW.sz⟩, fun q => hg.g2 (by rwa [upd_ne (by decide)] at q), fun q => ?_, fun q => hg.v (by rwa [upd_ne (by decide)] at q), fun _ => upd_eq _ _, fun q => ?_, fun q => ?_, fun q => ?_, fun q => hg.b0 h13, fun q => ?_⟩
    · unfold vjn
      split <;> first | rfl | (rw [h4] at hj; cases hj)
    · rw [upd_ne (by decide), h5] at q; cases q
    · rw [upd_ne (by decide)] at q ⊢; exact hW.d2 q
    · rw [upd_ne (by decide), h12] at q; cases q
    · rw [upd_ne (by decide), h13] at q; cases q
    · rw [upd_ne (by decide), h13] at q; cases q
  · intro c L W hW h4
    have hb := (Below.refl W.heap.size W).alloc (Nat.le_refl _) (.cells #[F1, F2] 22)
    have hg := hW.grow hb (by omega)
    have h5 : L 11 = false := fls fun q => by rw [hW.d2 q] at h4; cases h4
    have h12 : L 12 = false := fls fun q => by rw [(hW.d q).2] at h5; cases h5
    have h13 : L 13 = false := fls fun q => by rw [hW.e q] at h12; cases h12
    subst hF1 hF2
    refine ⟨{ c with g2 := W.heap.size }, fun j hj => ?_, rfl, hg.bel, hg.sz, fun q => hg.g1 (by rwa [upd_ne (by decide)] at q), fun _ => ⟨heap_alloc_new _ _, hW.sz⟩, fun q => hg.k (by rwa [upd_ne (by decide)] at q), fun q => ?_, fun q => ?_, fun _ => upd_eq _ _, fun q => ?_, fun q => ?_, fun q => hg.b0 h13, fun q => ?_⟩
    · unfold vjn
      split <;> first | rfl | (rw [h4] at hj; cases hj)
    · rw [upd_ne (by decide), h5] at q; cases q
    · rw [upd_ne (by decide)] at q ⊢; exact hW.d1 q
    · rw [upd_ne (by decide), h12] at q; cases q
    · rw [upd_ne (by decide), h13] at q; cases q
    · rw [upd_ne (by decide), h13] at q; cases q
  · intro c L W hW h5 h4
    have hbw := unhide HSt W hW.bel
    have hc := concat2 c.g1 ga oa ks.length kc gb ob ls.length kd ks ls W (by rw [← hE1, ← hE2]; exact (hW.g1 h4).1) ((unhide HM).ks.below hbw) ((unhide HN).ks.below hbw) q1 q2
    refine hc.mono ?_
    rintro e w' ⟨V, rfl, r, o, b⟩
    rw [← List.length_append] at r
    obtain ⟨p, cp, rfl⟩ := owns_form r
    have hg := hW.grow b (by omega)
    have h12 : L 12 = false := fls fun q => by rw [(hW.d q).1] at h5; cases h5
    have h13 : L 13 = false := fls fun q => by rw [hW.e q] at h12; cases h12
    refine ⟨{ c with p1 := p, c1 := cp }, fun j hj => ?_, rfl, hg.bel, hg.sz, fun q => hg.g1 (by rwa [upd_ne (by decide)] at q), fun q => hg.g2 (by rwa [upd_ne (by decide)] at q), fun _ => ⟨r, fun i hi => Nat.le_trans hW.sz (o i hi)⟩, fun q => hg.v (by rwa [upd_ne (by decide)] at q), fun q => by rw [upd_ne (by decide)]; exact h4, fun q => ?_, fun q => ?_, fun q => ?_, fun q => hg.b0 h13, fun q => ?_⟩
    · unfold vjn
      split <;> first | rfl | (rw [h5] at hj; cases hj) | (rw [h12] at hj; cases hj)
    · rw [upd_ne (by decide)] at q ⊢; exact hW.d2 q
    · rw [upd_ne (by decide), h12] at q; cases q
    · rw [upd_ne (by decide), h13] at q; cases q
    · rw [upd_ne (by decide), h13] at q; cases q
  · intro c L W hW h11 h10
    have hbw := unhide HSt W hW.bel
    have hc := concat2 c.g2 gc oc vs.length vc gd od us.length vd vs us W (by rw [← hF1, ← hF2]; exact (hW.g2 h10).1) ((unhide HM).vs.below hbw) ((unhide HN).vs.below hbw) q3 q4
    refine hc.mono ?_
    rintro e w' ⟨V, rfl, r, o, b⟩
    rw [← List.length_append] at r
    obtain ⟨p, cp, rfl⟩ := owns_form r
    have hg := hW.grow b (by omega)
    have h12 : L 12 = false := fls fun q => by rw [(hW.d q).2] at h11; cases h11
    have h13 : L 13 = false := fls fun q => by rw [hW.e q] at h12; cases h12
    refine ⟨{ c with p2 := p, c2 := cp }, fun j hj => ?_, rfl, hg.bel, hg.sz, fun q => hg.g1 (by rwa [upd_ne (by decide)] at q), fun q => hg.g2 (by rwa [upd_ne (by decide)] at q), fun q => hg.k (by rwa [upd_ne (by decide)] at q), fun _ => ⟨r, fun i hi => Nat.le_trans hW.sz (o i hi)⟩, fun q => ?_, fun q => by rw [upd_ne (by decide)]; exact h10, fun q => ?_, fun q => ?_, fun q => hg.b0 h13, fun q => ?_⟩
    · unfold vjn
      split <;> first | rfl | (rw [h11] at hj; cases hj) | (rw [h12] at hj; cases hj)
    · rw [upd_ne (by decide)] at q ⊢; exact hW.d1 q
    · rw [upd_ne (by decide), h12] at q; cases q
    · rw [upd_ne (by decide), h13] at q; cases q
    · rw [upd_ne (by decide), h13] at q; cases q
  · intro c L W hW h13 h12
    have hb0 := hW.b0 h13
    have o4 := set4_only W W1.heap.size (.bool true) (.slice c.p1 (ks ++ ls).length c.c1) (.slice c.p2 (vs ++ us).length c.c2) (.slice none 0 0)
    have r4 := set4 hb0 rfl (.bool true) (.slice c.p1 (ks ++ ls).length c.c1) (.slice c.p2 (vs ++ us).length c.c2) (.slice none 0 0)
    refine ⟨⟨o4.below hW.bel (by have := hW.sz; omega) (fun k e => by omega), Nat.le_trans hW.sz o4.size, fun q => ?_, fun q => ?_, fun q => ?_, fun q => ?_, fun q => ?_, fun q => ?_, fun _ => by rw [upd_ne (by decide), upd_ne (by decide)]; exact hW.d h12, fun _ => by rw [upd_ne (by decide)]; exact h12, fun q => ?_, fun _ => r4⟩, hb0⟩
    · rw [upd_ne (by decide)] at q
      exact ⟨(o4.block _ (lt_of_row (hW.g1 q).1) (fun e => by have := (hW.g1 q).2; omega)).trans (hW.g1 q).1, (hW.g1 q).2⟩
    · rw [upd_ne (by decide)] at q
      exact ⟨(o4.block _ (lt_of_row (hW.g2 q).1) (fun e => by have := (hW.g2 q).2; omega)).trans (hW.g2 q).1, (hW.g2 q).2⟩
    · rw [upd_ne (by decide)] at q
      exact ⟨owns_only (hW.k q).1 o4 (fun i hi e => by have := (hW.k q).2 i hi; omega), (hW.k q).2⟩
    · rw [upd_ne (by decide)] at q
      exact ⟨owns_only (hW.v q).1 o4 (fun i hi e => by have := (hW.v q).2 i hi; omega), (hW.v q).2⟩
    · rw [upd_ne (by decide)] at q ⊢; exact hW.d1 q
    · rw [upd_ne (by decide)] at q ⊢; exact hW.d2 q
    · rw [upd_eq] at q; cases q
  · intro c L W hall hW
    have k := hW.k (hall 5 (by omega))
    have v := hW.v (hall 11 (by omega))
    have hA := unhide HA2
    have bw : Below w.heap.size w W := hA.trans (hW.bel.mono (by omega))
    have hb1 := hW.b1 (hall 13 (by omega))
    have hz := lt_of_row hb1
    have HK' := hide k
    have HV' := hide v
    have HB := hide bw
    have HB1 := hide hb1
    clear k v hA bw hb1 hW hall
    simp only [Act.put, List.setIfInBounds_toArray, List.set_cons_succ, List.set_cons_zero]
    clear c0 c1 c2 c3
    go_wp2
    refine outN1 (p := 6) rfl (by rfl) (by rfl) (unhide HB1) ⟨_, _, rfl, (unhide HK').1, (unhide HV').1, fun i hi => ?_, fun i hi => ?_, unhide HB⟩
    · have := (unhide HK').2 i hi; omega
    · have := (unhide HV').2 i hi; omega
end Go.Proofs.YtllialbdofklgaaGreatDoor
namespace Go.Proofs.YtllialbdofklgaaGreatDoor
open Go.RowKit
set_option maxHeartbeats 8000000
set_option maxRecDepth 8000
theorem siz_le {n : Nd} (hb : NB n) : n.siz ≤ 100000000000 := by
  obtain ⟨b1, b2, b3, b4, b5⟩ := hb
  unfold Nd.siz
  split <;> omega
theorem mayJoin_leaf (n : Nd) (ka va ia : Option Addr) (kc vc ic : Nat) (w : World) (h : NA n ka va ia w) (hb : NB n) (hl : n.leaf = true) (h1 : agl n = true) (h2 : n.siz ≤ 480) :
    Calls Tryz.prog 69 #[nda n ka va ia kc vc ic] w fun e w' => e = .returned (.bool true) ∧ Below w.heap.size w w' := by
  have hA := (Below.refl w.heap.size w).alloc (Nat.le_refl _) (.cells #[.bool n.leaf, .slice ka n.keys.length kc, .slice va n.vals.length vc, .slice ia n.kids.length ic] 25)
  have hg := heap_alloc_new w (.cells #[.bool n.leaf, .slice ka n.keys.length kc, .slice va n.vals.length vc, .slice ia n.kids.length ic] 25)
  have hz := lt_of_row hg
  have hna := h.below hA
  have H1 := hide (agrees_leaf n ka va ia kc vc ic _ hna hb hl)
  rw [h1] at H1
  have H3 := hide (fun W (b : Below (w.alloc (.cells #[.bool n.leaf, .slice ka n.keys.length kc, .slice va n.vals.length vc, .slice ia n.kids.length ic] 25)).heap.size (w.alloc (.cells #[.bool n.leaf, .slice ka n.keys.length kc, .slice va n.vals.length vc, .slice ia n.kids.length ic] 25)) W) => size_any n ka va ia kc vc ic W (hna.below b) hb)
  have HA := hide hA
  have HG := hide hg
  generalize n.siz = sz at *
  clear h hA hb hna hg h1
  unfold nda at *
  rw [hl] at *
  generalize n.keys.length = kl at *
  generalize n.vals.length = vl at *
  generalize n.kids.length = il at *
  clear hl n
  go_enter Tryz.func69, Tryz.ntmps69
  go_wp2_with fail
  refine (unhide H1).mono ?_
  rintro e w1 ⟨rfl, b⟩
  have HB1 := hide b
  obtain ⟨d0, d1, d2, d3⟩ := box4 (unhide HG) b hz
  have hz1 : w.heap.size < w1.heap.size := Nat.lt_of_lt_of_le hz b.size
  have h3 := hide (unhide H3 w1 b)
  clear b H3
  go_wp2_with fail
  refine (unhide h3).mono ?_
  rintro e w3 ⟨rfl, b3⟩
  have HB3 := hide ((unhide HA).trans (((unhide HB1).trans (b3.mono (unhide HB1).size)).mono (unhide HA).size))
  have h' : decide ((sz : Int) ≤ 480) = true := by rw [decide_eq_true_eq]; omega
  clear b3
  go_wp2
  go_ret
  exact ⟨ret_bool (by first | rfl | simpa using h'), unhide HB3⟩
theorem goTogether_leaf (m n : Nd) (ka va ia kb vb ib : Option Addr) (kc vc ic kd vd id : Nat) (key : Bs) (w : World) (hm : NA m ka va ia w) (hn : NA n kb vb ib w) (lm : m.leaf = true) (ln : n.leaf = true) (p1 : 0 < m.keys.length) (p2 : 0 < n.keys.length) (b1 : m.keys.length ≤ 4294967296) (b2 : n.keys.length ≤ 4294967296)
    (h1 : m.keys.getD (m.keys.length - 1) [] < key) (h2 : ¬ n.keys.getD 0 [] < key) :
    Calls Tryz.prog 72 #[nda m ka va ia kc vc ic, S key, nda n kb vb ib kd vd id] w fun e w' => e = .returned (.bool true) ∧ Below w.heap.size w w' := by
  have hA := (Below.refl w.heap.size w).alloc (Nat.le_refl _) (.cells #[.bool m.leaf, .slice ka m.keys.length kc, .slice va m.vals.length vc, .slice ia m.kids.length ic] 25)
  have hA2 := hA.alloc hA.size (.cells #[.bool n.leaf, .slice kb n.keys.length kd, .slice vb n.vals.length vd, .slice ib n.kids.length id] 25)
  obtain ⟨g1, o1, e1, q1, c1⟩ := (hm.ks.below hA2).at (show m.keys.length - 1 < m.keys.length by omega)
  obtain ⟨g2, o2, e2, q2, c2⟩ := (hn.ks.below hA2).at p2
  subst e1 e2
  rw [Nat.add_zero] at c2
  have s1 := fun W => run_geq (m.keys.getD (m.keys.length - 1) []) key W
  rw [show decide (¬ m.keys.getD (m.keys.length - 1) [] < key) = false from decide_eq_false (fun q => q h1)] at s1
  have s2 := fun W => run_geq (n.keys.getD 0 []) key W
  rw [show decide (¬ n.keys.getD 0 [] < key) = true from decide_eq_true h2] at s2
  have HA := hide hA2
  clear hA hA2 hm hn h1 h2
  generalize m.keys.getD (m.keys.length - 1) [] = x at *
  generalize n.keys.getD 0 [] = y at *
  unfold nda
  rw [lm, ln] at *
  generalize m.keys.length = kl at *
  generalize m.vals.length = vl at *
  generalize m.kids.length = il at *
  generalize n.keys.length = kl2 at *
  generalize n.vals.length = vl2 at *
  generalize n.kids.length = il2 at *
  clear lm ln m n
  have p1' : (0 : Int) < (kl : Int) := by omega
  have p1'' : decide ((0 : Int) < (kl : Int)) = true := by rw [decide_eq_true_eq]; omega
  have p2' : ((kl2 : Int) == 0) = false := by simp; omega
  have p2'' : (0 : Int) < (kl2 : Int) := by omega
  obtain ⟨kk, rfl⟩ : ∃ kk, kl = kk + 1 := ⟨kl - 1, by omega⟩
  rw [Nat.add_sub_cancel] at c1
  go_enter Tryz.func72, Tryz.ntmps72
  go_wp2
  go_ret
  exact ⟨ret_bool (by first | rfl | simp), unhide HA⟩
/-- What comes of two leaves that go together. -/
def jnd (m n : Nd) : Nd := ⟨true, m.keys ++ n.keys, m.vals ++ n.vals, []⟩
theorem join_leaf (m n : Nd) (ka va kb vb : Option Addr) (kc vc kd vd : Nat) (key : Bs) (w : World) (hm : NA m ka va none w) (hn : NA n kb vb none w) (bm : NB m) (bn : NB n) (bj : NB (jnd m n)) (lm : m.leaf = true) (ln : n.leaf = true) (im : m.kids = []) (inn : n.kids = [])
    (p1 : 0 < m.keys.length) (p2 : 0 < n.keys.length) (p3 : 0 < m.vals.length) (p4 : 0 < n.vals.length) (q1 : m.keys.length ≤ 2147483648) (q2 : n.keys.length ≤ 2147483648) (q3 : m.vals.length ≤ 2147483648) (q4 : n.vals.length ≤ 2147483648)
    (am : agl m = true) (an : agl n = true) (sm : m.siz ≤ 480) (sn : n.siz ≤ 480) (km : kok m.keys = true) (kn : kok n.keys = true) (kk : noKey key = false) (hk : key.length ≤ 4294967296) (h1 : m.keys.getD (m.keys.length - 1) [] < key) (h2 : ¬ n.keys.getD 0 [] < key) (sj : (jnd m n).siz ≤ 718) :
    Calls Tryz.prog 41 #[nda m ka va none kc vc 0, S key, nda n kb vb none kd vd 0] w fun e w' => ∃ vK vV, e = .returned (.tuple #[.agg #[.bool true, vK, vV, .slice none 0 0], I 0]) ∧ w'.ownsRow 0 9 1 vK (jnd m n).keys.length ((jnd m n).keys.map S) ∧ w'.ownsRow 0 9 1 vV (jnd m n).vals.length ((jnd m n).vals.map S) ∧ (∀ i, vK.ownBlock = some i → w.heap.size ≤ i) ∧ (∀ i, vV.ownBlock = some i → w.heap.size ≤ i) ∧ Below w.heap.size w w' := by
  have im' : m.kids.length = 0 := by rw [im]; rfl
  have inn' : n.kids.length = 0 := by rw [inn]; rfl
  have hA := (Below.refl w.heap.size w).alloc (Nat.le_refl _) (.cells #[.bool true, .slice ka m.keys.length kc, .slice va m.vals.length vc, .slice none 0 0] 25)
  have hg := heap_alloc_new w (.cells #[.bool true, .slice ka m.keys.length kc, .slice va m.vals.length vc, .slice none 0 0] 25)
  have hs0 := size_alloc w (.cells #[.bool true, .slice ka m.keys.length kc, .slice va m.vals.length vc, .slice none 0 0] 25)
  generalize hW0 : w.alloc (.cells #[.bool true, .slice ka m.keys.length kc, .slice va m.vals.length vc, .slice none 0 0] 25) = W0 at hA hg hs0
  have hA1 := hA.alloc hA.size (.cells #[.bool true, .slice kb n.keys.length kd, .slice vb n.vals.length vd, .slice none 0 0] 25)
  have hg1 := (heap_alloc_old W0 (.cells #[.bool true, .slice kb n.keys.length kd, .slice vb n.vals.length vd, .slice none 0 0] 25) (lt_of_row hg)).trans hg
  have hk1 := heap_alloc_new W0 (.cells #[.bool true, .slice kb n.keys.length kd, .slice vb n.vals.length vd, .slice none 0 0] 25)
  have hs1 := size_alloc W0 (.cells #[.bool true, .slice kb n.keys.length kd, .slice vb n.vals.length vd, .slice none 0 0] 25)
  generalize hW1 : W0.alloc (.cells #[.bool true, .slice kb n.keys.length kd, .slice vb n.vals.length vd, .slice none 0 0] 25) = W1 at hA1 hg1 hk1 hs1
  have hA2 := hA1.alloc hA1.size (.cells #[.bool false, .slice none 0 0, .slice none 0 0, .slice none 0 0] 25)
  have hp := heap_alloc_new W1 (.cells #[.bool false, .slice none 0 0, .slice none 0 0, .slice none 0 0] 25)
  have hg2 := (heap_alloc_old W1 (.cells #[.bool false, .slice none 0 0, .slice none 0 0, .slice none 0 0] 25) (lt_of_row hg1)).trans hg1
  have hk2 := (heap_alloc_old W1 (.cells #[.bool false, .slice none 0 0, .slice none 0 0, .slice none 0 0] 25) (lt_of_row hk1)).trans hk1
  have hs2 := size_alloc W1 (.cells #[.bool false, .slice none 0 0, .slice none 0 0, .slice none 0 0] 25)
  generalize hW2 : W1.alloc (.cells #[.bool false, .slice none 0 0, .slice none 0 0, .slice none 0 0] 25) = W2 at hA2 hp hg2 hk2 hs2
  have HX := hide (show W0.heap.size = w.heap.size + 1 ∧ W1.heap.size = W0.heap.size + 1 ∧ W2.heap.size = W1.heap.size + 1 from ⟨hs0, hs1, hs2⟩)
  have HM := fun {W : World} (q : Below W2.heap.size W2 W) => (hm.below hA2).below q
  have HN := fun {W : World} (q : Below W2.heap.size W2 W) => (hn.below hA2).below q
  have nm : nda m ka va none kc vc 0 = .agg #[.bool true, .slice ka m.keys.length kc, .slice va m.vals.length vc, .slice none 0 0] := by unfold nda; rw [lm, im']
  have nn : nda n kb vb none kd vd 0 = .agg #[.bool true, .slice kb n.keys.length kd, .slice vb n.vals.length vd, .slice none 0 0] := by unfold nda; rw [ln, inn']
  have X1 := hide (fun W (q : Below W2.heap.size W2 W) => mayJoin_leaf m ka va none kc vc 0 W (HM q) bm lm am sm)
  have X2 := hide (fun W (q : Below W2.heap.size W2 W) => mayJoin_leaf n kb vb none kd vd 0 W (HN q) bn ln an sn)
  have X3 := hide (fun W (q : Below W2.heap.size W2 W) => keysMayBe_any ka _ kc m.keys W (HM q).ks bm.k bm.kt)
  have X4 := hide (fun W (q : Below W2.heap.size W2 W) => keysMayBe_any kb _ kd n.keys W (HN q).ks bn.k bn.kt)
  have X5 := hide (fun W => isNoKey_any key W hk)
  have X6 := hide (fun W (q : Below W2.heap.size W2 W) => goTogether_leaf m n ka va none kb vb none kc vc 0 kd vd 0 key W (HM q) (HN q) lm ln p1 p2 bm.k bn.k h1 h2)
  have X7 := hide (fun W (q : Below W2.heap.size W2 W) => joined_leaf m n ka va kb vb kc vc kd vd key W (HM q) (HN q) bm bn lm im inn p1 p2 p3 p4 q1 q2 q3 q4)
  rw [km] at X3
  rw [kn] at X4
  rw [kk] at X5
  rw [nm] at X1 X6 X7 ⊢
  rw [nn] at X2 X6 X7 ⊢
  have X8 := hide (fun W pk pv ck cv (q : NA (jnd m n) pk pv none W) => size_any (jnd m n) pk pv none ck cv 0 W q bj)
  have X9 := hide (fun W pk pv ck cv (q : NA (jnd m n) pk pv none W) => copied_leaf (jnd m n) pk pv ck cv W q bj rfl)
  have HA2 := hide hA2
  have HP := hide hp
  have HG := hide hg2
  have HK := hide hk2
  have hz2 : w.heap.size < W2.heap.size := by omega
  have hz3 : W0.heap.size < W2.heap.size := by omega
  have hz4 : W1.heap.size < W2.heap.size := by omega
  have hJK : (jnd m n).keys = m.keys ++ n.keys := rfl
  have hJV : (jnd m n).vals = m.vals ++ n.vals := rfl
  rw [← hJK, ← hJV] at X7
  clear HM HN hA hg hA1 hg1 hk1 hA2 hp hg2 hk2 hs0 hs1 hs2 hm hn bm bn bj lm ln im inn im' inn' p1 p2 p3 p4 q1 q2 q3 q4 am an sm sn km kn kk h1 h2 nm nn hJK hJV
  obtain ⟨c0, c1, c2, c3⟩ := box4 (unhide HG) (Below.refl _ _) hz2
  obtain ⟨d0, d1, d2, d3⟩ := box4 (unhide HK) (Below.refl _ _) hz3
  have x1 := hide (unhide X1 W2 (Below.refl _ _))
  generalize hjn : jnd m n = jn at *
  have HJ := hide hjn
  clear hjn
  generalize m.keys.length = k1 at *
  generalize m.vals.length = v1 at *
  generalize n.keys.length = k2 at *
  generalize n.vals.length = v2 at *
  go_enter Tryz.func41, Tryz.ntmps41
  go_wp2_with fail
  refine (unhide x1).mono ?_
  rintro e w1 ⟨rfl, b1⟩
  clear c0 c1 c2 c3 d0 d1 d2 d3 x1 hW0 hW1 hW2
  have B1 := hide b1
  obtain ⟨c0, c1, c2, c3⟩ := box4 (unhide HG) b1 hz2
  obtain ⟨d0, d1, d2, d3⟩ := box4 (unhide HK) b1 hz3
  have l1 := Nat.lt_of_lt_of_le hz2 b1.size
  have l2 := Nat.lt_of_lt_of_le hz3 b1.size
  have x2 := hide (unhide X2 w1 b1)
  clear b1
  go_wp2_with fail
  refine (unhide x2).mono ?_
  rintro e w2 ⟨rfl, b2⟩
  clear c0 c1 c2 c3 d0 d1 d2 d3 x2 l1 l2
  have b2 := (unhide B1).trans (b2.mono (unhide B1).size)
  have B2 := hide b2
  obtain ⟨c0, c1, c2, c3⟩ := box4 (unhide HG) b2 hz2
  obtain ⟨d0, d1, d2, d3⟩ := box4 (unhide HK) b2 hz3
  have l1 := Nat.lt_of_lt_of_le hz2 b2.size
  have l2 := Nat.lt_of_lt_of_le hz3 b2.size
  have x3 := hide (unhide X3 w2 b2)
  clear b2
  go_wp2_with fail
  refine (unhide x3).mono ?_
  rintro e w3 ⟨rfl, nq, rfl⟩
  clear x3
  have B3 := hide (bel_q (unhide B2) nq)
  have x4 := hide (unhide X4 _ (unhide B3))
  go_wp2_with fail
  refine (unhide x4).mono ?_
  rintro e w3 ⟨rfl, nr, rfl⟩
  clear x4
  have B4 : Hid (Below W2.heap.size W2 (w2.drewN (nq + nr))) := by
    have q := bel_q (unhide B3) nr
    rwa [World.drewN_drewN] at q
  have x5 := hide (unhide X5 (w2.drewN (nq + nr)))
  go_wp2_with fail
  refine (unhide x5).mono ?_
  rintro e w3 ⟨rfl, rfl⟩
  clear x5
  have x6 := hide (unhide X6 _ (unhide B4))
  go_wp2_with fail
  refine (unhide x6).mono ?_
  rintro e w4 ⟨rfl, b4⟩
  clear c0 c1 c2 c3 d0 d1 d2 d3 x6 l1 l2
  have b4 := (unhide B4).trans (b4.mono (unhide B4).size)
  have B5 := hide b4
  obtain ⟨c0, c1, c2, c3⟩ := box4 (unhide HG) b4 hz2
  obtain ⟨d0, d1, d2, d3⟩ := box4 (unhide HK) b4 hz3
  have l1 := Nat.lt_of_lt_of_le hz2 b4.size
  have l2 := Nat.lt_of_lt_of_le hz3 b4.size
  have x7 := hide (unhide X7 w4 b4)
  clear b4
  go_wp2_with fail
  refine (unhide x7).mono ?_
  rintro e w5 ⟨vK, vV, rfl, rK, rV, oK, oV, b5⟩
  clear c0 c1 c2 c3 d0 d1 d2 d3 x7 l1 l2
  have b5 := (unhide B5).trans (b5.mono (unhide B5).size)
  obtain ⟨pK, cK, rfl⟩ := owns_form rK
  obtain ⟨pV, cV, rfl⟩ := owns_form rV
  have hq := heap_alloc_new w5 (.cells #[.bool false, .slice none 0 0, .slice none 0 0, .slice none 0 0] 25)
  have hb3 := (Below.refl w5.heap.size w5).alloc (Nat.le_refl _) (.cells #[.bool false, .slice none 0 0, .slice none 0 0, .slice none 0 0] 25)
  have ht := setRow_heap _ _ _ #[.bool true, .slice pK jn.keys.length cK, .slice pV jn.vals.length cV, .slice none 0 0] 25 _ hq
  have hb4 := (setRow_only (w5.alloc (.cells #[.bool false, .slice none 0 0, .slice none 0 0, .slice none 0 0] 25)) w5.heap.size #[.bool true, .slice pK jn.keys.length cK, .slice pV jn.vals.length cV, .slice none 0 0]).below hb3 hb3.size (fun k e => by omega)
  have HQ := hide hq
  clear hq hb3
  generalize hW3 : (w5.alloc (.cells #[.bool false, .slice none 0 0, .slice none 0 0, .slice none 0 0] 25)).setRow w5.heap.size #[.bool true, .slice pK jn.keys.length cK, .slice pV jn.vals.length cV, .slice none 0 0] = W6 at ht hb4
  have HW3 := hide hW3
  have b6 := b5.trans (hb4.mono b5.size)
  have B6 := hide b6
  have rK6 := owns_below rK hb4
  have rV6 := owns_below rV hb4
  have hna : ∀ {W : World}, Below W6.heap.size W6 W → NA jn pK pV none W := fun {W} q => by
    obtain ⟨p, c, e1, s1, _⟩ := Sts.of (owns_below rK6 q)
    obtain ⟨p', c', e2, s2, _⟩ := Sts.of (owns_below rV6 q)
    cases e1
    cases e2
    rw [← unhide HJ] at *
    exact ⟨s1, s2, Ins.nil _ _⟩
  have x8 := hide (unhide X8 W6 pK pV cK cV (hna (Below.refl _ _)))
  have X9' := hide (fun W (q : Below W6.heap.size W6 W) => unhide X9 W pK pV cK cV (hna q))
  obtain ⟨c0, c1, c2, c3⟩ := box4 ht (Below.refl _ _) (lt_of_row ht)
  have hl6 := lt_of_row ht
  have HT6 := hide ht
  have hnd : nda jn pK pV none cK cV 0 = .agg #[.bool true, .slice pK jn.keys.length cK, .slice pV jn.vals.length cV, .slice none 0 0] := by rw [← unhide HJ]; rfl
  have hlf : jn.leaf = true := by rw [← unhide HJ]; rfl
  rw [hnd] at x8 X9'
  rw [hlf] at X9'
  have hl1 : W1.heap.size < W6.heap.size := Nat.lt_of_lt_of_le hz4 b6.size
  have HP6 := hide ((b6.block _ hz4).trans (unhide HP))
  clear rK rV rK6 rV6 oK oV b5 hb4 hW3 hna ht b6 X8 X9 hnd hlf
  generalize hkl : jn.keys.length = kl at *
  generalize hvl : jn.vals.length = vl at *
  have HKL := hide hkl
  have HVL := hide hvl
  clear hkl hvl
  go_wp2_with (first | (refine wp_st25 rfl (.tmp 8) (.tmp 45) rfl w5.heap.size (by rfl) true pK pV none kl cK vl cV 0 0 (by rfl) _ rfl (unhide HQ) ?_; rw [unhide HW3]) | fail)
  refine (unhide x8).mono ?_
  rintro e w7 ⟨rfl, b7⟩
  clear c0 c1 c2 c3 HQ HW3 x8
  obtain ⟨c0, c1, c2, c3⟩ := box4 (unhide HT6) b7 hl6
  have x9 := hide (unhide X9' w7 b7)
  have hl7 := Nat.lt_of_lt_of_le hl6 b7.size
  have HP7 := hide ((b7.block _ hl1).trans (unhide HP6))
  have B7 := hide ((unhide B6).trans (b7.mono (unhide B6).size))
  have h' : decide ((718 : Int) < (jn.siz : Int)) = false := by rw [decide_eq_false_iff_not]; omega
  clear b7 X9'
  go_wp2_with fail
  refine (unhide x9).mono ?_
  rintro e w8 ⟨vK, vV, rfl, rK, rV, oK, oV, b8⟩
  obtain ⟨qK, dK, rfl⟩ := owns_form rK
  obtain ⟨qV, dV, rfl⟩ := owns_form rV
  have hp8 := (b8.block _ (lt_of_row (unhide HP7))).trans (unhide HP7)
  have HP8 := hide hp8
  have RK := hide rK
  have RV := hide rV
  have OK := hide oK
  have OV := hide oV
  have B8 := hide ((unhide B7).trans (b8.mono (unhide B7).size))
  have hS7 := (unhide B7).size
  clear rK rV oK oV b8 hp8 c0 c1 c2 c3 x9
  go_wp2_with (first | (refine wp_st25 rfl (.tmp 6) (.tmp 51) rfl W1.heap.size (by rfl) true qK qV none kl dK vl dV 0 0 (by rfl) _ rfl (unhide HP8) ?_) | fail)
  have h4 := setRow_heap _ _ _ #[.bool true, .slice qK kl dK, .slice qV vl dV, .slice none 0 0] 25 _ (unhide HP8)
  have oF := setRow_only w8 W1.heap.size #[.bool true, .slice qK kl dK, .slice qV vl dV, .slice none 0 0]
  have hX := unhide HX
  have hbb := (unhide HA2).trans ((unhide B8).mono (unhide HA2).size)
  refine outN (p := 6) (q := 7) rfl (by rfl) (by rfl) (by rfl) h4 ⟨_, _, rfl, ?_, ?_, fun i hi => ?_, fun i hi => ?_, oF.below hbb hbb.size (fun i e => by omega)⟩
  · rw [unhide HKL]
    exact owns_only (unhide RK) oF (fun i hi e => by have := unhide OK i hi; omega)
  · rw [unhide HVL]
    exact owns_only (unhide RV) oF (fun i hi e => by have := unhide OV i hi; omega)
  · have := unhide OK i hi; omega
  · have := unhide OV i hi; omega
end Go.Proofs.YtllialbdofklgaaGreatDoor
