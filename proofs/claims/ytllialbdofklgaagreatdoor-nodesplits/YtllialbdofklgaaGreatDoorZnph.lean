import Derived.Test.YtllialbdofklgaaGreatDoorNpg
import Derived.Test.YtllialbdofklgaaGreatDoorZrgcq
namespace Go.Proofs.YtllialbdofklgaaGreatDoor
open Go.RowKit
set_option maxHeartbeats 16000000
set_option maxRecDepth 8000
theorem cell_same {w w' : World} {g : Nat} (h : w'.heap[g]? = w.heap[g]?) (k : Nat) : w'.cell? ⟨g, k, none⟩ = w.cell? ⟨g, k, none⟩ := by simp [World.cell?, h]
/-- Between two operations of a region that stores into two boxes: base W2, the boxes A and D. -/
structure Wsu (s1 s2 : Nat) (W2 : World) (A D : Nat) (u v : Array Value) (L : Nat → Bool) (W : World) : Prop where
  only : Only (fun k => k = A ∨ k = D) W2 W
  a : W.heap[A]? = some (.cells (if L s1 then u else zbox) 25 (0, 0))
  b : W.heap[D]? = some (.cells (if L s2 then v else zbox) 25 (0, 0))
theorem Wsu.pure {s1 s2 : Nat} {W2 W : World} {A D : Nat} {u v : Array Value} {L : Nat → Bool} (h : Wsu s1 s2 W2 A D u v L W) (i : Nat) (h1 : i ≠ s1) (h2 : i ≠ s2) : Wsu s1 s2 W2 A D u v (upd L i) W :=
  ⟨h.only, by rw [upd_ne h1.symm]; exact h.a, by rw [upd_ne h2.symm]; exact h.b⟩
theorem Wsu.blk {s1 s2 : Nat} {W2 W : World} {A D X : Nat} {u v : Array Value} {L : Nat → Bool} {o : Obj} (h : Wsu s1 s2 W2 A D u v L W) (g : W2.heap[X]? = some o) (hA : X ≠ A) (hD : X ≠ D) : W.heap[X]? = some o :=
  (h.only.block X (lt_of_row g) (fun e => by rcases e with e | e; exact hA e; exact hD e)).trans g
theorem Wsu.box {s1 s2 : Nat} {W2 W : World} {A D X : Nat} {u v : Array Value} {L : Nat → Bool} {x0 x1 x2 x3 : Value} (h : Wsu s1 s2 W2 A D u v L W) (g : W2.heap[X]? = some (.cells #[x0, x1, x2, x3] 25 (0, 0))) (hA : X ≠ A) (hD : X ≠ D) : W.cell? ⟨X, 0, none⟩ = some x0 ∧ W.cell? ⟨X, 1, none⟩ = some x1 ∧ W.cell? ⟨X, 2, none⟩ = some x2 ∧ W.cell? ⟨X, 3, none⟩ = some x3 := by
  have g2 := h.blk g hA hD
  exact box4 g2 (Below.refl _ _) (lt_of_row g2)
theorem Wsu.st1 {s1 s2 : Nat} {W2 W : World} {A D : Nat} {x0 x1 x2 x3 : Value} {v : Array Value} {L : Nat → Bool} (h : Wsu s1 s2 W2 A D #[x0, x1, x2, x3] v L W) (hl : L s1 = false) (hs : s1 ≠ s2) (hne : A ≠ D) : Wsu s1 s2 W2 A D #[x0, x1, x2, x3] v (upd L s1) ((((W.setCell ⟨A, 0, none⟩ x0).setCell ⟨A, 1, none⟩ x1).setCell ⟨A, 2, none⟩ x2).setCell ⟨A, 3, none⟩ x3) ∧ W.heap[A]? = some (.cells zbox 25 (0, 0)) := by
  have ha := h.a
  rw [hl] at ha
  have o := set4_only W A x0 x1 x2 x3
  refine ⟨⟨h.only.trans o (fun k _ e => .inl e), by rw [upd_eq]; exact set4 ha rfl _ _ _ _, ?_⟩, ha⟩
  rw [upd_ne hs.symm]
  exact (o.block _ (lt_of_row h.b) (fun e => hne e.symm)).trans h.b
theorem Wsu.st2 {s1 s2 : Nat} {W2 W : World} {A D : Nat} {x0 x1 x2 x3 : Value} {u : Array Value} {L : Nat → Bool} (h : Wsu s1 s2 W2 A D u #[x0, x1, x2, x3] L W) (hl : L s2 = false) (hs : s1 ≠ s2) (hne : A ≠ D) : Wsu s1 s2 W2 A D u #[x0, x1, x2, x3] (upd L s2) ((((W.setCell ⟨D, 0, none⟩ x0).setCell ⟨D, 1, none⟩ x1).setCell ⟨D, 2, none⟩ x2).setCell ⟨D, 3, none⟩ x3) ∧ W.heap[D]? = some (.cells zbox 25 (0, 0)) := by
  have hb := h.b
  rw [hl] at hb
  have o := set4_only W D x0 x1 x2 x3
  refine ⟨⟨h.only.trans o (fun k _ e => .inr e), ?_, by rw [upd_eq]; exact set4 hb rfl _ _ _ _⟩, hb⟩
  rw [upd_ne hs]
  exact (o.block _ (lt_of_row h.a) hne).trans h.a
/-- A node, a text, a node come out. -/
theorem outNSN {fn : Func} {p q t : Tmp} {W : World} {a : Act} {Y Z : Nat} {k u0 u1 u2 u3 v0 v1 v2 v3 : Value} {Post : Ending → World → Prop} (hf : fn.results = #[.cell p 25, .tmp t, .cell q 25]) (hd : a.defers = []) (hs : a.tmps.getD p undef = .pointer (some ⟨Y, 0, none⟩)) (hk : a.tmps.getD t undef = k) (ht : a.tmps.getD q undef = .pointer (some ⟨Z, 0, none⟩)) (g : W.heap[Y]? = some (.cells #[u0, u1, u2, u3] 25 (0, 0))) (h : W.heap[Z]? = some (.cells #[v0, v1, v2, v3] 25 (0, 0))) (hp : Post (.returned (.tuple #[.agg #[u0, u1, u2, u3], k, .agg #[v0, v1, v2, v3]])) W) : bodyPost Tryz.prog fn Post .ret a W := by
  obtain ⟨d0, d1, d2, d3⟩ := box4 g (Below.refl _ _) (lt_of_row g)
  obtain ⟨e0, e1, e2, e3⟩ := box4 h (Below.refl _ _) (lt_of_row h)
  refine bodyPost_ret ?_ hd hp
  have hs' : a.tmps[p]?.getD undef = .pointer (some ⟨Y, 0, none⟩) := by simpa using hs
  have ht' : a.tmps[q]?.getD undef = .pointer (some ⟨Z, 0, none⟩) := by simpa using ht
  have hk' : a.tmps[t]?.getD undef = k := by simpa using hk
  simp only [results, hf]
  simp [hs', ht', hk', asAddr, loadVar25 Y u0 u1 u2 u3 W d0 d1 d2 d3, loadVar25 Z v0 v1 v2 v3 W e0 e1 e2 e3]
theorem refParts_leaf (ks vs : List Bs) (ia : Option Addr) (g1 o1 g2 o2 kc vc il ic i : Nat) (w : World) (h1 : Sts w (some ⟨g1, o1, none⟩) ks.length ks) (h2 : Sts w (some ⟨g2, o2, none⟩) vs.length vs) (hv : vs.length = ks.length) (hi : 1 ≤ i) (hi2 : i < ks.length) (ck : ks.length ≤ kc) (cv : vs.length ≤ vc) (hb : ks.length ≤ 4294967296) (ht : tot ks ≤ 4294967296) :
    Calls Tryz.prog 81 #[.agg #[.bool true, .slice (some ⟨g1, o1, none⟩) ks.length kc, .slice (some ⟨g2, o2, none⟩) vs.length vc, .slice ia il ic], I i] w fun r w' => ∃ vK vV uK uV, r = .returned (.tuple #[.agg #[.bool true, vK, vV, .slice none 0 0], S (btw (ks.getD (i - 1) []) (ks.getD i [])), .agg #[.bool true, uK, uV, .slice none 0 0]]) ∧ Rws w.heap.size ⟨true, ks.take i, vs.take i, []⟩ vK vV (.slice none 0 0) w' ∧ Rws w.heap.size ⟨true, ks.drop i, vs.drop i, []⟩ uK uV (.slice none 0 0) w' ∧ Below w.heap.size w w' := by
  have hA := (Below.refl w.heap.size w).alloc (Nat.le_refl _) (.cells #[.bool true, .slice (some ⟨g1, o1, none⟩) ks.length kc, .slice (some ⟨g2, o2, none⟩) vs.length vc, .slice ia il ic] 25)
  have hg := heap_alloc_new w (.cells #[.bool true, .slice (some ⟨g1, o1, none⟩) ks.length kc, .slice (some ⟨g2, o2, none⟩) vs.length vc, .slice ia il ic] 25)
  have hs0 := size_alloc w (.cells #[.bool true, .slice (some ⟨g1, o1, none⟩) ks.length kc, .slice (some ⟨g2, o2, none⟩) vs.length vc, .slice ia il ic] 25)
  generalize hW0 : w.alloc (.cells #[.bool true, .slice (some ⟨g1, o1, none⟩) ks.length kc, .slice (some ⟨g2, o2, none⟩) vs.length vc, .slice ia il ic] 25) = W0 at hA hg hs0
  have hA1 := hA.alloc hA.size (.cells zbox 25)
  have hg1 := (alloc_old W0 (.cells zbox 25) (lt_of_row hg)).trans hg
  have hk1 := heap_alloc_new W0 (.cells zbox 25)
  have hs1 := size_alloc W0 (.cells zbox 25)
  generalize hW1 : W0.alloc (.cells zbox 25) = W1 at hA1 hg1 hk1 hs1
  have hA2 := hA1.alloc hA1.size (.cells zbox 25)
  have hp := heap_alloc_new W1 (.cells zbox 25)
  have hg2 := (alloc_old W1 (.cells zbox 25) (lt_of_row hg1)).trans hg1
  have hk2 := (alloc_old W1 (.cells zbox 25) (lt_of_row hk1)).trans hk1
  have hs2 := size_alloc W1 (.cells zbox 25)
  generalize hW2 : W1.alloc (.cells zbox 25) = W2 at hA2 hp hg2 hk2 hs2
  have HX := hide (show W0.heap.size = w.heap.size + 1 ∧ W1.heap.size = W0.heap.size + 1 ∧ W2.heap.size = W1.heap.size + 1 from ⟨hs0, hs1, hs2⟩)
  have HKs := hide (fun W (q : Below w.heap.size w W) => h1.below q)
  have HVs := hide (fun W (q : Below w.heap.size w W) => h2.below q)
  have HA2 := hide hA2
  have HP := hide hp
  have HK := hide hk2
  have HG := hide hg2
  have hz2 : w.heap.size < W2.heap.size := by omega
  obtain ⟨c0, c1, c2, c3⟩ := box4 hg2 (Below.refl _ _) hz2
  clear hA hg hA1 hg1 hk1 hA2 hp hg2 hk2 hs0 hs1 hs2 h1 h2
  unfold zbox at hW1 hW2
  have hi3 : i < vs.length := by omega
  have hb2 : vs.length ≤ 4294967296 := by omega
  have HV0 := hide hv
  clear hv
  go_enter Tryz.func81, Tryz.ntmps81
  go_wp2
  clear hW0 hW1 hW2
  refine rpa w.heap.size ks.length kc vs.length vc i g1 o1 g2 o2 (by kernel_rfl) (by kernel_rfl) (by kernel_rfl) _ _ (by show 24 ≤ Array.size _; simp) rfl rfl (Wpt 4 9 10 11 12 W2 9 (i) (i) ((ks.take (i)).map S) ((vs.take (i)).map S) (fun x y => #[.bool true, x, y, .slice none 0 0])) ?_ ?_ (by omega) (by omega) ?_ ?_ ?_ ?_ ?_ ?_ ?_ ?_
  · exact ⟨⟨none, 0, none, 0, none, 0, 0, 0, 0⟩, ⟨(Below.refl _ _).drew, (fun q => nomatch q), (fun q => nomatch q), (fun q => nomatch q), (fun q => nomatch q), (fun q => nomatch q)⟩⟩
  · intro j hj c L W hW
    simp only [List.mem_cons, List.not_mem_nil, or_false, not_or] at hj
    exact hW.pure j hj.1 hj.2.1 hj.2.2.1 hj.2.2.2.1 (fun q => absurd q hj.2.2.2.2)
  · intro c L W hW
    exact (box4 (unhide HG) hW.bel hz2).2.1
  · intro c L W hW
    exact (box4 (unhide HG) hW.bel hz2).2.2.1
  · intro c L W hW h1 h2
    exact hW.pure 10 (by decide) (by decide) (by decide) (by decide) (fun _ => ⟨h1, h2⟩)
  · intro c L W hW h1
    have hS := ((unhide HKs) W ((unhide HA2).trans (hW.bel.mono (unhide HA2).size))).tk (i) (by omega)
    refine (refTexts_any (some ⟨g1, o1, none⟩) (i) kc (ks.take (i)) W hS (by omega) (fun q => nomatch q)).mono ?_
    rintro e w' ⟨V, rfl, r, o, q⟩
    rw [show (ks.take (i)).length = (i) by rw [List.length_take]; first | done | omega] at r
    obtain ⟨p, cp, rfl⟩ := owns_form r
    obtain ⟨hd, hf, hw⟩ := hW.call1 h1 (by decide) (by decide) (by decide) (by decide) r o q
    refine ⟨_, fun j hj => ?_, rfl, hw⟩
    unfold vrpa
    split <;> first | rfl | (rw [h1] at hj; cases hj) | (rw [hd] at hj; cases hj)
  · intro c L W hW h1
    have hS := ((unhide HVs) W ((unhide HA2).trans (hW.bel.mono (unhide HA2).size))).tk (i) (by omega)
    refine (refTexts_any (some ⟨g2, o2, none⟩) (i) vc (vs.take (i)) W hS (by omega) (fun q => nomatch q)).mono ?_
    rintro e w' ⟨V, rfl, r, o, q⟩
    rw [show (vs.take (i)).length = (i) by rw [List.length_take]; first | done | omega] at r
    obtain ⟨p, cp, rfl⟩ := owns_form r
    obtain ⟨hd, hf, hw⟩ := hW.call2 h1 (by decide) (by decide) (by decide) (by decide) r o q
    refine ⟨_, fun j hj => ?_, rfl, hw⟩
    unfold vrpa
    split <;> first | rfl | (rw [h1] at hj; cases hj) | (rw [hd] at hj; cases hj)
  · intro c L W hW h1
    obtain ⟨hf, hw⟩ := hW.box h1 (by decide) (by decide) (by decide) (by decide)
    refine ⟨_, fun j hj => ?_, rfl, hw⟩
    unfold vrpa
    split <;> first | rfl | (rw [h1] at hj; cases hj)
  · intro c L W hW h1 h2 h3
    exact hW.store h1 h2 h3 (by decide) (by decide) (by decide) (by decide) (by decide) _ _ _ _ rfl
  · intro ca L Wa hall hWa
    have ka := hWa.k (hall 4 (by omega))
    have va := hWa.v (hall 9 (by omega))
    obtain ⟨ga, gb⟩ := hWa.g (hall 11 (by omega))
    rw [hall 12 (by omega)] at ga
    have hbA := (unhide HA2).trans (hWa.bel.mono (unhide HA2).size)
    have HBA := hide hbA
    have HWa := hide hWa.bel
    have HKa := hide ka
    have HVa := hide va
    have HGa := hide ga
    have hG2 := (hWa.bel.block _ hz2).trans (unhide HG)
    have HGA := hide hG2
    have hza := lt_of_row hG2
    clear ka va ga hbA hWa hall hG2 c0 c1 c2 c3
    simp only [Act.put, List.setIfInBounds_toArray, List.set_cons_succ, List.set_cons_zero]
    go_wp2
    refine rpb w.heap.size ks.length kc vs.length vc i g1 o1 g2 o2 (by kernel_rfl) (by kernel_rfl) (by kernel_rfl) _ _ (by show 35 ≤ Array.size _; simp) rfl rfl (Wpt 4 9 10 11 12 Wa 9 (ks.length - (i)) (vs.length - (i)) ((ks.drop (i)).map S) ((vs.drop (i)).map S) (fun x y => #[.bool true, x, y, .slice none 0 0])) ?_ ?_ ⟨by omega, by omega, by omega⟩ ⟨by omega, by omega, by omega⟩ ?_ ?_ ?_ ?_ ?_ ?_ ?_ ?_
    · exact ⟨⟨none, 0, none, 0, none, 0, 0, 0, 0⟩, ⟨(Below.refl _ _).drew, (fun q => nomatch q), (fun q => nomatch q), (fun q => nomatch q), (fun q => nomatch q), (fun q => nomatch q)⟩⟩
    · intro j hj c L W hW
      simp only [List.mem_cons, List.not_mem_nil, or_false, not_or] at hj
      exact hW.pure j hj.1 hj.2.1 hj.2.2.1 hj.2.2.2.1 (fun q => absurd q hj.2.2.2.2)
    · intro c L W hW
      exact (box4 (unhide HGA) hW.bel hza).2.1
    · intro c L W hW
      exact (box4 (unhide HGA) hW.bel hza).2.2.1
    · intro c L W hW h1 h2
      exact hW.pure 10 (by decide) (by decide) (by decide) (by decide) (fun _ => ⟨h1, h2⟩)
    · intro c L W hW h1
      have hS := ((unhide HKs) W ((unhide HBA).trans (hW.bel.mono (unhide HBA).size))).dr (i)
      refine (refTexts_any (some ⟨g1, o1 + (i), none⟩) (ks.length - (i)) (kc - (i)) (ks.drop (i)) W hS (by omega) (fun q => nomatch q)).mono ?_
      rintro e w' ⟨V, rfl, r, o, q⟩
      rw [show (ks.drop (i)).length = (ks.length - (i)) by rw [List.length_drop]; first | done | omega] at r
      obtain ⟨p, cp, rfl⟩ := owns_form r
      obtain ⟨hd, hf, hw⟩ := hW.call1 h1 (by decide) (by decide) (by decide) (by decide) r o q
      refine ⟨_, fun j hj => ?_, rfl, hw⟩
      unfold vrpb
      split <;> first | rfl | (rw [h1] at hj; cases hj) | (rw [hd] at hj; cases hj)
    · intro c L W hW h1
      have hS := ((unhide HVs) W ((unhide HBA).trans (hW.bel.mono (unhide HBA).size))).dr (i)
      refine (refTexts_any (some ⟨g2, o2 + (i), none⟩) (vs.length - (i)) (vc - (i)) (vs.drop (i)) W hS (by omega) (fun q => nomatch q)).mono ?_
      rintro e w' ⟨V, rfl, r, o, q⟩
      rw [show (vs.drop (i)).length = (vs.length - (i)) by rw [List.length_drop]; first | done | omega] at r
      obtain ⟨p, cp, rfl⟩ := owns_form r
      obtain ⟨hd, hf, hw⟩ := hW.call2 h1 (by decide) (by decide) (by decide) (by decide) r o q
      refine ⟨_, fun j hj => ?_, rfl, hw⟩
      unfold vrpb
      split <;> first | rfl | (rw [h1] at hj; cases hj) | (rw [hd] at hj; cases hj)
    · intro c L W hW h1
      obtain ⟨hf, hw⟩ := hW.box h1 (by decide) (by decide) (by decide) (by decide)
      refine ⟨_, fun j hj => ?_, rfl, hw⟩
      unfold vrpb
      split <;> first | rfl | (rw [h1] at hj; cases hj)
    · intro c L W hW h1 h2 h3
      exact hW.store h1 h2 h3 (by decide) (by decide) (by decide) (by decide) (by decide) _ _ _ _ rfl
    · intro cb L Wb hall hWb
      have kb := hWb.k (hall 4 (by omega))
      have vb := hWb.v (hall 9 (by omega))
      obtain ⟨gc, gd⟩ := hWb.g (hall 11 (by omega))
      rw [hall 12 (by omega)] at gc
      have hbB := (unhide HBA).trans (hWb.bel.mono (unhide HBA).size)
      have hX := unhide HX
      have hbL := hWb.bel
      have hbM := (unhide HWa).trans (hbL.mono (unhide HWa).size)
      have ga2 := (hbL.block _ (lt_of_row (unhide HGa))).trans (unhide HGa)
      have gA := (hbM.block _ (show W0.heap.size < W2.heap.size by omega)).trans (unhide HK)
      have gD := (hbM.block _ (show W1.heap.size < W2.heap.size by omega)).trans (unhide HP)
      have gX := (hbM.block _ hz2).trans (unhide HG)
      have kA := owns_below (unhide HKa).1 hbL
      have vA := owns_below (unhide HVa).1 hbL
      have hS := (unhide HKs) Wb hbB
      obtain ⟨pk, qk, e1, hcs⟩ := hS.2 (by omega)
      cases e1
      have d1 := hcs i hi2
      have d0 := hcs (i - 1) (by omega)
      have hWs : W2.heap.size ≤ Wa.heap.size := (unhide HWa).size
      obtain ⟨p3, q3, e3, zk0, _⟩ := ((unhide HKs) w (Below.refl _ _)).at hi2
      cases e3
      have hne : W0.heap.size ≠ W1.heap.size := by omega
      simp only [if_true] at gc ga2
      have HR := hide (show ∀ W, Only (fun k => k = W0.heap.size ∨ k = W1.heap.size) Wb W → Rws w.heap.size ⟨true, ks.take i, vs.take i, []⟩ (.slice ca.p1 i ca.c1) (.slice ca.p2 i ca.c2) (.slice none 0 0) W ∧ Rws w.heap.size ⟨true, ks.drop i, vs.drop i, []⟩ (.slice cb.p1 (ks.length - i) cb.c1) (.slice cb.p2 (vs.length - i) cb.c2) (.slice none 0 0) W ∧ Below w.heap.size w W from fun W o => by
        have l1 : (ks.take i).length = i := by rw [List.length_take]; omega
        have l2 : (vs.take i).length = i := by rw [List.length_take]; omega
        have l3 : (ks.drop i).length = ks.length - i := by rw [List.length_drop]
        have l4 : (vs.drop i).length = vs.length - i := by rw [List.length_drop]
        have oA := (unhide HKa).2
        have oV := (unhide HVa).2
        have oB := kb.2
        have oW := vb.2
        refine ⟨⟨?_, ?_, owns_nil _ _ _, fun k hk => ?_, fun k hk => ?_, (fun k hk => nomatch hk)⟩, ⟨?_, ?_, owns_nil _ _ _, fun k hk => ?_, fun k hk => ?_, (fun k hk => nomatch hk)⟩, o.below hbB hbB.size (fun k q => by omega)⟩
        · show W.ownsRow 0 9 1 _ (ks.take i).length _
          rw [l1]; exact owns_only kA o (fun k hk q => by have := oA k hk; omega)
        · show W.ownsRow 0 9 1 _ (vs.take i).length _
          rw [l2]; exact owns_only vA o (fun k hk q => by have := oV k hk; omega)
        · have := oA k hk; omega
        · have := oV k hk; omega
        · show W.ownsRow 0 9 1 _ (ks.drop i).length _
          rw [l3]; exact owns_only kb.1 o (fun k hk q => by have := oB k hk; omega)
        · show W.ownsRow 0 9 1 _ (vs.drop i).length _
          rw [l4]; exact owns_only vb.1 o (fun k hk q => by have := oW k hk; omega)
        · have := oB k hk; omega
        · have := oW k hk; omega)
      have HKy := hide (fun W => refBetween_any (ks.getD (i - 1) []) (ks.getD i []) W (Nat.le_trans (tot_at ks _) ht) (Nat.le_trans (tot_at ks _) ht))
      simp only [Act.put, List.setIfInBounds_toArray, List.set_cons_succ, List.set_cons_zero]
      have HX2 := hide hX
      clear hX
      go_wp2
      have hX := unhide HX2
      refine rpe w.heap.size ca.g1 cb.g1 W0.heap.size W1.heap.size ks.length kc i g1 o1 i i (ks.length - i) (vs.length - i) ca.c1 ca.c2 cb.c1 cb.c2 ca.p1 ca.p2 cb.p1 cb.p2 (ks.getD (i - 1) []) (ks.getD i []) (btw (ks.getD (i - 1) []) (ks.getD i [])) ⟨hi, by omega⟩ (by kernel_rfl) (by kernel_rfl) (by kernel_rfl) _ _ (by show 49 ≤ Array.size _; simp) rfl rfl rfl rfl rfl rfl (Wsu 14 16 Wb W0.heap.size W1.heap.size #[.bool true, .slice ca.p1 i ca.c1, .slice ca.p2 i ca.c2, .slice none 0 0] #[.bool true, .slice cb.p1 (ks.length - i) cb.c1, .slice cb.p2 (vs.length - i) cb.c2, .slice none 0 0]) ?_ ?_ (by omega) hi2 ?_ ?_ ?_ ?_ ?_ ?_ ?_ ?_ ?_ ?_
      · exact ⟨⟨rfl, rfl, rfl, Nat.le_refl _, fun _ _ _ => rfl⟩, gA, gD⟩
      · intro j hj L W hW
        simp only [List.mem_cons, List.not_mem_nil, or_false, not_or] at hj
        exact hW.pure j hj.2.1 hj.2.2
      · intro L W hW; exact hW.box ga2 (by omega) (by omega)
      · intro L W hW; exact (hW.box gX (by omega) (by omega)).2.1
      · intro L W hW
        rw [← d0]
        exact cell_same (hW.only.block g1 (blk_lt d0) (fun q => by omega)) _
      · intro L W hW; exact (hW.box gX (by omega) (by omega)).2.1
      · intro L W hW
        rw [← d1]
        exact cell_same (hW.only.block g1 (blk_lt d1) (fun q => by omega)) _
      · intro L W hW _
        refine (unhide HKy W).mono ?_
        rintro e w' ⟨rfl, rfl⟩
        exact ⟨rfl, hW.pure 12 (by decide) (by decide)⟩
      · intro L W hW; exact hW.box gc (by omega) (by omega)
      · intro L W hW h1 _; exact hW.st1 h1 (by decide) hne
      · intro L W hW h1 _; exact hW.st2 h1 (by decide) hne
      · intro L W hall hW
        have ha := hW.a
        have hb' := hW.b
        rw [hall 14 (by omega)] at ha
        rw [hall 16 (by omega)] at hb'
        obtain ⟨r1, r2, r3⟩ := unhide HR W hW.only
        have R1 := hide r1
        have R2 := hide r2
        have R3 := hide r3
        have HAa := hide ha
        have HBb := hide hb'
        clear r1 r2 r3 ha hb' hW hall hX
        simp only [Act.put, List.setIfInBounds_toArray, List.set_cons_succ, List.set_cons_zero]
        clear d0 d1 hcs kA vA kb vb gc ga2 gA gD gX hbB hbL hbM hWb hS
        go_wp2
        exact outNSN (p := 4) (q := 6) (t := 5) rfl (by rfl) (by rfl) (by rfl) (by rfl) (unhide HAa) (unhide HBb) ⟨_, _, _, _, rfl, unhide R1, unhide R2, unhide R3⟩
end Go.Proofs.YtllialbdofklgaaGreatDoor
namespace Go.Proofs.YtllialbdofklgaaGreatDoor
open Go.RowKit
set_option maxHeartbeats 16000000
set_option maxRecDepth 8000
theorem refParts_inner (ks : List Bs) (vs : List Int) (va : Option Addr) (g1 o1 g2 o2 kc vc ul uc i : Nat) (w : World) (h1 : Sts w (some ⟨g1, o1, none⟩) ks.length ks) (h2 : Ins w (some ⟨g2, o2, none⟩) vs.length vs) (hv : vs.length = ks.length + 1) (hi : 1 ≤ i) (hi2 : i + 1 < ks.length) (ck : ks.length ≤ kc) (cv : vs.length ≤ vc) (hb : ks.length ≤ 4294967290) :
    Calls Tryz.prog 81 #[.agg #[.bool false, .slice (some ⟨g1, o1, none⟩) ks.length kc, .slice va ul uc, .slice (some ⟨g2, o2, none⟩) vs.length vc], I i] w fun r w' => ∃ vK vV uK uV, r = .returned (.tuple #[.agg #[.bool false, vK, .slice none 0 0, vV], S (ks.getD i []), .agg #[.bool false, uK, .slice none 0 0, uV]]) ∧ Rws w.heap.size ⟨false, ks.take i, [], vs.take (i + 1)⟩ vK (.slice none 0 0) vV w' ∧ Rws w.heap.size ⟨false, ks.drop (i + 1), [], vs.drop (i + 1)⟩ uK (.slice none 0 0) uV w' ∧ Below w.heap.size w w' := by
  have hA := (Below.refl w.heap.size w).alloc (Nat.le_refl _) (.cells #[.bool false, .slice (some ⟨g1, o1, none⟩) ks.length kc, .slice va ul uc, .slice (some ⟨g2, o2, none⟩) vs.length vc] 25)
  have hg := heap_alloc_new w (.cells #[.bool false, .slice (some ⟨g1, o1, none⟩) ks.length kc, .slice va ul uc, .slice (some ⟨g2, o2, none⟩) vs.length vc] 25)
  have hs0 := size_alloc w (.cells #[.bool false, .slice (some ⟨g1, o1, none⟩) ks.length kc, .slice va ul uc, .slice (some ⟨g2, o2, none⟩) vs.length vc] 25)
  generalize hW0 : w.alloc (.cells #[.bool false, .slice (some ⟨g1, o1, none⟩) ks.length kc, .slice va ul uc, .slice (some ⟨g2, o2, none⟩) vs.length vc] 25) = W0 at hA hg hs0
  have hA1 := hA.alloc hA.size (.cells zbox 25)
  have hg1 := (alloc_old W0 (.cells zbox 25) (lt_of_row hg)).trans hg
  have hk1 := heap_alloc_new W0 (.cells zbox 25)
  have hs1 := size_alloc W0 (.cells zbox 25)
  generalize hW1 : W0.alloc (.cells zbox 25) = W1 at hA1 hg1 hk1 hs1
  have hA2 := hA1.alloc hA1.size (.cells zbox 25)
  have hp := heap_alloc_new W1 (.cells zbox 25)
  have hg2 := (alloc_old W1 (.cells zbox 25) (lt_of_row hg1)).trans hg1
  have hk2 := (alloc_old W1 (.cells zbox 25) (lt_of_row hk1)).trans hk1
  have hs2 := size_alloc W1 (.cells zbox 25)
  generalize hW2 : W1.alloc (.cells zbox 25) = W2 at hA2 hp hg2 hk2 hs2
  have HX := hide (show W0.heap.size = w.heap.size + 1 ∧ W1.heap.size = W0.heap.size + 1 ∧ W2.heap.size = W1.heap.size + 1 from ⟨hs0, hs1, hs2⟩)
  have HKs := hide (fun W (q : Below w.heap.size w W) => h1.below q)
  have HVs := hide (fun W (q : Below w.heap.size w W) => h2.below q)
  have HA2 := hide hA2
  have HP := hide hp
  have HK := hide hk2
  have HG := hide hg2
  have hz2 : w.heap.size < W2.heap.size := by omega
  obtain ⟨c0, c1, c2, c3⟩ := box4 hg2 (Below.refl _ _) hz2
  clear hA hg hA1 hg1 hk1 hA2 hp hg2 hk2 hs0 hs1 hs2 h1 h2
  unfold zbox at hW1 hW2
  have hi3 : i + 1 < vs.length := by omega
  have hb2 : vs.length ≤ 4294967296 := by omega
  have hiv : i < ks.length := by omega
  have HV0 := hide hv
  clear hv
  go_enter Tryz.func81, Tryz.ntmps81
  go_wp2
  clear hW0 hW1 hW2
  refine rpc w.heap.size ks.length kc vs.length vc i g1 o1 g2 o2 (by omega) (by kernel_rfl) (by kernel_rfl) (by kernel_rfl) _ _ (by show 61 ≤ Array.size _; simp) rfl rfl (Wpt 4 10 11 12 13 W2 3 (i) (i + 1) ((ks.take (i)).map S) ((vs.take (i + 1)).map fun z => I z) (fun x y => #[.bool false, x, .slice none 0 0, y])) ?_ ?_ (by omega) (by omega) ?_ ?_ ?_ ?_ ?_ ?_ ?_ ?_
  · exact ⟨⟨none, 0, none, 0, none, 0, 0, 0, 0⟩, ⟨(Below.refl _ _).drew, (fun q => nomatch q), (fun q => nomatch q), (fun q => nomatch q), (fun q => nomatch q), (fun q => nomatch q)⟩⟩
  · intro j hj c L W hW
    simp only [List.mem_cons, List.not_mem_nil, or_false, not_or] at hj
    exact hW.pure j hj.1 hj.2.1 hj.2.2.1 hj.2.2.2.1 (fun q => absurd q hj.2.2.2.2)
  · intro c L W hW
    exact (box4 (unhide HG) hW.bel hz2).2.1
  · intro c L W hW
    exact (box4 (unhide HG) hW.bel hz2).2.2.2
  · intro c L W hW h1 h2
    exact hW.pure 11 (by decide) (by decide) (by decide) (by decide) (fun _ => ⟨h1, h2⟩)
  · intro c L W hW h1
    have hS := ((unhide HKs) W ((unhide HA2).trans (hW.bel.mono (unhide HA2).size))).tk (i) (by omega)
    refine (refTexts_any (some ⟨g1, o1, none⟩) (i) kc (ks.take (i)) W hS (by omega) (fun q => nomatch q)).mono ?_
    rintro e w' ⟨V, rfl, r, o, q⟩
    rw [show (ks.take (i)).length = (i) by rw [List.length_take]; first | done | omega] at r
    obtain ⟨p, cp, rfl⟩ := owns_form r
    obtain ⟨hd, hf, hw⟩ := hW.call1 h1 (by decide) (by decide) (by decide) (by decide) r o q
    refine ⟨_, fun j hj => ?_, rfl, hw⟩
    unfold vrpc
    split <;> first | rfl | (rw [h1] at hj; cases hj) | (rw [hd] at hj; cases hj)
  · intro c L W hW h1
    have hS := ((unhide HVs) W ((unhide HA2).trans (hW.bel.mono (unhide HA2).size))).tk (i + 1) (by omega)
    refine (refNumbers_any (some ⟨g2, o2, none⟩) (i + 1) vc (vs.take (i + 1)) W hS (by omega) (fun q => nomatch q)).mono ?_
    rintro e w' ⟨V, rfl, r, o, q⟩
    rw [show (vs.take (i + 1)).length = (i + 1) by rw [List.length_take]; first | done | omega] at r
    obtain ⟨p, cp, rfl⟩ := owns_form r
    obtain ⟨hd, hf, hw⟩ := hW.call2 h1 (by decide) (by decide) (by decide) (by decide) r o q
    refine ⟨_, fun j hj => ?_, rfl, hw⟩
    unfold vrpc
    split <;> first | rfl | (rw [h1] at hj; cases hj) | (rw [hd] at hj; cases hj)
  · intro c L W hW h1
    obtain ⟨hf, hw⟩ := hW.box h1 (by decide) (by decide) (by decide) (by decide)
    refine ⟨_, fun j hj => ?_, rfl, hw⟩
    unfold vrpc
    split <;> first | rfl | (rw [h1] at hj; cases hj)
  · intro c L W hW h1 h2 h3
    exact hW.store h1 h2 h3 (by decide) (by decide) (by decide) (by decide) (by decide) _ _ _ _ rfl
  · intro ca L Wa hall hWa
    have ka := hWa.k (hall 4 (by omega))
    have va := hWa.v (hall 10 (by omega))
    obtain ⟨ga, gb⟩ := hWa.g (hall 12 (by omega))
    rw [hall 13 (by omega)] at ga
    have hbA := (unhide HA2).trans (hWa.bel.mono (unhide HA2).size)
    have HBA := hide hbA
    have HWa := hide hWa.bel
    have HKa := hide ka
    have HVa := hide va
    have HGa := hide ga
    have hG2 := (hWa.bel.block _ hz2).trans (unhide HG)
    have HGA := hide hG2
    have hza := lt_of_row hG2
    clear ka va ga hbA hWa hall hG2 c0 c1 c2 c3
    simp only [Act.put, List.setIfInBounds_toArray, List.set_cons_succ, List.set_cons_zero]
    go_wp2
    refine rpd w.heap.size ks.length kc vs.length vc i g1 o1 g2 o2 (by omega) (by kernel_rfl) (by kernel_rfl) (by kernel_rfl) _ _ (by show 74 ≤ Array.size _; simp) rfl rfl (Wpt 5 11 12 13 14 Wa 3 (ks.length - (i + 1)) (vs.length - (i + 1)) ((ks.drop (i + 1)).map S) ((vs.drop (i + 1)).map fun z => I z) (fun x y => #[.bool false, x, .slice none 0 0, y])) ?_ ?_ ⟨by omega, by omega, by omega⟩ ⟨by omega, by omega, by omega⟩ ?_ ?_ ?_ ?_ ?_ ?_ ?_ ?_
    · exact ⟨⟨none, 0, none, 0, none, 0, 0, 0, 0⟩, ⟨(Below.refl _ _).drew, (fun q => nomatch q), (fun q => nomatch q), (fun q => nomatch q), (fun q => nomatch q), (fun q => nomatch q)⟩⟩
    · intro j hj c L W hW
      simp only [List.mem_cons, List.not_mem_nil, or_false, not_or] at hj
      exact hW.pure j hj.1 hj.2.1 hj.2.2.1 hj.2.2.2.1 (fun q => absurd q hj.2.2.2.2)
    · intro c L W hW
      exact (box4 (unhide HGA) hW.bel hza).2.1
    · intro c L W hW
      exact (box4 (unhide HGA) hW.bel hza).2.2.2
    · intro c L W hW h1 h2
      exact hW.pure 12 (by decide) (by decide) (by decide) (by decide) (fun _ => ⟨h1, h2⟩)
    · intro c L W hW h1
      have hS := ((unhide HKs) W ((unhide HBA).trans (hW.bel.mono (unhide HBA).size))).dr (i + 1)
      refine (refTexts_any (some ⟨g1, o1 + (i + 1), none⟩) (ks.length - (i + 1)) (kc - (i + 1)) (ks.drop (i + 1)) W hS (by omega) (fun q => nomatch q)).mono ?_
      rintro e w' ⟨V, rfl, r, o, q⟩
      rw [show (ks.drop (i + 1)).length = (ks.length - (i + 1)) by rw [List.length_drop]; first | done | omega] at r
      obtain ⟨p, cp, rfl⟩ := owns_form r
      obtain ⟨hd, hf, hw⟩ := hW.call1 h1 (by decide) (by decide) (by decide) (by decide) r o q
      refine ⟨_, fun j hj => ?_, rfl, hw⟩
      unfold vrpd
      split <;> first | rfl | (rw [h1] at hj; cases hj) | (rw [hd] at hj; cases hj)
    · intro c L W hW h1
      have hS := ((unhide HVs) W ((unhide HBA).trans (hW.bel.mono (unhide HBA).size))).dr (i + 1)
      refine (refNumbers_any (some ⟨g2, o2 + (i + 1), none⟩) (vs.length - (i + 1)) (vc - (i + 1)) (vs.drop (i + 1)) W hS (by omega) (fun q => nomatch q)).mono ?_
      rintro e w' ⟨V, rfl, r, o, q⟩
      rw [show (vs.drop (i + 1)).length = (vs.length - (i + 1)) by rw [List.length_drop]; first | done | omega] at r
      obtain ⟨p, cp, rfl⟩ := owns_form r
      obtain ⟨hd, hf, hw⟩ := hW.call2 h1 (by decide) (by decide) (by decide) (by decide) r o q
      refine ⟨_, fun j hj => ?_, rfl, hw⟩
      unfold vrpd
      split <;> first | rfl | (rw [h1] at hj; cases hj) | (rw [hd] at hj; cases hj)
    · intro c L W hW h1
      obtain ⟨hf, hw⟩ := hW.box h1 (by decide) (by decide) (by decide) (by decide)
      refine ⟨_, fun j hj => ?_, rfl, hw⟩
      unfold vrpd
      split <;> first | rfl | (rw [h1] at hj; cases hj)
    · intro c L W hW h1 h2 h3
      exact hW.store h1 h2 h3 (by decide) (by decide) (by decide) (by decide) (by decide) _ _ _ _ rfl
    · intro cb L Wb hall hWb
      have kb := hWb.k (hall 5 (by omega))
      have vb := hWb.v (hall 11 (by omega))
      obtain ⟨gc, gd⟩ := hWb.g (hall 13 (by omega))
      rw [hall 14 (by omega)] at gc
      have hbB := (unhide HBA).trans (hWb.bel.mono (unhide HBA).size)
      have hX := unhide HX
      have hbL := hWb.bel
      have hbM := (unhide HWa).trans (hbL.mono (unhide HWa).size)
      have ga2 := (hbL.block _ (lt_of_row (unhide HGa))).trans (unhide HGa)
      have gA := (hbM.block _ (show W0.heap.size < W2.heap.size by omega)).trans (unhide HK)
      have gD := (hbM.block _ (show W1.heap.size < W2.heap.size by omega)).trans (unhide HP)
      have gX := (hbM.block _ hz2).trans (unhide HG)
      have kA := owns_below (unhide HKa).1 hbL
      have vA := owns_below (unhide HVa).1 hbL
      have hS := (unhide HKs) Wb hbB
      obtain ⟨pk, qk, e1, hcs⟩ := hS.2 (by omega)
      cases e1
      have d1 := hcs i hiv
      have hWs : W2.heap.size ≤ Wa.heap.size := (unhide HWa).size
      obtain ⟨p3, q3, e3, zk0, _⟩ := ((unhide HKs) w (Below.refl _ _)).at hiv
      cases e3
      have hne : W0.heap.size ≠ W1.heap.size := by omega
      simp only [if_true] at gc ga2
      have HR := hide (show ∀ W, Only (fun k => k = W0.heap.size ∨ k = W1.heap.size) Wb W → Rws w.heap.size ⟨false, ks.take i, [], vs.take (i + 1)⟩ (.slice ca.p1 i ca.c1) (.slice none 0 0) (.slice ca.p2 (i + 1) ca.c2) W ∧ Rws w.heap.size ⟨false, ks.drop (i + 1), [], vs.drop (i + 1)⟩ (.slice cb.p1 (ks.length - (i + 1)) cb.c1) (.slice none 0 0) (.slice cb.p2 (vs.length - (i + 1)) cb.c2) W ∧ Below w.heap.size w W from fun W o => by
        have l1 : (ks.take i).length = i := by rw [List.length_take]; omega
        have l2 : (vs.take (i + 1)).length = i + 1 := by rw [List.length_take]; omega
        have l3 : (ks.drop (i + 1)).length = ks.length - (i + 1) := by rw [List.length_drop]
        have l4 : (vs.drop (i + 1)).length = vs.length - (i + 1) := by rw [List.length_drop]
        have oA := (unhide HKa).2
        have oV := (unhide HVa).2
        have oB := kb.2
        have oW := vb.2
        refine ⟨⟨?_, owns_nil _ _ _, ?_, fun k hk => ?_, (fun k hk => nomatch hk), fun k hk => ?_⟩, ⟨?_, owns_nil _ _ _, ?_, fun k hk => ?_, (fun k hk => nomatch hk), fun k hk => ?_⟩, o.below hbB hbB.size (fun k q => by omega)⟩
        · show W.ownsRow 0 9 1 _ (ks.take i).length _
          rw [l1]; exact owns_only kA o (fun k hk q => by have := oA k hk; omega)
        · show W.ownsRow 0 3 1 _ (vs.take (i + 1)).length _
          rw [l2]; exact owns_only vA o (fun k hk q => by have := oV k hk; omega)
        · have := oA k hk; omega
        · have := oV k hk; omega
        · show W.ownsRow 0 9 1 _ (ks.drop (i + 1)).length _
          rw [l3]; exact owns_only kb.1 o (fun k hk q => by have := oB k hk; omega)
        · show W.ownsRow 0 3 1 _ (vs.drop (i + 1)).length _
          rw [l4]; exact owns_only vb.1 o (fun k hk q => by have := oW k hk; omega)
        · have := oB k hk; omega
        · have := oW k hk; omega)
      simp only [Act.put, List.setIfInBounds_toArray, List.set_cons_succ, List.set_cons_zero]
      have HX2 := hide hX
      clear hX
      go_wp2
      have hX := unhide HX2
      refine rpf w.heap.size ca.g1 cb.g1 W0.heap.size W1.heap.size ks.length kc i g1 o1 i (i + 1) (ks.length - (i + 1)) (vs.length - (i + 1)) ca.c1 ca.c2 cb.c1 cb.c2 ca.p1 ca.p2 cb.p1 cb.p2 (ks.getD i []) (by kernel_rfl) (by kernel_rfl) (by kernel_rfl) _ _ (by show 81 ≤ Array.size _; simp) rfl rfl rfl rfl rfl rfl (Wsu 7 9 Wb W0.heap.size W1.heap.size #[.bool false, .slice ca.p1 i ca.c1, .slice none 0 0, .slice ca.p2 (i + 1) ca.c2] #[.bool false, .slice cb.p1 (ks.length - (i + 1)) cb.c1, .slice none 0 0, .slice cb.p2 (vs.length - (i + 1)) cb.c2]) ?_ ?_ hiv ?_ ?_ ?_ ?_ ?_ ?_ ?_
      · exact ⟨⟨rfl, rfl, rfl, Nat.le_refl _, fun _ _ _ => rfl⟩, gA, gD⟩
      · intro j hj L W hW
        simp only [List.mem_cons, List.not_mem_nil, or_false, not_or] at hj
        exact hW.pure j hj.1 hj.2
      · intro L W hW; exact hW.box ga2 (by omega) (by omega)
      · intro L W hW; exact (hW.box gX (by omega) (by omega)).2.1
      · intro L W hW
        rw [← d1]
        exact cell_same (hW.only.block g1 (blk_lt d1) (fun q => by omega)) _
      · intro L W hW; exact hW.box gc (by omega) (by omega)
      · intro L W hW h1 _; exact hW.st1 h1 (by decide) hne
      · intro L W hW h1 _; exact hW.st2 h1 (by decide) hne
      · intro L W hall hW
        have ha := hW.a
        have hb' := hW.b
        rw [hall 7 (by omega)] at ha
        rw [hall 9 (by omega)] at hb'
        obtain ⟨r1, r2, r3⟩ := unhide HR W hW.only
        have R1 := hide r1
        have R2 := hide r2
        have R3 := hide r3
        have HAa := hide ha
        have HBb := hide hb'
        clear r1 r2 r3 ha hb' hW hall hX
        simp only [Act.put, List.setIfInBounds_toArray, List.set_cons_succ, List.set_cons_zero]
        clear d1 hcs kA vA kb vb gc ga2 gA gD gX hbB hbL hbM hWb hS
        go_wp2
        exact outNSN (p := 4) (q := 6) (t := 5) rfl (by rfl) (by rfl) (by rfl) (by rfl) (unhide HAa) (unhide HBb) ⟨_, _, _, _, rfl, unhide R1, unhide R2, unhide R3⟩
end Go.Proofs.YtllialbdofklgaaGreatDoor
namespace Go.Proofs.YtllialbdofklgaaGreatDoor
open Go.RowKit
set_option maxHeartbeats 16000000
set_option maxRecDepth 8000
theorem refParts_any (n : Nd) (i : Nat) (ka va ia : Option Addr) (kc vc ic : Nat) (w : World) (h : NA n ka va ia w) (hg : Grt n) (ck : n.keys.length ≤ kc) (cv : n.vals.length ≤ vc) (ci : n.kids.length ≤ ic) (hi : 1 ≤ i) (hi2 : i ≤ las n) :
    Calls Tryz.prog 81 #[nda n ka va ia kc vc ic, I i] w fun r w' => ∃ vK vV vI uK uV uI, r = .returned (.tuple #[.agg #[.bool n.leaf, vK, vV, vI], S (kbt n i), .agg #[.bool n.leaf, uK, uV, uI]]) ∧ Rws w.heap.size (lft n i) vK vV vI w' ∧ Rws w.heap.size (rgt n i) uK uV uI w' ∧ Below w.heap.size w w' := by
  obtain ⟨hv, hk⟩ := hg.lists
  have hsz := hg.hi
  have hlen : n.keys.length ≤ 718 := by
    unfold Nd.siz at hsz
    split at hsz <;> omega
  have htot : tot n.keys ≤ 718 := by
    unfold Nd.siz at hsz
    split at hsz <;> omega
  obtain ⟨lf, ks, vs, is⟩ := n
  unfold las at hi2
  cases lf
  · obtain ⟨k1, k2, -, -⟩ := hk rfl
    simp only [Bool.false_eq_true, if_false] at k1 k2 hi2 hlen htot ck cv ci
    subst k2
    obtain ⟨g1, o1, rfl⟩ := h.ks.some (show 0 < ks.length by omega)
    obtain ⟨g2, o2, e, -⟩ := h.is.2 (show 0 < is.length by omega)
    subst e
    refine (refParts_inner ks is va g1 o1 g2 o2 kc ic 0 vc i w h.ks h.is k1 hi (by omega) ck ci (by omega)).mono ?_
    rintro r w' ⟨vK, vV, uK, uV, rfl, r1, r2, r3⟩
    exact ⟨vK, .slice none 0 0, vV, uK, .slice none 0 0, uV, rfl, r1, r2, r3⟩
  · obtain ⟨k1, k2, -⟩ := hv rfl
    simp only [if_true] at k1 k2 hi2 hlen htot ck cv ci
    subst k2
    obtain ⟨g1, o1, rfl⟩ := h.ks.some (show 0 < ks.length by omega)
    obtain ⟨g2, o2, rfl⟩ := h.vs.some (show 0 < vs.length by omega)
    refine (refParts_leaf ks vs ia g1 o1 g2 o2 kc vc 0 ic i w h.ks h.vs k1 hi (by omega) ck cv (by omega) (by omega)).mono ?_
    rintro r w' ⟨vK, vV, uK, uV, rfl, r1, r2, r3⟩
    exact ⟨vK, vV, .slice none 0 0, uK, uV, .slice none 0 0, rfl, r1, r2, r3⟩
end Go.Proofs.YtllialbdofklgaaGreatDoor
