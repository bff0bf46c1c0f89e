import Derived.Test.YthlacailhfhjnaaGreatDoorZzbm
namespace Go.Proofs.YthlacailhfhjnaaGreatDoor
open Go.RowKit Go.Lib
theorem cap_up : CAP.all up = true := by decide
theorem meth_ok {l : Bs} (h : 1 ≤ l.length ∧ l.length ≤ 16 ∧ ∀ x ∈ l, x ∈ CAP) : meth l = true := by
  unfold meth
  rw [decide_eq_true ⟨h.1, h.2.1⟩]
  have : l.all up = true := List.all_eq_true.2 (fun c hc => List.all_eq_true.1 cap_up c (h.2.2 c hc))
  rw [this]; rfl
theorem pth_ok {l : Bs} (h : l.length ≤ 199 ∧ ∀ x ∈ l, 33 ≤ x.toNat ∧ x.toNat ≤ 126) : pth ([47] ++ l) = true := by
  unfold pth
  rw [decide_eq_true (by simp; omega)]
  have : ([47] ++ l).all pby = true := List.all_eq_true.2 (fun c hc => by
    have hc2 : 33 ≤ c.toNat ∧ c.toNat ≤ 126 := by
      rw [List.mem_append, List.mem_singleton] at hc
      rcases hc with rfl | hc
      · decide
      · exact h.2 c hc
    unfold pby
    rw [shn_of (by omega)]
    have : c ≠ 32 := fun e => by subst e; exact absurd hc2.1 (by decide)
    simp [this])
  rw [this]; rfl
/-- A message that may be, in memory. -/
structure Mok (z : Ms) (a : Option Addr) (k : Nat) (w w' : World) : Prop where
  may : may z = true
  row : w'.ownsRow 0 35 2 (.slice a z.hs.length k) z.hs.length (cellsF z.hs)
  new : ∀ j, (Value.slice a z.hs.length k).ownBlock = some j → w.heap.size ≤ j
  bel : Below w.heap.size w w'
theorem row4 {w : World} {P T : Nat} {a0 a1 a2 a3 : Value} (h : w.heap[P]? = some (.cells #[a0, a1, a2, a3] T (0, 0))) (b0 b1 b2 b3 : Value) :
    ((((w.setCell ⟨P, 0, none⟩ b0).setCell ⟨P, 1, none⟩ b1).setCell ⟨P, 2, none⟩ b2).setCell ⟨P, 3, none⟩ b3).heap[P]? = some (.cells #[b0, b1, b2, b3] T (0, 0)) := by
  have q0 := heap_setCell_same _ P 0 _ T b0 h
  have q1 := heap_setCell_same _ P 1 _ T b1 q0
  have q2 := heap_setCell_same _ P 2 _ T b2 q1
  have q3 := heap_setCell_same _ P 3 _ T b3 q2
  rw [q3]
  simp
set_option maxHeartbeats 8000000 in
set_option maxRecDepth 8000 in
theorem message_any (m : Ms) (pa : Option Addr) (nn cc : Nat) (w : World) (hp : Fls w pa nn m.hs) (hL : Lens m.hs) (hn : nn ≤ 140737488351232) (h1 : m.m.length ≤ 140737488351232) (h2 : m.p.length ≤ 140737488351232) (h3 : m.b.length ≤ 140737488351232) :
    Calls Tryz.prog 13 #[.agg #[S m.m, S m.p, .slice pa nn cc, S m.b]] w fun e w' => ∃ z a k, e = .returned (.agg #[S z.m, S z.p, .slice a z.hs.length k, S z.b]) ∧ Mok z a k w w' := by
  obtain ⟨m0, p0, hs0, b⟩ := m
  simp only at hp hL h1 h2 h3 ⊢
  have b0 : Below w.heap.size w ((w.alloc (.cells #[S m0, S p0, .slice pa nn cc, S b] 24)).alloc (.cells #[S [], S [], .slice none 0 0, S []] 24)) := ((Below.refl _ _).alloc (Nat.le_refl _) _).alloc (by simp) _
  have z0 : ((w.alloc (.cells #[S m0, S p0, .slice pa nn cc, S b] 24)).alloc (.cells #[S [], S [], .slice none 0 0, S []] 24)).heap.size = w.heap.size + 2 := by simp
  have x0 : ((w.alloc (.cells #[S m0, S p0, .slice pa nn cc, S b] 24)).alloc (.cells #[S [], S [], .slice none 0 0, S []] 24)).heap[w.heap.size]? = some (.cells #[S m0, S p0, .slice pa nn cc, S b] 24 (0, 0)) := by rw [heap_alloc_old _ _ (by simp)]; exact heap_alloc_new _ _
  have x1 : ((w.alloc (.cells #[S m0, S p0, .slice pa nn cc, S b] 24)).alloc (.cells #[S [], S [], .slice none 0 0, S []] 24)).heap[w.heap.size + 1]? = some (.cells #[S [], S [], .slice none 0 0, S []] 24 (0, 0)) := by
    have := heap_alloc_new (w.alloc (.cells #[S m0, S p0, .slice pa nn cc, S b] 24)) (.cells #[S [], S [], .slice none 0 0, S []] 24)
    simpa using this
  have HH := hide (And.intro b0 (And.intro z0 (And.intro x0 (And.intro x1 (And.intro hp hL)))))
  clear b0 z0 x0 x1 hp hL
  go_enter Tryz.func13, Tryz.ntmps13
  go_wp2
  generalize (w.alloc (.cells #[S m0, S p0, .slice pa nn cc, S b] 24)).alloc (.cells #[S [], S [], .slice none 0 0, S []] 24) = W0 at *
  obtain ⟨b0, z0, x0, x1, hp, hL⟩ := unhide HH
  have hX : ∀ c L W, WdM W0 (w.heap.size + 1) b c L W → W.heap[w.heap.size]? = some (.cells #[S m0, S p0, .slice pa nn cc, S b] 24 (0, 0)) := fun c L W h => (h.old (by omega) (by omega)).trans x0
  have hWb : ∀ c L W, WdM W0 (w.heap.size + 1) b c L W → L 14 = false → Below w.heap.size w W := fun c L W h h14 => b0.trans ((h.wd0 h14).mono (by omega))
  refine rmg w.heap.size (w.heap.size + 1) nn cc pa m0 p0 b rfl rfl rfl _ _ (show 17 ≤ 17 from by decide) rfl rfl (WdM W0 (w.heap.size + 1) b) ⟨⟨[], [], none, 0, 0⟩, ?_⟩ ?_ ?_ ?_ ?_ ?_ ?_ ?_ ?_ ?_ ?_ ?_ ?_ ?_ ?_
  · exact ⟨(fun q => nomatch q), (fun q => nomatch q), (fun q => nomatch q), (fun q => nomatch q), (fun q => nomatch q), (fun q => nomatch q), fun _ => (Below.refl _ _).drew, (fun q => nomatch q)⟩
  · exact fun i hi c L W hW => hW.pure i (by simp at hi; omega)
  · exact fun c L W hW => cell_of_row W _ 0 _ 24 (0, 0) (hX c L W hW)
  · exact fun c L W hW => cell_of_row W _ 1 _ 24 (0, 0) (hX c L W hW)
  · exact fun c L W hW => cell_of_row W _ 2 _ 24 (0, 0) (hX c L W hW)
  · exact fun c L W hW => cell_of_row W _ 3 _ 24 (0, 0) (hX c L W hW)
  · exact fun c L W hW h5 => by have := (hW.pt h5).1; simp; omega
  · exact fun c L W hW h5 => hW.six h5
  · exact fun c L W hW h2 h6 h9 => hW.built h2 h6 h9
  · intro c L W hW hc
    refine (letters_any CAP m0 16 W (by decide) (by decide) (by decide) (by decide) (by omega)).mono ?_
    rintro e w' ⟨⟨l, rfl, g1, g2, g3⟩, hb⟩
    refine ⟨{ c with m := l }, fun j hj => vmg_m _ _ _ _ _ _ _ c { c with m := l } ⟨rfl, rfl, rfl, rfl⟩ j (fun e => by rw [e, hc] at hj; cases hj) (fun e => by rw [e, (hW.no14 (.inl hc)).1] at hj; cases hj), rfl, hW.first hc hb ⟨g1, g2, g3⟩⟩
  · intro c L W hW hc
    refine (plain33_any p0 199 W (by decide) (by omega)).mono ?_
    rintro e w' ⟨⟨l, rfl, g1, g2⟩, hb⟩
    refine ⟨{ c with p := l }, fun j hj => vmg_p _ _ _ _ _ _ _ c { c with p := l } ⟨rfl, rfl, rfl, rfl⟩ j (fun e => by rw [e, hc] at hj; cases hj) (fun e => by rw [e] at hj; rw [hW.d6 hj] at hc; cases hc) (fun e => by rw [e, (hW.no14 (.inr (.inl hc))).1] at hj; cases hj), rfl, hW.second hc hb ⟨g1, g2⟩⟩
  · intro c L W hW hc
    have hbw := hWb c L W hW (hW.no14 (.inr (.inr hc))).2
    refine (headers_any pa nn cc hs0 W (hp.below hbw) hL hn).mono ?_
    rintro e w' ⟨v, hs, rfl, hh⟩
    obtain ⟨a, k, rfl⟩ := owns_form hh.row
    refine ⟨{ c with a := a, n := hs.length, k := k }, fun j hj => vmg_h _ _ _ _ _ _ _ c { c with a := a, n := hs.length, k := k } ⟨rfl, rfl⟩ j (fun e => by rw [e, hc] at hj; cases hj) (fun e => by rw [e, (hW.no14 (.inr (.inr hc))).1] at hj; cases hj), rfl, hW.third hc hh⟩
  · intro c L W hW hc
    refine (cut4_any b W (by omega)).mono ?_
    rintro e w' ⟨rfl, rfl⟩
    exact ⟨rfl, hW.cut⟩
  · intro c L W hW h14 h13
    have hA : W.heap[w.heap.size + 1]? = _ := ((hW.wd0 h14).block _ (by omega)).trans x1
    exact ⟨hW.stored h14 h13 hA, hA⟩
  intro c L W hall hW
  obtain ⟨Wp, hb, hWe⟩ := hW.wd1 (hall 14 (by decide))
  obtain ⟨hs, hcn, hrow, hnew, hfew, hall2⟩ := hW.hd (hall 9 (by decide))
  have hnm := hW.nm (hall 2 (by decide))
  have hpt := hW.pt (hall 5 (by decide))
  have hA : Wp.heap[w.heap.size + 1]? = _ := (hb.block _ (by omega)).trans x1
  have hAs := row4 hA (S c.m) (S ([47] ++ c.p)) (.slice c.a c.n c.k) (S (b.take 4000))
  have hWs : W.heap[w.heap.size + 1]? = some (.cells #[S c.m, S ([47] ++ c.p), .slice c.a c.n c.k, S (b.take 4000)] 24 (0, 0)) := by rw [hWe]; exact hAs
  have e0 : W.cell? ⟨w.heap.size + 1, 0, none⟩ = some (S c.m) := cell_of_row W _ 0 _ 24 (0, 0) hWs
  have e1 : W.cell? ⟨w.heap.size + 1, 1, none⟩ = some (S ([47] ++ c.p)) := cell_of_row W _ 1 _ 24 (0, 0) hWs
  have e2 : W.cell? ⟨w.heap.size + 1, 2, none⟩ = some (.slice c.a c.n c.k) := cell_of_row W _ 2 _ 24 (0, 0) hWs
  have e3 : W.cell? ⟨w.heap.size + 1, 3, none⟩ = some (S (b.take 4000)) := cell_of_row W _ 3 _ 24 (0, 0) hWs
  have HBW := hide (show Below w.heap.size w W by
    rw [hWe]
    unfold set4
    exact ((((b0.trans (hb.mono (by omega))).setCell (by show w.heap.size ≤ w.heap.size + 1; omega) _).setCell (by show w.heap.size ≤ w.heap.size + 1; omega) _).setCell (by show w.heap.size ≤ w.heap.size + 1; omega) _).setCell (by show w.heap.size ≤ w.heap.size + 1; omega) _)
  have HFIN := hide (And.intro hcn (And.intro hrow (And.intro (fun j hj => Nat.le_trans (show w.heap.size ≤ W0.heap.size by omega) (hnew j hj)) (And.intro hfew (And.intro hall2 (And.intro hnm hpt))))))
  clear hX hWb hWe hWs hAs hA hrow hnew hfew hall2 hnm hpt hcn hb hW hall x0 x1 b0 z0 hp hL HH
  simp only [Act.put, List.setIfInBounds_toArray, List.set_cons_succ, List.set_cons_zero]
  go_wp2
  refine bodyPost_ret (v := .agg #[S c.m, S ([47] ++ c.p), .slice c.a c.n c.k, S (b.take 4000)]) (by simp [results, Tryz.results13, go_sem, e0, e1, e2, e3]) rfl ?_
  obtain ⟨hcn, hrow, hnew, hfew, hall2, hnm, hpt⟩ := unhide HFIN
  refine ⟨⟨c.m, [47] ++ c.p, hs, b.take 4000⟩, c.a, c.k, by rw [hcn], ⟨?_, by have q := hrow; rw [hcn] at q; exact q, by have q := hnew; rw [hcn] at q; exact q, unhide HBW⟩⟩
  unfold may flw
  rw [meth_ok hnm, pth_ok hpt, hall2, decide_eq_true ⟨hfew, by simp; omega⟩]
  rfl
end Go.Proofs.YthlacailhfhjnaaGreatDoor
