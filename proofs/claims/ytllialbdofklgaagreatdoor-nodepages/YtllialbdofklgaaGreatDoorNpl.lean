import Derived.Test.YtllialbdofklgaaGreatDoorZrgsd
import Derived.Test.YtllialbdofklgaaGreatDoorNon
import Derived.Test.YtllialbdofklgaaGreatDoorZnpb
import Derived.Deep.CutRange
namespace Go.Proofs.YtllialbdofklgaaGreatDoor
open Go.RowKit
set_option maxHeartbeats 16000000
set_option maxRecDepth 8000
/-- Between two stores of the law's copied. -/
structure Clw (w W : World) (cs : Array Value) : Prop where
  bel : Below w.heap.size w W
  box : W.heap[w.heap.size]? = some (.cells cs 25 (0, 0))
  res : W.heap[w.heap.size + 1]? = some (.cells #[.bool false, .slice none 0 0, .slice none 0 0, .slice none 0 0] 25 (0, 0))
theorem Clw.size {w W : World} {cs : Array Value} (h : Clw w W cs) : w.heap.size + 2 ≤ W.heap.size := by have := lt_of_row h.res; omega
theorem Clw.grow {w W W' : World} {cs : Array Value} {v : Value} (h : Clw w W cs) (hv : v.ownBlock = none) (o : Only (fun k => v.ownBlock = some k) W W') : Clw w W' cs := by
  have hs := h.size
  have hn : ∀ k, ¬ v.ownBlock = some k := fun k e => by rw [hv] at e; cases e
  exact ⟨o.below h.bel h.bel.size (fun k e => (hn k e).elim), (o.block _ (by omega) (hn _)).trans h.box, (o.block _ (by omega) (hn _)).trans h.res⟩
theorem Clw.put {w W : World} {cs : Array Value} (h : Clw w W cs) (j : Nat) (v : Value) : Clw w (W.setCell ⟨w.heap.size, j, none⟩ v) (cs.setIfInBounds j v) := by
  have hs := h.size
  have o := Only.setCell W ⟨w.heap.size, j, none⟩ v
  exact ⟨o.below h.bel h.bel.size (fun k e => by show w.heap.size ≤ k; rw [show k = w.heap.size from e]; exact Nat.le_refl _), by rw [heap_setCell_same W _ j cs 25 v h.box], (o.block _ (by omega) (fun e => by have : w.heap.size + 1 = w.heap.size := e; omega)).trans h.res⟩
theorem lcopied_any (n : Nd) (ka va ia : Option Addr) (kc vc ic : Nat) (w : World) (h : NA n ka va ia w) (hb : NB n) (z1 : ka = none → kc = 0) (z2 : va = none → vc = 0) (z3 : ia = none → ic = 0) :
    Calls Tryz.prog 18 #[nda n ka va ia kc vc ic] w fun e w' => ∃ vK vV vI, e = .returned (.agg #[.bool n.leaf, vK, vV, vI]) ∧ Rws w.heap.size n vK vV vI w' ∧ Below w.heap.size w w' := by
  obtain ⟨lf, ks, vs, is⟩ := n
  unfold nda
  simp only
  have hA := (Below.refl w.heap.size w).alloc (Nat.le_refl _) (.cells #[.bool lf, .slice ka ks.length kc, .slice va vs.length vc, .slice ia is.length ic] 25)
  have hg := heap_alloc_new w (.cells #[.bool lf, .slice ka ks.length kc, .slice va vs.length vc, .slice ia is.length ic] 25)
  have hs1 := size_alloc w (.cells #[.bool lf, .slice ka ks.length kc, .slice va vs.length vc, .slice ia is.length ic] 25)
  generalize hW1 : w.alloc (.cells #[.bool lf, .slice ka ks.length kc, .slice va vs.length vc, .slice ia is.length ic] 25) = W1 at hA hg hs1
  have hA2 := hA.alloc hA.size (.cells #[.bool false, .slice none 0 0, .slice none 0 0, .slice none 0 0] 25)
  have hp := heap_alloc_new W1 (.cells #[.bool false, .slice none 0 0, .slice none 0 0, .slice none 0 0] 25)
  have hg2 := (alloc_old W1 (.cells #[.bool false, .slice none 0 0, .slice none 0 0, .slice none 0 0] 25) (lt_of_row hg)).trans hg
  have hs2 := size_alloc W1 (.cells #[.bool false, .slice none 0 0, .slice none 0 0, .slice none 0 0] 25)
  generalize hW2 : W1.alloc (.cells #[.bool false, .slice none 0 0, .slice none 0 0, .slice none 0 0] 25) = W2 at hA2 hp hg2 hs2
  have HC2 := hide (show Clw w W2 _ from ⟨hA2, hg2, by rw [hs1] at hp; exact hp⟩)
  have HN := hide h
  have HB := hide hb
  have HX := hide (show W1.heap.size = w.heap.size + 1 from hs1)
  have Z1 := hide z1
  have Z2 := hide z2
  have Z3 := hide z3
  obtain ⟨c0, c1, c2, c3⟩ := box4 hg2 (Below.refl _ _) (lt_of_row hg2)
  clear hA hg hs1 hA2 hp hg2 hs2 h hb z1 z2 z3
  go_enter Tryz.func18, Tryz.ntmps18
  go_upto_region 5 with (at_builtin; refine wp_anyS rfl (.tmp 6) (.tmp 8) rfl (.slice none 0 0) 0 [] (by rfl) (owns_nil _ _ _) ka ks.length kc ks ((unhide HN).below (unhide HC2).bel).ks (unhide Z1) (by rfl) (by have : ks.length ≤ 4294967296 := (unhide HB).k; omega) ?_; intro p3 k3 w3 r3 o3 n3; have HC3 := hide ((unhide HC2).grow rfl o3); obtain ⟨d0, d1, d2, d3⟩ := box4 (unhide HC3).box (Below.refl _ _) (lt_of_row (unhide HC3).box); have fz3 := frz (unhide HC3).box 1; have HO3 := hide o3; have HR3 := hide r3; have HN3 := hide n3; clear r3 o3 n3)
  have HC3b := hide ((unhide HC3).put 1 (.slice p3 ks.length k3))
  have HO3b := hide (Only.setCell w3 ⟨w.heap.size, 1, none⟩ (.slice p3 ks.length k3))
  clear d0 d1 d2 d3 fz3
  generalize w3.setCell ⟨w.heap.size, 1, none⟩ (.slice p3 ks.length k3) = V3 at *
  obtain ⟨d0, d1, d2, d3⟩ := box4 (unhide HC3b).box (Below.refl _ _) (lt_of_row (unhide HC3b).box)
  go_upto_region 6 with (at_builtin; refine wp_anyS rfl (.tmp 11) (.tmp 13) rfl (.slice none 0 0) 0 [] (by rfl) (owns_nil _ _ _) va vs.length vc vs ((unhide HN).below (unhide HC3b).bel).vs (unhide Z2) (by rfl) (by have : vs.length ≤ 4294967296 := (unhide HB).v; omega) ?_; intro p4 k4 w4 r4 o4 n4; have HC4 := hide ((unhide HC3b).grow rfl o4); obtain ⟨d0, d1, d2, d3⟩ := box4 (unhide HC4).box (Below.refl _ _) (lt_of_row (unhide HC4).box); have fz4 := frz (unhide HC4).box 2; have HO4 := hide o4; have HR4 := hide r4; have HN4 := hide n4; clear r4 o4 n4)
  have HC4b := hide ((unhide HC4).put 2 (.slice p4 vs.length k4))
  have HO4b := hide (Only.setCell w4 ⟨w.heap.size, 2, none⟩ (.slice p4 vs.length k4))
  clear d0 d1 d2 d3 fz4
  generalize w4.setCell ⟨w.heap.size, 2, none⟩ (.slice p4 vs.length k4) = V4 at *
  obtain ⟨d0, d1, d2, d3⟩ := box4 (unhide HC4b).box (Below.refl _ _) (lt_of_row (unhide HC4b).box)
  go_upto_region 7 with (at_builtin; refine wp_anyI rfl (.tmp 16) (.tmp 18) rfl (.slice none 0 0) 0 [] (by rfl) (owns_nil _ _ _) ia is.length ic is ((unhide HN).below (unhide HC4b).bel).is (unhide Z3) (by rfl) (by have : is.length ≤ 4294967296 := (unhide HB).i; omega) ?_; intro p5 k5 w5 r5 o5 n5; have HC5 := hide ((unhide HC4b).grow rfl o5); obtain ⟨d0, d1, d2, d3⟩ := box4 (unhide HC5).box (Below.refl _ _) (lt_of_row (unhide HC5).box); have fz5 := frz (unhide HC5).box 3; have HO5 := hide o5; have HR5 := hide r5; have HN5 := hide n5; clear r5 o5 n5)
  have HC5b := hide ((unhide HC5).put 3 (.slice p5 is.length k5))
  have HO5b := hide (Only.setCell w5 ⟨w.heap.size, 3, none⟩ (.slice p5 is.length k5))
  clear d0 d1 d2 d3 fz5
  generalize w5.setCell ⟨w.heap.size, 3, none⟩ (.slice p5 is.length k5) = V5 at *
  obtain ⟨d0, d1, d2, d3⟩ := box4 (unhide HC5b).box (Below.refl _ _) (lt_of_row (unhide HC5b).box)
  have hX := unhide HX
  rw [hX] at *
  have fz := frz (unhide HC5b).res
  obtain ⟨e0, e1, e2, e3⟩ := box4 (unhide HC5b).res (Below.refl _ _) (lt_of_row (unhide HC5b).res)
  go_wp2
  have r4 := set4 (unhide HC5b).res rfl (.bool lf) (.slice p3 ks.length k3) (.slice p4 vs.length k4) (.slice p5 is.length k5)
  have o4 := set4_only V5 (w.heap.size + 1) (.bool lf) (.slice p3 ks.length k3) (.slice p4 vs.length k4) (.slice p5 is.length k5)
  generalize (((V5.setCell { block := w.heap.size + 1, off := 0 } (Value.bool lf)).setCell { block := w.heap.size + 1, off := 1 } (Value.slice p3 ks.length k3)).setCell { block := w.heap.size + 1, off := 2 } (Value.slice p4 vs.length k4)).setCell { block := w.heap.size + 1, off := 3 } (Value.slice p5 is.length k5) = F at r4 o4 ⊢
  refine outN1 (p := 2) rfl rfl rfl r4 ?_
  have s2 := (unhide HC2).size
  have s3 := (unhide HC3b).size
  have s4 := (unhide HC4b).size
  have q5 : Only (fun k => k = w.heap.size ∨ k = w.heap.size + 1) w5 F := ((unhide HO5b).mono (fun k _ e => Or.inl e)).trans o4 (fun k _ e => Or.inr e)
  have q4 : Only (fun k => k = w.heap.size ∨ k = w.heap.size + 1) w4 F := ((unhide HO4b).mono (fun k _ e => Or.inl e)).trans (((unhide HO5).mono (fun k _ e => nomatch e)).trans q5 (fun k _ e => e)) (fun k _ e => e)
  have q3 : Only (fun k => k = w.heap.size ∨ k = w.heap.size + 1) w3 F := ((unhide HO3b).mono (fun k _ e => Or.inl e)).trans (((unhide HO4).mono (fun k _ e => nomatch e)).trans q4 (fun k _ e => e)) (fun k _ e => e)
  have a3 := unhide HR3
  have a4 := unhide HR4
  have a5 := unhide HR5
  have b3 := unhide HN3
  have b4 := unhide HN4
  have b5 := unhide HN5
  rw [Nat.zero_add, List.nil_append] at a3 a4 a5
  rw [Nat.zero_add] at b3 b4 b5
  have g3 : ∀ i, (Value.slice p3 ks.length k3).ownBlock = some i → w.heap.size + 2 ≤ i := fun i hi => by
    rcases b3 i hi with q | q
    · cases q
    · omega
  have g4 : ∀ i, (Value.slice p4 vs.length k4).ownBlock = some i → w.heap.size + 2 ≤ i := fun i hi => by
    rcases b4 i hi with q | q
    · cases q
    · omega
  have g5 : ∀ i, (Value.slice p5 is.length k5).ownBlock = some i → w.heap.size + 2 ≤ i := fun i hi => by
    rcases b5 i hi with q | q
    · cases q
    · omega
  refine ⟨_, _, _, rfl, ⟨owns_only a3 q3 (fun i hi e => by have := g3 i hi; omega), owns_only a4 q4 (fun i hi e => by have := g4 i hi; omega), owns_only a5 q5 (fun i hi e => by have := g5 i hi; omega), fun i hi => by have := g3 i hi; omega, fun i hi => by have := g4 i hi; omega, fun i hi => by have := g5 i hi; omega⟩, ?_⟩
  exact o4.below (unhide HC5b).bel (unhide HC5b).bel.size (fun k e => by omega)
