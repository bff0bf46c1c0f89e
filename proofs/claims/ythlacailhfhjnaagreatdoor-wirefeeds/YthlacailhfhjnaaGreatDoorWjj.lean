import Derived.Test.YthlacailhfhjnaaGreatDoorWji
import Derived.Test.YthlacailhfhjnaaGreatDoorWjg
namespace Go.Proofs.YthlacailhfhjnaaGreatDoor
open Go.RowKit Go.Lib
set_option maxHeartbeats 8000000 in
set_option maxRecDepth 8000 in
/-- outer, of a book that no list of messages came to. -/
theorem outer_zero (Z : Nat) (fr wa gr wh mw : Value) (pm : Option Addr) (cm : Nat) (w : World) (h : w.heap[Z]? = some (.cells (bk8 fr wa gr wh (.slice pm 0 cm) mw (.slice none 0 0)) 53 (0, 0))) :
    Calls Tryz.prog 53 #[.pointer (some ⟨Z, 0, none⟩)] w fun e w' => e = .returned (.bool true) ∧ w' = w := by
  have h5 : w.cell? ⟨Z, 5, none⟩ = some (.slice pm 0 cm) := cell_of_row w _ 5 _ 53 (0, 0) h
  have h7 : w.cell? ⟨Z, 7, none⟩ = some (.slice none 0 0) := cell_of_row w _ 7 _ 53 (0, 0) h
  clear h
  go_enter Tryz.func53, Tryz.ntmps53
  go_wp2
  go_loopw [3] (fun i wr => i = .int .i64 0 ∧ wr = w) (fun _ _ => 0)
  case atStart => exact ⟨rfl, rfl⟩
  case round =>
  obtain ⟨rfl, rfl⟩ := hrel
  go_wp2
  go_loopw [5] (fun i wr' => i = .int .i64 0 ∧ wr' = wr) (fun _ _ => 0)
  case atStart => exact ⟨rfl, rfl⟩
  case round =>
  obtain ⟨rfl, rfl⟩ := hrel
  go_wp2
  go_loopw [7] (fun i wr' => i = .int .i64 0 ∧ wr' = wr) (fun _ _ => 0)
  case atStart => exact ⟨rfl, rfl⟩
  case round =>
  obtain ⟨rfl, rfl⟩ := hrel
  go_wp2
  go_loopw [10] (fun i wr' => i = .int .i64 0 ∧ wr' = wr) (fun _ _ => 0)
  case atStart => exact ⟨rfl, rfl⟩
  case round =>
  obtain ⟨rfl, rfl⟩ := hrel
  go_wp2
  go_ret
  exact ⟨rfl, rfl⟩
set_option maxHeartbeats 8000000 in
set_option maxRecDepth 8000 in
/-- still, of a book that no list of fields came to. -/
theorem still_zero (B Z : Nat) (wa mm mw : Value) (pf : Option Addr) (cf : Nat) (w : World)
    (hO : Calls Tryz.prog 53 #[.pointer (some ⟨Z, 0, none⟩)] w fun e w1 => e = .returned (.bool true) ∧ Below B w w1 ∧ ∃ ml, w1.heap[Z]? = some (.cells (bk8 (.slice pf 0 cf) wa (.slice none 0 0) (.slice none 0 0) mm mw ml) 53 (0, 0))) :
    Calls Tryz.prog 27 #[.pointer (some ⟨Z, 0, none⟩)] w fun e w' => e = .returned (.bool true) ∧ Below B w w' := by
  have HO := hide hO
  clear hO
  go_enter Tryz.func27, Tryz.ntmps27
  go_wp2_with fail
  refine (unhide HO).mono ?_
  rintro e w1 ⟨rfl, hB0, ml, h⟩
  have HB0 := hide hB0
  have h0 : w1.cell? ⟨Z, 0, none⟩ = some (.slice pf 0 cf) := cell_of_row w1 _ 0 _ 53 (0, 0) h
  have h3 : w1.cell? ⟨Z, 3, none⟩ = some (.slice none 0 0) := cell_of_row w1 _ 3 _ 53 (0, 0) h
  clear h hB0 HO
  go_wp2
  go_loopw [4] (fun i wr => i = .int .i64 0 ∧ wr = w1) (fun _ _ => 0)
  case atStart => exact ⟨rfl, rfl⟩
  case round =>
  obtain ⟨rfl, rfl⟩ := hrel
  go_wp2
  go_loopw [6] (fun i wr' => i = .int .i64 0 ∧ wr' = wr) (fun _ _ => 0)
  case atStart => exact ⟨rfl, rfl⟩
  case round =>
  obtain ⟨rfl, rfl⟩ := hrel
  go_wp2
  go_loopw [8] (fun i wr' => i = .int .i64 0 ∧ wr' = wr) (fun _ _ => 0)
  case atStart => exact ⟨rfl, rfl⟩
  case round =>
  obtain ⟨rfl, rfl⟩ := hrel
  go_wp2
  go_loopw [11] (fun i wr' => i = .int .i64 0 ∧ wr' = wr) (fun _ _ => 0)
  case atStart => exact ⟨rfl, rfl⟩
  case round =>
  obtain ⟨rfl, rfl⟩ := hrel
  go_wp2
  go_loopw [13] (fun i wr' => i = .int .i64 0 ∧ wr' = wr) (fun _ _ => 0)
  case atStart => exact ⟨rfl, rfl⟩
  case round =>
  obtain ⟨rfl, rfl⟩ := hrel
  go_wp2
  go_ret
  exact ⟨rfl, unhide HB0⟩
def m4 (x : Ms × Value) : M4 := (S x.1.m, S x.1.p, x.2, S x.1.b)
theorem cellsM_c4 (l : List (Ms × Value)) : cellsM l = c4 (l.map m4) := by
  induction l with
  | nil => rfl
  | cons x l ih =>
    rw [List.map_cons, c4_cons, ← ih]
    simp [cellsM, m4]
theorem len_mem {α β : Type} (E : List α) (f : α → List β) (e : α) (he : e ∈ E) : (f e).length ≤ (E.flatMap f).length := by
  induction E with
  | nil => cases he
  | cons a E ih =>
    rw [List.flatMap_cons, List.length_append]
    rcases List.mem_cons.1 he with rfl | q
    · omega
    · have := ih q; omega
theorem flat_fst (E : List EnM) (h : ∀ e ∈ E, e.l.map (·.1) = e.l2.map (·.1)) : (E.flatMap (·.l)).map (·.1) = (E.flatMap (·.l2)).map (·.1) := by
  induction E with
  | nil => rfl
  | cons a E ih => rw [List.flatMap_cons, List.flatMap_cons, List.map_append, List.map_append, h a List.mem_cons_self, ih (fun e he => h e (List.mem_cons_of_mem _ he))]
theorem getD_lt {α : Type} {l : List α} {d : α} {i : Nat} (h : i < l.length) : l.getD i d = l[i] := by simp [h]
theorem add0 (g i : Nat) : (⟨g, 0, none⟩ : Addr).add i = ⟨g, i, none⟩ := by unfold Addr.add; split <;> simp_all
section
variable {w0 : World} {Z ra ya : Nat} {R Y : Nat → Nat} {p : Nat → Ps} {O : Nat → Nat → Prop} {T : Nat → Bs} {ov : Nat → Bool} {E : List EnM} {fr wa mm mw : Value} {W : World}
theorem fdj_outer (h : FdJ w0 Z ra ya R Y p O T ov E fr wa mm mw W) (hu : E.length ≤ 2000000000) (hx : (E.flatMap (·.l)).length ≤ 2000000000) :
    Calls Tryz.prog 53 #[.pointer (some ⟨Z, 0, none⟩)] W fun e w1 => e = .returned (.bool true) ∧ KpM w0.heap.size Z W w1 ∧ ∃ ml, w1.heap[Z]? = some (.cells (bk8 fr wa (.slice none 0 0) (.slice none 0 0) mm mw ml) 53 (0, 0)) := by
  have hm := h.bk.m
  have hn := h.bk.n
  rw [List.length_map] at hm hn
  by_cases h0 : E.length = 0
  · obtain ⟨pm, cm, e⟩ := owns_form hm
    rw [h0] at e
    subst e
    refine (outer_zero Z fr wa _ _ mw pm cm W h.bk.blk).mono ?_
    rintro e w' ⟨rfl, rfl⟩
    exact ⟨rfl, KpM.refl _ _ _, _, h.bk.blk⟩
  rcases hm.2 with ⟨_, q⟩ | ⟨G, cap, cur, q1, _, q2, _⟩
  · omega
  rcases hn.2 with ⟨_, q⟩ | ⟨H, cap2, cur2, r1, _, r2, _⟩
  · omega
  subst q1 r1
  have eV : ∀ i (hi : i < E.length), (E.map (·.v)).getD i undef = E[i].v := fun i hi => by rw [getD_lt (by simpa using hi), List.getElem_map]
  have eG : ∀ i (hi : i < E.length), E.getD i ⟨undef, undef, [], [], fun _ => False, fun _ => False⟩ = E[i] := fun i hi => getD_lt hi
  have pw := List.pairwise_iff_getElem.1 h.epw
  refine outer_any w0.heap.size Z G E.length cap H cap2 (fun i => (E.map (·.v)).getD i undef) (fun i => (E.getD i ⟨undef, undef, [], [], fun _ => False, fun _ => False⟩).l.map m4) (fun i => (E.getD i ⟨undef, undef, [], [], fun _ => False, fun _ => False⟩).l.map (·.1)) fr wa _ _ W h.bk.blk (h.bh Z (.inl rfl)) ⟨⟨cur, q2⟩, h.bh G (.inr (.inr (.inr (.inl rfl)))), fun i hi => ?_, fun i hi => ?_, fun i j hi hj hij g hg q => ?_, fun i hi g hg => ?_⟩ (lt_of_row r2) (fun i hi => ?_) (fun i hi => ?_) (fun i hi => ?_) (fun i hi j => ?_) hu (fun i hi => ?_)
  · have := World.ownsRow.cells hm (g := G) rfl i ((E.map (·.v)).getD i undef) (by simp [hi])
    rwa [add0] at this
  · skip
    rw [eV i hi, eG i hi]
    have := (h.ent E[i] (List.getElem_mem hi)).1.row
    unfold RwM
    rw [List.length_map, ← cellsM_c4]
    exact this
  · skip
    rw [eV i hi] at hg
    rw [eV j hj] at q
    have a1 := (h.ent E[i] (List.getElem_mem hi)).1.inV g hg
    have a2 := (h.ent E[j] (List.getElem_mem hj)).1.inV g q
    rcases Nat.lt_or_gt_of_ne hij with r | r
    · exact pw i j hi hj r g a1 a2
    · exact pw j i hj hi r g a2 a1
  · skip
    rw [eV i hi] at hg
    exact h.eh E[i] (List.getElem_mem hi) g ((h.ent E[i] (List.getElem_mem hi)).1.inV g hg)
  · simp
  · skip
    rw [eV i hi, eG i hi]
    exact (h.ent E[i] (List.getElem_mem hi)).1.mls
  · skip
    rw [eG i hi]
    have hc := World.ownsRow.cells hn (g := H) rfl i E[i].z (by simp [hi])
    rw [add0] at hc
    obtain ⟨p2, c2, e2, hm2⟩ := (h.ent E[i] (List.getElem_mem hi)).2.1.mls
    rw [← (h.ent E[i] (List.getElem_mem hi)).2.2.1] at e2 hm2
    rw [e2] at hc
    exact ⟨p2, c2, hc, hm2⟩
  · skip
    rw [eG i hi]
    by_cases hj : j < (E[i].l.map (·.1)).length
    · rw [getD_lt hj, List.getElem_map]
      exact (h.ent E[i] (List.getElem_mem hi)).2.2.2 _ (List.getElem_mem _)
    · rw [List.getD_eq_getElem?_getD, List.getElem?_eq_none (by omega)]
      exact Nat.zero_le _
  · skip
    rw [eG i hi, List.length_map]
    exact Nat.le_trans (len_mem E (·.l) E[i] (List.getElem_mem hi)) hx
theorem RwF.kpm {B : Nat} {w1 : World} {v : Value} {L : List Fl} (h : RwF W v L) (k : KpM B Z W w1) {c : Array Value} (hZ : W.heap[Z]? = some (.cells c 53 (0, 0))) : RwF w1 v L := h.keep (fun g hg => by
  obtain ⟨cur, e⟩ := h.kind g hg
  exact k.kind g cur 35 e (by decide) (by decide) (kind_ne e hZ (by decide)))
theorem fdj_still (h : FdJ w0 Z ra ya R Y p O T ov E fr wa mm mw W) (hu : E.length ≤ 2000000000) (hx : (E.flatMap (·.l)).length ≤ 2000000000) :
    Calls Tryz.prog 27 #[.pointer (some ⟨Z, 0, none⟩)] W fun e w' => e = .returned (.bool true) ∧ Below w0.heap.size W w' := by
  have hO := fdj_outer h hu hx
  have hf := h.bk.f
  have ha := h.bk.a
  have hfst := flat_fst E (fun e he => (h.ent e he).2.2.1)
  have hlen : (E.flatMap (·.l2)).length = (E.flatMap (·.l)).length := by
    have := congrArg List.length hfst
    simpa using this.symm
  rw [List.length_map] at hf ha
  rw [hlen] at ha
  by_cases h0 : (E.flatMap (·.l)).length = 0
  · obtain ⟨pf, cf, e⟩ := owns_form hf
    rw [h0] at e
    subst e
    exact still_zero w0.heap.size Z wa mm mw pf cf W (hO.mono fun e w1 q => ⟨q.1, q.2.1.below, q.2.2⟩)
  have xrow : ∀ x ∈ E.flatMap (·.l), RwF W x.2 x.1.hs := fun x hx => by
    obtain ⟨e, he, hxe⟩ := List.mem_flatMap.1 hx
    exact (h.ent e he).1.hrow x hxe
  have yrow : ∀ x ∈ E.flatMap (·.l2), RwF W x.2 x.1.hs := fun x hx => by
    obtain ⟨e, he, hxe⟩ := List.mem_flatMap.1 hx
    exact (h.ent e he).2.1.hrow x hxe
  have xpw : (E.flatMap (·.l)).Pairwise (fun x y => ∀ k, x.2.ownBlock = some k → y.2.ownBlock ≠ some k) := by
    rw [List.pairwise_flatMap]
    refine ⟨fun e he => (h.ent e he).1.apart, h.epw.imp_of_mem ?_⟩
    intro a b ha hb hab x hx y hy k q r
    exact hab k ((h.ent a ha).1.inH x hx k q) ((h.ent b hb).1.inH y hy k r)
  have xab : ∀ x ∈ E.flatMap (·.l), ∀ g, x.2.ownBlock = some g → w0.heap.size ≤ g := fun x hx g q => by
    obtain ⟨e, he, hxe⟩ := List.mem_flatMap.1 hx
    exact h.eh e he g ((h.ent e he).1.inH x hxe g q)
  have x33 : ∀ x ∈ E.flatMap (·.l), x.1.hs.length ≤ 33 := fun x hx => by
    obtain ⟨e, he, hxe⟩ := List.mem_flatMap.1 hx
    exact (h.ent e he).2.2.2 x hxe
  have hbl := h.bk.blk
  have hbh := h.bh
  generalize E.flatMap (·.l) = XL at *
  generalize E.flatMap (·.l2) = YL at *
  rcases hf.2 with ⟨_, q⟩ | ⟨G, cap, cur, q1, _, q2, _⟩
  · omega
  rcases ha.2 with ⟨_, q⟩ | ⟨H, cap2, cur2, r1, _, r2, _⟩
  · omega
  subst q1 r1
  have pw := List.pairwise_iff_getElem.1 xpw
  have eV : ∀ i (hi : i < XL.length), (XL.map (·.2)).getD i undef = XL[i].2 := fun i hi => by rw [getD_lt (by simpa using hi), List.getElem_map]
  have eL : ∀ i (hi : i < XL.length), ((XL.map (·.1)).getD i ms0).hs = XL[i].1.hs := fun i hi => by rw [getD_lt (by simpa using hi), List.getElem_map]
  refine still2_any w0.heap.size Z G XL.length cap H cap2 (fun i => (XL.map (·.2)).getD i undef) (fun i => ((XL.map (·.1)).getD i ms0).hs) mm mw W (hO.mono fun e w1 q => ⟨q.1, q.2.1.below, ?_⟩) (hbh Z (.inl rfl)) hx (fun i hi => by rw [eL i hi]; have := x33 XL[i] (List.getElem_mem hi); omega)
  obtain ⟨_, k, ml, hZ1⟩ := q
  have kG := k.kind G cur 22 q2 (by decide) (by decide) (kind_ne q2 hbl (by decide))
  have kH := k.kind H cur2 22 r2 (by decide) (by decide) (kind_ne r2 hbl (by decide))
  refine ⟨ml, hZ1, ⟨⟨cur, kG.trans q2⟩, hbh G (.inr (.inl rfl)), fun i hi => ?_, fun i hi => ?_, fun i j hi hj hij g hg r => ?_, fun i hi g hg => ?_⟩, Nat.lt_of_lt_of_le (lt_of_row r2) k.size, fun i hi => ?_⟩
  · have := World.ownsRow.cells hf (g := G) rfl i ((XL.map (·.2)).getD i undef) (by simp [hi])
    rw [add0] at this
    exact (World.cell?_of_block kG).trans this
  · skip
    rw [eV i hi, eL i hi]
    exact (xrow XL[i] (List.getElem_mem hi)).kpm k hbl
  · skip
    rw [eV i hi] at hg
    rw [eV j hj] at r
    rcases Nat.lt_or_gt_of_ne hij with s | s
    · exact pw i j hi hj s g hg r
    · exact pw j i hj hi s g r hg
  · skip
    rw [eV i hi] at hg
    exact xab XL[i] (List.getElem_mem hi) g hg
  · skip
    have hi2 : i < YL.length := by omega
    have hh : YL[i].1 = XL[i].1 := by
      have h1 : (XL.map (·.1))[i]'(by simpa using hi) = (YL.map (·.1))[i]'(by simpa using hi2) := by simp only [hfst]
      rw [List.getElem_map, List.getElem_map] at h1
      exact h1.symm
    rw [eL i hi, ← hh]
    have hc := World.ownsRow.cells ha (g := H) rfl i YL[i].2 (by simp [hi2])
    rw [add0] at hc
    obtain ⟨p2, c2, e2, hf2⟩ := ((yrow YL[i] (List.getElem_mem hi2)).kpm k hbl).fls
    rw [e2] at hc
    exact ⟨p2, c2, (World.cell?_of_block kH).trans hc, hf2⟩
end
end Go.Proofs.YthlacailhfhjnaaGreatDoor
