import Derived.Test.YtllialbdofklgaaGreatDoorZnoj
import Derived.Test.YtllialbdofklgaaGreatDoorZnok
import Derived.Test.YtllialbdofklgaaGreatDoorNoa
namespace Go.Proofs.YtllialbdofklgaaGreatDoor
open Go.RowKit
set_option maxHeartbeats 16000000
set_option maxRecDepth 8000
theorem Sts.tk {w : World} {g o n : Nat} {l : List Bs} (h : Sts w (Option.some ⟨g, o, none⟩) n l) (i : Nat) (hi : i ≤ n) : Sts w (Option.some ⟨g, o, none⟩) i (l.take i) := by
  have hn := h.1
  refine ⟨by rw [List.length_take]; omega, fun h0 => ?_⟩
  obtain ⟨p, q, e, hc⟩ := h.2 (by omega)
  cases e
  refine ⟨g, o, rfl, fun j hj => ?_⟩
  rw [hc j (by omega)]
  simp only [List.getD_eq_getElem?_getD, List.getElem?_take, if_pos hj]
theorem Sts.dr {w : World} {g o n : Nat} {l : List Bs} (h : Sts w (Option.some ⟨g, o, none⟩) n l) (i : Nat) : Sts w (Option.some ⟨g, o + i, none⟩) (n - i) (l.drop i) := by
  have hn := h.1
  refine ⟨by rw [List.length_drop]; omega, fun h0 => ?_⟩
  obtain ⟨p, q, e, hc⟩ := h.2 (by omega)
  cases e
  refine ⟨g, o + i, rfl, fun j hj => ?_⟩
  rw [Nat.add_assoc, hc (i + j) (by omega)]
  simp only [List.getD_eq_getElem?_getD, List.getElem?_drop]
theorem Ins.tk {w : World} {g o n : Nat} {l : List Int} (h : Ins w (some ⟨g, o, none⟩) n l) (i : Nat) (hi : i ≤ n) : Ins w (some ⟨g, o, none⟩) i (l.take i) := by
  have hn := h.1
  refine ⟨by rw [List.length_take]; omega, fun h0 => ?_⟩
  obtain ⟨p, q, e, hc⟩ := h.2 (by omega)
  cases e
  refine ⟨g, o, rfl, fun j hj => ?_⟩
  rw [hc j (by omega)]
  simp only [List.getD_eq_getElem?_getD, List.getElem?_take, if_pos hj]
theorem Ins.dr {w : World} {g o n : Nat} {l : List Int} (h : Ins w (some ⟨g, o, none⟩) n l) (i : Nat) : Ins w (some ⟨g, o + i, none⟩) (n - i) (l.drop i) := by
  have hn := h.1
  refine ⟨by rw [List.length_drop]; omega, fun h0 => ?_⟩
  obtain ⟨p, q, e, hc⟩ := h.2 (by omega)
  cases e
  refine ⟨g, o + i, rfl, fun j hj => ?_⟩
  rw [Nat.add_assoc, hc (i + j) (by omega)]
  simp only [List.getD_eq_getElem?_getD, List.getElem?_drop]
theorem NB.lft {n : Nd} (h : NB n) (i : Nat) : NB (lft n i) := by
  have t1 := tot_split n.keys i
  have t2 := tot_split n.vals i
  have t0 : tot [] = 0 := rfl
  obtain ⟨h1, h2, h3, h4, h5⟩ := h
  unfold Go.Proofs.YtllialbdofklgaaGreatDoor.lft
  split
  · exact ⟨by rw [List.length_take]; omega, by rw [List.length_take]; omega, by simp, by show tot (n.keys.take i) ≤ _; omega, by show tot (n.vals.take i) ≤ _; omega⟩
  · exact ⟨by rw [List.length_take]; omega, by simp, by rw [List.length_take]; omega, by show tot (n.keys.take i) ≤ _; omega, by show tot [] ≤ _; omega⟩
theorem NB.rgt {n : Nd} (h : NB n) (i : Nat) : NB (rgt n i) := by
  have t1 := tot_split n.keys i
  have t2 := tot_split n.vals i
  have t3 := tot_split n.keys (i + 1)
  have t0 : tot [] = 0 := rfl
  obtain ⟨h1, h2, h3, h4, h5⟩ := h
  unfold Go.Proofs.YtllialbdofklgaaGreatDoor.rgt
  split
  · exact ⟨by rw [List.length_drop]; omega, by rw [List.length_drop]; omega, by simp, by show tot (n.keys.drop i) ≤ _; omega, by show tot (n.vals.drop i) ≤ _; omega⟩
  · exact ⟨by rw [List.length_drop]; omega, by simp, by rw [List.length_drop]; omega, by show tot (n.keys.drop (i + 1)) ≤ _; omega, by show tot [] ≤ _; omega⟩
/-- The two parts of a node in memory. -/
structure Sds (n : Nd) (lx ly lz rx ry rz : Nat → Sl) (W : World) : Prop where
  l : ∀ i, 1 ≤ i → i ≤ las n → NA (lft n i) (lx i).1 (ly i).1 (lz i).1 W
  r : ∀ i, 1 ≤ i → i ≤ las n → NA (rgt n i) (rx i).1 (ry i).1 (rz i).1 W
theorem Sds.below {n : Nd} {lx ly lz rx ry rz : Nat → Sl} {W W' : World} (h : Sds n lx ly lz rx ry rz W) (q : Below W.heap.size W W') : Sds n lx ly lz rx ry rz W' := ⟨fun i a b => (h.l i a b).below q, fun i a b => (h.r i a b).below q⟩
theorem sides_any (n : Nd) (ka va ia : Option Addr) (kc vc ic : Nat) (w : World) (h : NA n ka va ia w) (hb : NB n) (hg : Grt n) (ck : n.keys.length ≤ kc) (cv : n.vals.length ≤ vc) (ci : n.kids.length ≤ ic) (hic : ic ≤ 9223372036854775807) :
    ∃ lx ly lz rx ry rz : Nat → Sl, Sds n lx ly lz rx ry rz w ∧ (∀ i, 1 ≤ i → i ≤ las n → agv4 n.leaf (lx i) (ly i) (lz i) = nda (lft n i) (lx i).1 (ly i).1 (lz i).1 (lx i).2.2 (ly i).2.2 (lz i).2.2 ∧ agv4 n.leaf (rx i) (ry i) (rz i) = nda (rgt n i) (rx i).1 (ry i).1 (rz i).1 (rx i).2.2 (ry i).2.2 (rz i).2.2) ∧
      (∀ i W, 1 ≤ i → i ≤ las n → Calls Tryz.prog 66 #[nda n ka va ia kc vc ic, I i] W fun r w' => r = .returned (.tuple #[agv4 n.leaf (lx i) (ly i) (lz i), agv4 n.leaf (rx i) (ry i) (rz i)]) ∧ Below W.heap.size W w') := by
  obtain ⟨hv, hk⟩ := hg.lists
  obtain ⟨lf, ks, vs, is⟩ := n
  obtain ⟨h1, h2, h3⟩ := h
  obtain ⟨b1, b2, b3, b4, b5⟩ := hb
  simp only at *
  cases lf
  · obtain ⟨k1, k2, -, -⟩ := hk rfl
    subst k2
    have hla : las ⟨false, ks, [], is⟩ = ks.length - 2 := rfl
    rw [hla]
    by_cases hkl : 3 ≤ ks.length
    · obtain ⟨g1, o1, rfl⟩ := h1.some (by omega)
      obtain ⟨g3, o3, e3, -⟩ := h3.2 (by omega)
      subst e3
      refine ⟨fun i => (some ⟨g1, o1, none⟩, i, i), fun _ => (none, 0, 0), fun i => (some ⟨g3, o3, none⟩, i + 1, i + 1), fun i => (some ⟨g1, o1 + (i + 1), none⟩, ks.length - (i + 1), ks.length - (i + 1)), fun _ => (none, 0, 0), fun i => (some ⟨g3, o3 + (i + 1), none⟩, ks.length + 1 - (i + 1), ks.length + 1 - (i + 1)), ⟨fun i a b => ?_, fun i a b => ?_⟩, fun i a b => ?_, fun i W a b => ?_⟩
      · rw [hla] at b
        refine ⟨?_, ?_, ?_⟩
        · show Sts w _ (ks.take i).length (ks.take i)
          rw [show (ks.take i).length = i by rw [List.length_take]; omega]
          exact h1.tk i (by omega)
        · exact ⟨rfl, fun q => by simp [lft] at q⟩
        · show Ins w _ (is.take (i + 1)).length (is.take (i + 1))
          rw [show (is.take (i + 1)).length = i + 1 by rw [List.length_take]; omega]
          exact h3.tk (i + 1) (by omega)
      · rw [hla] at b
        refine ⟨?_, ?_, ?_⟩
        · show Sts w _ (ks.drop (i + 1)).length (ks.drop (i + 1))
          rw [show (ks.drop (i + 1)).length = ks.length - (i + 1) by rw [List.length_drop]]
          exact h1.dr (i + 1)
        · exact ⟨rfl, fun q => by simp [rgt] at q⟩
        · show Ins w _ (is.drop (i + 1)).length (is.drop (i + 1))
          rw [show (is.drop (i + 1)).length = is.length - (i + 1) by rw [List.length_drop]]
          exact h3.dr (i + 1)
      · unfold agv4 nda lft rgt
        simp only [Bool.false_eq_true, if_false, List.length_take, List.length_drop, List.length_nil, k1]
        rw [show min i ks.length = i by omega, show min (i + 1) (ks.length + 1) = i + 1 by omega]
        exact ⟨rfl, by first | rfl | trivial⟩
      · unfold nda agv4
        simp only [k1, List.length_nil]
        refine sides_gen false (some ⟨g1, o1, none⟩) va (some ⟨g3, o3, none⟩) ks.length kc 0 vc (ks.length + 1) ic i (i + 1) _ _ _ _ _ _ _ _ _ _ _ _ _ _ _ _ _ _ W (by omega) rfl (fun W => ?_) (fun W => ?_)
        · have := part_inner g1 o1 g3 o3 ks.length kc ic va 0 vc 0 i W (by omega) (by omega) ck (by omega) hic
          simpa using this
        · have := part_inner g1 o1 g3 o3 ks.length kc ic va 0 vc (i + 1) ks.length W (by omega) (by omega) ck (by omega) hic
          simpa using this
    · exact ⟨fun _ => (none, 0, 0), fun _ => (none, 0, 0), fun _ => (none, 0, 0), fun _ => (none, 0, 0), fun _ => (none, 0, 0), fun _ => (none, 0, 0), ⟨fun i a b => by rw [hla] at b; omega, fun i a b => by rw [hla] at b; omega⟩, fun i a b => by omega, fun i W a b => by omega⟩
  · obtain ⟨k1, k2, -⟩ := hv rfl
    subst k2
    have hla : las ⟨true, ks, vs, []⟩ = ks.length - 1 := rfl
    rw [hla]
    by_cases hkl : 2 ≤ ks.length
    · obtain ⟨g1, o1, rfl⟩ := h1.some (by omega)
      obtain ⟨g2, o2, rfl⟩ := h2.some (by omega)
      refine ⟨fun i => (some ⟨g1, o1, none⟩, i, i), fun i => (some ⟨g2, o2, none⟩, i, i), fun _ => (none, 0, 0), fun i => (some ⟨g1, o1 + i, none⟩, ks.length - i, ks.length - i), fun i => (some ⟨g2, o2 + i, none⟩, ks.length - i, ks.length - i), fun _ => (none, 0, 0), ⟨fun i a b => ?_, fun i a b => ?_⟩, fun i a b => ?_, fun i W a b => ?_⟩
      · rw [hla] at b
        refine ⟨?_, ?_, Ins.nil _ _⟩
        · show Sts w _ (ks.take i).length (ks.take i)
          rw [show (ks.take i).length = i by rw [List.length_take]; omega]
          exact h1.tk i (by omega)
        · show Sts w _ (vs.take i).length (vs.take i)
          rw [show (vs.take i).length = i by rw [List.length_take]; omega]
          exact h2.tk i (by omega)
      · rw [hla] at b
        refine ⟨?_, ?_, Ins.nil _ _⟩
        · show Sts w _ (ks.drop i).length (ks.drop i)
          rw [show (ks.drop i).length = ks.length - i by rw [List.length_drop]]
          exact h1.dr i
        · show Sts w _ (vs.drop i).length (vs.drop i)
          rw [show (vs.drop i).length = vs.length - i by rw [List.length_drop]]
          exact h2.dr i
      · unfold agv4 nda lft rgt
        simp only [if_true, List.length_take, List.length_drop, List.length_nil, k1]
        rw [show min i ks.length = i by omega]
        exact ⟨rfl, by first | rfl | trivial⟩
      · unfold nda agv4
        simp only [k1, List.length_nil]
        refine sides_gen true (some ⟨g1, o1, none⟩) (some ⟨g2, o2, none⟩) ia ks.length kc ks.length vc 0 ic i i _ _ _ _ _ _ _ _ _ _ _ _ _ _ _ _ _ _ W (by omega) rfl (fun W => ?_) (fun W => ?_)
        · have := part_leaf g1 o1 g2 o2 ks.length kc vc ia 0 ic 0 i W (by omega) (by omega) ck (by omega)
          simpa using this
        · have := part_leaf g1 o1 g2 o2 ks.length kc vc ia 0 ic i ks.length W (by omega) (by omega) ck (by omega)
          simpa using this
    · exact ⟨fun _ => (none, 0, 0), fun _ => (none, 0, 0), fun _ => (none, 0, 0), fun _ => (none, 0, 0), fun _ => (none, 0, 0), fun _ => (none, 0, 0), ⟨fun i a b => by rw [hla] at b; omega, fun i a b => by rw [hla] at b; omega⟩, fun i a b => by omega, fun i W a b => by omega⟩
theorem placeN_any (n : Nd) (ka va ia : Option Addr) (kc vc ic : Nat) (w : World) (h : NA n ka va ia w) (hb : NB n) (hg : Grt n) (ck : n.keys.length ≤ kc) (cv : n.vals.length ≤ vc) (ci : n.kids.length ≤ ic) (hic : ic ≤ 9223372036854775807) (hl : 1 ≤ las n) :
    Calls Tryz.prog 65 #[nda n ka va ia kc vc ic] w fun r w' => ∃ i, Plc n i ∧ r = .returned (I (i : Nat)) ∧ Below w.heap.size w w' := by
  obtain ⟨lx, ly, lz, rx, ry, rz, hS, hE, hC⟩ := sides_any n ka va ia kc vc ic w h hb hg ck cv ci hic
  have hk := hb.k
  have hll : las n ≤ 4294967296 := by unfold las; split <;> omega
  unfold nda at hC ⊢
  refine Calls.mono (place_gen n.leaf ka va ia n.keys.length kc n.vals.length vc n.kids.length ic (las n) (fun j => ((lft n (j + 1)).siz, (rgt n (j + 1)).siz)) w hl hll (fun W q => allEnds_gen n.leaf ka va ia n.keys.length kc n.vals.length vc n.kids.length ic (las n) lx ly lz rx ry rz _ W rfl hl hk hC (fun i V b h1 h2 => ?_) (fun i V b h1 h2 => ?_))) ?_
  · have q2 := size_any (lft n i) (lx i).1 (ly i).1 (lz i).1 (lx i).2.2 (ly i).2.2 (lz i).2.2 V ((hS.l i h1 h2).below (q.trans (b.mono q.size))) (hb.lft i)
    rw [← (hE i h1 h2).1] at q2
    rw [show i - 1 + 1 = i by omega]
    exact q2
  · have q2 := size_any (rgt n i) (rx i).1 (ry i).1 (rz i).1 (rx i).2.2 (ry i).2.2 (rz i).2.2 V ((hS.r i h1 h2).below (q.trans (b.mono q.size))) (hb.rgt i)
    rw [← (hE i h1 h2).2] at q2
    rw [show i - 1 + 1 = i by omega]
    exact q2
  · rintro r w' ⟨b, h1, h2, h3, rfl, h4⟩
    refine ⟨b + 1, ⟨by omega, by omega, fun j hj hj2 => ?_, fun j hj hj2 => ?_⟩, rfl, h4⟩
    · have := h2 (j - 1) (by omega)
      rw [show j - 1 + 1 = j by omega] at this
      exact this
    · have := h3 (j - 1) (by omega)
      rw [show j - 1 + 1 = j by omega] at this
      exact this
theorem keyBetween_any (n : Nd) (ka va ia : Option Addr) (kc vc ic i : Nat) (w : World) (h : NA n ka va ia w) (hb : NB n) (h1 : 1 ≤ i) (h2 : i < n.keys.length) :
    Calls Tryz.prog 68 #[nda n ka va ia kc vc ic, I i] w fun r w' => r = .returned (S (kbt n i)) ∧ Below w.heap.size w w' := by
  have hA := (Below.refl w.heap.size w).alloc (Nat.le_refl _) (.cells #[.bool n.leaf, .slice ka n.keys.length kc, .slice va n.vals.length vc, .slice ia n.kids.length ic] 25)
  have hg := heap_alloc_new w (.cells #[.bool n.leaf, .slice ka n.keys.length kc, .slice va n.vals.length vc, .slice ia n.kids.length ic] 25)
  have hz := lt_of_row hg
  have hs := (h.below hA).ks
  obtain ⟨p, o, e, hpl, d1⟩ := hs.at h2
  obtain ⟨p', o', e', _, d0⟩ := hs.at (show i - 1 < n.keys.length by omega)
  subst e
  cases e'
  have hx := Nat.le_trans (tot_at n.keys i) hb.kt
  have hy := Nat.le_trans (tot_at n.keys (i - 1)) hb.kt
  have H1 := hide (fun W => between_any (n.keys.getD (i - 1) []) (n.keys.getD i []) W hy hx)
  have H2 := hide (fun W => clone_any (n.keys.getD i []) W (by omega))
  have HA := hide hA
  have hbk := hb.k
  unfold kbt nda
  have hij : IntKind.i64.wrap ((i : Int) - 1) = ((i - 1 : Nat) : Int) := by rw [IntKind.wrap_i64]; omega
  have h2' : (i : Int) < (n.keys.length : Int) := by omega
  have h2'' : ((i - 1 : Nat) : Int) < (n.keys.length : Int) := by omega
  generalize i - 1 = j at *
  generalize n.keys.getD j [] = x at *
  generalize n.keys.getD i [] = y at *
  clear h hb hs hx hy h1
  generalize n.keys.length = kl at *
  generalize n.vals.length = vl at *
  generalize n.kids.length = il at *
  generalize n.leaf = lf at *
  obtain ⟨c0, c1, c2, c3⟩ := box4 hg (Below.refl _ _) hz
  clear hg hA n
  generalize hW0 : w.alloc (.cells #[.bool lf, .slice (some ⟨p, o, none⟩) kl kc, .slice va vl vc, .slice ia il ic] 25) = W0 at *
  cases lf
  · simp only [Bool.false_eq_true, if_false]
    go_enter Tryz.func68, Tryz.ntmps68
    go_wp2_with fail
    refine (unhide H2 _).mono ?_
    rintro r w1 ⟨rfl, b⟩
    have HB := hide ((unhide HA).trans (b.mono (unhide HA).size))
    clear b
    go_wp2
    go_ret
    exact ⟨rfl, unhide HB⟩
  · simp only [if_true]
    go_enter Tryz.func68, Tryz.ntmps68
    go_wp2
    go_region_with (refine (unhide H1 _).mono ?_; rintro r w1 ⟨rfl, b⟩; have HB := hide ((unhide HA).drew.trans (b.mono (show w.heap.size ≤ W0.drew.heap.size from (unhide HA).size))); clear b)
    all_goals (
      go_wp2
      go_ret
      exact ⟨rfl, unhide HB⟩)
end Go.Proofs.YtllialbdofklgaaGreatDoor
