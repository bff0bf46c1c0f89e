import Derived.Test.YtpelmacblglhoaaDui
namespace Go.Proofs.Ytpelmacblglhoaa
open Go.RowKit
set_option maxHeartbeats 4000000
set_option maxRecDepth 8000
def mkv (n : Nat) : Bs := [109, 97, 114, 107, UInt8.ofNat (n % 256), UInt8.ofNat (n / 256 % 256)]
def mkS (n : Nat) : List Value := [S (mkv n)]
def mkW (n : Nat) : List Value := [I (-1 - (n : Int)), S []]
theorem mark_any (n : Nat) (w : World) : Calls Try.prog 40 #[I n] w fun e w' => e = .returned (S (mkv n)) ∧ Below w.heap.size w w' := by
  have h1 : ((n : Int) % 256) = ((UInt8.ofNat (n % 256)).toNat : Int) := by rw [UInt8.toNat_ofNat']; omega
  have h2 : ((n : Int) / 256) % 256 = ((UInt8.ofNat (n / 256 % 256)).toNat : Int) := by rw [UInt8.toNat_ofNat']; omega
  have ba := (Below.refl w.heap.size w).alloc (Nat.le_refl _) (.cells #[B (UInt8.ofNat (n % 256)), B (UInt8.ofNat (n / 256 % 256))] 5)
  have HB := hide ba
  have hz := heap_alloc_new w (.cells #[B (UInt8.ofNat (n % 256)), B (UInt8.ofNat (n / 256 % 256))] 5)
  have HT := hide (run_text (w.alloc (.cells #[B (UInt8.ofNat (n % 256)), B (UInt8.ofNat (n / 256 % 256))] 5)) w.heap.size 0 2 2 [UInt8.ofNat (n % 256), UInt8.ofNat (n / 256 % 256)] rfl (by
    intro j hj
    rw [Nat.zero_add, cell_of_row _ _ j _ 5 (0, 0) hz]
    match j, hj with
    | 0, _ => rfl
    | 1, _ => rfl))
  have HE := hide (show mkv n = [109, 97, 114, 107, UInt8.ofNat (n % 256), UInt8.ofNat (n / 256 % 256)] from rfl)
  clear ba hz
  generalize UInt8.ofNat (n % 256) = a at *
  generalize UInt8.ofNat (n / 256 % 256) = b at *
  go_enter Try.func40, Try.ntmps40
  go_wp2_with (refine wpList_conv rfl 63 9 (.tmp 8) rfl _ _ (by rfl) (unhide HT) ?_)
  go_ret
  refine ⟨?_, unhide HB⟩
  rw [unhide HE]
  rfl
end Go.Proofs.Ytpelmacblglhoaa
namespace Go.Proofs.Ytpelmacblglhoaa
open Go.RowKit
set_option maxHeartbeats 4000000
set_option maxRecDepth 8000
/-- The blocks that may turn while the lists are looked at. -/
def Md (t : Tg) : Prop := t = (0, 0) ∨ t = (0, 3) ∨ t = (0, 6) ∨ t.1 = 3 ∨ t.1 = 4
/-- What views may lie in: what nobody writes any more, and the lists that were taken already. -/
def Pv (κ lo : Nat) (t : Tg) : Prop := t = (5, 0) ∨ (t.1 = 3 + κ ∧ t.2 < lo)
structure SS (w0 : World) (tag0 : Nat → Tg) (Z : Nat) (cs : Array Value) (tag : Nat → Tg) (w : World) : Prop where
  blk : w.heap[Z]? = some (.cells cs 30 (0, 0))
  tz : tag Z = (0, 0)
  onl : Only (fun k => Md (tag0 k)) w0 w
  agr : ∀ k, k < w0.heap.size → tag k = tag0 k
section
variable {w0 : World} {tag0 tag : Nat → Tg} {Z : Nat} {cs : Array Value} {w w' : World} {Q : Nat → Prop}
theorem SS.step (h : SS w0 tag0 Z cs tag w) (ho : Only Q w w') (hq : ∀ k, Q k → k < w.heap.size → Md (tag k) ∧ tag k ≠ (0, 0)) : SS w0 tag0 Z cs tag w' := by
  refine ⟨(ho.block Z (lt_of_row h.blk) (fun q => (hq Z q (lt_of_row h.blk)).2 h.tz)).trans h.blk, h.tz, h.onl.trans ho (fun k hk q => ?_), h.agr⟩
  have := (hq k q (Nat.lt_of_lt_of_le hk h.onl.size)).1
  rwa [h.agr k hk] at this
theorem SS.below (h : SS w0 tag0 Z cs tag w) (hb : Below w.heap.size w w') : SS w0 tag0 Z cs tag w' := h.step (Q := fun _ => False) (Only.of_below hb) (fun _ q => q.elim)
theorem SS.ext {t : Tg} (h : SS w0 tag0 Z cs tag w) : SS w0 tag0 Z cs (ext tag w.heap.size t) w :=
  ⟨h.blk, by rw [ext_old (lt_of_row h.blk)]; exact h.tz, h.onl, fun k hk => by rw [ext_old (Nat.lt_of_lt_of_le hk h.onl.size)]; exact h.agr k hk⟩
theorem SS.put (h : SS w0 tag0 Z cs tag w) (j : Nat) (v : Value) : SS w0 tag0 Z (cs.setIfInBounds j v) tag (w.setCell ⟨Z, j, none⟩ v) := by
  refine ⟨heap_setCell_same w Z j _ 30 v h.blk, h.tz, h.onl.trans (Only.setCell w ⟨Z, j, none⟩ v) (fun k hk q => ?_), h.agr⟩
  have q' : k = Z := q
  rw [← h.agr k hk, q', h.tz]
  exact .inl rfl
end
/-- All that is looked at. -/
structure S4 (w0 : World) (tag0 : Nat → Tg) (Z : Nat) (cs : Array Value) (tag : Nat → Tg)
    (N1 : Nat) (vs1 : Nat → Value) (ns1 : Nat → Nat) (C1 : Nat → List Value) (vf1 : Value) (lo1 : Nat) (vd1 : Value) (Dn1 : List Value) (x1 : Value) (len1 : Nat)
    (N2 : Nat) (vs2 : Nat → Value) (ns2 : Nat → Nat) (C2 : Nat → List Value) (vf2 : Value) (lo2 : Nat) (vd2 : Value) (Dn2 : List Value) (x2 : Value) (len2 : Nat) (w : World) : Prop where
  s : SS w0 tag0 Z cs tag w
  b1 : LB 0 9 1 28 tag N1 vs1 ns1 C1 vf1 lo1 w
  d1 : LD 0 9 1 28 mkS tag (Pv 0 lo1) vd1 Dn1 x1 len1 w
  b2 : LB 1 69 2 43 tag N2 vs2 ns2 C2 vf2 lo2 w
  d2 : LD 1 69 2 43 mkW tag (Pv 1 lo2) vd2 Dn2 x2 len2 w
section
variable {w0 : World} {tag0 tag : Nat → Tg} {Z : Nat} {cs : Array Value} {w w' : World} {Q : Nat → Prop}
  {N1 : Nat} {vs1 : Nat → Value} {ns1 : Nat → Nat} {C1 : Nat → List Value} {vf1 : Value} {lo1 : Nat} {vd1 : Value} {Dn1 : List Value} {x1 : Value} {len1 : Nat}
  {N2 : Nat} {vs2 : Nat → Value} {ns2 : Nat → Nat} {C2 : Nat → List Value} {vf2 : Value} {lo2 : Nat} {vd2 : Value} {Dn2 : List Value} {x2 : Value} {len2 : Nat}
theorem S4.below (h : S4 w0 tag0 Z cs tag N1 vs1 ns1 C1 vf1 lo1 vd1 Dn1 x1 len1 N2 vs2 ns2 C2 vf2 lo2 vd2 Dn2 x2 len2 w) (hb : Below w.heap.size w w') : S4 w0 tag0 Z cs tag N1 vs1 ns1 C1 vf1 lo1 vd1 Dn1 x1 len1 N2 vs2 ns2 C2 vf2 lo2 vd2 Dn2 x2 len2 w' :=
  ⟨h.s.below hb, h.b1.below hb, h.d1.below hb, h.b2.below hb, h.d2.below hb⟩
theorem tg_ne {a b c d : Nat} (h : a ≠ c) : ((a, b) : Tg) ≠ (c, d) := fun q => h (congrArg Prod.fst q)
theorem not_pv0 {κ lo b : Nat} : ¬ Pv κ lo (0, b) := by
  rintro (q | ⟨q, _⟩)
  · have := congrArg Prod.fst q; simp at this
  · simp at q; omega
theorem not_pvi {κ lo i : Nat} (h : lo ≤ i) (hk : κ ≤ 1) : ¬ Pv κ lo (3 + κ, i) := by
  rintro (q | ⟨_, q⟩)
  · have := congrArg Prod.fst q; simp at this; omega
  · simp at q; omega
theorem not_pvo {κ κ' lo i : Nat} (h : κ ≠ κ') (hk : κ' ≤ 1) : ¬ Pv κ lo (3 + κ', i) := by
  rintro (q | ⟨q, _⟩)
  · have := congrArg Prod.fst q; simp at this; omega
  · simp at q; omega
theorem S4.mark1 (h : S4 w0 tag0 Z cs tag N1 vs1 ns1 C1 vf1 lo1 vd1 Dn1 x1 len1 N2 vs2 ns2 C2 vf2 lo2 vd2 Dn2 x2 len2 w) {i : Nat} {c' : List Value} (hi : lo1 ≤ i) (hr : w'.ownsRow 0 9 1 (vs1 i) (ns1 i) c') (ho : Only Q w w') (hq : ∀ k, Q k → k < w.heap.size → tag k = (3, i)) :
    S4 w0 tag0 Z cs tag N1 vs1 ns1 (fun j => if j = i then c' else C1 j) vf1 lo1 vd1 Dn1 x1 len1 N2 vs2 ns2 C2 vf2 lo2 vd2 Dn2 x2 len2 w' := by
  refine ⟨h.s.step ho (fun k q l => ?_), h.b1.set hr ho hq, h.d1.only ho (fun k q l => ?_), h.b2.only ho (fun k q l => ?_), h.d2.only ho (fun k q l => ?_)⟩ <;> rw [hq k q l]
  · exact ⟨.inr (.inr (.inr (.inl rfl))), tg_ne (by decide)⟩
  · exact ⟨tg_ne (by decide), not_pvi (κ := 0) hi (by decide)⟩
  · exact ⟨tg_ne (by decide), fun j _ => tg_ne (by decide)⟩
  · exact ⟨tg_ne (by decide), not_pvo (κ := 1) (κ' := 0) (by decide) (by decide)⟩
theorem S4.mark2 (h : S4 w0 tag0 Z cs tag N1 vs1 ns1 C1 vf1 lo1 vd1 Dn1 x1 len1 N2 vs2 ns2 C2 vf2 lo2 vd2 Dn2 x2 len2 w) {i : Nat} {c' : List Value} (hi : lo2 ≤ i) (hr : w'.ownsRow 0 69 2 (vs2 i) (ns2 i) c') (ho : Only Q w w') (hq : ∀ k, Q k → k < w.heap.size → tag k = (4, i)) :
    S4 w0 tag0 Z cs tag N1 vs1 ns1 C1 vf1 lo1 vd1 Dn1 x1 len1 N2 vs2 ns2 (fun j => if j = i then c' else C2 j) vf2 lo2 vd2 Dn2 x2 len2 w' := by
  refine ⟨h.s.step ho (fun k q l => ?_), h.b1.only ho (fun k q l => ?_), h.d1.only ho (fun k q l => ?_), h.b2.set hr ho hq, h.d2.only ho (fun k q l => ?_)⟩ <;> rw [hq k q l]
  · exact ⟨.inr (.inr (.inr (.inr rfl))), tg_ne (by decide)⟩
  · exact ⟨tg_ne (by decide), fun j _ => tg_ne (by decide)⟩
  · exact ⟨tg_ne (by decide), not_pvo (κ := 0) (κ' := 1) (by decide) (by decide)⟩
  · exact ⟨tg_ne (by decide), not_pvi (κ := 1) hi (by decide)⟩
theorem Pv.mono {κ lo lo' : Nat} {t : Tg} (h : Pv κ lo t) (hl : lo ≤ lo') : Pv κ lo' t := by
  rcases h with q | ⟨q, q2⟩
  · exact .inl q
  · exact .inr ⟨q, by omega⟩
theorem S4.take1 (h : S4 w0 tag0 Z cs tag N1 vs1 ns1 C1 vf1 lo1 vd1 Dn1 x1 len1 N2 vs2 ns2 C2 vf2 lo2 vd2 Dn2 x2 len2 w) (hi : lo1 < N1) :
    S4 w0 tag0 Z cs tag N1 vs1 ns1 C1 vf1 (lo1 + 1) vd1 Dn1 (vs1 lo1) (ns1 lo1) N2 vs2 ns2 C2 vf2 lo2 vd2 Dn2 x2 len2 w ∧ w.ownsRow 0 9 1 (vs1 lo1) (ns1 lo1) (C1 lo1) ∧ ∀ k, (vs1 lo1).ownBlock = some k → tag k = (3, lo1) :=
  ⟨⟨h.s, h.b1.take, (h.d1.other (fun k hk _ => by rw [h.b1.ft lo1 (Nat.le_refl _) hi k hk]; exact not_pvi (κ := 0) (Nat.le_refl _) (by decide))).retag (fun k _ q => q) (fun k _ q => q.mono (by omega)), h.b2, h.d2⟩, h.b1.fl lo1 (Nat.le_refl _) hi, h.b1.ft lo1 (Nat.le_refl _) hi⟩
theorem S4.take2 (h : S4 w0 tag0 Z cs tag N1 vs1 ns1 C1 vf1 lo1 vd1 Dn1 x1 len1 N2 vs2 ns2 C2 vf2 lo2 vd2 Dn2 x2 len2 w) (hi : lo2 < N2) :
    S4 w0 tag0 Z cs tag N1 vs1 ns1 C1 vf1 lo1 vd1 Dn1 x1 len1 N2 vs2 ns2 C2 vf2 (lo2 + 1) vd2 Dn2 (vs2 lo2) (ns2 lo2) w ∧ w.ownsRow 0 69 2 (vs2 lo2) (ns2 lo2) (C2 lo2) ∧ ∀ k, (vs2 lo2).ownBlock = some k → tag k = (4, lo2) :=
  ⟨⟨h.s, h.b1, h.d1, h.b2.take, (h.d2.other (fun k hk _ => by rw [h.b2.ft lo2 (Nat.le_refl _) hi k hk]; exact not_pvi (κ := 1) (Nat.le_refl _) (by decide))).retag (fun k _ q => q) (fun k _ q => q.mono (by omega))⟩, h.b2.fl lo2 (Nat.le_refl _) hi, h.b2.ft lo2 (Nat.le_refl _) hi⟩
/-- done = append(done, x). -/
theorem S4.view1 (h : S4 w0 tag0 Z cs tag N1 vs1 ns1 C1 vf1 lo1 vd1 Dn1 x1 len1 N2 vs2 ns2 C2 vf2 lo2 vd2 Dn2 x2 len2 w) {vd' v : Value} (hr : w'.ownsRow 0 28 1 vd' (Dn1.length + 1) (Dn1 ++ [v])) (ho : Only (fun k => vd1.ownBlock = some k) w w') (hn : ∀ k, vd'.ownBlock = some k → vd1.ownBlock = some k ∨ w.heap.size ≤ k)
    (hv : Vi 9 1 tag (Pv 0 lo1) x1 len1 w v (mkS (Dn1.length / 12))) : S4 w0 tag0 Z cs (ext tag w.heap.size (0, 3)) N1 vs1 ns1 C1 vf1 lo1 vd' (Dn1 ++ [v]) x1 len1 N2 vs2 ns2 C2 vf2 lo2 vd2 Dn2 x2 len2 w' := by
  have hq : ∀ k, vd1.ownBlock = some k → k < w.heap.size → tag k = (0, 3) := fun k q _ => h.d1.td k q
  have ha : ∀ k, k < w.heap.size → ext tag w.heap.size (0, 3) k = tag k := fun k hk => ext_old hk
  have hs : SS w0 tag0 Z cs tag w' := h.s.step ho (fun k q l => by rw [hq k q l]; exact ⟨.inr (.inl rfl), by decide⟩)
  refine ⟨⟨hs.blk, by rw [ext_old (lt_of_row h.s.blk)]; exact hs.tz, hs.onl, fun k hk => by rw [ext_old (Nat.lt_of_lt_of_le hk h.s.onl.size)]; exact hs.agr k hk⟩, (h.b1.retag ha).only ho (fun k q l => ?_), h.d1.push hr ho hn hv (fun b => not_pv0), (h.b2.retag ha).only ho (fun k q l => ?_), (h.d2.retag (fun k l q => by rw [ha k l]; exact q) (fun k l q => by rw [ha k l]; exact q)).only ho (fun k q l => ?_)⟩ <;> rw [ha k l, hq k q l]
  · exact ⟨by decide, fun i _ => tg_ne (by decide)⟩
  · exact ⟨by decide, fun i _ => tg_ne (by decide)⟩
  · exact ⟨by decide, not_pv0⟩
theorem S4.view2 (h : S4 w0 tag0 Z cs tag N1 vs1 ns1 C1 vf1 lo1 vd1 Dn1 x1 len1 N2 vs2 ns2 C2 vf2 lo2 vd2 Dn2 x2 len2 w) {vd' v : Value} (hr : w'.ownsRow 0 43 1 vd' (Dn2.length + 1) (Dn2 ++ [v])) (ho : Only (fun k => vd2.ownBlock = some k) w w') (hn : ∀ k, vd'.ownBlock = some k → vd2.ownBlock = some k ∨ w.heap.size ≤ k)
    (hv : Vi 69 2 tag (Pv 1 lo2) x2 len2 w v (mkW (Dn2.length / 12))) : S4 w0 tag0 Z cs (ext tag w.heap.size (0, 6)) N1 vs1 ns1 C1 vf1 lo1 vd1 Dn1 x1 len1 N2 vs2 ns2 C2 vf2 lo2 vd' (Dn2 ++ [v]) x2 len2 w' := by
  have hq : ∀ k, vd2.ownBlock = some k → k < w.heap.size → tag k = (0, 6) := fun k q _ => h.d2.td k q
  have ha : ∀ k, k < w.heap.size → ext tag w.heap.size (0, 6) k = tag k := fun k hk => ext_old hk
  have hs : SS w0 tag0 Z cs tag w' := h.s.step ho (fun k q l => by rw [hq k q l]; exact ⟨.inr (.inr (.inl rfl)), by decide⟩)
  refine ⟨⟨hs.blk, by rw [ext_old (lt_of_row h.s.blk)]; exact hs.tz, hs.onl, fun k hk => by rw [ext_old (Nat.lt_of_lt_of_le hk h.s.onl.size)]; exact hs.agr k hk⟩, (h.b1.retag ha).only ho (fun k q l => ?_), (h.d1.retag (fun k l q => by rw [ha k l]; exact q) (fun k l q => by rw [ha k l]; exact q)).only ho (fun k q l => ?_), (h.b2.retag ha).only ho (fun k q l => ?_), h.d2.push hr ho hn hv (fun b => not_pv0)⟩ <;> rw [ha k l, hq k q l]
  · exact ⟨by decide, fun i _ => tg_ne (by decide)⟩
  · exact ⟨by decide, not_pv0⟩
  · exact ⟨by decide, fun i _ => tg_ne (by decide)⟩
/-- x = append(x, mark). -/
theorem S4.grow1 (h : S4 w0 tag0 Z cs tag N1 vs1 ns1 C1 vf1 lo1 vd1 Dn1 x1 len1 N2 vs2 ns2 C2 vf2 lo2 vd2 Dn2 x2 len2 w) {x' : Value} {i : Nat} (hi : i < lo1) (hg : Gr 9 1 x1 len1 w w') (hx : (∃ g, x1.ownBlock = some g ∧ x'.ownBlock = some g) ∨ x'.ownBlock = some w.heap.size) (ht : ∀ k, x1.ownBlock = some k → tag k = (3, i)) :
    S4 w0 tag0 Z cs (ext tag w.heap.size (3, i)) N1 vs1 ns1 C1 vf1 lo1 vd1 Dn1 x' (len1 + 1) N2 vs2 ns2 C2 vf2 lo2 vd2 Dn2 x2 len2 w' ∧ ∀ k, x'.ownBlock = some k → ext tag w.heap.size (3, i) k = (3, i) := by
  have ha : ∀ k, k < w.heap.size → ext tag w.heap.size (3, i) k = tag k := fun k hk => ext_old hk
  have ho := hg.only
  have hs : SS w0 tag0 Z cs tag w' := h.s.step ho (fun k q l => by rw [ht k q]; exact ⟨.inr (.inr (.inr (.inl rfl))), tg_ne (by decide)⟩)
  refine ⟨⟨⟨hs.blk, by rw [ext_old (lt_of_row h.s.blk)]; exact hs.tz, hs.onl, fun k hk => by rw [ext_old (Nat.lt_of_lt_of_le hk h.s.onl.size)]; exact hs.agr k hk⟩, (h.b1.retag ha).only ho (fun k q l => ?_), h.d1.grow hg hx (fun k q => by rw [ht k q]; exact tg_ne (by decide)), (h.b2.retag ha).only ho (fun k q l => ?_), (h.d2.retag (fun k l q => by rw [ha k l]; exact q) (fun k l q => by rw [ha k l]; exact q)).only ho (fun k q l => ?_)⟩, fun k hk => ?_⟩
  · rw [ha k l, ht k q]; exact ⟨tg_ne (by decide), fun j hj e => by have := congrArg Prod.snd e; simp at this; omega⟩
  · rw [ha k l, ht k q]; exact ⟨tg_ne (by decide), fun j _ => tg_ne (by decide)⟩
  · rw [ha k l, ht k q]; exact ⟨tg_ne (by decide), not_pvo (κ := 1) (κ' := 0) (by decide) (by decide)⟩
  · by_cases hk2 : k < w.heap.size
    · rw [ha k hk2]
      rcases hx with ⟨g, q1, q2⟩ | q
      · rw [hk] at q2; cases q2; exact ht k q1
      · rw [hk] at q; cases q; omega
    · exact ext_new (by omega)
theorem S4.grow2 (h : S4 w0 tag0 Z cs tag N1 vs1 ns1 C1 vf1 lo1 vd1 Dn1 x1 len1 N2 vs2 ns2 C2 vf2 lo2 vd2 Dn2 x2 len2 w) {x' : Value} {i : Nat} (hi : i < lo2) (hg : Gr 69 2 x2 len2 w w') (hx : (∃ g, x2.ownBlock = some g ∧ x'.ownBlock = some g) ∨ x'.ownBlock = some w.heap.size) (ht : ∀ k, x2.ownBlock = some k → tag k = (4, i)) :
    S4 w0 tag0 Z cs (ext tag w.heap.size (4, i)) N1 vs1 ns1 C1 vf1 lo1 vd1 Dn1 x1 len1 N2 vs2 ns2 C2 vf2 lo2 vd2 Dn2 x' (len2 + 1) w' ∧ ∀ k, x'.ownBlock = some k → ext tag w.heap.size (4, i) k = (4, i) := by
  have ha : ∀ k, k < w.heap.size → ext tag w.heap.size (4, i) k = tag k := fun k hk => ext_old hk
  have ho := hg.only
  have hs : SS w0 tag0 Z cs tag w' := h.s.step ho (fun k q l => by rw [ht k q]; exact ⟨.inr (.inr (.inr (.inr rfl))), tg_ne (by decide)⟩)
  refine ⟨⟨⟨hs.blk, by rw [ext_old (lt_of_row h.s.blk)]; exact hs.tz, hs.onl, fun k hk => by rw [ext_old (Nat.lt_of_lt_of_le hk h.s.onl.size)]; exact hs.agr k hk⟩, (h.b1.retag ha).only ho (fun k q l => ?_), (h.d1.retag (fun k l q => by rw [ha k l]; exact q) (fun k l q => by rw [ha k l]; exact q)).only ho (fun k q l => ?_), (h.b2.retag ha).only ho (fun k q l => ?_), h.d2.grow hg hx (fun k q => by rw [ht k q]; exact tg_ne (by decide))⟩, fun k hk => ?_⟩
  · rw [ha k l, ht k q]; exact ⟨tg_ne (by decide), fun j _ => tg_ne (by decide)⟩
  · rw [ha k l, ht k q]; exact ⟨tg_ne (by decide), not_pvo (κ := 0) (κ' := 1) (by decide) (by decide)⟩
  · rw [ha k l, ht k q]; exact ⟨tg_ne (by decide), fun j hj e => by have := congrArg Prod.snd e; simp at this; omega⟩
  · by_cases hk2 : k < w.heap.size
    · rw [ha k hk2]
      rcases hx with ⟨g, q1, q2⟩ | q
      · rw [hk] at q2; cases q2; exact ht k q1
      · rw [hk] at q; cases q; omega
    · exact ext_new (by omega)
/-- A cell of the block of all. -/
theorem S4.put (h : S4 w0 tag0 Z cs tag N1 vs1 ns1 C1 vf1 lo1 vd1 Dn1 x1 len1 N2 vs2 ns2 C2 vf2 lo2 vd2 Dn2 x2 len2 w) (j : Nat) (v : Value) : S4 w0 tag0 Z (cs.setIfInBounds j v) tag N1 vs1 ns1 C1 vf1 lo1 vd1 Dn1 x1 len1 N2 vs2 ns2 C2 vf2 lo2 vd2 Dn2 x2 len2 (w.setCell ⟨Z, j, none⟩ v) := by
  have ho := Only.setCell w ⟨Z, j, none⟩ v
  refine ⟨h.s.put j v, h.b1.only ho (fun k q l => ?_), h.d1.only ho (fun k q l => ?_), h.b2.only ho (fun k q l => ?_), h.d2.only ho (fun k q l => ?_)⟩ <;> rw [show k = Z from q, h.s.tz]
  · exact ⟨by decide, fun i _ => tg_ne (by decide)⟩
  · exact ⟨by decide, not_pv0⟩
  · exact ⟨by decide, fun i _ => tg_ne (by decide)⟩
  · exact ⟨by decide, not_pv0⟩
end
end Go.Proofs.Ytpelmacblglhoaa
