import Derived.Test.YtpelmacblglhoaaZzbj
namespace Go.Proofs.Ytpelmacblglhoaa
open Go.RowKit
set_option maxHeartbeats 4000000
set_option maxRecDepth 8000
/-- While a list grows. -/
structure G1 (w0 : World) (tag0 : Nat → Tg) (Z : Nat) (cs : Array Value) (tag : Nat → Tg)
    (N1 : Nat) (vs1 : Nat → Value) (ns1 : Nat → Nat) (C1 : Nat → List Value) (vf1 : Value) (lo1 : Nat) (vd1 : Value) (Dn1 : List Value) (x1 : Value) (len1 : Nat)
    (N2 : Nat) (vs2 : Nat → Value) (ns2 : Nat → Nat) (C2 : Nat → List Value) (vf2 : Value) (lo2 : Nat) (vd2 : Value) (Dn2 : List Value) (x2 : Value) (len2 : Nat) (i m : Nat) (w : World) : Prop where
  s : S4 w0 tag0 Z cs tag N1 vs1 ns1 C1 vf1 lo1 vd1 Dn1 x1 len1 N2 vs2 ns2 C2 vf2 lo2 vd2 Dn2 x2 len2 w
  xr : w.ownsRow 0 9 1 x1 len1 ((List.replicate len1 (mkS m)).flatten)
  xt : ∀ k, x1.ownBlock = some k → tag k = (3, i)
  hi : i < lo1
section
variable {w0 : World} {tag0 : Nat → Tg} {Z : Nat} {cs : Array Value} {tag : Nat → Tg}
    {N1 : Nat} {vs1 : Nat → Value} {ns1 : Nat → Nat} {C1 : Nat → List Value} {vf1 : Value} {lo1 : Nat} {vd1 : Value} {Dn1 : List Value} {x1 : Value} {len1 : Nat}
    {N2 : Nat} {vs2 : Nat → Value} {ns2 : Nat → Nat} {C2 : Nat → List Value} {vf2 : Value} {lo2 : Nat} {vd2 : Value} {Dn2 : List Value} {x2 : Value} {len2 : Nat} {i m : Nat} {w w' : World}
theorem G1.below (h : G1 w0 tag0 Z cs tag N1 vs1 ns1 C1 vf1 lo1 vd1 Dn1 x1 len1 N2 vs2 ns2 C2 vf2 lo2 vd2 Dn2 x2 len2 i m w) (hb : Below w.heap.size w w') : G1 w0 tag0 Z cs tag N1 vs1 ns1 C1 vf1 lo1 vd1 Dn1 x1 len1 N2 vs2 ns2 C2 vf2 lo2 vd2 Dn2 x2 len2 i m w' := ⟨h.s.below hb, owns_below h.xr hb, h.xt, h.hi⟩
theorem G1.put (h : G1 w0 tag0 Z cs tag N1 vs1 ns1 C1 vf1 lo1 vd1 Dn1 x1 len1 N2 vs2 ns2 C2 vf2 lo2 vd2 Dn2 x2 len2 i m w) (j : Nat) (v : Value) : G1 w0 tag0 Z (cs.setIfInBounds j v) tag N1 vs1 ns1 C1 vf1 lo1 vd1 Dn1 x1 len1 N2 vs2 ns2 C2 vf2 lo2 vd2 Dn2 x2 len2 i m (w.setCell ⟨Z, j, none⟩ v) :=
  ⟨h.s.put j v, owns_only h.xr (Only.setCell w ⟨Z, j, none⟩ v) (fun k hk q => by
    have a := h.xt k hk
    rw [show k = Z from q, h.s.s.tz] at a
    exact absurd a (tg_ne (by decide))), h.xt, h.hi⟩
theorem G1.putc (h : G1 w0 tag0 Z cs tag N1 vs1 ns1 C1 vf1 lo1 vd1 Dn1 x1 len1 N2 vs2 ns2 C2 vf2 lo2 vd2 Dn2 x2 len2 i m w) (j : Nat) (v : Value) {cs' : Array Value} (hc : cs.setIfInBounds j v = cs') : G1 w0 tag0 Z cs' tag N1 vs1 ns1 C1 vf1 lo1 vd1 Dn1 x1 len1 N2 vs2 ns2 C2 vf2 lo2 vd2 Dn2 x2 len2 i m (w.setCell ⟨Z, j, none⟩ v) := by
  subst hc
  exact h.put j v
theorem G1.view (h : G1 w0 tag0 Z cs tag N1 vs1 ns1 C1 vf1 lo1 vd1 Dn1 x1 len1 N2 vs2 ns2 C2 vf2 lo2 vd2 Dn2 x2 len2 i m w) (hm : Dn1.length / 12 = m) (hl : len1 ≤ 1000000) {vd' : Value} (hr : w'.ownsRow 0 28 1 vd' (Dn1.length + 1) (Dn1 ++ [x1])) (ho : Only (fun k => vd1.ownBlock = some k) w w') (hn : ∀ k, vd'.ownBlock = some k → vd1.ownBlock = some k ∨ w.heap.size ≤ k) :
    G1 w0 tag0 Z cs (ext tag w.heap.size (0, 3)) N1 vs1 ns1 C1 vf1 lo1 vd' (Dn1 ++ [x1]) x1 len1 N2 vs2 ns2 C2 vf2 lo2 vd2 Dn2 x2 len2 i m w' := by
  have hv : Vi 9 1 tag (Pv 0 lo1) x1 len1 w x1 (mkS (Dn1.length / 12)) := by
    rw [hm]
    exact Vi.of h.xr rfl hl (fun k hk => by rw [h.xt k hk]; exact .inr ⟨rfl, h.hi⟩)
  refine ⟨h.s.view1 hr ho hn hv, owns_only h.xr ho (fun k hk q => ?_), fun k hk => ?_, h.hi⟩
  · have a := h.xt k hk
    rw [h.s.d1.td k q] at a
    exact absurd a (tg_ne (by decide))
  · rw [ext_old (owns_blk h.xr k hk)]
    exact h.xt k hk
theorem G1.grow (h : G1 w0 tag0 Z cs tag N1 vs1 ns1 C1 vf1 lo1 vd1 Dn1 x1 len1 N2 vs2 ns2 C2 vf2 lo2 vd2 Dn2 x2 len2 i m w) {x' : Value} (hr : w'.ownsRow 0 9 1 x' (len1 + 1) ((List.replicate len1 (mkS m)).flatten ++ mkS m)) (hg : Gr 9 1 x1 len1 w w') (hx : (∃ g, x1.ownBlock = some g ∧ x'.ownBlock = some g) ∨ x'.ownBlock = some w.heap.size) :
    G1 w0 tag0 Z cs (ext tag w.heap.size (3, i)) N1 vs1 ns1 C1 vf1 lo1 vd1 Dn1 x' (len1 + 1) N2 vs2 ns2 C2 vf2 lo2 vd2 Dn2 x2 len2 i m w' := by
  obtain ⟨a, b⟩ := h.s.grow1 h.hi hg hx h.xt
  exact ⟨a, by rw [flat_succ]; exact hr, b, h.hi⟩
theorem G1.start (h : S4 w0 tag0 Z cs tag N1 vs1 ns1 C1 vf1 lo1 vd1 Dn1 x1 len1 N2 vs2 ns2 C2 vf2 lo2 vd2 Dn2 x2 len2 w) (hi : lo1 < N1) (hC : C1 lo1 = (List.replicate (ns1 lo1) (mkS m)).flatten) :
    G1 w0 tag0 Z cs tag N1 vs1 ns1 C1 vf1 (lo1 + 1) vd1 Dn1 (vs1 lo1) (ns1 lo1) N2 vs2 ns2 C2 vf2 lo2 vd2 Dn2 x2 len2 lo1 m w := by
  obtain ⟨a, b, c⟩ := h.take1 hi
  exact ⟨a, by rw [← hC]; exact b, c, Nat.lt_succ_self _⟩
end
/-- While a list grows. -/
structure G2 (w0 : World) (tag0 : Nat → Tg) (Z : Nat) (cs : Array Value) (tag : Nat → Tg)
    (N1 : Nat) (vs1 : Nat → Value) (ns1 : Nat → Nat) (C1 : Nat → List Value) (vf1 : Value) (lo1 : Nat) (vd1 : Value) (Dn1 : List Value) (x1 : Value) (len1 : Nat)
    (N2 : Nat) (vs2 : Nat → Value) (ns2 : Nat → Nat) (C2 : Nat → List Value) (vf2 : Value) (lo2 : Nat) (vd2 : Value) (Dn2 : List Value) (x2 : Value) (len2 : Nat) (i m : Nat) (w : World) : Prop where
  s : S4 w0 tag0 Z cs tag N1 vs1 ns1 C1 vf1 lo1 vd1 Dn1 x1 len1 N2 vs2 ns2 C2 vf2 lo2 vd2 Dn2 x2 len2 w
  xr : w.ownsRow 0 69 2 x2 len2 ((List.replicate len2 (mkW m)).flatten)
  xt : ∀ k, x2.ownBlock = some k → tag k = (4, i)
  hi : i < lo2
section
variable {w0 : World} {tag0 : Nat → Tg} {Z : Nat} {cs : Array Value} {tag : Nat → Tg}
    {N1 : Nat} {vs1 : Nat → Value} {ns1 : Nat → Nat} {C1 : Nat → List Value} {vf1 : Value} {lo1 : Nat} {vd1 : Value} {Dn1 : List Value} {x1 : Value} {len1 : Nat}
    {N2 : Nat} {vs2 : Nat → Value} {ns2 : Nat → Nat} {C2 : Nat → List Value} {vf2 : Value} {lo2 : Nat} {vd2 : Value} {Dn2 : List Value} {x2 : Value} {len2 : Nat} {i m : Nat} {w w' : World}
theorem G2.below (h : G2 w0 tag0 Z cs tag N1 vs1 ns1 C1 vf1 lo1 vd1 Dn1 x1 len1 N2 vs2 ns2 C2 vf2 lo2 vd2 Dn2 x2 len2 i m w) (hb : Below w.heap.size w w') : G2 w0 tag0 Z cs tag N1 vs1 ns1 C1 vf1 lo1 vd1 Dn1 x1 len1 N2 vs2 ns2 C2 vf2 lo2 vd2 Dn2 x2 len2 i m w' := ⟨h.s.below hb, owns_below h.xr hb, h.xt, h.hi⟩
theorem G2.put (h : G2 w0 tag0 Z cs tag N1 vs1 ns1 C1 vf1 lo1 vd1 Dn1 x1 len1 N2 vs2 ns2 C2 vf2 lo2 vd2 Dn2 x2 len2 i m w) (j : Nat) (v : Value) : G2 w0 tag0 Z (cs.setIfInBounds j v) tag N1 vs1 ns1 C1 vf1 lo1 vd1 Dn1 x1 len1 N2 vs2 ns2 C2 vf2 lo2 vd2 Dn2 x2 len2 i m (w.setCell ⟨Z, j, none⟩ v) :=
  ⟨h.s.put j v, owns_only h.xr (Only.setCell w ⟨Z, j, none⟩ v) (fun k hk q => by
    have a := h.xt k hk
    rw [show k = Z from q, h.s.s.tz] at a
    exact absurd a (tg_ne (by decide))), h.xt, h.hi⟩
theorem G2.putc (h : G2 w0 tag0 Z cs tag N1 vs1 ns1 C1 vf1 lo1 vd1 Dn1 x1 len1 N2 vs2 ns2 C2 vf2 lo2 vd2 Dn2 x2 len2 i m w) (j : Nat) (v : Value) {cs' : Array Value} (hc : cs.setIfInBounds j v = cs') : G2 w0 tag0 Z cs' tag N1 vs1 ns1 C1 vf1 lo1 vd1 Dn1 x1 len1 N2 vs2 ns2 C2 vf2 lo2 vd2 Dn2 x2 len2 i m (w.setCell ⟨Z, j, none⟩ v) := by
  subst hc
  exact h.put j v
theorem G2.view (h : G2 w0 tag0 Z cs tag N1 vs1 ns1 C1 vf1 lo1 vd1 Dn1 x1 len1 N2 vs2 ns2 C2 vf2 lo2 vd2 Dn2 x2 len2 i m w) (hm : Dn2.length / 12 = m) (hl : len2 ≤ 1000000) {vd' : Value} (hr : w'.ownsRow 0 43 1 vd' (Dn2.length + 1) (Dn2 ++ [x2])) (ho : Only (fun k => vd2.ownBlock = some k) w w') (hn : ∀ k, vd'.ownBlock = some k → vd2.ownBlock = some k ∨ w.heap.size ≤ k) :
    G2 w0 tag0 Z cs (ext tag w.heap.size (0, 6)) N1 vs1 ns1 C1 vf1 lo1 vd1 Dn1 x1 len1 N2 vs2 ns2 C2 vf2 lo2 vd' (Dn2 ++ [x2]) x2 len2 i m w' := by
  have hv : Vi 69 2 tag (Pv 1 lo2) x2 len2 w x2 (mkW (Dn2.length / 12)) := by
    rw [hm]
    exact Vi.of h.xr rfl hl (fun k hk => by rw [h.xt k hk]; exact .inr ⟨rfl, h.hi⟩)
  refine ⟨h.s.view2 hr ho hn hv, owns_only h.xr ho (fun k hk q => ?_), fun k hk => ?_, h.hi⟩
  · have a := h.xt k hk
    rw [h.s.d2.td k q] at a
    exact absurd a (tg_ne (by decide))
  · rw [ext_old (owns_blk h.xr k hk)]
    exact h.xt k hk
theorem G2.grow (h : G2 w0 tag0 Z cs tag N1 vs1 ns1 C1 vf1 lo1 vd1 Dn1 x1 len1 N2 vs2 ns2 C2 vf2 lo2 vd2 Dn2 x2 len2 i m w) {x' : Value} (hr : w'.ownsRow 0 69 2 x' (len2 + 1) ((List.replicate len2 (mkW m)).flatten ++ mkW m)) (hg : Gr 69 2 x2 len2 w w') (hx : (∃ g, x2.ownBlock = some g ∧ x'.ownBlock = some g) ∨ x'.ownBlock = some w.heap.size) :
    G2 w0 tag0 Z cs (ext tag w.heap.size (4, i)) N1 vs1 ns1 C1 vf1 lo1 vd1 Dn1 x1 len1 N2 vs2 ns2 C2 vf2 lo2 vd2 Dn2 x' (len2 + 1) i m w' := by
  obtain ⟨a, b⟩ := h.s.grow2 h.hi hg hx h.xt
  exact ⟨a, by rw [flat_succ]; exact hr, b, h.hi⟩
theorem G2.start (h : S4 w0 tag0 Z cs tag N1 vs1 ns1 C1 vf1 lo1 vd1 Dn1 x1 len1 N2 vs2 ns2 C2 vf2 lo2 vd2 Dn2 x2 len2 w) (hi : lo2 < N2) (hC : C2 lo2 = (List.replicate (ns2 lo2) (mkW m)).flatten) :
    G2 w0 tag0 Z cs tag N1 vs1 ns1 C1 vf1 lo1 vd1 Dn1 x1 len1 N2 vs2 ns2 C2 vf2 (lo2 + 1) vd2 Dn2 (vs2 lo2) (ns2 lo2) lo2 m w := by
  obtain ⟨a, b, c⟩ := h.take2 hi
  exact ⟨a, by rw [← hC]; exact b, c, Nat.lt_succ_self _⟩
end
end Go.Proofs.Ytpelmacblglhoaa
