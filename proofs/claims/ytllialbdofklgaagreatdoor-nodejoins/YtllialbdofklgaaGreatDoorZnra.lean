import Derived.Test.YtllialbdofklgaaGreatDoorZnpr
import Derived.Test.YtllialbdofklgaaGreatDoorNop
import Derived.Test.YtllialbdofklgaaGreatDoorNfd
import Derived.Test.YtllialbdofklgaaGreatDoorZndn
import Derived.Test.YtllialbdofklgaaGreatDoorZndg
import Derived.Test.YtllialbdofklgaaGreatDoorZnok
namespace Go.Proofs.YtllialbdofklgaaGreatDoor
open Go.RowKit
set_option maxHeartbeats 16000000
set_option maxRecDepth 8000
theorem mayJoin_b (n : Nd) (ka va ia : Option Addr) (kc vc ic : Nat) (w : World) (h : NA n ka va ia w) (hb : NB n) :
    Calls Tryz.prog 69 #[nda n ka va ia kc vc ic] w fun e w' => e = .returned (.bool (mj n)) ∧ Below w.heap.size w w' := by
  have hA := (Below.refl w.heap.size w).alloc (Nat.le_refl _) (.cells #[.bool n.leaf, .slice ka n.keys.length kc, .slice va n.vals.length vc, .slice ia n.kids.length ic] 25)
  have hg := heap_alloc_new w (.cells #[.bool n.leaf, .slice ka n.keys.length kc, .slice va n.vals.length vc, .slice ia n.kids.length ic] 25)
  have hz := lt_of_row hg
  have hna := h.below hA
  have H1 := hide (agrees_any n ka va ia kc vc ic _ hna hb)
  have H3 := hide (fun W (b : Below (w.alloc (.cells #[.bool n.leaf, .slice ka n.keys.length kc, .slice va n.vals.length vc, .slice ia n.kids.length ic] 25)).heap.size (w.alloc (.cells #[.bool n.leaf, .slice ka n.keys.length kc, .slice va n.vals.length vc, .slice ia n.kids.length ic] 25)) W) => size_any n ka va ia kc vc ic W (hna.below b) hb)
  have HA := hide hA
  have HG := hide hg
  unfold mj
  rw [← mj_prog]
  have hsl := siz_le hb
  generalize n.siz = sz at *
  clear h hA hb hna hg
  unfold nda at *
  generalize n.leaf = lf at *
  generalize agv n = av at *
  generalize n.keys.length = kl at *
  generalize n.vals.length = vl at *
  generalize n.kids.length = il at *
  clear n
  cases av
  · go_enter Tryz.func69, Tryz.ntmps69
    go_wp2_with fail
    refine (unhide H1).mono ?_
    rintro e w1 ⟨rfl, b⟩
    have HB1 := hide ((unhide HA).trans (b.mono (unhide HA).size))
    clear b H3
    go_wp2
    go_ret
    exact ⟨ret_bool (by first | rfl | simp), unhide HB1⟩
  · by_cases hin : lf = false ∧ kl = 0
    · obtain ⟨rfl, rfl⟩ := hin
      go_enter Tryz.func69, Tryz.ntmps69
      go_wp2_with fail
      refine (unhide H1).mono ?_
      rintro e w1 ⟨rfl, b⟩
      have HB1 := hide ((unhide HA).trans (b.mono (unhide HA).size))
      obtain ⟨d0, d1, d2, d3⟩ := box4 (unhide HG) b hz
      have hz1 : w.heap.size < w1.heap.size := Nat.lt_of_lt_of_le hz b.size
      clear b H3
      go_wp2
      go_ret
      exact ⟨ret_bool (by first | rfl | simp), unhide HB1⟩
    · have hor : (lf || decide (0 < kl)) = true := by
        cases lf
        · simp at hin ⊢; omega
        · simp
      rw [hor]
      obtain ⟨sb, hsb⟩ : ∃ sb, sb = decide (sz ≤ 480) := ⟨_, rfl⟩
      rw [← hsb]
      have hs2 : decide ((sz : Int) ≤ 480) = sb := by rw [hsb]; apply decide_eq_decide.2; omega
      cases lf
      · have hk0 : 0 < kl := by simp at hin; omega
        have p1' : (0 : Int) < (kl : Int) := by omega
        have p1'' : decide ((0 : Int) < (kl : Int)) = true := by rw [decide_eq_true_eq]; omega
        clear hin hor
        go_enter Tryz.func69, Tryz.ntmps69
        go_wp2_with fail
        refine (unhide H1).mono ?_
        rintro e w1 ⟨rfl, b⟩
        have HB1 := hide b
        obtain ⟨d0, d1, d2, d3⟩ := box4 (unhide HG) b hz
        have hz1 : w.heap.size < w1.heap.size := Nat.lt_of_lt_of_le hz b.size
        have h3 := hide (unhide H3 w1 b)
        clear b H3
        go_wp2_with fail
        refine (unhide h3).mono ?_
        rintro e w3 ⟨rfl, b3⟩
        have HB3 := hide ((unhide HA).trans (((unhide HB1).trans (b3.mono (unhide HB1).size)).mono (unhide HA).size))
        clear b3
        go_wp2
        go_ret
        exact ⟨ret_bool (by simp [hsb]), unhide HB3⟩
      · clear hin hor
        go_enter Tryz.func69, Tryz.ntmps69
        go_wp2_with fail
        refine (unhide H1).mono ?_
        rintro e w1 ⟨rfl, b⟩
        have HB1 := hide b
        obtain ⟨d0, d1, d2, d3⟩ := box4 (unhide HG) b hz
        have hz1 : w.heap.size < w1.heap.size := Nat.lt_of_lt_of_le hz b.size
        have h3 := hide (unhide H3 w1 b)
        clear b H3
        go_wp2_with fail
        refine (unhide h3).mono ?_
        rintro e w3 ⟨rfl, b3⟩
        have HB3 := hide ((unhide HA).trans (((unhide HB1).trans (b3.mono (unhide HB1).size)).mono (unhide HA).size))
        clear b3
        go_wp2
        go_ret
        exact ⟨ret_bool (by simp [hsb]), unhide HB3⟩
end Go.Proofs.YtllialbdofklgaaGreatDoor
namespace Go.Proofs.YtllialbdofklgaaGreatDoor
open Go.RowKit
set_option linter.unusedVariables false
set_option maxHeartbeats 16000000
set_option maxRecDepth 8000
theorem gt_mixed (m n : Nd) (ka va ia kb vb ib : Option Addr) (kc vc ic kd vd jd : Nat) (key : Bs) (w : World) (hm : NA m ka va ia w) (hn : NA n kb vb ib w) (b1 : m.keys.length ≤ 4294967296) (b2 : n.keys.length ≤ 4294967296) (hl : m.leaf = !n.leaf) :
    Calls Tryz.prog 72 #[nda m ka va ia kc vc ic, S key, nda n kb vb ib kd vd jd] w fun e w' => e = .returned (.bool false) ∧ Below w.heap.size w w' := by
  have hA := (Below.refl w.heap.size w).alloc (Nat.le_refl _) (.cells #[.bool m.leaf, .slice ka m.keys.length kc, .slice va m.vals.length vc, .slice ia m.kids.length ic] 25)
  have hA2 := hA.alloc hA.size (.cells #[.bool n.leaf, .slice kb n.keys.length kd, .slice vb n.vals.length vd, .slice ib n.kids.length jd] 25)
  have HA := hide hA2
  clear hA hA2 hm hn
  unfold nda
  rw [hl] at *
  generalize n.leaf = lf at *
  generalize m.keys.length = kl at *
  generalize m.vals.length = vl at *
  generalize m.kids.length = il at *
  generalize n.keys.length = kl2 at *
  generalize n.vals.length = vl2 at *
  generalize n.kids.length = il2 at *
  clear hl m n
  cases lf
  all_goals (
    go_enter Tryz.func72, Tryz.ntmps72
    go_wp2
    go_ret
    exact ⟨ret_bool (by first | rfl | simp), unhide HA⟩
  )
theorem gt_last (m n : Nd) (ka va ia kb vb ib : Option Addr) (kc vc ic kd vd jd : Nat) (key : Bs) (w : World) (hm : NA m ka va ia w) (hn : NA n kb vb ib w) (b1 : m.keys.length ≤ 4294967296) (b2 : n.keys.length ≤ 4294967296) (hl : m.leaf = n.leaf) (p1 : 0 < m.keys.length) (h1 : ¬ m.keys.getD (m.keys.length - 1) [] < key) :
    Calls Tryz.prog 72 #[nda m ka va ia kc vc ic, S key, nda n kb vb ib kd vd jd] w fun e w' => e = .returned (.bool false) ∧ Below w.heap.size w w' := by
  have hA := (Below.refl w.heap.size w).alloc (Nat.le_refl _) (.cells #[.bool m.leaf, .slice ka m.keys.length kc, .slice va m.vals.length vc, .slice ia m.kids.length ic] 25)
  have hA2 := hA.alloc hA.size (.cells #[.bool n.leaf, .slice kb n.keys.length kd, .slice vb n.vals.length vd, .slice ib n.kids.length jd] 25)
  obtain ⟨g1, o1, e1, q1, c1⟩ := (hm.ks.below hA2).at (show m.keys.length - 1 < m.keys.length by omega)
  subst e1
  have s1 := fun W => run_geq (m.keys.getD (m.keys.length - 1) []) key W
  rw [show decide (¬ m.keys.getD (m.keys.length - 1) [] < key) = true from decide_eq_true h1] at s1
  have HA := hide hA2
  clear hA hA2 hm hn h1
  generalize m.keys.getD (m.keys.length - 1) [] = x at *
  unfold nda
  rw [hl] at *
  generalize n.leaf = lf at *
  generalize m.keys.length = kl at *
  generalize m.vals.length = vl at *
  generalize m.kids.length = il at *
  generalize n.keys.length = kl2 at *
  generalize n.vals.length = vl2 at *
  generalize n.kids.length = il2 at *
  clear hl m n
  have p1' : (0 : Int) < (kl : Int) := by omega
  have p1'' : decide ((0 : Int) < (kl : Int)) = true := by rw [decide_eq_true_eq]; omega
  obtain ⟨kk, rfl⟩ : ∃ kk, kl = kk + 1 := ⟨kl - 1, by omega⟩
  rw [Nat.add_sub_cancel] at c1
  cases lf
  all_goals (
    go_enter Tryz.func72, Tryz.ntmps72
    go_wp2
    go_ret
    exact ⟨ret_bool (by first | rfl | simp), unhide HA⟩
  )
theorem gt_leaf00 (m n : Nd) (ka va ia kb vb ib : Option Addr) (kc vc ic kd vd jd : Nat) (key : Bs) (w : World) (hm : NA m ka va ia w) (hn : NA n kb vb ib w) (b1 : m.keys.length ≤ 4294967296) (b2 : n.keys.length ≤ 4294967296) (lm : m.leaf = true) (ln : n.leaf = true) (p1 : m.keys.length = 0) (p2 : n.keys.length = 0) :
    Calls Tryz.prog 72 #[nda m ka va ia kc vc ic, S key, nda n kb vb ib kd vd jd] w fun e w' => e = .returned (.bool true) ∧ Below w.heap.size w w' := by
  have hA := (Below.refl w.heap.size w).alloc (Nat.le_refl _) (.cells #[.bool m.leaf, .slice ka m.keys.length kc, .slice va m.vals.length vc, .slice ia m.kids.length ic] 25)
  have hA2 := hA.alloc hA.size (.cells #[.bool n.leaf, .slice kb n.keys.length kd, .slice vb n.vals.length vd, .slice ib n.kids.length jd] 25)
  have HA := hide hA2
  clear hA hA2 hm hn
  unfold nda
  rw [lm, ln] at *
  rw [p1] at *
  rw [p2] at *
  generalize m.keys.length = kl at *
  generalize m.vals.length = vl at *
  generalize m.kids.length = il at *
  generalize n.keys.length = kl2 at *
  generalize n.vals.length = vl2 at *
  generalize n.kids.length = il2 at *
  clear lm ln m n
  go_enter Tryz.func72, Tryz.ntmps72
  go_wp2
  go_ret
  exact ⟨ret_bool (by first | rfl | simp), unhide HA⟩
theorem gt_leaf01 (m n : Nd) (ka va ia kb vb ib : Option Addr) (kc vc ic kd vd jd : Nat) (key : Bs) (w : World) (hm : NA m ka va ia w) (hn : NA n kb vb ib w) (b1 : m.keys.length ≤ 4294967296) (b2 : n.keys.length ≤ 4294967296) (lm : m.leaf = true) (ln : n.leaf = true) (p1 : m.keys.length = 0) (p2 : 0 < n.keys.length) :
    Calls Tryz.prog 72 #[nda m ka va ia kc vc ic, S key, nda n kb vb ib kd vd jd] w fun e w' => e = .returned (.bool (decide (¬ n.keys.getD 0 [] < key))) ∧ Below w.heap.size w w' := by
  have hA := (Below.refl w.heap.size w).alloc (Nat.le_refl _) (.cells #[.bool m.leaf, .slice ka m.keys.length kc, .slice va m.vals.length vc, .slice ia m.kids.length ic] 25)
  have hA2 := hA.alloc hA.size (.cells #[.bool n.leaf, .slice kb n.keys.length kd, .slice vb n.vals.length vd, .slice ib n.kids.length jd] 25)
  obtain ⟨g2, o2, e2, q2, c2⟩ := (hn.ks.below hA2).at p2
  subst e2
  rw [Nat.add_zero] at c2
  have s2 := fun W => run_geq (n.keys.getD 0 []) key W
  have HA := hide hA2
  clear hA hA2 hm hn
  generalize decide (¬ n.keys.getD 0 [] < key) = yb at *
  generalize n.keys.getD 0 [] = y at *
  unfold nda
  rw [lm, ln] at *
  rw [p1] at *
  generalize m.keys.length = kl at *
  generalize m.vals.length = vl at *
  generalize m.kids.length = il at *
  generalize n.keys.length = kl2 at *
  generalize n.vals.length = vl2 at *
  generalize n.kids.length = il2 at *
  clear lm ln m n
  have p2' : ((kl2 : Int) == 0) = false := by simp; omega
  have p2'' : (0 : Int) < (kl2 : Int) := by omega
  go_enter Tryz.func72, Tryz.ntmps72
  go_wp2
  go_ret
  exact ⟨ret_bool (by first | rfl | simp), unhide HA⟩
theorem gt_leaf10 (m n : Nd) (ka va ia kb vb ib : Option Addr) (kc vc ic kd vd jd : Nat) (key : Bs) (w : World) (hm : NA m ka va ia w) (hn : NA n kb vb ib w) (b1 : m.keys.length ≤ 4294967296) (b2 : n.keys.length ≤ 4294967296) (lm : m.leaf = true) (ln : n.leaf = true) (p1 : 0 < m.keys.length) (h1 : m.keys.getD (m.keys.length - 1) [] < key) (p2 : n.keys.length = 0) :
    Calls Tryz.prog 72 #[nda m ka va ia kc vc ic, S key, nda n kb vb ib kd vd jd] w fun e w' => e = .returned (.bool true) ∧ Below w.heap.size w w' := by
  have hA := (Below.refl w.heap.size w).alloc (Nat.le_refl _) (.cells #[.bool m.leaf, .slice ka m.keys.length kc, .slice va m.vals.length vc, .slice ia m.kids.length ic] 25)
  have hA2 := hA.alloc hA.size (.cells #[.bool n.leaf, .slice kb n.keys.length kd, .slice vb n.vals.length vd, .slice ib n.kids.length jd] 25)
  obtain ⟨g1, o1, e1, q1, c1⟩ := (hm.ks.below hA2).at (show m.keys.length - 1 < m.keys.length by omega)
  subst e1
  have s1 := fun W => run_geq (m.keys.getD (m.keys.length - 1) []) key W
  rw [show decide (¬ m.keys.getD (m.keys.length - 1) [] < key) = false from decide_eq_false (fun q => q h1)] at s1
  have HA := hide hA2
  clear hA hA2 hm hn h1
  generalize m.keys.getD (m.keys.length - 1) [] = x at *
  unfold nda
  rw [lm, ln] at *
  rw [p2] at *
  generalize m.keys.length = kl at *
  generalize m.vals.length = vl at *
  generalize m.kids.length = il at *
  generalize n.keys.length = kl2 at *
  generalize n.vals.length = vl2 at *
  generalize n.kids.length = il2 at *
  clear lm ln m n
  have p1' : (0 : Int) < (kl : Int) := by omega
  have p1'' : decide ((0 : Int) < (kl : Int)) = true := by rw [decide_eq_true_eq]; omega
  obtain ⟨kk, rfl⟩ : ∃ kk, kl = kk + 1 := ⟨kl - 1, by omega⟩
  rw [Nat.add_sub_cancel] at c1
  go_enter Tryz.func72, Tryz.ntmps72
  go_wp2
  go_ret
  exact ⟨ret_bool (by first | rfl | simp), unhide HA⟩
theorem gt_leaf11 (m n : Nd) (ka va ia kb vb ib : Option Addr) (kc vc ic kd vd jd : Nat) (key : Bs) (w : World) (hm : NA m ka va ia w) (hn : NA n kb vb ib w) (b1 : m.keys.length ≤ 4294967296) (b2 : n.keys.length ≤ 4294967296) (lm : m.leaf = true) (ln : n.leaf = true) (p1 : 0 < m.keys.length) (h1 : m.keys.getD (m.keys.length - 1) [] < key) (p2 : 0 < n.keys.length) :
    Calls Tryz.prog 72 #[nda m ka va ia kc vc ic, S key, nda n kb vb ib kd vd jd] w fun e w' => e = .returned (.bool (decide (¬ n.keys.getD 0 [] < key))) ∧ Below w.heap.size w w' := by
  have hA := (Below.refl w.heap.size w).alloc (Nat.le_refl _) (.cells #[.bool m.leaf, .slice ka m.keys.length kc, .slice va m.vals.length vc, .slice ia m.kids.length ic] 25)
  have hA2 := hA.alloc hA.size (.cells #[.bool n.leaf, .slice kb n.keys.length kd, .slice vb n.vals.length vd, .slice ib n.kids.length jd] 25)
  obtain ⟨g1, o1, e1, q1, c1⟩ := (hm.ks.below hA2).at (show m.keys.length - 1 < m.keys.length by omega)
  subst e1
  have s1 := fun W => run_geq (m.keys.getD (m.keys.length - 1) []) key W
  rw [show decide (¬ m.keys.getD (m.keys.length - 1) [] < key) = false from decide_eq_false (fun q => q h1)] at s1
  obtain ⟨g2, o2, e2, q2, c2⟩ := (hn.ks.below hA2).at p2
  subst e2
  rw [Nat.add_zero] at c2
  have s2 := fun W => run_geq (n.keys.getD 0 []) key W
  have HA := hide hA2
  clear hA hA2 hm hn h1
  generalize m.keys.getD (m.keys.length - 1) [] = x at *
  generalize decide (¬ n.keys.getD 0 [] < key) = yb at *
  generalize n.keys.getD 0 [] = y at *
  unfold nda
  rw [lm, ln] at *
  generalize m.keys.length = kl at *
  generalize m.vals.length = vl at *
  generalize m.kids.length = il at *
  generalize n.keys.length = kl2 at *
  generalize n.vals.length = vl2 at *
  generalize n.kids.length = il2 at *
  clear lm ln m n
  have p1' : (0 : Int) < (kl : Int) := by omega
  have p1'' : decide ((0 : Int) < (kl : Int)) = true := by rw [decide_eq_true_eq]; omega
  obtain ⟨kk, rfl⟩ : ∃ kk, kl = kk + 1 := ⟨kl - 1, by omega⟩
  rw [Nat.add_sub_cancel] at c1
  have p2' : ((kl2 : Int) == 0) = false := by simp; omega
  have p2'' : (0 : Int) < (kl2 : Int) := by omega
  go_enter Tryz.func72, Tryz.ntmps72
  go_wp2
  go_ret
  exact ⟨ret_bool (by first | rfl | simp), unhide HA⟩
theorem gt_innerF (m n : Nd) (ka va ia kb vb ib : Option Addr) (kc vc ic kd vd jd : Nat) (key : Bs) (w : World) (hm : NA m ka va ia w) (hn : NA n kb vb ib w) (b1 : m.keys.length ≤ 4294967296) (b2 : n.keys.length ≤ 4294967296) (lm : m.leaf = false) (ln : n.leaf = false) (p1 : 0 < m.keys.length) (p2 : 0 < n.keys.length) (h1 : m.keys.getD (m.keys.length - 1) [] < key) (h2 : ¬ key < n.keys.getD 0 []) :
    Calls Tryz.prog 72 #[nda m ka va ia kc vc ic, S key, nda n kb vb ib kd vd jd] w fun e w' => e = .returned (.bool false) ∧ Below w.heap.size w w' := by
  have hA := (Below.refl w.heap.size w).alloc (Nat.le_refl _) (.cells #[.bool m.leaf, .slice ka m.keys.length kc, .slice va m.vals.length vc, .slice ia m.kids.length ic] 25)
  have hA2 := hA.alloc hA.size (.cells #[.bool n.leaf, .slice kb n.keys.length kd, .slice vb n.vals.length vd, .slice ib n.kids.length jd] 25)
  obtain ⟨g1, o1, e1, q1, c1⟩ := (hm.ks.below hA2).at (show m.keys.length - 1 < m.keys.length by omega)
  subst e1
  have s1 := fun W => run_geq (m.keys.getD (m.keys.length - 1) []) key W
  rw [show decide (¬ m.keys.getD (m.keys.length - 1) [] < key) = false from decide_eq_false (fun q => q h1)] at s1
  obtain ⟨g2, o2, e2, q2, c2⟩ := (hn.ks.below hA2).at p2
  subst e2
  rw [Nat.add_zero] at c2
  have s2 := fun W => run_gtr (n.keys.getD 0 []) key W
  rw [show decide (key < n.keys.getD 0 []) = false from decide_eq_false h2] at s2
  have HA := hide hA2
  clear hA hA2 hm hn h1 h2
  generalize m.keys.getD (m.keys.length - 1) [] = x at *
  generalize n.keys.getD 0 [] = y at *
  unfold nda
  rw [lm, ln] at *
  generalize m.keys.length = kl at *
  generalize m.vals.length = vl at *
  generalize m.kids.length = il at *
  generalize n.keys.length = kl2 at *
  generalize n.vals.length = vl2 at *
  generalize n.kids.length = il2 at *
  clear lm ln m n
  have p1' : (0 : Int) < (kl : Int) := by omega
  have p1'' : decide ((0 : Int) < (kl : Int)) = true := by rw [decide_eq_true_eq]; omega
  obtain ⟨kk, rfl⟩ : ∃ kk, kl = kk + 1 := ⟨kl - 1, by omega⟩
  rw [Nat.add_sub_cancel] at c1
  have p2'' : (0 : Int) < (kl2 : Int) := by omega
  go_enter Tryz.func72, Tryz.ntmps72
  go_wp2
  go_ret
  exact ⟨ret_bool (by first | rfl | simp), unhide HA⟩
theorem gt_innerU (m n : Nd) (ka va ia kb vb ib : Option Addr) (kc vc ic kd vd id : Nat) (key : Bs) (w : World) (hm : NA m ka va ia w) (hn : NA n kb vb ib w) (lm : m.leaf = false) (ln : n.leaf = false) (p1 : 0 < m.keys.length) (p2 : 0 < n.keys.length) (p3 : 0 < m.kids.length) (p4 : 0 < n.kids.length) (b1 : m.keys.length ≤ 4294967296) (b2 : n.keys.length ≤ 4294967296) (b3 : m.kids.length ≤ 1073741824) (b4 : n.kids.length ≤ 1073741824)
    (h1 : m.keys.getD (m.keys.length - 1) [] < key) (h2 : key < n.keys.getD 0 []) :
    Calls Tryz.prog 72 #[nda m ka va ia kc vc ic, S key, nda n kb vb ib kd vd id] w fun e w' => e = .returned (.bool (unl (m.kids ++ n.kids))) ∧ Below w.heap.size w w' := by
  have hA := (Below.refl w.heap.size w).alloc (Nat.le_refl _) (.cells #[.bool m.leaf, .slice ka m.keys.length kc, .slice va m.vals.length vc, .slice ia m.kids.length ic] 25)
  have hA2 := hA.alloc hA.size (.cells #[.bool n.leaf, .slice kb n.keys.length kd, .slice vb n.vals.length vd, .slice ib n.kids.length id] 25)
  obtain ⟨g1, o1, e1, q1, c1⟩ := (hm.ks.below hA2).at (show m.keys.length - 1 < m.keys.length by omega)
  obtain ⟨g2, o2, e2, q2, c2⟩ := (hn.ks.below hA2).at p2
  obtain ⟨g3, o3, e3, -⟩ := hm.is.2 p3
  obtain ⟨g4, o4, e4, -⟩ := hn.is.2 p4
  subst e1 e2 e3 e4
  rw [Nat.add_zero] at c2
  have s1 := fun W => run_geq (m.keys.getD (m.keys.length - 1) []) key W
  rw [show decide (¬ m.keys.getD (m.keys.length - 1) [] < key) = false from decide_eq_false (fun q => q h1)] at s1
  have s2 := fun W => run_gtr (n.keys.getD 0 []) key W
  rw [show decide (key < n.keys.getD 0 []) = true from decide_eq_true h2] at s2
  have HA := hide hA2
  have HI1 := hide (hm.is.below hA2)
  have HI2 := hide (hn.is.below hA2)
  have hl1 := hm.is.1
  have hl2 := hn.is.1
  clear hA hA2 hm hn h1 h2
  generalize m.keys.getD (m.keys.length - 1) [] = x at *
  generalize n.keys.getD 0 [] = y at *
  unfold nda
  rw [lm, ln] at *
  generalize m.keys.length = kl at *
  generalize m.vals.length = vl at *
  generalize n.keys.length = kl2 at *
  generalize n.vals.length = vl2 at *
  generalize hm1 : m.kids.length = il at *
  generalize hm2 : n.kids.length = il2 at *
  generalize m.kids = zs at *
  generalize n.kids = us at *
  clear lm ln m n
  have p1' : (0 : Int) < (kl : Int) := by omega
  have p1'' : decide ((0 : Int) < (kl : Int)) = true := by rw [decide_eq_true_eq]; omega
  have p2'' : (0 : Int) < (kl2 : Int) := by omega
  obtain ⟨kk, rfl⟩ : ∃ kk, kl = kk + 1 := ⟨kl - 1, by omega⟩
  rw [Nat.add_sub_cancel] at c1
  have hVs : ((w.alloc (.cells #[.bool false, .slice (some ⟨g1, o1, none⟩) (kk + 1) kc, .slice va vl vc, .slice (some ⟨g3, o3, none⟩) il ic] 25)).alloc (.cells #[.bool false, .slice (some ⟨g2, o2, none⟩) kl2 kd, .slice vb vl2 vd, .slice (some ⟨g4, o4, none⟩) il2 id] 25)).heap.size = w.heap.size + 1 + 1 := by simp
  have hVg := heap_alloc_new ((w.alloc (.cells #[.bool false, .slice (some ⟨g1, o1, none⟩) (kk + 1) kc, .slice va vl vc, .slice (some ⟨g3, o3, none⟩) il ic] 25)).alloc (.cells #[.bool false, .slice (some ⟨g2, o2, none⟩) kl2 kd, .slice vb vl2 vd, .slice (some ⟨g4, o4, none⟩) il2 id] 25)) (.cells #[.slice (some ⟨g3, o3, none⟩) il ic, .slice (some ⟨g4, o4, none⟩) il2 id] 23)
  rw [hVs] at hVg
  have hVb := (Below.refl ((w.alloc (.cells #[.bool false, .slice (some ⟨g1, o1, none⟩) (kk + 1) kc, .slice va vl vc, .slice (some ⟨g3, o3, none⟩) il ic] 25)).alloc (.cells #[.bool false, .slice (some ⟨g2, o2, none⟩) kl2 kd, .slice vb vl2 vd, .slice (some ⟨g4, o4, none⟩) il2 id] 25)).heap.size ((w.alloc (.cells #[.bool false, .slice (some ⟨g1, o1, none⟩) (kk + 1) kc, .slice va vl vc, .slice (some ⟨g3, o3, none⟩) il ic] 25)).alloc (.cells #[.bool false, .slice (some ⟨g2, o2, none⟩) kl2 kd, .slice vb vl2 vd, .slice (some ⟨g4, o4, none⟩) il2 id] 25))).alloc (Nat.le_refl _) (.cells #[.slice (some ⟨g3, o3, none⟩) il ic, .slice (some ⟨g4, o4, none⟩) il2 id] 23)
  have HC := hide (concatI2 (w.heap.size + 1 + 1) g3 o3 il ic g4 o4 il2 id zs us _ hVg ((unhide HI1).below hVb) ((unhide HI2).below hVb) (by omega) (by omega))
  have HVB := hide ((unhide HA).trans (hVb.mono (unhide HA).size))
  have hzl : il + il2 = (zs ++ us).length := by rw [List.length_append]; omega
  have HZL := hide hzl
  clear hVs hVg hVb hzl HI1 HI2 hl1 hl2 hm1 hm2
  go_enter Tryz.func72, Tryz.ntmps72
  go_wp2_with fail
  refine (unhide HC).mono ?_
  rintro e w3 ⟨V, rfl, r, o, b⟩
  rw [unhide HZL] at r
  obtain ⟨p, cap, rfl, hI, -⟩ := Ins.of r
  have HU := hide (areUnlike_any p _ cap (zs ++ us) w3 hI (by have := unhide HZL; omega) (by have := unhide HZL; omega))
  have HB := hide ((unhide HVB).trans (b.mono (unhide HVB).size))
  generalize hub : unl (zs ++ us) = ub at *
  have HUB := hide hub
  clear hub
  generalize (zs ++ us).length = zl at *
  clear r o b hI HC HVB
  go_wp2_with fail
  refine (unhide HU).mono ?_
  rintro e w4 ⟨rfl, b⟩
  have HB4 := hide ((unhide HB).trans (b.mono (unhide HB).size))
  clear b
  go_wp2
  go_ret
  exact ⟨ret_bool (unhide HUB).symm, unhide HB4⟩
end Go.Proofs.YtllialbdofklgaaGreatDoor
namespace Go.Proofs.YtllialbdofklgaaGreatDoor
open Go.RowKit
set_option linter.unusedVariables false
set_option maxHeartbeats 16000000
set_option maxRecDepth 8000
theorem mj_leaf {n : Nd} (h : mj n = true) (hl : n.leaf = true) : n.vals.length = n.keys.length ∧ n.kids = [] ∧ n.siz ≤ 480 := by
  unfold mj fmr agl at h
  rw [hl] at h
  simp at h
  exact ⟨h.1.1.1, by simpa using h.1.1.2, h.2⟩
theorem mj_inner {n : Nd} (h : mj n = true) (hl : n.leaf = false) : 0 < n.keys.length ∧ n.kids.length = n.keys.length + 1 ∧ n.vals = [] ∧ n.siz ≤ 480 := by
  unfold mj fmr hfv agv agi at h
  rw [hl] at h
  simp at h
  exact ⟨by simpa using h.1.1, h.1.2.1.1.1, by simpa using h.1.2.1.1.2, h.2⟩
theorem mj_small {n : Nd} (h : mj n = true) : n.keys.length ≤ 480 ∧ n.vals.length ≤ 480 ∧ n.kids.length ≤ 480 := by
  cases hl : n.leaf
  · obtain ⟨h1, h2, h3, h4⟩ := mj_inner h hl
    unfold Nd.siz at h4
    rw [hl] at h4
    simp at h4
    rw [h3]
    simp
    omega
  · obtain ⟨h1, h2, h3⟩ := mj_leaf h hl
    unfold Nd.siz at h3
    rw [hl] at h3
    simp at h3
    rw [h2]
    simp
    omega
/-- goTogether 72 of nodes that may be put together. -/
theorem goTogether_b (m n : Nd) (ka va ia kb vb ib : Option Addr) (kc vc ic kd vd jd : Nat) (key : Bs) (w : World) (hm : NA m ka va ia w) (hn : NA n kb vb ib w) (bm : NB m) (bn : NB n) (fm : mj m = true) (fn : mj n = true) :
    Calls Tryz.prog 72 #[nda m ka va ia kc vc ic, S key, nda n kb vb ib kd vd jd] w fun e w' => e = .returned (.bool (gtv m key n)) ∧ Below w.heap.size w w' := by
  have hs1 := mj_small fm
  have hs2 := mj_small fn
  by_cases hl : m.leaf = n.leaf
  · by_cases hp : m.keys.length = 0
    · cases lm : m.leaf
      · have := (mj_inner fm lm).1; omega
      · have ln : n.leaf = true := by rw [← hl]; exact lm
        by_cases hq : n.keys.length = 0
        · have e : gtv m key n = true := by unfold gtv; simp [lm, ln, hp, hq]
          rw [e]
          exact gt_leaf00 m n ka va ia kb vb ib kc vc ic kd vd jd key w hm hn bm.k bn.k lm ln hp hq
        · have e : gtv m key n = decide (¬ n.keys.getD 0 [] < key) := by rw [decide_not]; unfold gtv; generalize decide (n.keys.getD 0 [] < key) = q; simp [lm, ln, hp, hq]
          rw [e]
          exact gt_leaf01 m n ka va ia kb vb ib kc vc ic kd vd jd key w hm hn bm.k bn.k lm ln hp (by omega)
    · by_cases h1 : m.keys.getD (m.keys.length - 1) [] < key
      · cases lm : m.leaf
        · have ln : n.leaf = false := by rw [← hl]; exact lm
          obtain ⟨i1, i2, -, -⟩ := mj_inner fm lm
          obtain ⟨i3, i4, -, -⟩ := mj_inner fn ln
          by_cases h2 : key < n.keys.getD 0 []
          · have e : gtv m key n = unl (m.kids ++ n.kids) := by unfold gtv; rw [lm, ln, decide_eq_true h1, decide_eq_true h2]; simp
            rw [e]
            exact gt_innerU m n ka va ia kb vb ib kc vc ic kd vd jd key w hm hn lm ln i1 i3 (by omega) (by omega) (by omega) (by omega) (by omega) (by omega) h1 h2
          · have e : gtv m key n = false := by unfold gtv; rw [lm, ln, decide_eq_false h2]; simp
            rw [e]
            exact gt_innerF m n ka va ia kb vb ib kc vc ic kd vd jd key w hm hn bm.k bn.k lm ln i1 i3 h1 h2
        · have ln : n.leaf = true := by rw [← hl]; exact lm
          by_cases hq : n.keys.length = 0
          · have e : gtv m key n = true := by unfold gtv; rw [lm, ln, decide_eq_true h1, decide_eq_true hq]; simp
            rw [e]
            exact gt_leaf10 m n ka va ia kb vb ib kc vc ic kd vd jd key w hm hn bm.k bn.k lm ln (by omega) h1 hq
          · have e : gtv m key n = decide (¬ n.keys.getD 0 [] < key) := by rw [decide_not]; unfold gtv; generalize decide (n.keys.getD 0 [] < key) = q; rw [lm, ln, decide_eq_true h1, decide_eq_false hq]; simp
            rw [e]
            exact gt_leaf11 m n ka va ia kb vb ib kc vc ic kd vd jd key w hm hn bm.k bn.k lm ln (by omega) h1 (by omega)
      · have e : gtv m key n = false := by unfold gtv; rw [decide_eq_false h1, decide_eq_false hp]; simp
        rw [e]
        exact gt_last m n ka va ia kb vb ib kc vc ic kd vd jd key w hm hn bm.k bn.k hl (by omega) h1
  · have hl2 : m.leaf = !n.leaf := by cases hm1 : m.leaf <;> cases hn1 : n.leaf <;> simp_all
    have e : gtv m key n = false := by unfold gtv; rw [hl2]; cases n.leaf <;> simp
    rw [e]
    exact gt_mixed m n ka va ia kb vb ib kc vc ic kd vd jd key w hm hn bm.k bn.k hl2
theorem joinedL2_any (m n : Nd) (ga oa gb ob gc oc gd od : Nat) (ia ib : Option Addr) (kc vc ic kd vd id : Nat) (key : Bs) (w : World) (hm : NA m (some ⟨ga, oa, none⟩) (some ⟨gc, oc, none⟩) ia w) (hn : NA n (some ⟨gb, ob, none⟩) (some ⟨gd, od, none⟩) ib w) (lm : m.leaf = true) (im : m.kids = []) (inn : n.kids = [])
    (q1 : m.keys.length ≤ 2147483648) (q2 : n.keys.length ≤ 2147483648) (q3 : m.vals.length ≤ 2147483648) (q4 : n.vals.length ≤ 2147483648) :
    Calls Tryz.prog 73 #[nda m (some ⟨ga, oa, none⟩) (some ⟨gc, oc, none⟩) ia kc vc ic, S key, nda n (some ⟨gb, ob, none⟩) (some ⟨gd, od, none⟩) ib kd vd id] w fun e w' => ∃ vK vV, e = .returned (.agg #[.bool true, vK, vV, .slice none 0 0]) ∧ w'.ownsRow 0 9 1 vK (m.keys ++ n.keys).length ((m.keys ++ n.keys).map S) ∧ w'.ownsRow 0 9 1 vV (m.vals ++ n.vals).length ((m.vals ++ n.vals).map S) ∧ (∀ i, vK.ownBlock = some i → w.heap.size ≤ i) ∧ (∀ i, vV.ownBlock = some i → w.heap.size ≤ i) ∧ Below w.heap.size w w' := by
  obtain ⟨lf, ks, vs, is⟩ := m
  obtain ⟨lg, ls, us, js⟩ := n
  simp only at lm im inn q1 q2 q3 q4
  subst lm im inn
  unfold nda
  simp only [List.length_nil]
  obtain ⟨E1, hE1⟩ : ∃ E1 : Value, E1 = .slice (some ⟨ga, oa, none⟩) ks.length kc := ⟨_, rfl⟩
  obtain ⟨E2, hE2⟩ : ∃ E2 : Value, E2 = .slice (some ⟨gb, ob, none⟩) ls.length kd := ⟨_, rfl⟩
  obtain ⟨F1, hF1⟩ : ∃ F1 : Value, F1 = .slice (some ⟨gc, oc, none⟩) vs.length vc := ⟨_, rfl⟩
  obtain ⟨F2, hF2⟩ : ∃ F2 : Value, F2 = .slice (some ⟨gd, od, none⟩) us.length vd := ⟨_, rfl⟩
  have hA := (Below.refl w.heap.size w).alloc (Nat.le_refl _) (.cells #[.bool true, .slice (some ⟨ga, oa, none⟩) ks.length kc, .slice (some ⟨gc, oc, none⟩) vs.length vc, .slice ia 0 ic] 25)
  have hg := heap_alloc_new w (.cells #[.bool true, .slice (some ⟨ga, oa, none⟩) ks.length kc, .slice (some ⟨gc, oc, none⟩) vs.length vc, .slice ia 0 ic] 25)
  have hs0 := size_alloc w (.cells #[.bool true, .slice (some ⟨ga, oa, none⟩) ks.length kc, .slice (some ⟨gc, oc, none⟩) vs.length vc, .slice ia 0 ic] 25)
  generalize hW0 : w.alloc (.cells #[.bool true, .slice (some ⟨ga, oa, none⟩) ks.length kc, .slice (some ⟨gc, oc, none⟩) vs.length vc, .slice ia 0 ic] 25) = W0 at hA hg hs0
  have hz0 := lt_of_row hg
  have hA1 := hA.alloc hA.size (.cells #[.bool lg, .slice (some ⟨gb, ob, none⟩) ls.length kd, .slice (some ⟨gd, od, none⟩) us.length vd, .slice ib 0 id] 25)
  have hg1 := (heap_alloc_old W0 (.cells #[.bool lg, .slice (some ⟨gb, ob, none⟩) ls.length kd, .slice (some ⟨gd, od, none⟩) us.length vd, .slice ib 0 id] 25) hz0).trans hg
  have hk := heap_alloc_new W0 (.cells #[.bool lg, .slice (some ⟨gb, ob, none⟩) ls.length kd, .slice (some ⟨gd, od, none⟩) us.length vd, .slice ib 0 id] 25)
  have hs1 := size_alloc W0 (.cells #[.bool lg, .slice (some ⟨gb, ob, none⟩) ls.length kd, .slice (some ⟨gd, od, none⟩) us.length vd, .slice ib 0 id] 25)
  generalize hW1 : W0.alloc (.cells #[.bool lg, .slice (some ⟨gb, ob, none⟩) ls.length kd, .slice (some ⟨gd, od, none⟩) us.length vd, .slice ib 0 id] 25) = W1 at hA1 hg1 hk hs1
  have hA2 := hA1.alloc hA1.size (.cells #[.bool false, .slice none 0 0, .slice none 0 0, .slice none 0 0] 25)
  have hp := heap_alloc_new W1 (.cells #[.bool false, .slice none 0 0, .slice none 0 0, .slice none 0 0] 25)
  have hg2 := (heap_alloc_old W1 (.cells #[.bool false, .slice none 0 0, .slice none 0 0, .slice none 0 0] 25) (lt_of_row hg1)).trans hg1
  have hk2 := (heap_alloc_old W1 (.cells #[.bool false, .slice none 0 0, .slice none 0 0, .slice none 0 0] 25) (lt_of_row hk)).trans hk
  have hs2 := size_alloc W1 (.cells #[.bool false, .slice none 0 0, .slice none 0 0, .slice none 0 0] 25)
  have b12 : Below W1.heap.size W1 (W1.alloc (.cells #[.bool false, .slice none 0 0, .slice none 0 0, .slice none 0 0] 25)) := (Below.refl _ _).alloc (Nat.le_refl _) _
  generalize hW2 : W1.alloc (.cells #[.bool false, .slice none 0 0, .slice none 0 0, .slice none 0 0] 25) = W2 at hA2 hp hg2 hk2 hs2 b12
  have HX := hide (show W0.heap.size = w.heap.size + 1 ∧ W1.heap.size = W0.heap.size + 1 ∧ W2.heap.size = W1.heap.size + 1 from ⟨hs0, hs1, hs2⟩)
  have HSt := hide (fun (W : World) (q : Below W1.heap.size W2 W) => show Below w.heap.size w W from hA1.trans ((b12.trans q).mono hA1.size))
  have HM := hide hm
  have HN := hide hn
  have HA2 := hide hA2
  have HP := hide hp
  have HG := hide hg2
  have HK := hide hk2
  obtain ⟨c0, c1, c2, c3⟩ := box4 hg2 (Below.refl _ _) (lt_of_row hg2)
  have hz2 := lt_of_row hg2
  clear hA hg hA1 hg1 hk hA2 hp hg2 hk2 b12 hm hn hs0 hs1 hs2 hz0
  go_enter Tryz.func73, Tryz.ntmps73
  go_wp2
  have hX := unhide HX
  refine rjn w.heap.size W0.heap.size W1.heap.size ks.length ls.length vs.length us.length kc kd vc vd (ks ++ ls).length (vs ++ us).length (some ⟨ga, oa, none⟩) (some ⟨gb, ob, none⟩) (some ⟨gc, oc, none⟩) (some ⟨gd, od, none⟩) (by kernel_rfl) (by kernel_rfl) (by kernel_rfl) _ _ (by show 22 ≤ Array.size _; simp) rfl rfl rfl (Wj W2 W1.heap.size E1 E2 F1 F2 (ks ++ ls) (vs ++ us)) ?_ ?_ ?_ ?_ ?_ ?_ ?_ ?_ ?_ ?_ ?_ ?_ ?_
  · exact ⟨⟨none, 0, none, 0, 0, 0⟩, ⟨(Below.refl _ _).drew, Nat.le_refl _, (fun q => nomatch q), (fun q => nomatch q), (fun q => nomatch q), (fun q => nomatch q), (fun q => nomatch q), (fun q => nomatch q), (fun q => nomatch q), (fun q => nomatch q), fun _ => unhide HP, (fun q => nomatch q)⟩⟩
  · intro i hi c L W hW
    simp only [List.mem_cons, List.not_mem_nil, or_false, not_or] at hi
    exact hW.pure i hi.1 hi.2.1 hi.2.2.1 hi.2.2.2.1 hi.2.2.2.2.1 (fun e => absurd e hi.2.2.2.2.2)
  · intro c L W hW
    exact (box4 (unhide HG) hW.bel (by omega)).2.1
  · intro c L W hW
    exact (box4 (unhide HK) hW.bel (by omega)).2.1
  · intro c L W hW
    exact (box4 (unhide HG) hW.bel (by omega)).2.2.1
  · intro c L W hW
    exact (box4 (unhide HK) hW.bel (by omega)).2.2.1
  · intro c L W hW h4 h7
    exact hW.pure 12 (by decide) (by decide) (by decide) (by decide) (by decide) (fun _ => ⟨h4, h7⟩)
  · intro c L W hW h4
    have hb := (Below.refl W.heap.size W).alloc (Nat.le_refl _) (.cells #[E1, E2] 22)
    have hg := hW.grow hb (by omega)
    have h5 : L 5 = false := fls fun q => by rw [hW.d1 q] at h4; cases h4
    have h12 : L 12 = false := fls fun q => by rw [(hW.d q).1] at h5; cases h5
    have h13 : L 13 = false := fls fun q => by rw [hW.e q] at h12; cases h12
    subst hE1 hE2
    refine ⟨{ c with g1 := W.heap.size }, fun j hj => ?_, rfl, hg.bel, hg.sz, fun _ => ⟨heap_alloc_new _ _, hW.sz⟩, fun q => hg.g2 (by rwa [upd_ne (by decide)] at q), fun q => ?_, fun q => hg.v (by rwa [upd_ne (by decide)] at q), fun _ => upd_eq _ _, fun q => ?_, fun q => ?_, fun q => ?_, fun q => hg.b0 h13, fun q => ?_⟩
    · unfold vjn
      split <;> first | rfl | (rw [h4] at hj; cases hj)
    · rw [upd_ne (by decide), h5] at q; cases q
    · rw [upd_ne (by decide)] at q ⊢; exact hW.d2 q
    · rw [upd_ne (by decide), h12] at q; cases q
    · rw [upd_ne (by decide), h13] at q; cases q
    · rw [upd_ne (by decide), h13] at q; cases q
  · intro c L W hW h4
    have hb := (Below.refl W.heap.size W).alloc (Nat.le_refl _) (.cells #[F1, F2] 22)
    have hg := hW.grow hb (by omega)
    have h5 : L 11 = false := fls fun q => by rw [hW.d2 q] at h4; cases h4
    have h12 : L 12 = false := fls fun q => by rw [(hW.d q).2] at h5; cases h5
    have h13 : L 13 = false := fls fun q => by rw [hW.e q] at h12; cases h12
    subst hF1 hF2
    refine ⟨{ c with g2 := W.heap.size }, fun j hj => ?_, rfl, hg.bel, hg.sz, fun q => hg.g1 (by rwa [upd_ne (by decide)] at q), fun _ => ⟨heap_alloc_new _ _, hW.sz⟩, fun q => hg.k (by rwa [upd_ne (by decide)] at q), fun q => ?_, fun q => ?_, fun _ => upd_eq _ _, fun q => ?_, fun q => ?_, fun q => hg.b0 h13, fun q => ?_⟩
    · unfold vjn
      split <;> first | rfl | (rw [h4] at hj; cases hj)
    · rw [upd_ne (by decide), h5] at q; cases q
    · rw [upd_ne (by decide)] at q ⊢; exact hW.d1 q
    · rw [upd_ne (by decide), h12] at q; cases q
    · rw [upd_ne (by decide), h13] at q; cases q
    · rw [upd_ne (by decide), h13] at q; cases q
  · intro c L W hW h5 h4
    have hbw := unhide HSt W hW.bel
    have hc := concat2 c.g1 ga oa ks.length kc gb ob ls.length kd ks ls W (by rw [← hE1, ← hE2]; exact (hW.g1 h4).1) ((unhide HM).ks.below hbw) ((unhide HN).ks.below hbw) q1 q2
    refine hc.mono ?_
    rintro e w' ⟨V, rfl, r, o, b⟩
    rw [← List.length_append] at r
    obtain ⟨p, cp, rfl⟩ := owns_form r
    have hg := hW.grow b (by omega)
    have h12 : L 12 = false := fls fun q => by rw [(hW.d q).1] at h5; cases h5
    have h13 : L 13 = false := fls fun q => by rw [hW.e q] at h12; cases h12
    refine ⟨{ c with p1 := p, c1 := cp }, fun j hj => ?_, rfl, hg.bel, hg.sz, fun q => hg.g1 (by rwa [upd_ne (by decide)] at q), fun q => hg.g2 (by rwa [upd_ne (by decide)] at q), fun _ => ⟨r, fun i hi => Nat.le_trans hW.sz (o i hi)⟩, fun q => hg.v (by rwa [upd_ne (by decide)] at q), fun q => by rw [upd_ne (by decide)]; exact h4, fun q => ?_, fun q => ?_, fun q => ?_, fun q => hg.b0 h13, fun q => ?_⟩
    · unfold vjn
      split <;> first | rfl | (rw [h5] at hj; cases hj) | (rw [h12] at hj; cases hj)
    · rw [upd_ne (by decide)] at q ⊢; exact hW.d2 q
    · rw [upd_ne (by decide), h12] at q; cases q
    · rw [upd_ne (by decide), h13] at q; cases q
    · rw [upd_ne (by decide), h13] at q; cases q
  · intro c L W hW h11 h10
    have hbw := unhide HSt W hW.bel
    have hc := concat2 c.g2 gc oc vs.length vc gd od us.length vd vs us W (by rw [← hF1, ← hF2]; exact (hW.g2 h10).1) ((unhide HM).vs.below hbw) ((unhide HN).vs.below hbw) q3 q4
    refine hc.mono ?_
    rintro e w' ⟨V, rfl, r, o, b⟩
    rw [← List.length_append] at r
    obtain ⟨p, cp, rfl⟩ := owns_form r
    have hg := hW.grow b (by omega)
    have h12 : L 12 = false := fls fun q => by rw [(hW.d q).2] at h11; cases h11
    have h13 : L 13 = false := fls fun q => by rw [hW.e q] at h12; cases h12
    refine ⟨{ c with p2 := p, c2 := cp }, fun j hj => ?_, rfl, hg.bel, hg.sz, fun q => hg.g1 (by rwa [upd_ne (by decide)] at q), fun q => hg.g2 (by rwa [upd_ne (by decide)] at q), fun q => hg.k (by rwa [upd_ne (by decide)] at q), fun _ => ⟨r, fun i hi => Nat.le_trans hW.sz (o i hi)⟩, fun q => ?_, fun q => by rw [upd_ne (by decide)]; exact h10, fun q => ?_, fun q => ?_, fun q => hg.b0 h13, fun q => ?_⟩
    · unfold vjn
      split <;> first | rfl | (rw [h11] at hj; cases hj) | (rw [h12] at hj; cases hj)
    · rw [upd_ne (by decide)] at q ⊢; exact hW.d1 q
    · rw [upd_ne (by decide), h12] at q; cases q
    · rw [upd_ne (by decide), h13] at q; cases q
    · rw [upd_ne (by decide), h13] at q; cases q
  · intro c L W hW h13 h12
    have hb0 := hW.b0 h13
    have o4 := set4_only W W1.heap.size (.bool true) (.slice c.p1 (ks ++ ls).length c.c1) (.slice c.p2 (vs ++ us).length c.c2) (.slice none 0 0)
    have r4 := set4 hb0 rfl (.bool true) (.slice c.p1 (ks ++ ls).length c.c1) (.slice c.p2 (vs ++ us).length c.c2) (.slice none 0 0)
    refine ⟨⟨o4.below hW.bel (by have := hW.sz; omega) (fun k e => by omega), Nat.le_trans hW.sz o4.size, fun q => ?_, fun q => ?_, fun q => ?_, fun q => ?_, fun q => ?_, fun q => ?_, fun _ => by rw [upd_ne (by decide), upd_ne (by decide)]; exact hW.d h12, fun _ => by rw [upd_ne (by decide)]; exact h12, fun q => ?_, fun _ => r4⟩, hb0⟩
    · rw [upd_ne (by decide)] at q
      exact ⟨(o4.block _ (lt_of_row (hW.g1 q).1) (fun e => by have := (hW.g1 q).2; omega)).trans (hW.g1 q).1, (hW.g1 q).2⟩
    · rw [upd_ne (by decide)] at q
      exact ⟨(o4.block _ (lt_of_row (hW.g2 q).1) (fun e => by have := (hW.g2 q).2; omega)).trans (hW.g2 q).1, (hW.g2 q).2⟩
    · rw [upd_ne (by decide)] at q
      exact ⟨owns_only (hW.k q).1 o4 (fun i hi e => by have := (hW.k q).2 i hi; omega), (hW.k q).2⟩
    · rw [upd_ne (by decide)] at q
      exact ⟨owns_only (hW.v q).1 o4 (fun i hi e => by have := (hW.v q).2 i hi; omega), (hW.v q).2⟩
    · rw [upd_ne (by decide)] at q ⊢; exact hW.d1 q
    · rw [upd_ne (by decide)] at q ⊢; exact hW.d2 q
    · rw [upd_eq] at q; cases q
  · intro c L W hall hW
    have k := hW.k (hall 5 (by omega))
    have v := hW.v (hall 11 (by omega))
    have hA := unhide HA2
    have bw : Below w.heap.size w W := hA.trans (hW.bel.mono (by omega))
    have hb1 := hW.b1 (hall 13 (by omega))
    have hz := lt_of_row hb1
    have HK' := hide k
    have HV' := hide v
    have HB := hide bw
    have HB1 := hide hb1
    clear k v hA bw hb1 hW hall
    simp only [Act.put, List.setIfInBounds_toArray, List.set_cons_succ, List.set_cons_zero]
    clear c0 c1 c2 c3
    go_wp2
    refine outN1 (p := 6) rfl (by rfl) (by rfl) (unhide HB1) ⟨_, _, rfl, (unhide HK').1, (unhide HV').1, fun i hi => ?_, fun i hi => ?_, unhide HB⟩
    · have := (unhide HK').2 i hi; omega
    · have := (unhide HV').2 i hi; omega
end Go.Proofs.YtllialbdofklgaaGreatDoor
namespace Go.Proofs.YtllialbdofklgaaGreatDoor
open Go.RowKit
set_option linter.unusedVariables false
set_option maxHeartbeats 16000000
set_option maxRecDepth 8000
theorem mj_tot {n : Nd} (h : mj n = true) : tot n.keys ≤ 480 ∧ tot n.vals ≤ 480 := by
  cases hl : n.leaf
  · obtain ⟨h1, h2, h3, h4⟩ := mj_inner h hl
    unfold Nd.siz at h4
    rw [hl] at h4
    simp at h4
    exact ⟨by omega, by rw [h3]; simp [tot]⟩
  · obtain ⟨h1, h2, h3⟩ := mj_leaf h hl
    unfold Nd.siz at h3
    rw [hl] at h3
    simp at h3
    omega
theorem noKey_len {key : Bs} (h : noKey key = false) : 1 ≤ key.length ∧ key.length ≤ 36 := by
  unfold noKey at h
  rw [Bool.or_eq_false_iff, decide_eq_false_iff_not, decide_eq_false_iff_not] at h
  omega
theorem jn_nb {m n : Nd} {key : Bs} (fm : mj m = true) (fn : mj n = true) (hk : noKey key = false) : NB (jn m key n) := by
  obtain ⟨a1, a2, a3⟩ := mj_small fm
  obtain ⟨b1, b2, b3⟩ := mj_small fn
  obtain ⟨c1, c2⟩ := mj_tot fm
  obtain ⟨d1, d2⟩ := mj_tot fn
  obtain ⟨e1, e2⟩ := noKey_len hk
  have hk1 : (if m.leaf then ([] : List Bs) else [key]).length ≤ 1 := by split <;> simp
  have hk2 : tot (if m.leaf then ([] : List Bs) else [key]) ≤ 36 := by
    split
    · simp [tot]
    · simpa [tot] using e2
  refine ⟨?_, ?_, ?_, ?_, ?_⟩
  · show (m.keys ++ _ ++ n.keys).length ≤ _
    simp only [List.length_append]
    omega
  · show (m.vals ++ n.vals).length ≤ _
    simp only [List.length_append]
    omega
  · show (m.kids ++ n.kids).length ≤ _
    simp only [List.length_append]
    omega
  · show tot (m.keys ++ _ ++ n.keys) ≤ _
    rw [tot_app, tot_app]
    omega
  · show tot (m.vals ++ n.vals) ≤ _
    rw [tot_app]
    omega
/-- joined 73 of two nodes that go together. -/
theorem joined_b (m n : Nd) (ga oa gb ob gc oc gd od : Nat) (ia ib : Option Addr) (kc vc ic kd vd id : Nat) (key : Bs) (w : World) (hm : NA m (some ⟨ga, oa, none⟩) (some ⟨gc, oc, none⟩) ia w) (hn : NA n (some ⟨gb, ob, none⟩) (some ⟨gd, od, none⟩) ib w) (bm : NB m) (bn : NB n) (fm : mj m = true) (fn : mj n = true) (hl : m.leaf = n.leaf) :
    Calls Tryz.prog 73 #[nda m (some ⟨ga, oa, none⟩) (some ⟨gc, oc, none⟩) ia kc vc ic, S key, nda n (some ⟨gb, ob, none⟩) (some ⟨gd, od, none⟩) ib kd vd id] w fun e w' => ∃ vK vV vI, e = .returned (.agg #[.bool (jn m key n).leaf, vK, vV, vI]) ∧ Rws w.heap.size (jn m key n) vK vV vI w' ∧ Below w.heap.size w w' := by
  obtain ⟨a1, a2, a3⟩ := mj_small fm
  obtain ⟨b1, b2, b3⟩ := mj_small fn
  cases lm : m.leaf
  · have ln : n.leaf = false := by rw [← hl]; exact lm
    obtain ⟨i1, i2, i3, -⟩ := mj_inner fm lm
    obtain ⟨j1, j2, j3, -⟩ := mj_inner fn ln
    refine (joined_inner m n _ _ ia _ _ ib kc vc ic kd vd id key w hm hn lm i1 j1 (by omega) (by omega) (by omega) (by omega) (by omega) (by omega)).mono ?_
    rintro e w' ⟨vK, vI, rfl, r1, r2, o1, o2, b⟩
    refine ⟨vK, .slice none 0 0, vI, by show _ = Ending.returned (.agg #[.bool m.leaf, _, _, _]); rw [lm], ⟨?_, ?_, r2, o1, (fun i q => nomatch q), o2⟩, b⟩
    · show w'.ownsRow 0 9 1 vK (m.keys ++ (if m.leaf then [] else [key]) ++ n.keys).length ((m.keys ++ (if m.leaf then [] else [key]) ++ n.keys).map S)
      rw [lm]
      exact r1
    · show w'.ownsRow 0 9 1 _ (m.vals ++ n.vals).length ((m.vals ++ n.vals).map S)
      rw [i3, j3]
      exact owns_nil _ _ _
  · have ln : n.leaf = true := by rw [← hl]; exact lm
    obtain ⟨i1, i2, -⟩ := mj_leaf fm lm
    obtain ⟨j1, j2, -⟩ := mj_leaf fn ln
    refine (joinedL2_any m n ga oa gb ob gc oc gd od ia ib kc vc ic kd vd id key w hm hn lm i2 j2 (by omega) (by omega) (by omega) (by omega)).mono ?_
    rintro e w' ⟨vK, vV, rfl, r1, r2, o1, o2, b⟩
    refine ⟨vK, vV, .slice none 0 0, by show _ = Ending.returned (.agg #[.bool m.leaf, _, _, _]); rw [lm], ⟨?_, r2, ?_, o1, o2, (fun i q => nomatch q)⟩, b⟩
    · show w'.ownsRow 0 9 1 vK (m.keys ++ (if m.leaf then [] else [key]) ++ n.keys).length ((m.keys ++ (if m.leaf then [] else [key]) ++ n.keys).map S)
      rw [lm]
      simpa using r1
    · show w'.ownsRow 0 3 1 _ (m.kids ++ n.kids).length ((m.kids ++ n.kids).map fun z => I z)
      rw [i2, j2]
      exact owns_nil _ _ _
/-- Join 41 of any two nodes whose lists lie somewhere. -/
theorem join_b (m n : Nd) (ga oa gb ob gc oc gd od : Nat) (ia ib : Option Addr) (kc vc ic kd vd id : Nat) (key : Bs) (w : World) (hm : NA m (some ⟨ga, oa, none⟩) (some ⟨gc, oc, none⟩) ia w) (hn : NA n (some ⟨gb, ob, none⟩) (some ⟨gd, od, none⟩) ib w) (bm : NB m) (bn : NB n) (hk : key.length ≤ 4294967296) :
    Calls Tryz.prog 41 #[nda m (some ⟨ga, oa, none⟩) (some ⟨gc, oc, none⟩) ia kc vc ic, S key, nda n (some ⟨gb, ob, none⟩) (some ⟨gd, od, none⟩) ib kd vd id] w fun e w' => ∃ vK vV vI, e = .returned (.tuple #[.agg #[.bool (jrs m key n).leaf, vK, vV, vI], I (jer m key n)]) ∧ Rws w.heap.size (jrs m key n) vK vV vI w' ∧ Apt vK vV vI ∧ Below w.heap.size w w' := by
  have hA := (Below.refl w.heap.size w).alloc (Nat.le_refl _) (.cells #[.bool m.leaf, .slice (some ⟨ga, oa, none⟩) m.keys.length kc, .slice (some ⟨gc, oc, none⟩) m.vals.length vc, .slice ia m.kids.length ic] 25)
  have hg := heap_alloc_new w (.cells #[.bool m.leaf, .slice (some ⟨ga, oa, none⟩) m.keys.length kc, .slice (some ⟨gc, oc, none⟩) m.vals.length vc, .slice ia m.kids.length ic] 25)
  have hs0 := size_alloc w (.cells #[.bool m.leaf, .slice (some ⟨ga, oa, none⟩) m.keys.length kc, .slice (some ⟨gc, oc, none⟩) m.vals.length vc, .slice ia m.kids.length ic] 25)
  generalize hW0 : w.alloc (.cells #[.bool m.leaf, .slice (some ⟨ga, oa, none⟩) m.keys.length kc, .slice (some ⟨gc, oc, none⟩) m.vals.length vc, .slice ia m.kids.length ic] 25) = W0 at hA hg hs0
  have hA1 := hA.alloc hA.size (.cells #[.bool n.leaf, .slice (some ⟨gb, ob, none⟩) n.keys.length kd, .slice (some ⟨gd, od, none⟩) n.vals.length vd, .slice ib n.kids.length id] 25)
  have hg1 := (alloc_old W0 (.cells #[.bool n.leaf, .slice (some ⟨gb, ob, none⟩) n.keys.length kd, .slice (some ⟨gd, od, none⟩) n.vals.length vd, .slice ib n.kids.length id] 25) (lt_of_row hg)).trans hg
  have hk1 := heap_alloc_new W0 (.cells #[.bool n.leaf, .slice (some ⟨gb, ob, none⟩) n.keys.length kd, .slice (some ⟨gd, od, none⟩) n.vals.length vd, .slice ib n.kids.length id] 25)
  have hs1 := size_alloc W0 (.cells #[.bool n.leaf, .slice (some ⟨gb, ob, none⟩) n.keys.length kd, .slice (some ⟨gd, od, none⟩) n.vals.length vd, .slice ib n.kids.length id] 25)
  generalize hW1 : W0.alloc (.cells #[.bool n.leaf, .slice (some ⟨gb, ob, none⟩) n.keys.length kd, .slice (some ⟨gd, od, none⟩) n.vals.length vd, .slice ib n.kids.length id] 25) = W1 at hA1 hg1 hk1 hs1
  have hA2 := hA1.alloc hA1.size (.cells #[.bool false, .slice none 0 0, .slice none 0 0, .slice none 0 0] 25)
  have hp := heap_alloc_new W1 (.cells #[.bool false, .slice none 0 0, .slice none 0 0, .slice none 0 0] 25)
  have hg2 := (alloc_old W1 (.cells #[.bool false, .slice none 0 0, .slice none 0 0, .slice none 0 0] 25) (lt_of_row hg1)).trans hg1
  have hk2 := (alloc_old W1 (.cells #[.bool false, .slice none 0 0, .slice none 0 0, .slice none 0 0] 25) (lt_of_row hk1)).trans hk1
  have hs2 := size_alloc W1 (.cells #[.bool false, .slice none 0 0, .slice none 0 0, .slice none 0 0] 25)
  generalize hW2 : W1.alloc (.cells #[.bool false, .slice none 0 0, .slice none 0 0, .slice none 0 0] 25) = W2 at hA2 hp hg2 hk2 hs2
  have HX := hide (show W0.heap.size = w.heap.size + 1 ∧ W1.heap.size = W0.heap.size + 1 ∧ W2.heap.size = W1.heap.size + 1 from ⟨hs0, hs1, hs2⟩)
  have HM := fun {W : World} (q : Below W2.heap.size W2 W) => (hm.below hA2).below q
  have HN := fun {W : World} (q : Below W2.heap.size W2 W) => (hn.below hA2).below q
  have X1 := hide (fun W (q : Below W2.heap.size W2 W) => mayJoin_b m (some ⟨ga, oa, none⟩) (some ⟨gc, oc, none⟩) ia kc vc ic W (HM q) bm)
  have X2 := hide (fun W (q : Below W2.heap.size W2 W) => mayJoin_b n (some ⟨gb, ob, none⟩) (some ⟨gd, od, none⟩) ib kd vd id W (HN q) bn)
  have X3 := hide (fun W (q : Below W2.heap.size W2 W) => keysMayBe_any (some ⟨ga, oa, none⟩) _ kc m.keys W (HM q).ks bm.k bm.kt)
  have X4 := hide (fun W (q : Below W2.heap.size W2 W) => keysMayBe_any (some ⟨gb, ob, none⟩) _ kd n.keys W (HN q).ks bn.k bn.kt)
  have X5 := hide (fun W => isNoKey_any key W hk)
  have X6 := hide (fun W (q : Below W2.heap.size W2 W) (fm : mj m = true) (fn : mj n = true) => goTogether_b m n (some ⟨ga, oa, none⟩) (some ⟨gc, oc, none⟩) ia (some ⟨gb, ob, none⟩) (some ⟨gd, od, none⟩) ib kc vc ic kd vd id key W (HM q) (HN q) bm bn fm fn)
  have X7 := hide (fun W (q : Below W2.heap.size W2 W) (fm : mj m = true) (fn : mj n = true) (hl : m.leaf = n.leaf) => joined_b m n ga oa gb ob gc oc gd od ia ib kc vc ic kd vd id key W (HM q) (HN q) bm bn fm fn hl)
  unfold nda at X1 X2 X6 X7 ⊢
  obtain ⟨jo, hjo⟩ : ∃ jo, jo = jn m key n := ⟨_, rfl⟩
  have X8 := hide (fun W pk pv pz ck cv cz (bj : NB jo) (q : NA jo pk pv pz W) => size_any jo pk pv pz ck cv cz W q bj)
  have X9 := hide (fun W pk pv pz ck cv cz (bj : NB jo) (q : NA jo pk pv pz W) => copied2_any jo pk pv pz ck cv cz W q bj)
  rw [← hjo] at X7
  have HJO := hide hjo
  have HLM : Hid (gtv m key n = true → m.leaf = n.leaf) := fun q => by
    unfold gtv at q
    simp only [Bool.and_eq_true] at q
    simpa using q.1.1
  have HA2 := hide hA2
  have HP := hide hp
  have HG := hide hg2
  have HK := hide hk2
  have hz2 : w.heap.size < W2.heap.size := by omega
  have hz3 : W0.heap.size < W2.heap.size := by omega
  have hz4 : W1.heap.size < W2.heap.size := by omega
  clear HM HN hA hg hA1 hg1 hk1 hA2 hp hg2 hk2 hs0 hs1 hs2 hm hn bm bn hjo
  obtain ⟨c0, c1, c2, c3⟩ := box4 (unhide HG) (Below.refl _ _) hz2
  obtain ⟨d0, d1, d2, d3⟩ := box4 (unhide HK) (Below.refl _ _) hz3
  have x1 := hide (unhide X1 W2 (Below.refl _ _))
  generalize m.keys.length = k1 at *
  generalize m.vals.length = v1 at *
  generalize n.keys.length = k2 at *
  generalize n.vals.length = v2 at *
  generalize m.kids.length = z1 at *
  generalize n.kids.length = z2 at *
  generalize m.leaf = lm at *
  generalize n.leaf = ln at *
  go_enter Tryz.func41, Tryz.ntmps41
  go_wp2_with fail
  refine (unhide x1).mono ?_
  rintro e w1 ⟨rfl, b1⟩
  clear c0 c1 c2 c3 d0 d1 d2 d3 x1 hW0 hW1 hW2
  have B1 := hide b1
  cases f1 : mj m
  · clear b1
    have hjer : jer m key n = 100 := by unfold jer; rw [f1]; rfl
    have hjrs : jrs m key n = zro := by unfold jrs; rw [hjer]; rfl
    have hpE := ((unhide B1).block _ hz4).trans (unhide HP)
    have hbbE := (unhide HA2).trans ((unhide B1).mono (unhide HA2).size)
    have HPE := hide hpE
    have HBE := hide hbbE
    have HJE := hide (And.intro hjer hjrs)
    clear hpE hbbE hjer hjrs
    go_wp2_with (first | (refine wp_st25 rfl (.tmp 6) (.tmp 18) rfl W1.heap.size (by rfl) false none none none 0 0 0 0 0 0 (by rfl) _ rfl (unhide HPE) ?_) | fail)
    have h4 := setRow_heap _ _ _ #[.bool false, .slice none 0 0, .slice none 0 0, .slice none 0 0] 25 _ (unhide HPE)
    have oF := setRow_only w1 W1.heap.size #[.bool false, .slice none 0 0, .slice none 0 0, .slice none 0 0]
    have hX := unhide HX
    obtain ⟨hjer, hjrs⟩ := unhide HJE
    rw [hjer, hjrs]
    exact outN (p := 6) (q := 7) (v := I (100 : Nat)) rfl (by rfl) (by rfl) (by rfl) h4 ⟨.slice none 0 0, .slice none 0 0, .slice none 0 0, rfl, Rws.zro _ _, ⟨dsj_nil _, dsj_nil _, dsj_nil _⟩, oF.below (unhide HBE) (unhide HBE).size (fun i e => by omega)⟩
  obtain ⟨c0, c1, c2, c3⟩ := box4 (unhide HG) b1 hz2
  obtain ⟨d0, d1, d2, d3⟩ := box4 (unhide HK) b1 hz3
  have l1 := Nat.lt_of_lt_of_le hz2 b1.size
  have l2 := Nat.lt_of_lt_of_le hz3 b1.size
  have x2 := hide (unhide X2 w1 b1)
  clear b1
  go_wp2_with fail
  refine (unhide x2).mono ?_
  rintro e w2 ⟨rfl, b2⟩
  clear c0 c1 c2 c3 d0 d1 d2 d3 x2 l1 l2
  have b2 := (unhide B1).trans (b2.mono (unhide B1).size)
  have B2 := hide b2
  cases f2 : mj n
  · clear b2
    have hjer : jer m key n = 100 := by unfold jer; rw [f1, f2]; rfl
    have hjrs : jrs m key n = zro := by unfold jrs; rw [hjer]; rfl
    have hpE := ((unhide B2).block _ hz4).trans (unhide HP)
    have hbbE := (unhide HA2).trans ((unhide B2).mono (unhide HA2).size)
    have HPE := hide hpE
    have HBE := hide hbbE
    have HJE := hide (And.intro hjer hjrs)
    clear hpE hbbE hjer hjrs
    go_wp2_with (first | (refine wp_st25 rfl (.tmp 6) (.tmp 18) rfl W1.heap.size (by rfl) false none none none 0 0 0 0 0 0 (by rfl) _ rfl (unhide HPE) ?_) | fail)
    have h4 := setRow_heap _ _ _ #[.bool false, .slice none 0 0, .slice none 0 0, .slice none 0 0] 25 _ (unhide HPE)
    have oF := setRow_only w2 W1.heap.size #[.bool false, .slice none 0 0, .slice none 0 0, .slice none 0 0]
    have hX := unhide HX
    obtain ⟨hjer, hjrs⟩ := unhide HJE
    rw [hjer, hjrs]
    exact outN (p := 6) (q := 7) (v := I (100 : Nat)) rfl (by rfl) (by rfl) (by rfl) h4 ⟨.slice none 0 0, .slice none 0 0, .slice none 0 0, rfl, Rws.zro _ _, ⟨dsj_nil _, dsj_nil _, dsj_nil _⟩, oF.below (unhide HBE) (unhide HBE).size (fun i e => by omega)⟩
  obtain ⟨c0, c1, c2, c3⟩ := box4 (unhide HG) b2 hz2
  obtain ⟨d0, d1, d2, d3⟩ := box4 (unhide HK) b2 hz3
  have l1 := Nat.lt_of_lt_of_le hz2 b2.size
  have l2 := Nat.lt_of_lt_of_le hz3 b2.size
  have x3 := hide (unhide X3 w2 b2)
  clear b2
  go_wp2_with fail
  refine (unhide x3).mono ?_
  rintro e w3 ⟨rfl, nq, rfl⟩
  clear x3
  have B3 := hide (bel_q (unhide B2) nq)
  cases f3 : kok m.keys
  · clear c0 c1 c2 c3 d0 d1 d2 d3
    have hjer : jer m key n = 101 := by unfold jer; rw [f1, f2, f3]; rfl
    have hjrs : jrs m key n = zro := by unfold jrs; rw [hjer]; rfl
    have hpE := ((unhide B3).block _ hz4).trans (unhide HP)
    have hbbE := (unhide HA2).trans ((unhide B3).mono (unhide HA2).size)
    have HPE := hide hpE
    have HBE := hide hbbE
    have HJE := hide (And.intro hjer hjrs)
    clear hpE hbbE hjer hjrs
    go_wp2_with (first | (refine wp_st25 rfl (.tmp 6) (.tmp 34) rfl W1.heap.size (by rfl) false none none none 0 0 0 0 0 0 (by rfl) _ rfl (unhide HPE) ?_) | fail)
    have h4 := setRow_heap _ _ _ #[.bool false, .slice none 0 0, .slice none 0 0, .slice none 0 0] 25 _ (unhide HPE)
    have oF := setRow_only (w2.drewN nq) W1.heap.size #[.bool false, .slice none 0 0, .slice none 0 0, .slice none 0 0]
    have hX := unhide HX
    obtain ⟨hjer, hjrs⟩ := unhide HJE
    rw [hjer, hjrs]
    exact outN (p := 6) (q := 7) (v := I (101 : Nat)) rfl (by rfl) (by rfl) (by rfl) h4 ⟨.slice none 0 0, .slice none 0 0, .slice none 0 0, rfl, Rws.zro _ _, ⟨dsj_nil _, dsj_nil _, dsj_nil _⟩, oF.below (unhide HBE) (unhide HBE).size (fun i e => by omega)⟩
  have x4 := hide (unhide X4 _ (unhide B3))
  go_wp2_with fail
  refine (unhide x4).mono ?_
  rintro e w3 ⟨rfl, nr, rfl⟩
  clear x4
  have B4 : Hid (Below W2.heap.size W2 (w2.drewN (nq + nr))) := by
    have q := bel_q (unhide B3) nr
    rwa [World.drewN_drewN] at q
  cases f4 : kok n.keys
  · clear c0 c1 c2 c3 d0 d1 d2 d3
    have hjer : jer m key n = 101 := by unfold jer; rw [f1, f2, f3, f4]; rfl
    have hjrs : jrs m key n = zro := by unfold jrs; rw [hjer]; rfl
    have hpE := ((unhide B4).block _ hz4).trans (unhide HP)
    have hbbE := (unhide HA2).trans ((unhide B4).mono (unhide HA2).size)
    have HPE := hide hpE
    have HBE := hide hbbE
    have HJE := hide (And.intro hjer hjrs)
    clear hpE hbbE hjer hjrs
    go_wp2_with (first | (refine wp_st25 rfl (.tmp 6) (.tmp 34) rfl W1.heap.size (by rfl) false none none none 0 0 0 0 0 0 (by rfl) _ rfl (unhide HPE) ?_) | fail)
    have h4 := setRow_heap _ _ _ #[.bool false, .slice none 0 0, .slice none 0 0, .slice none 0 0] 25 _ (unhide HPE)
    have oF := setRow_only (w2.drewN (nq + nr)) W1.heap.size #[.bool false, .slice none 0 0, .slice none 0 0, .slice none 0 0]
    have hX := unhide HX
    obtain ⟨hjer, hjrs⟩ := unhide HJE
    rw [hjer, hjrs]
    exact outN (p := 6) (q := 7) (v := I (101 : Nat)) rfl (by rfl) (by rfl) (by rfl) h4 ⟨.slice none 0 0, .slice none 0 0, .slice none 0 0, rfl, Rws.zro _ _, ⟨dsj_nil _, dsj_nil _, dsj_nil _⟩, oF.below (unhide HBE) (unhide HBE).size (fun i e => by omega)⟩
  have x5 := hide (unhide X5 (w2.drewN (nq + nr)))
  go_wp2_with fail
  refine (unhide x5).mono ?_
  rintro e w3 ⟨rfl, rfl⟩
  clear x5
  cases f5 : noKey key
  rotate_left
  · clear c0 c1 c2 c3 d0 d1 d2 d3
    have hjer : jer m key n = 101 := by unfold jer; rw [f1, f2, f3, f4, f5]; rfl
    have hjrs : jrs m key n = zro := by unfold jrs; rw [hjer]; rfl
    have hpE := ((unhide B4).block _ hz4).trans (unhide HP)
    have hbbE := (unhide HA2).trans ((unhide B4).mono (unhide HA2).size)
    have HPE := hide hpE
    have HBE := hide hbbE
    have HJE := hide (And.intro hjer hjrs)
    clear hpE hbbE hjer hjrs
    go_wp2_with (first | (refine wp_st25 rfl (.tmp 6) (.tmp 34) rfl W1.heap.size (by rfl) false none none none 0 0 0 0 0 0 (by rfl) _ rfl (unhide HPE) ?_) | fail)
    have h4 := setRow_heap _ _ _ #[.bool false, .slice none 0 0, .slice none 0 0, .slice none 0 0] 25 _ (unhide HPE)
    have oF := setRow_only (w2.drewN (nq + nr)) W1.heap.size #[.bool false, .slice none 0 0, .slice none 0 0, .slice none 0 0]
    have hX := unhide HX
    obtain ⟨hjer, hjrs⟩ := unhide HJE
    rw [hjer, hjrs]
    exact outN (p := 6) (q := 7) (v := I (101 : Nat)) rfl (by rfl) (by rfl) (by rfl) h4 ⟨.slice none 0 0, .slice none 0 0, .slice none 0 0, rfl, Rws.zro _ _, ⟨dsj_nil _, dsj_nil _, dsj_nil _⟩, oF.below (unhide HBE) (unhide HBE).size (fun i e => by omega)⟩
  have x6 := hide (unhide X6 _ (unhide B4) f1 f2)
  go_wp2_with fail
  refine (unhide x6).mono ?_
  rintro e w4 ⟨rfl, b4⟩
  clear c0 c1 c2 c3 d0 d1 d2 d3 x6 l1 l2
  have b4 := (unhide B4).trans (b4.mono (unhide B4).size)
  have B5 := hide b4
  cases f6 : gtv m key n
  · clear b4
    have hjer : jer m key n = 103 := by unfold jer; rw [f1, f2, f3, f4, f5, f6]; rfl
    have hjrs : jrs m key n = zro := by unfold jrs; rw [hjer]; rfl
    have hpE := ((unhide B5).block _ hz4).trans (unhide HP)
    have hbbE := (unhide HA2).trans ((unhide B5).mono (unhide HA2).size)
    have HPE := hide hpE
    have HBE := hide hbbE
    have HJE := hide (And.intro hjer hjrs)
    clear hpE hbbE hjer hjrs
    go_wp2_with (first | (refine wp_st25 rfl (.tmp 6) (.tmp 41) rfl W1.heap.size (by rfl) false none none none 0 0 0 0 0 0 (by rfl) _ rfl (unhide HPE) ?_) | fail)
    have h4 := setRow_heap _ _ _ #[.bool false, .slice none 0 0, .slice none 0 0, .slice none 0 0] 25 _ (unhide HPE)
    have oF := setRow_only w4 W1.heap.size #[.bool false, .slice none 0 0, .slice none 0 0, .slice none 0 0]
    have hX := unhide HX
    obtain ⟨hjer, hjrs⟩ := unhide HJE
    rw [hjer, hjrs]
    exact outN (p := 6) (q := 7) (v := I (103 : Nat)) rfl (by rfl) (by rfl) (by rfl) h4 ⟨.slice none 0 0, .slice none 0 0, .slice none 0 0, rfl, Rws.zro _ _, ⟨dsj_nil _, dsj_nil _, dsj_nil _⟩, oF.below (unhide HBE) (unhide HBE).size (fun i e => by omega)⟩
  obtain ⟨c0, c1, c2, c3⟩ := box4 (unhide HG) b4 hz2
  obtain ⟨d0, d1, d2, d3⟩ := box4 (unhide HK) b4 hz3
  have l1 := Nat.lt_of_lt_of_le hz2 b4.size
  have l2 := Nat.lt_of_lt_of_le hz3 b4.size
  have x7 := hide (unhide X7 w4 b4 f1 f2 (unhide HLM f6))
  clear b4
  go_wp2_with fail
  refine (unhide x7).mono ?_
  rintro e w5 ⟨vK, vV, vI, rfl, r5, b5⟩
  clear c0 c1 c2 c3 d0 d1 d2 d3 x7 l1 l2
  have b5 := (unhide B5).trans (b5.mono (unhide B5).size)
  obtain ⟨pK, pV, pI, cK, cV, cI, rfl, rfl, rfl, -⟩ := r5.na
  have hq := heap_alloc_new w5 (.cells #[.bool false, .slice none 0 0, .slice none 0 0, .slice none 0 0] 25)
  have hb3 := (Below.refl w5.heap.size w5).alloc (Nat.le_refl _) (.cells #[.bool false, .slice none 0 0, .slice none 0 0, .slice none 0 0] 25)
  have ht := setRow_heap _ _ _ #[.bool jo.leaf, .slice pK jo.keys.length cK, .slice pV jo.vals.length cV, .slice pI jo.kids.length cI] 25 _ hq
  have hb4 := (setRow_only (w5.alloc (.cells #[.bool false, .slice none 0 0, .slice none 0 0, .slice none 0 0] 25)) w5.heap.size #[.bool jo.leaf, .slice pK jo.keys.length cK, .slice pV jo.vals.length cV, .slice pI jo.kids.length cI]).below hb3 hb3.size (fun k e => by omega)
  have HQ := hide hq
  clear hq hb3
  generalize hW3 : (w5.alloc (.cells #[.bool false, .slice none 0 0, .slice none 0 0, .slice none 0 0] 25)).setRow w5.heap.size #[.bool jo.leaf, .slice pK jo.keys.length cK, .slice pV jo.vals.length cV, .slice pI jo.kids.length cI] = W6 at ht hb4
  have HW3 := hide hW3
  have b6 := b5.trans (hb4.mono b5.size)
  have B6 := hide b6
  have r6 := r5.below hb4
  have hna : ∀ {W : World}, Below W6.heap.size W6 W → NA jo pK pV pI W := fun {W} q => by
    obtain ⟨p, p', p'', c, c', c'', e1, e2, e3, s⟩ := (r6.below q).na
    cases e1
    cases e2
    cases e3
    exact s
  have hjb : NB jo := by rw [unhide HJO]; exact jn_nb f1 f2 f5
  have x8 := hide (unhide X8 W6 pK pV pI cK cV cI hjb (hna (Below.refl _ _)))
  have X9' := hide (fun W (q : Below W6.heap.size W6 W) => unhide X9 W pK pV pI cK cV cI hjb (hna q))
  have hsz := siz_le hjb
  clear hjb
  obtain ⟨c0, c1, c2, c3⟩ := box4 ht (Below.refl _ _) (lt_of_row ht)
  have hl6 := lt_of_row ht
  have HT6 := hide ht
  unfold nda at x8 X9'
  have hl1 : W1.heap.size < W6.heap.size := Nat.lt_of_lt_of_le hz4 b6.size
  have HP6 := hide ((b6.block _ hz4).trans (unhide HP))
  clear r5 r6 b5 hb4 hW3 hna ht b6 X8 X9
  generalize hkl : jo.keys.length = kl at *
  generalize hvl : jo.vals.length = vl at *
  generalize hil : jo.kids.length = il at *
  generalize hjl : jo.leaf = jl at *
  have HKL := hide (And.intro hkl (And.intro hvl (And.intro hil hjl)))
  clear hkl hvl hil hjl
  go_wp2_with (first | (refine wp_st25 rfl (.tmp 8) (.tmp 45) rfl w5.heap.size (by rfl) jl pK pV pI kl cK vl cV il cI (by rfl) _ rfl (unhide HQ) ?_; rw [unhide HW3]) | fail)
  refine (unhide x8).mono ?_
  rintro e w7 ⟨rfl, b7⟩
  clear c0 c1 c2 c3 HQ HW3 x8
  obtain ⟨c0, c1, c2, c3⟩ := box4 (unhide HT6) b7 hl6
  have x9 := hide (unhide X9' w7 b7)
  have hl7 := Nat.lt_of_lt_of_le hl6 b7.size
  have HP7 := hide ((b7.block _ hl1).trans (unhide HP6))
  have B7 := hide ((unhide B6).trans (b7.mono (unhide B6).size))
  clear b7 X9'
  by_cases hf : 718 < jo.siz
  · have h' : decide ((718 : Int) < (jo.siz : Int)) = true := by rw [decide_eq_true_eq]; omega
    have h'' : (718 : Int) < (jo.siz : Int) := by omega
    clear c0 c1 c2 c3 x9
    have hjer : jer m key n = 102 := by unfold jer; rw [f1, f2, f3, f4, f5, f6, ← unhide HJO]; exact if_pos hf
    have hjrs : jrs m key n = zro := by unfold jrs; rw [hjer]; rfl
    have hpE := ((unhide B7).block _ hz4).trans (unhide HP)
    have hbbE := (unhide HA2).trans ((unhide B7).mono (unhide HA2).size)
    have HPE := hide hpE
    have HBE := hide hbbE
    have HJE := hide (And.intro hjer hjrs)
    clear hpE hbbE hjer hjrs
    go_wp2_with (first | (refine wp_st25 rfl (.tmp 6) (.tmp 49) rfl W1.heap.size (by rfl) false none none none 0 0 0 0 0 0 (by rfl) _ rfl (unhide HPE) ?_) | fail)
    have h4 := setRow_heap _ _ _ #[.bool false, .slice none 0 0, .slice none 0 0, .slice none 0 0] 25 _ (unhide HPE)
    have oF := setRow_only w7 W1.heap.size #[.bool false, .slice none 0 0, .slice none 0 0, .slice none 0 0]
    have hX := unhide HX
    obtain ⟨hjer, hjrs⟩ := unhide HJE
    rw [hjer, hjrs]
    exact outN (p := 6) (q := 7) (v := I (102 : Nat)) rfl (by rfl) (by rfl) (by rfl) h4 ⟨.slice none 0 0, .slice none 0 0, .slice none 0 0, rfl, Rws.zro _ _, ⟨dsj_nil _, dsj_nil _, dsj_nil _⟩, oF.below (unhide HBE) (unhide HBE).size (fun i e => by omega)⟩
  have h' : decide ((718 : Int) < (jo.siz : Int)) = false := by rw [decide_eq_false_iff_not]; omega
  have h'' : ¬ (718 : Int) < (jo.siz : Int) := by omega
  have HJR : Hid (jer m key n = 0 ∧ jrs m key n = jo) := by
    have q : jer m key n = 0 := by unfold jer; rw [f1, f2, f3, f4, f5, f6, ← unhide HJO]; exact if_neg hf
    exact ⟨q, by unfold jrs; rw [q, unhide HJO]; rfl⟩
  go_wp2_with fail
  refine (unhide x9).mono ?_
  rintro e w8 ⟨vK, vV, vI, rfl, r8, ap8, b8⟩
  obtain ⟨qK, qV, qI, dK, dV, dI, rfl, rfl, rfl, -⟩ := r8.na
  have hp8 := (b8.block _ (lt_of_row (unhide HP7))).trans (unhide HP7)
  have HP8 := hide hp8
  have R8 := hide r8
  have AP8 := hide ap8
  have B8 := hide ((unhide B7).trans (b8.mono (unhide B7).size))
  have hS7 := (unhide B7).size
  obtain ⟨hkl, hvl, hil, hjl⟩ := unhide HKL
  rw [hkl, hvl, hil] at *
  clear r8 ap8 b8 hp8 c0 c1 c2 c3 x9 hkl hvl hil hjl
  go_wp2_with (first | (refine wp_st25 rfl (.tmp 6) (.tmp 51) rfl W1.heap.size (by rfl) jl qK qV qI kl dK vl dV il dI (by rfl) _ rfl (unhide HP8) ?_) | fail)
  have h4 := setRow_heap _ _ _ #[.bool jl, .slice qK kl dK, .slice qV vl dV, .slice qI il dI] 25 _ (unhide HP8)
  have oF := setRow_only w8 W1.heap.size #[.bool jl, .slice qK kl dK, .slice qV vl dV, .slice qI il dI]
  have hX := unhide HX
  have hbb := (unhide HA2).trans ((unhide B8).mono (unhide HA2).size)
  obtain ⟨rfl, rfl, rfl, rfl⟩ := unhide HKL
  rw [(unhide HJR).1, (unhide HJR).2]
  refine outN (p := 6) (q := 7) (v := I 0) rfl (by rfl) (by rfl) (by rfl) h4 ⟨_, _, _, rfl, ((unhide R8).only oF (fun k e => by omega)).mono (by omega), unhide AP8, oF.below hbb hbb.size (fun i e => by omega)⟩
end Go.Proofs.YtllialbdofklgaaGreatDoor
