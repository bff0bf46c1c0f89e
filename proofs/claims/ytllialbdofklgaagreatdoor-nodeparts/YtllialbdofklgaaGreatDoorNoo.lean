import Derived.Test.YtllialbdofklgaaGreatDoorZnfi
import Derived.Test.YtllialbdofklgaaGreatDoorNok
import Derived.Test.YtllialbdofklgaaGreatDoorZndn
namespace Go.Proofs.YtllialbdofklgaaGreatDoor
open Go.RowKit
set_option maxHeartbeats 16000000
set_option maxRecDepth 8000
theorem goTogether_inner (m n : Nd) (ka va ia kb vb ib : Option Addr) (kc vc ic kd vd id : Nat) (key : Bs) (w : World) (hm : NA m ka va ia w) (hn : NA n kb vb ib w) (lm : m.leaf = false) (ln : n.leaf = false) (p1 : 0 < m.keys.length) (p2 : 0 < n.keys.length) (p3 : 0 < m.kids.length) (p4 : 0 < n.kids.length) (b1 : m.keys.length ≤ 4294967296) (b2 : n.keys.length ≤ 4294967296) (b3 : m.kids.length ≤ 1073741824) (b4 : n.kids.length ≤ 1073741824)
    (h1 : m.keys.getD (m.keys.length - 1) [] < key) (h2 : key < n.keys.getD 0 []) (hu : unl (m.kids ++ n.kids) = true) :
    Calls Tryz.prog 72 #[nda m ka va ia kc vc ic, S key, nda n kb vb ib kd vd id] w fun e w' => e = .returned (.bool true) ∧ Below w.heap.size w w' := by
  have hA := (Below.refl w.heap.size w).alloc (Nat.le_refl _) (.cells #[.bool m.leaf, .slice ka m.keys.length kc, .slice va m.vals.length vc, .slice ia m.kids.length ic] 25)
  have hA2 := hA.alloc hA.size (.cells #[.bool n.leaf, .slice kb n.keys.length kd, .slice vb n.vals.length vd, .slice ib n.kids.length id] 25)
  obtain ⟨g1, o1, e1, q1, c1⟩ := (hm.ks.below hA2).at (show m.keys.length - 1 < m.keys.length by omega)
  obtain ⟨g2, o2, e2, q2, c2⟩ := (hn.ks.below hA2).at p2
  obtain ⟨g3, o3, e3, -⟩ := hm.is.2 p3
  obtain ⟨g4, o4, e4, -⟩ := hn.is.2 p4
  subst e1 e2 e3 e4
  rw [Nat.add_zero] at c2
  have s1 := fun W => run_geq (m.keys.getD (m.keys.length - 1) []) key W
  rw [show decide (¬ m.keys.getD (m.keys.length - 1) [] < key) = false from decide_eq_false (fun q => q h1)] at s1
  have s2 := fun W => run_gtr (n.keys.getD 0 []) key W
  rw [show decide (key < n.keys.getD 0 []) = true from decide_eq_true h2] at s2
  have HA := hide hA2
  have HI1 := hide (hm.is.below hA2)
  have HI2 := hide (hn.is.below hA2)
  have hl1 := hm.is.1
  have hl2 := hn.is.1
  clear hA hA2 hm hn h1 h2
  generalize m.keys.getD (m.keys.length - 1) [] = x at *
  generalize n.keys.getD 0 [] = y at *
  unfold nda
  rw [lm, ln] at *
  generalize m.keys.length = kl at *
  generalize m.vals.length = vl at *
  generalize n.keys.length = kl2 at *
  generalize n.vals.length = vl2 at *
  generalize hm1 : m.kids.length = il at *
  generalize hm2 : n.kids.length = il2 at *
  generalize m.kids = zs at *
  generalize n.kids = us at *
  clear lm ln m n
  have p1' : (0 : Int) < (kl : Int) := by omega
  have p1'' : decide ((0 : Int) < (kl : Int)) = true := by rw [decide_eq_true_eq]; omega
  have p2'' : (0 : Int) < (kl2 : Int) := by omega
  obtain ⟨kk, rfl⟩ : ∃ kk, kl = kk + 1 := ⟨kl - 1, by omega⟩
  rw [Nat.add_sub_cancel] at c1
  have hVs : ((w.alloc (.cells #[.bool false, .slice (some ⟨g1, o1, none⟩) (kk + 1) kc, .slice va vl vc, .slice (some ⟨g3, o3, none⟩) il ic] 25)).alloc (.cells #[.bool false, .slice (some ⟨g2, o2, none⟩) kl2 kd, .slice vb vl2 vd, .slice (some ⟨g4, o4, none⟩) il2 id] 25)).heap.size = w.heap.size + 1 + 1 := by simp
  have hVg := heap_alloc_new ((w.alloc (.cells #[.bool false, .slice (some ⟨g1, o1, none⟩) (kk + 1) kc, .slice va vl vc, .slice (some ⟨g3, o3, none⟩) il ic] 25)).alloc (.cells #[.bool false, .slice (some ⟨g2, o2, none⟩) kl2 kd, .slice vb vl2 vd, .slice (some ⟨g4, o4, none⟩) il2 id] 25)) (.cells #[.slice (some ⟨g3, o3, none⟩) il ic, .slice (some ⟨g4, o4, none⟩) il2 id] 23)
  rw [hVs] at hVg
  have hVb := (Below.refl ((w.alloc (.cells #[.bool false, .slice (some ⟨g1, o1, none⟩) (kk + 1) kc, .slice va vl vc, .slice (some ⟨g3, o3, none⟩) il ic] 25)).alloc (.cells #[.bool false, .slice (some ⟨g2, o2, none⟩) kl2 kd, .slice vb vl2 vd, .slice (some ⟨g4, o4, none⟩) il2 id] 25)).heap.size ((w.alloc (.cells #[.bool false, .slice (some ⟨g1, o1, none⟩) (kk + 1) kc, .slice va vl vc, .slice (some ⟨g3, o3, none⟩) il ic] 25)).alloc (.cells #[.bool false, .slice (some ⟨g2, o2, none⟩) kl2 kd, .slice vb vl2 vd, .slice (some ⟨g4, o4, none⟩) il2 id] 25))).alloc (Nat.le_refl _) (.cells #[.slice (some ⟨g3, o3, none⟩) il ic, .slice (some ⟨g4, o4, none⟩) il2 id] 23)
  have HC := hide (concatI2 (w.heap.size + 1 + 1) g3 o3 il ic g4 o4 il2 id zs us _ hVg ((unhide HI1).below hVb) ((unhide HI2).below hVb) (by omega) (by omega))
  have HVB := hide ((unhide HA).trans (hVb.mono (unhide HA).size))
  have hzl : il + il2 = (zs ++ us).length := by rw [List.length_append]; omega
  have HZL := hide hzl
  clear hVs hVg hVb hzl HI1 HI2 hl1 hl2 hm1 hm2
  go_enter Tryz.func72, Tryz.ntmps72
  go_wp2_with fail
  refine (unhide HC).mono ?_
  rintro e w3 ⟨V, rfl, r, o, b⟩
  rw [unhide HZL] at r
  obtain ⟨p, cap, rfl, hI, -⟩ := Ins.of r
  have HU := hide (areUnlike_any p _ cap (zs ++ us) w3 hI (by have := unhide HZL; omega) (by have := unhide HZL; omega))
  rw [hu] at HU
  have HB := hide ((unhide HVB).trans (b.mono (unhide HVB).size))
  generalize (zs ++ us).length = zl at *
  clear r o b hI HC HVB
  go_wp2_with fail
  refine (unhide HU).mono ?_
  rintro e w4 ⟨rfl, b⟩
  have HB4 := hide ((unhide HB).trans (b.mono (unhide HB).size))
  clear b
  go_wp2
  go_ret
  exact ⟨ret_bool (by first | rfl | simp), unhide HB4⟩
end Go.Proofs.YtllialbdofklgaaGreatDoor
