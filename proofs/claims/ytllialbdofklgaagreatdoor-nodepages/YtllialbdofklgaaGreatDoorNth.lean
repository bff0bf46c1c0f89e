import Derived.Test.YtllialbdofklgaaGreatDoorZnpb
import Derived.Test.YtllialbdofklgaaGreatDoorNpr
namespace Go.Proofs.YtllialbdofklgaaGreatDoor
open Go.RowKit
set_option linter.unusedVariables false
set_option linter.unusedSimpArgs false
set_option maxHeartbeats 16000000
set_option maxRecDepth 8000
theorem refParse_nil (k : Int) (nu bi : Int) (la : Option Addr) (ln lc : Nat) (L : List Int) (w : World) (hL : Ins w la ln L) (hLn : ln ≤ 4294967296) (z : la = none → lc = 0) :
    Calls Tryz.prog 47 #[.agg #[I k, I nu, I bi, .slice la ln lc, S []]] w fun e w' => ∃ vK vV vI, e = .returned (.tuple #[.agg #[.bool (prs k L []).leaf, vK, vV, vI], I (per k L [])]) ∧ Rws w.heap.size (prs k L []) vK vV vI w' ∧ Below w.heap.size w w' := by
  have hA0 := (Below.refl w.heap.size w).alloc (Nat.le_refl _) (.cells #[I k, I nu, I bi, .slice la ln lc, S []] 27)
  have hg := heap_alloc_new w (.cells #[I k, I nu, I bi, .slice la ln lc, S []] 27)
  have hs0 := size_alloc w (.cells #[I k, I nu, I bi, .slice la ln lc, S []] 27)
  generalize hW0 : w.alloc (.cells #[I k, I nu, I bi, .slice la ln lc, S []] 27) = W0 at hA0 hg hs0
  have hA2 := hA0.alloc hA0.size (.cells #[.bool false, .slice none 0 0, .slice none 0 0, .slice none 0 0] 25)
  have hp := heap_alloc_new W0 (.cells #[.bool false, .slice none 0 0, .slice none 0 0, .slice none 0 0] 25)
  have hg2 := (alloc_old W0 (.cells #[.bool false, .slice none 0 0, .slice none 0 0, .slice none 0 0] 25) (lt_of_row hg)).trans hg
  have hs1 := size_alloc W0 (.cells #[.bool false, .slice none 0 0, .slice none 0 0, .slice none 0 0] 25)
  generalize hW1 : W0.alloc (.cells #[.bool false, .slice none 0 0, .slice none 0 0, .slice none 0 0] 25) = W1 at hA2 hp hg2 hs1
  have HA := hide hA2
  have HP := hide hp
  have HG := hide hg2
  have HX := hide (show W0.heap.size = w.heap.size + 1 ∧ W1.heap.size = W0.heap.size + 1 from ⟨hs0, hs1⟩)
  have HIL := hide (fun W (q : Below W1.heap.size W1 W) => (hL.below hA2).below q)
  have HZ := hide z
  have hz : w.heap.size < W1.heap.size := by omega
  have hz1 : W0.heap.size < W1.heap.size := by omega
  obtain ⟨c0, c1, c2, c3, c4⟩ := box5 hg2 (Below.refl _ _) hz
  clear hA0 hg hs0 hA2 hp hg2 hs1 hL z
  go_enter Tryz.func47, Tryz.ntmps47
  have hpk : pok k L [] = false := pok_nil k L
  have hprs : prs k L [] = zro := by unfold prs; rw [hpk]; rfl
  have hper : per k L [] = 100 := by unfold per; rw [hpk]; rfl
  have hpE := ((Below.refl W1.heap.size W1).block _ hz1).trans (unhide HP)
  have hbbE := (unhide HA).trans ((Below.refl W1.heap.size W1).mono (unhide HA).size)
  have HPE := hide hpE
  have HBE := hide hbbE
  have HJE := hide (And.intro hper hprs)
  clear hpE hbbE hper hprs hpk
  go_wp2_with (first | (refine wp_st25 rfl (.tmp 2) (.tmp 27) rfl W0.heap.size (by rfl) false none none none 0 0 0 0 0 0 (by rfl) _ rfl (unhide HPE) ?_) | fail)
  have h4 := setRow_heap _ _ _ #[.bool false, .slice none 0 0, .slice none 0 0, .slice none 0 0] 25 _ (unhide HPE)
  have oF := setRow_only W1 W0.heap.size #[.bool false, .slice none 0 0, .slice none 0 0, .slice none 0 0]
  have hX := unhide HX
  obtain ⟨hper, hprs⟩ := unhide HJE
  rw [hper, hprs]
  exact outN (p := 2) (q := 3) (v := I (100 : Nat)) rfl (by rfl) (by rfl) (by rfl) h4 ⟨.slice none 0 0, .slice none 0 0, .slice none 0 0, rfl, Rws.zro _ _, oF.below (unhide HBE) (unhide HBE).size (fun i e => by omega)⟩
theorem refParse_kind (k : Int) (c : UInt8) (tl : Bs) (h1 : k ≠ 1) (h2 : k ≠ 2) (nu bi : Int) (la : Option Addr) (ln lc : Nat) (L : List Int) (w : World) (hL : Ins w la ln L) (hLn : ln ≤ 4294967296) (z : la = none → lc = 0) :
    Calls Tryz.prog 47 #[.agg #[I k, I nu, I bi, .slice la ln lc, S (c :: tl)]] w fun e w' => ∃ vK vV vI, e = .returned (.tuple #[.agg #[.bool (prs k L (c :: tl)).leaf, vK, vV, vI], I (per k L (c :: tl))]) ∧ Rws w.heap.size (prs k L (c :: tl)) vK vV vI w' ∧ Below w.heap.size w w' := by
  have hA0 := (Below.refl w.heap.size w).alloc (Nat.le_refl _) (.cells #[I k, I nu, I bi, .slice la ln lc, S (c :: tl)] 27)
  have hg := heap_alloc_new w (.cells #[I k, I nu, I bi, .slice la ln lc, S (c :: tl)] 27)
  have hs0 := size_alloc w (.cells #[I k, I nu, I bi, .slice la ln lc, S (c :: tl)] 27)
  generalize hW0 : w.alloc (.cells #[I k, I nu, I bi, .slice la ln lc, S (c :: tl)] 27) = W0 at hA0 hg hs0
  have hA2 := hA0.alloc hA0.size (.cells #[.bool false, .slice none 0 0, .slice none 0 0, .slice none 0 0] 25)
  have hp := heap_alloc_new W0 (.cells #[.bool false, .slice none 0 0, .slice none 0 0, .slice none 0 0] 25)
  have hg2 := (alloc_old W0 (.cells #[.bool false, .slice none 0 0, .slice none 0 0, .slice none 0 0] 25) (lt_of_row hg)).trans hg
  have hs1 := size_alloc W0 (.cells #[.bool false, .slice none 0 0, .slice none 0 0, .slice none 0 0] 25)
  generalize hW1 : W0.alloc (.cells #[.bool false, .slice none 0 0, .slice none 0 0, .slice none 0 0] 25) = W1 at hA2 hp hg2 hs1
  have HA := hide hA2
  have HP := hide hp
  have HG := hide hg2
  have HX := hide (show W0.heap.size = w.heap.size + 1 ∧ W1.heap.size = W0.heap.size + 1 from ⟨hs0, hs1⟩)
  have HIL := hide (fun W (q : Below W1.heap.size W1 W) => (hL.below hA2).below q)
  have HZ := hide z
  have hz : w.heap.size < W1.heap.size := by omega
  have hz1 : W0.heap.size < W1.heap.size := by omega
  obtain ⟨c0, c1, c2, c3, c4⟩ := box5 hg2 (Below.refl _ _) hz
  clear hA0 hg hs0 hA2 hp hg2 hs1 hL z
  have h3 : ¬ ((c :: tl : Bs) = []) := by simp
  have h4 : ((c :: tl : Bs) == []) = false := by simp
  have h5 : (k == 1) = false := by simp [h1]
  have h6 : (k == 2) = false := by simp [h2]
  have h7 : (k != 1) = true := by simp [h1]
  have h8 : (k != 2) = true := by simp [h2]
  go_enter Tryz.func47, Tryz.ntmps47
  have hpk : pok k L (c :: tl) = false := pok_kind h1 h2
  have hprs : prs k L (c :: tl) = zro := by unfold prs; rw [hpk]; rfl
  have hper : per k L (c :: tl) = 100 := by unfold per; rw [hpk]; rfl
  have hpE := ((Below.refl W1.heap.size W1).block _ hz1).trans (unhide HP)
  have hbbE := (unhide HA).trans ((Below.refl W1.heap.size W1).mono (unhide HA).size)
  have HPE := hide hpE
  have HBE := hide hbbE
  have HJE := hide (And.intro hper hprs)
  clear hpE hbbE hper hprs hpk
  go_wp2_with (first | (refine wp_st25 rfl (.tmp 2) (.tmp 27) rfl W0.heap.size (by rfl) false none none none 0 0 0 0 0 0 (by rfl) _ rfl (unhide HPE) ?_) | fail)
  have h4 := setRow_heap _ _ _ #[.bool false, .slice none 0 0, .slice none 0 0, .slice none 0 0] 25 _ (unhide HPE)
  have oF := setRow_only W1 W0.heap.size #[.bool false, .slice none 0 0, .slice none 0 0, .slice none 0 0]
  have hX := unhide HX
  obtain ⟨hper, hprs⟩ := unhide HJE
  rw [hper, hprs]
  exact outN (p := 2) (q := 3) (v := I (100 : Nat)) rfl (by rfl) (by rfl) (by rfl) h4 ⟨.slice none 0 0, .slice none 0 0, .slice none 0 0, rfl, Rws.zro _ _, oF.below (unhide HBE) (unhide HBE).size (fun i e => by omega)⟩
end Go.Proofs.YtllialbdofklgaaGreatDoor
