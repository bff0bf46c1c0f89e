import Derived.Test.YtllialbdofklgaaGreatDoorZnfd
import Derived.Test.YtllialbdofklgaaGreatDoorZndm
namespace Go.Proofs.YtllialbdofklgaaGreatDoor
open Go.RowKit
set_option maxHeartbeats 16000000
set_option maxRecDepth 8000
theorem part_leaf (g1 o1 g2 o2 m kc vc : Nat) (ia : Option Addr) (il ic f t : Nat) (w : World) (h1 : f < t) (h2 : t ≤ m) (h3 : m ≤ kc) (h4 : m ≤ vc) :
    Calls Tryz.prog 99 #[.agg #[.bool true, .slice (some ⟨g1, o1, none⟩) m kc, .slice (some ⟨g2, o2, none⟩) m vc, .slice ia il ic], I f, I t] w fun e w' => e = .returned (.agg #[.bool true, .slice (some ⟨g1, o1 + f, none⟩) (t - f) (t - f), .slice (some ⟨g2, o2 + f, none⟩) (t - f) (t - f), .slice none 0 0]) ∧ Below w.heap.size w w' := by
  have hA := (Below.refl w.heap.size w).alloc (Nat.le_refl _) (.cells #[.bool true, .slice (some ⟨g1, o1, none⟩) m kc, .slice (some ⟨g2, o2, none⟩) m vc, .slice ia il ic] 25)
  have hg := heap_alloc_new w (.cells #[.bool true, .slice (some ⟨g1, o1, none⟩) m kc, .slice (some ⟨g2, o2, none⟩) m vc, .slice ia il ic] 25)
  have hs1 := size_alloc w (.cells #[.bool true, .slice (some ⟨g1, o1, none⟩) m kc, .slice (some ⟨g2, o2, none⟩) m vc, .slice ia il ic] 25)
  generalize hW1 : w.alloc (.cells #[.bool true, .slice (some ⟨g1, o1, none⟩) m kc, .slice (some ⟨g2, o2, none⟩) m vc, .slice ia il ic] 25) = W1 at hA hg hs1
  have hA2 := hA.alloc hA.size (.cells #[.bool false, .slice none 0 0, .slice none 0 0, .slice none 0 0] 25)
  have hp := heap_alloc_new W1 (.cells #[.bool false, .slice none 0 0, .slice none 0 0, .slice none 0 0] 25)
  have hg2 := (alloc_old W1 (.cells #[.bool false, .slice none 0 0, .slice none 0 0, .slice none 0 0] 25) (lt_of_row hg)).trans hg
  have hs2 := size_alloc W1 (.cells #[.bool false, .slice none 0 0, .slice none 0 0, .slice none 0 0] 25)
  generalize hW2 : W1.alloc (.cells #[.bool false, .slice none 0 0, .slice none 0 0, .slice none 0 0] 25) = W2 at hA2 hp hg2 hs2
  have HA2 := hide hA2
  have hsw : w.heap.size ≤ W1.heap.size := by omega
  have HP := hide hp
  have hz2 := lt_of_row hg2
  have hz3 := lt_of_row hp
  obtain ⟨c0, c1, c2, c3⟩ := box4 hg2 (Below.refl _ _) hz2
  have y0 := frz hp 0
  have y1 := frz hp 1
  have y2 := frz hp 2
  have y3 := frz hp 3
  obtain ⟨d0, d1, d2, d3⟩ := box4 hp (Below.refl _ _) hz3
  clear hA hg hs1 hs2 hA2 hp hg2
  have q1 : t ≤ kc := by omega
  have q2 : f ≤ t := by omega
  have q3 : ¬ t = f := by omega
  have q4 : t ≤ vc := by omega
  go_enter Tryz.func99, Tryz.ntmps99
  go_wp2
  go_region_law (fail)
  all_goals (
    clear c0 c1 c2 c3 d0 d1 d2 d3 y0 y1 y2 y3
    go_wp2
    refine outN1 (p := 6) rfl (by rfl) (by rfl) (set4 (unhide HP) rfl _ _ _ _) ⟨rfl, ?_⟩
    exact ((set4_only W2 W1.heap.size _ _ _ _).below (unhide HA2) (unhide HA2).size (fun k e => by rw [e]; omega)).drew)
theorem part_inner (g1 o1 g3 o3 m kc ic : Nat) (va : Option Addr) (vl vc f t : Nat) (w : World) (h1 : f < t) (h2 : t ≤ m) (h3 : m ≤ kc) (h4 : m + 1 ≤ ic) (h6 : ic ≤ 9223372036854775807) :
    Calls Tryz.prog 99 #[.agg #[.bool false, .slice (some ⟨g1, o1, none⟩) m kc, .slice va vl vc, .slice (some ⟨g3, o3, none⟩) (m + 1) ic], I f, I t] w fun e w' => e = .returned (.agg #[.bool false, .slice (some ⟨g1, o1 + f, none⟩) (t - f) (t - f), .slice none 0 0, .slice (some ⟨g3, o3 + f, none⟩) (t + 1 - f) (t + 1 - f)]) ∧ Below w.heap.size w w' := by
  have hA := (Below.refl w.heap.size w).alloc (Nat.le_refl _) (.cells #[.bool false, .slice (some ⟨g1, o1, none⟩) m kc, .slice va vl vc, .slice (some ⟨g3, o3, none⟩) (m + 1) ic] 25)
  have hg := heap_alloc_new w (.cells #[.bool false, .slice (some ⟨g1, o1, none⟩) m kc, .slice va vl vc, .slice (some ⟨g3, o3, none⟩) (m + 1) ic] 25)
  have hs1 := size_alloc w (.cells #[.bool false, .slice (some ⟨g1, o1, none⟩) m kc, .slice va vl vc, .slice (some ⟨g3, o3, none⟩) (m + 1) ic] 25)
  generalize hW1 : w.alloc (.cells #[.bool false, .slice (some ⟨g1, o1, none⟩) m kc, .slice va vl vc, .slice (some ⟨g3, o3, none⟩) (m + 1) ic] 25) = W1 at hA hg hs1
  have hA2 := hA.alloc hA.size (.cells #[.bool false, .slice none 0 0, .slice none 0 0, .slice none 0 0] 25)
  have hp := heap_alloc_new W1 (.cells #[.bool false, .slice none 0 0, .slice none 0 0, .slice none 0 0] 25)
  have hg2 := (alloc_old W1 (.cells #[.bool false, .slice none 0 0, .slice none 0 0, .slice none 0 0] 25) (lt_of_row hg)).trans hg
  have hs2 := size_alloc W1 (.cells #[.bool false, .slice none 0 0, .slice none 0 0, .slice none 0 0] 25)
  generalize hW2 : W1.alloc (.cells #[.bool false, .slice none 0 0, .slice none 0 0, .slice none 0 0] 25) = W2 at hA2 hp hg2 hs2
  have HA2 := hide hA2
  have hsw : w.heap.size ≤ W1.heap.size := by omega
  have HP := hide hp
  have hz2 := lt_of_row hg2
  have hz3 := lt_of_row hp
  obtain ⟨c0, c1, c2, c3⟩ := box4 hg2 (Below.refl _ _) hz2
  have y0 := frz hp 0
  have y1 := frz hp 1
  have y2 := frz hp 2
  have y3 := frz hp 3
  obtain ⟨d0, d1, d2, d3⟩ := box4 hp (Below.refl _ _) hz3
  clear hA hg hs1 hs2 hA2 hp hg2
  have q1 : t ≤ kc := by omega
  have q2 : f ≤ t := by omega
  have q3 : ¬ t = f := by omega
  have hwr : IntKind.i64.wrap ((t : Int) + 1) = ((t + 1 : Nat) : Int) := by rw [IntKind.wrap_i64]; omega
  have q4 : t + 1 ≤ ic := by omega
  have q5 : f ≤ t + 1 := by omega
  have q6 : ¬ t + 1 = f := by omega
  generalize t + 1 = T at *
  go_enter Tryz.func99, Tryz.ntmps99
  go_wp2
  go_region_law (fail)
  all_goals (
    clear c0 c1 c2 c3 d0 d1 d2 d3 y0 y1 y2 y3
    go_wp2
    refine outN1 (p := 6) rfl (by rfl) (by rfl) (set4 (unhide HP) rfl _ _ _ _) ⟨rfl, ?_⟩
    exact ((set4_only W2 W1.heap.size _ _ _ _).below (unhide HA2) (unhide HA2).size (fun k e => by rw [e]; omega)).drew)
end Go.Proofs.YtllialbdofklgaaGreatDoor
