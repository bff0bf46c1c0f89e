import Derived.Test.YtjopnhhdemfniaaGreatDoorPit
namespace Go.Proofs.YtjopnhhdemfniaaGreatDoor
open Go.RowKit
set_option maxHeartbeats 8000000
set_option maxRecDepth 8000
theorem awake_any (w : World) : Calls Tryz.prog 11 #[] w fun e w' => e = .returned (.bool true) ∧ Below w.heap.size w w' := by
  have K0 := hide (aw_new w)
  have K1 := hide (fun W => note9_any 1 W)
  have K2 := hide (fun W => note9_any 2 W)
  have K3 := hide (fun W D vw vl (q : DAt D dA vw vl W) => aw_fmt q)
  have K6 := hide (fun W P D vw vl vu g (q : PD P D dB qA vw vl vu W) (hst : ∀ W', Only (POf P D vw vl vu) W W' → W'.heap[g]? = some (.cells #[I 1, I 2, I 0, .slice none 0 0, S [97]] 24 (0, 0))) => aw_com q g hst)
  have K12 := hide (fun W P D vw vl vu (q : PD P D dC qB vw vl vu W) => aw_note q)
  generalize nte 1 = n1 at *
  generalize nte 2 = n2 at *
  go_enter Tryz.func11, Tryz.ntmps11
  go_wp2_with fail
  refine (unhide K0).mono ?_
  rintro e w1 ⟨D, VL, rfl, d1, o1, b1⟩
  have HD1 := hide d1
  have HO1 := hide o1
  have HB1 := hide b1
  clear d1 o1 b1 K0
  go_wp2_with fail
  refine (unhide K1 _).mono ?_
  rintro e w2 ⟨rfl, b2⟩
  have HD2 := hide ((unhide HD1).below b2)
  have HB2 := hide ((unhide HB1).trans (b2.mono (unhide HB1).size))
  clear b2 K1
  go_wp2_with fail
  refine (unhide K3 _ D (.slice none 0 0) VL (unhide HD2)).mono ?_
  rintro e w3 ⟨rfl, vw3, d3, o3, n3⟩
  have hO3 : ∀ k, Of D vw3 VL k → w.heap.size ≤ k := fun k hk => by
    rcases hk with q | q | q
    · exact unhide HO1 k (.inl q)
    · rcases n3 k q with r | r
      · cases r
      · exact Nat.le_trans (unhide HB2).size r
    · exact unhide HO1 k (.inr (.inr q))
  have HO3 := hide hO3
  have HD3 := hide d3
  have HB3 := hide (o3.below (unhide HB2) (unhide HB2).size (fun k hk => unhide HO1 k hk))
  clear d3 o3 n3 hO3 K3 HD1 HD2 HB1 HB2 HO1
  have K4 := hide (aw_mnt (unhide HD3))
  go_wp2_with fail
  refine (unhide K4).mono ?_
  rintro e w4 ⟨P, vu, rfl, p4, hP4, hu4, b4⟩
  have hO4 : ∀ k, POf P D vw3 VL vu k → w.heap.size ≤ k := fun k hk => by
    have := (unhide HB3).size
    rcases hk with q | q | q
    · omega
    · have := hu4 k q; omega
    · exact unhide HO3 k q
  have HO4 := hide hO4
  have HP4 := hide p4
  have HB4 := hide ((unhide HB3).trans (b4.mono (unhide HB3).size))
  clear p4 hP4 hu4 b4 hO4 K4 HD3 HB3 HO3
  have K5 := hide (aw_nxt (unhide HP4))
  go_wp2_with fail
  refine (unhide K5).mono ?_
  rintro e w5 ⟨V5, rfl, ⟨r5, n5⟩, p5, o5⟩
  obtain ⟨q5, c5, hV5, i5, z5⟩ := Ins.of r5
  have hV5' : V5 = .slice q5 2 c5 := hV5
  subst hV5'
  have HB5 := hide (o5.below (unhide HB4) (unhide HB4).size (fun k hk => unhide HO4 k (.inl hk)))
  have HN5 := hide (fun g o (e : q5 = some ⟨g, o, none⟩) => n5 g (z5 g o e))
  have HP5 := hide p5
  have HI5 := hide i5
  have HS4 := hide ((unhide HP4).old)
  clear r5 n5 p5 o5 i5 z5 hV5 K5
  have hg5 := heap_alloc_new w5 (.cells #[I 1, I 2, I 0, .slice none 0 0, .string ⟨#[97]⟩] 24)
  have bA5 := (Below.refl w5.heap.size w5).alloc (Nat.le_refl _) (.cells #[I 1, I 2, I 0, .slice none 0 0, .string ⟨#[97]⟩] 24)
  have HG5 := hide hg5
  have HA5 := hide bA5
  clear hg5 bA5
  go_wp2_with fail
  refine (unhide K2 _).mono ?_
  rintro e w6 ⟨rfl, b6⟩
  have bA6 : Below w5.heap.size w5 w6 := (unhide HA5).trans (b6.mono (unhide HA5).size)
  have hg6 : w6.heap[w5.heap.size]? = some (.cells #[I 1, I 2, I 0, .slice none 0 0, S [97]] 24 (0, 0)) := (b6.block _ (lt_of_row (unhide HG5))).trans (unhide HG5)
  have hP6 := (unhide HP5).below bA6
  have hI6 := (unhide HI5).below bA6
  have hB6 : Below w.heap.size w w6 := (unhide HB5).trans (bA6.mono (unhide HB5).size)
  have K6' := hide (unhide K6 w6 P D vw3 VL vu w5.heap.size hP6 (fun W' o => (o.block _ (lt_of_row hg6) (fun q => by have := (unhide HP5).old _ q; omega)).trans hg6))
  have HI6 := hide hI6
  have HB6 := hide hB6
  clear b6 bA6 hg6 hP6 hI6 hB6 K6 HI5 HB5 HP5 HG5 HA5
  go_wp2_with fail
  refine (unhide K6').mono ?_
  rintro e w7 ⟨rfl, vw7, vu7, p7, o7, n7, m7⟩
  have hB7 : Below w.heap.size w w7 := o7.below (unhide HB6) (unhide HB6).size (fun k hk => unhide HO4 k hk)
  have hO7 : ∀ k, POf P D vw7 VL vu7 k → w.heap.size ≤ k := fun k hk => by
    have hz := (unhide HB6).size
    rcases hk with q | q | q | q | q
    · exact unhide HO4 k (.inl q)
    · rcases m7 k q with r | r
      · exact unhide HO4 k (.inr (.inl r))
      · omega
    · exact unhide HO4 k (.inr (.inr (.inl q)))
    · rcases n7 k q with r | r
      · exact unhide HO4 k (.inr (.inr (.inr (.inl r))))
      · omega
    · exact unhide HO4 k (.inr (.inr (.inr (.inr q))))
  have hI7 : Ins w7 q5 2 [2, 3] := (unhide HI6).only o7 (fun g o e q => by have h1 := unhide HN5 g o e; have h2 := unhide HS4 g q; omega)
  have hP7n : ∀ g o, q5 = some ⟨g, o, none⟩ → g ≠ P := fun g o e q => by have h1 := unhide HN5 g o e; have h2 := (unhide HP4).lt; omega
  have HP7n := hide hP7n
  have HB7 := hide hB7
  have HO7 := hide hO7
  have HI7 := hide hI7
  have HP7 := hide p7
  clear p7 o7 n7 m7 hB7 hO7 hI7 hP7n K6' HI6 HB6 HO4 HB4 HP4 HN5 HS4
  have K7 := hide (aw_rd2 (unhide HP7))
  go_wp2_with fail
  refine (unhide K7).mono ?_
  rintro e w8 ⟨q8, c8, rfl, p8, o8⟩
  have hg8 := heap_alloc_new w8 (.cells #[I 0, I 0, I 0, .slice none 0 0, .string ⟨#[]⟩] 24)
  have hr8 := setRow_row (vs := #[I 1, I 2, I 2, .slice q8 0 c8, S [97]]) hg8
  have bA8 : Below w8.heap.size w8 ((w8.alloc (.cells #[I 0, I 0, I 0, .slice none 0 0, .string ⟨#[]⟩] 24)).setRow w8.heap.size #[I 1, I 2, I 2, .slice q8 0 c8, S [97]]) := belowR ((Below.refl w8.heap.size w8).alloc (Nat.le_refl _) _) (Nat.le_refl _) _
  have hB8 : Below w.heap.size w w8 := o8.below (unhide HB7) (unhide HB7).size (fun k hk => unhide HO7 k (.inl hk))
  have hI8 := ((unhide HI7).only o8 (unhide HP7n)).below bA8
  have HG8 := hide hg8
  have HR8 := hide hr8
  have HB8 := hide (hB8.trans (bA8.mono hB8.size))
  have HP8 := hide (p8.below bA8)
  have HI8 := hide hI8
  clear hg8 hr8 bA8 hB8 hI8 p8 o8 K7 HP7 HI7 HB7
  go_wp2_with (refine wp_st24 rfl (.tmp 8) (.tmp 52) rfl w8.heap.size (by rfl) 1 2 2 q8 0 c8 [97] (by rfl) _ rfl (unhide HG8) ?_; generalize (w8.alloc (.cells #[I 0, I 0, I 0, .slice none 0 0, .string ⟨#[]⟩] 24)).setRow w8.heap.size #[I 1, I 2, I 2, .slice q8 0 c8, S [97]] = w8b at *)
  have K8 := hide (aw_rd3 (unhide HP8))
  refine (unhide K8).mono ?_
  rintro e w9 ⟨q9, c9, rfl, p9, o9⟩
  have hg9 := heap_alloc_new w9 (.cells #[I 0, I 0, I 0, .slice none 0 0, .string ⟨#[]⟩] 24)
  have bA9 : Below w9.heap.size w9 ((w9.alloc (.cells #[I 0, I 0, I 0, .slice none 0 0, .string ⟨#[]⟩] 24)).setRow w9.heap.size #[I 0, I 0, I 0, .slice q9 0 c9, S []]) := belowR ((Below.refl w9.heap.size w9).alloc (Nat.le_refl _) _) (Nat.le_refl _) _
  have hB9 : Below w.heap.size w w9 := o9.below (unhide HB8) (unhide HB8).size (fun k hk => unhide HO7 k (.inl hk))
  have hI9 := ((unhide HI8).only o9 (unhide HP7n)).below bA9
  have hr9 : w9.heap[w8.heap.size]? = some (.cells #[I 1, I 2, I 2, .slice q8 0 c8, S [97]] 24 (0, 0)) := (o9.block _ (lt_of_row (unhide HR8)) (ne_type (unhide HR8) (unhide HP8).blk (by decide))).trans (unhide HR8)
  have HG9 := hide hg9
  have HB9 := hide (hB9.trans (bA9.mono hB9.size))
  have HP9 := hide (p9.below bA9)
  have HI9 := hide hI9
  have HR9 := hide ((bA9.block _ (lt_of_row hr9)).trans hr9)
  clear hg9 bA9 hB9 hI9 hr9 p9 o9 K8 HP8 HI8 HB8 HR8 HG8 HO7 HP7n
  go_wp2_with (refine wp_st24 rfl (.tmp 10) (.tmp 57) rfl w9.heap.size (by rfl) 0 0 0 q9 0 c9 [] (by rfl) _ rfl (unhide HG9) ?_; generalize (w9.alloc (.cells #[I 0, I 0, I 0, .slice none 0 0, .string ⟨#[]⟩] 24)).setRow w9.heap.size #[I 0, I 0, I 0, .slice q9 0 c9, S []] = w9b at *; obtain ⟨pp, oo, e5, hc5⟩ := (unhide HI9).2 (by omega); have c50 : w9b.cell? ⟨pp, oo, none⟩ = some (I 2) := hc5 0 (by omega); have c51 : w9b.cell? ⟨pp, oo + 1, none⟩ = some (I 3) := hc5 1 (by omega); have c82 : w9b.cell? ⟨w8.heap.size, 2, none⟩ = some (I 2) := cell_of_row _ _ 2 _ 24 (0, 0) (unhide HR9); have c84 : w9b.cell? ⟨w8.heap.size, 4, none⟩ = some (S [97]) := cell_of_row _ _ 4 _ 24 (0, 0) (unhide HR9); subst e5; clear hc5)
  refine (aw_root (unhide HP9)).mono ?_
  rintro e wa ⟨rfl, hwa⟩
  rw [hwa]
  clear hwa wa c50 c51 c82 c84
  go_wp2_with fail
  refine (aw_free (unhide HP9)).mono ?_
  rintro e wa ⟨rfl, hwa⟩
  rw [hwa]
  clear hwa wa
  go_wp2_with fail
  refine (aw_gen (unhide HP9)).mono ?_
  rintro e wa ⟨rfl, hwa⟩
  rw [hwa]
  clear hwa wa
  go_wp2_with fail
  refine (unhide K12 w9b P D vw7 VL vu7 (unhide HP9)).mono ?_
  rintro e wa ⟨rfl, ba⟩
  have HBA := hide ((unhide HB9).trans (ba.mono (unhide HB9).size))
  clear ba
  go_wp2_with fail
  refine (unhide K2 _).mono ?_
  rintro e wb ⟨rfl, bb⟩
  have HBB := hide ((unhide HBA).trans (bb.mono (unhide HBA).size))
  clear bb
  go_wp2
  go_ret
  exact ⟨by simp, unhide HBB⟩
end Go.Proofs.YtjopnhhdemfniaaGreatDoor
