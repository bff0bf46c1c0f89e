import Derived.Test.YtjopnhhdemfniaaGreatDoorPjb
import Derived.Test.YtjopnhhdemfniaaGreatDoorZdetl
namespace Go.Proofs.YtjopnhhdemfniaaGreatDoor
open Go.RowKit
set_option maxHeartbeats 8000000
set_option maxRecDepth 8000
theorem rsector_any (h : Hd) (w : World) (hm : h.may = true) : Calls Tryz.prog 77 #[hda h] w fun e w' => e = .returned (S h.sec) ∧ Below w.heap.size w w' := by
  have hn := Hd.may_note hm
  have HS := hide (show h.sec = (h.text ++ be 4 (crc h.text).toNat) ++ List.replicate 24 0 from rfl)
  have htl := Hd.text_len hn
  have H5 := hide (fun W => rsum_any h.text W (by omega))
  have H6 := hide (fun W => noughts_any 24 W (by omega))
  have HT := hide (show h.text = ([76, 75, 69, 89] ++ be 8 h.gen.toNat ++ be 4 h.root.toNat ++ be 4 h.blocks.toNat ++ h.note : Bs) from rfl)
  simp only [Hd.may, isGn, Bool.and_eq_true, Bool.or_eq_true, decide_eq_true_eq] at hm
  obtain ⟨⟨⟨⟨g1, g2⟩, b1, b2⟩, hr⟩, _⟩ := hm
  have hr0 : 0 ≤ h.root ∧ h.root < 4096 := by omega
  have H2 := hide (fun W => by_any 8 h.gen.toNat W (by omega) (by omega) (by omega))
  have H3 := hide (fun W => by_any 4 h.root.toNat W (by omega) (by omega) (by omega))
  have H4 := hide (fun W => by_any 4 h.blocks.toNat W (by omega) (by omega) (by omega))
  rw [show ((h.gen.toNat : Nat) : Int) = h.gen by omega] at H2
  rw [show ((h.root.toNat : Nat) : Int) = h.root by omega] at H3
  rw [show ((h.blocks.toNat : Nat) : Int) = h.blocks by omega] at H4
  have l8 : (be 8 h.gen.toNat).length = 8 := be_len _ _
  have l4 : (be 4 h.root.toNat).length = 4 := be_len _ _
  have l4' : (be 4 h.blocks.toNat).length = 4 := be_len _ _
  have lc : (be 4 (crc h.text).toNat).length = 4 := be_len _ _
  generalize be 8 h.gen.toNat = B8 at *
  generalize be 4 h.root.toNat = BR at *
  generalize be 4 h.blocks.toNat = BB at *
  generalize be 4 (crc h.text).toNat = BC at *
  generalize h.sec = SEC at *
  generalize h.text = T at *
  have bA := (Below.refl w.heap.size w).alloc (Nat.le_refl _) (.cells (hdc h) 131)
  have hg := heap_alloc_new w (.cells (hdc h) 131)
  obtain ⟨g, r, b, x⟩ := h
  unfold hda hdc at *
  simp only at H2 H3 H4 HT hn bA hg ⊢
  have HG := hide hg
  have HBA := hide bA
  have HL := hide (And.intro l8 (And.intro l4 (And.intro l4' (And.intro lc (And.intro hn htl)))))
  clear bA hg g1 g2 b1 b2 hr hr0 l8 l4 l4' lc hn htl
  go_enter Tryz.func77, Tryz.ntmps77
  go_wp2
  generalize hWA : w.alloc (.cells #[I g, I r, I b, S x] 131) = WA at *
  clear hWA
  go_upto_region 1 with fail
  refine rsec w.heap.size g r b x B8 BR BB (by kernel_rfl) (by kernel_rfl) (by kernel_rfl) _ _ (by show 19 ≤ Array.size _; simp) rfl (fun _ _ W => Below WA.heap.size WA W) ⟨(), (Below.refl _ _).drew⟩ (fun _ _ _ _ _ q => q) ?_ ?_ ?_ ?_ ?_ ?_ ?_ ?_ ?_ ?_ ?_ ?_
  · exact fun _ _ W q _ _ => s_ld Tryz.isAgg3 (rbox4 (unhide HG) q (lt_of_row (unhide HG))).1
  · intro _ L W q _ _
    refine (unhide H2 W).mono ?_
    rintro e w' ⟨rfl, q1⟩
    exact ⟨(), fun _ _ => rfl, rfl, q.trans (q1.mono q.size)⟩
  · exact fun W => s_cat _ _ [76, 75, 69, 89] B8 (by have := unhide HL; simp; omega)
  · exact fun _ _ W q _ _ => s_ld Tryz.isAgg3 (rbox4 (unhide HG) q (lt_of_row (unhide HG))).2.1
  · intro _ L W q _ _
    refine (unhide H3 W).mono ?_
    rintro e w' ⟨rfl, q1⟩
    exact ⟨(), fun _ _ => rfl, rfl, q.trans (q1.mono q.size)⟩
  · exact fun W => s_cat _ _ _ BR (by have := unhide HL; simp; omega)
  · exact fun _ _ W q _ _ => s_ld Tryz.isAgg3 (rbox4 (unhide HG) q (lt_of_row (unhide HG))).2.2.1
  · intro _ L W q _ _
    refine (unhide H4 W).mono ?_
    rintro e w' ⟨rfl, q1⟩
    exact ⟨(), fun _ _ => rfl, rfl, q.trans (q1.mono q.size)⟩
  · exact fun W => s_cat _ _ _ BB (by have := unhide HL; simp; omega)
  · exact fun _ _ W q _ _ => s_ld Tryz.isAgg9 (rbox4 (unhide HG) q (lt_of_row (unhide HG))).2.2.2
  · exact fun W => s_cat _ _ _ x (by have := unhide HL; simp; omega)
  intro _ L W _ hW
  have HW := hide hW
  clear hW
  rw [← unhide HT]
  simp only [Act.put, List.setIfInBounds_toArray, List.set_cons_succ, List.set_cons_zero]
  have hl := unhide HL
  have c1 : ¬ 9223372036854775807 < T.length + BC.length := by omega
  have c2 : ¬ 9223372036854775807 < T.length + (BC.length + 24) := by omega
  clear hl
  go_wp2_with fail
  refine (unhide H5 _).mono ?_
  rintro e w5 ⟨rfl, q5⟩
  have HQ5 := hide q5
  clear q5
  go_wp2_with fail
  refine (unhide H6 _).mono ?_
  rintro e w6 ⟨rfl, q6⟩
  have HQ6 := hide q6
  clear q6
  go_wp2
  go_ret
  refine ⟨?_, ?_⟩
  · rw [unhide HS]
    refine congrArg (fun x => Ending.returned (Value.string x)) ?_
    apply ByteArray.ext
    simp [ByteArray.data_append]
  · have b1 := (unhide HBA).trans ((unhide HW).mono (unhide HBA).size)
    have b2 := b1.trans ((unhide HQ5).mono b1.size)
    exact b2.trans ((unhide HQ6).mono b2.size)
end Go.Proofs.YtjopnhhdemfniaaGreatDoor
