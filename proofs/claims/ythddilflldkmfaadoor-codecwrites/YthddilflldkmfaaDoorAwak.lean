import Derived.Test.YthddilflldkmfaaDoorRedc
import Derived.Test.YthddilflldkmfaaDoorFace
namespace Go.Proofs.YthddilflldkmfaaDoor
open Go.RowKit Go.Lib
theorem ak1 : wPut [] 0 (numE 2 300) (numY 2 300) = ([1, 44], 0) := by decide +kernel
theorem ak2 : wPut [1, 44] 0 (textE 255 2) (textY 255 [104, 105]) = ([1, 44, 2, 104, 105], 0) := by decide +kernel
theorem ak3 : fine 0 (rNumE 2 [1, 44, 2, 104, 105]) = true ∧ nat (([1, 44, 2, 104, 105] : List UInt8).take (2 : Int).toNat) = 300 ∧ rGo [1, 44, 2, 104, 105] 0 (rNumE 2 [1, 44, 2, 104, 105]) (2 : Int).toNat = ([2, 104, 105], 0) := by decide +kernel
theorem ak4 : fine 0 (rTextE 255 [2, 104, 105]) = true ∧ rTextS 255 [2, 104, 105] = [104, 105] ∧ rGo [2, 104, 105] 0 (rTextE 255 [2, 104, 105]) (rTextK 255 [2, 104, 105]) = ([], 0) := by decide +kernel
theorem ak5 : d64 [89, 82] = none := by
  unfold d64
  apply un6_no
  intro h
  have := h.2.2
  revert this
  decide +kernel
theorem ak6 : enc names false [97] = [89, 81] ∧ enc mail true [97] = [89, 81, 61, 61] ∧ encH [0, 255] = [48, 48, 102, 102] := by decide +kernel
theorem foot_not {b k : Nat} {v : Value} (h1 : k ≠ b) (h2 : v.ownBlock ≠ some k) : ¬ foot b v k := by
  rintro (q | q)
  · exact h1 q
  · exact h2 q
theorem foot_ge {b base : Nat} {v : Value} (h1 : base ≤ b) (h2 : ∀ q, v.ownBlock = some q → base ≤ q) : ∀ k, foot b v k → base ≤ k := by
  rintro k (q | q)
  · omega
  · exact h2 k q
set_option maxHeartbeats 2000000 in
set_option maxRecDepth 8000 in
theorem awake_any (w : World) :
    Calls Tryd.prog 9 #[] w fun e w' => e = .returned (.bool true) ∧ Below w.heap.size w w' := by
  go_enter Tryd.func9, Tryd.ntmps9
  go_wp2_with fail
  refine (newwriter_any w).mono ?_
  rintro e w1 ⟨rfl, hw1, hb1⟩
  have HW1 := hide hw1
  clear hw1
  obtain ⟨b, hb⟩ : ∃ b, w.heap.size = b := ⟨_, rfl⟩
  rw [hb] at HW1 ⊢
  have HBW := hide hb
  clear hb
  go_wp2_with fail
  refine (newreader_any [1, 44, 2, 104, 105] w1).mono ?_
  rintro e w2 ⟨rb, g, cap, rfl, hrb, hg, hr2, hb2⟩
  have hblt := lt_of_row (unhide HW1).row
  have hw2 := (unhide HW1).keep (Only.of_below (P := fun _ => False) hb2) (fun q => q) (fun _ _ q => q)
  have hbe2 := hb1.trans (hb2.mono hb1.size)
  have HW2 := hide hw2
  have HR2 := hide hr2
  have HNB := hide (show rb ≠ b ∧ g ≠ b by omega)
  have HGE := hide (show b ≤ rb ∧ b ≤ g by have := unhide HBW; omega)
  clear HW1 hw2 hr2 hb2 hb1 hrb hg hblt
  go_wp2_with fail
  refine (wnum_any b (.slice none 0 0) [] 0 2 300 w2 (unhide HW2) (by omega) (by simp)).mono ?_
  rintro e w3 ⟨rfl, hto⟩
  rw [ak1] at hto
  obtain ⟨v3, hw3, ho3, hf3⟩ := hto
  have hrlt := lt_of_row (unhide HR2).row
  have hglt := (unhide HR2).bys.lt
  have hnb := unhide HNB
  have hge := unhide HGE
  have hbw := unhide HBW
  have hv3 : ∀ q, v3.ownBlock = some q → w2.heap.size ≤ q := by
    intro q hq
    rcases hf3 q hq with r | r
    · cases r
    · exact r
  have hr3 := (unhide HR2).keep ho3 (foot_not hnb.1 (by simp [Value.ownBlock])) (foot_not hnb.2 (by simp [Value.ownBlock]))
  have hbe3 := ho3.below hbe2 hbe2.size (foot_ge (by omega) (by simp [Value.ownBlock]))
  have HW3 := hide hw3
  have HR3 := hide hr3
  have HV3 := hide hv3
  have hs3 := ho3.size
  have hs2 := hbe2.size
  clear HW2 HR2 hw3 hr3 hv3 hf3 ho3
  go_wp2_with fail
  refine (wtext_any b v3 [1, 44] 0 255 [104, 105] w3 (unhide HW3) (by decide)).mono ?_
  rintro e w4 ⟨rfl, hto⟩
  rw [show ([104, 105] : List UInt8).length = 2 from rfl, ak2] at hto
  obtain ⟨v4, hw4, ho4, hf4⟩ := hto
  have hr4 := (unhide HR3).keep ho4 (foot_not hnb.1 (fun q => by have := unhide HV3 _ q; omega)) (foot_not hnb.2 (fun q => by have := unhide HV3 _ q; omega))
  have hbe4 := ho4.below hbe3 hbe3.size (foot_ge (by omega) (fun q hq => by have := unhide HV3 _ hq; omega))
  have HW4 := hide hw4
  have HR4 := hide hr4
  clear HW3 HR3 hw4 hr4 ho4 hf4 hbe3 hbe2
  go_wp2_with fail
  refine (wdone_ok b v4 [1, 44, 2, 104, 105] w4 (unhide HW4)).mono ?_
  rintro e w5 ⟨rfl, hb5⟩
  have hr5 := (unhide HR4).keep (Only.of_below (P := fun _ => False) hb5) (fun q => q) (fun q => q)
  have hbe5 := hbe4.trans (hb5.mono hbe4.size)
  have HR5 := hide hr5
  clear HW4 HR4 hr5 hb5 hbe4
  go_wp2_with fail
  refine (rnum_any rb g 0 cap [1, 44, 2, 104, 105] 0 2 w5 (unhide HR5) (by decide)).mono ?_
  rintro e w6 ⟨rfl, hto⟩
  rw [ak3.2.2] at hto
  rw [ak3.1, ak3.2.1]
  obtain ⟨⟨off6, cap6, hr6⟩, ho6⟩ := hto
  have hbe6 := ho6.below hbe5 hbe5.size (by rintro k rfl; omega)
  have HR6 := hide hr6
  clear HR5 hr6 ho6 hbe5
  go_wp2_with fail
  refine (rtext_any rb g off6 cap6 [2, 104, 105] 0 255 w6 (unhide HR6) (by decide)).mono ?_
  rintro e w7 ⟨rfl, hto⟩
  rw [ak4.2.2] at hto
  rw [ak4.1, ak4.2.1]
  obtain ⟨⟨off7, cap7, hr7⟩, ho7⟩ := hto
  have hbe7 := ho7.below hbe6 hbe6.size (by rintro k rfl; omega)
  have HR7 := hide hr7
  clear HR6 hr7 ho7 hbe6
  go_wp2_with fail
  refine (rdone_ok rb g off7 cap7 [] w7 (unhide HR7)).mono ?_
  rintro e w8 ⟨rfl, hb8⟩
  have hbe8 := hbe7.trans (hb8.mono hbe7.size)
  rw [show rDone [] 0 = 0 from rfl]
  clear HR7 hb8 hbe7
  go_wp2_with fail
  refine (frombase64_any [89, 82] w8 (by decide)).mono ?_
  rintro e w9 ⟨rfl, hb9⟩
  rw [ak5]
  have hbe9 := hbe8.trans (hb9.mono hbe8.size)
  clear hbe8 hb9
  unfold told2
  go_wp2_with fail
  refine (base64_any [97] w9 (by decide)).mono ?_
  rintro e w10 ⟨rfl, hb10⟩
  rw [ak6.1]
  have hbe10 := hbe9.trans (hb10.mono hbe9.size)
  clear hbe9 hb10
  go_wp2_with fail
  refine (standard_any [97] w10 (by decide)).mono ?_
  rintro e w11 ⟨rfl, hb11⟩
  rw [ak6.2.1]
  have hbe11 := hbe10.trans (hb11.mono hbe10.size)
  clear hbe10 hb11
  go_wp2_with fail
  refine (hex_any [0, 255] w11 (by decide)).mono ?_
  rintro e w12 ⟨rfl, hb12⟩
  rw [ak6.2.2]
  have hbe12 := hbe11.trans (hb12.mono hbe11.size)
  clear hbe11 hb12
  go_wp2
  go_ret
  exact ⟨rfl, hbe12⟩
end Go.Proofs.YthddilflldkmfaaDoor
