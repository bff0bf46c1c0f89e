import Derived.Test.YteejnfkbjdpccaaLbh
namespace Go.Proofs.Yteejnfkbjdpccaa
open Go.RowKit Fl
set_option maxHeartbeats 4000000
set_option maxRecDepth 8000
abbrev aw0 : Li := ⟨1056964608, 1073741824, []⟩
abbrev aw1 : Li := ⟨1056964608, 1073741824, [⟨[97], 1065353216, 100⟩]⟩
abbrev aw2 : Li := ⟨1056964608, 1073741824, [⟨[97], 0, 100⟩]⟩
abbrev aw3 : Li := ⟨1056964608, 1073741824, [⟨[97], 0, 102⟩]⟩
theorem aw0_ok : aw0.Ok := ⟨Or.inl (by decide), by decide, by decide, by decide, fun k hk => by simp at hk⟩
theorem am_one : Am 1065353216 := Or.inl (by decide)
theorem aw_a : aw0.told [97] 1065353216 100 = (0, 0) ∧ aw0.took [97] 1065353216 100 = aw1 := ⟨by kernel_rfl, by kernel_rfl⟩
theorem aw_b : aw1.told [97] 1065353216 100 = (0, 0) ∧ aw1.took [97] 1065353216 100 = aw2 := ⟨by kernel_rfl, by kernel_rfl⟩
theorem aw_c : aw2.told [97] 1065353216 100 = (2, 241) ∧ aw2.took [97] 1065353216 100 = aw2 := ⟨by kernel_rfl, by kernel_rfl⟩
theorem aw_d : aw2.told [97] 1065353216 101 = (1, 241) ∧ aw2.took [97] 1065353216 101 = aw2 := ⟨by kernel_rfl, by kernel_rfl⟩
theorem aw_e : aw2.told [97] 1065353216 102 = (0, 0) ∧ aw2.took [97] 1065353216 102 = aw3 := ⟨by kernel_rfl, by kernel_rfl⟩
theorem aw_f : aw3.level [97] 103 = 1056964608 ∧ aw3.level [98] 0 = 1073741824 := ⟨by kernel_rfl, by kernel_rfl⟩
theorem aw1_ok : aw1.Ok := by have := took_ok aw0_ok [97] 1065353216 100; rw [aw_a.2] at this; exact this
theorem aw2_ok : aw2.Ok := by have := took_ok aw1_ok [97] 1065353216 100; rw [aw_b.2] at this; exact this
theorem aw3_ok : aw3.Ok := by have := took_ok aw2_ok [97] 1065353216 102; rw [aw_e.2] at this; exact this
theorem take_is {x y : Li} (hx : x.Ok) (s : Bs) (hs : s.length ≤ 281474976710656) {c : Nat} (hc : Am c) {now n e : Int} (h : x.told s c now = (n, e) ∧ x.took s c now = y) {p : Nat} {w : World} (hl : LAt 57 65 p x w) {B : Nat} {w0 : World} (hb : Below B w0 w) (hB : B ≤ p) :
    Calls Try.prog 13 #[ptr p, S s, fl c, I now] w fun en w' => en = .returned (.tuple #[I n, I e]) ∧ LAt 57 65 p y w' ∧ Below B w0 w' := by
  refine (take_any hl hx s hs c (fun _ => hc) now).mono ?_
  rintro en w' ⟨rfl, h2, h3⟩
  rw [h.1]
  rw [h.2] at h2
  exact ⟨rfl, h2, h3.below hb (Nat.le_trans hB (Nat.le_of_lt hl.lt)) (fun k e => by omega)⟩
theorem awake_any (w : World) : Calls Try.prog 7 #[] w fun e w' => e = .returned (.bool true) ∧ Below w.heap.size w w' := by
  have HE1 := hide (show (FloatKind.f32.format.order 1056964608 1056964608 == some .eq) = true by decide)
  have HE2 := hide (show (FloatKind.f32.format.order 1073741824 1073741824 == some .eq) = true by decide)
  go_enter Try.func7, Try.ntmps7
  go_wp2_with fail
  refine (new_any 1056964608 1073741824 w).mono ?_
  rintro e w1 ⟨h1, b1⟩
  rw [if_pos (by decide)] at h1
  obtain ⟨rfl, r1⟩ := h1
  have L1 : LAt 57 65 w.heap.size aw0 w1 := ⟨none, 0, r1, owns_nil 65 3 w1⟩
  have HL1 := hide L1
  have B1 := hide b1
  obtain ⟨p, hp⟩ : ∃ p, w.heap.size = p := ⟨_, rfl⟩
  rw [hp] at HL1 B1 ⊢
  have HPE := hide hp
  clear L1 b1 r1 hp
  go_wp2_with fail
  refine (new_any 0 0 w1).mono ?_
  rintro e w2 ⟨h2, b2⟩
  rw [if_neg (by decide)] at h2
  obtain rfl := h2
  have HL2 := hide ((unhide HL1).below b2)
  have B2 := hide ((unhide B1).trans (b2.mono (Nat.le_trans (Nat.le_of_eq (unhide HPE).symm) (unhide B1).size)))
  clear b2 B1 HL1
  go_wp2_with fail
  refine (take_is aw0_ok [97] (by decide) am_one aw_a (unhide HL2) (unhide B2) (Nat.le_refl _)).mono ?_
  rintro e w3 ⟨rfl, l3, b3⟩
  have HL3 := hide l3
  have B3 := hide b3
  clear l3 b3 HL2 B2
  go_wp2_with fail
  refine (take_is aw1_ok [97] (by decide) am_one aw_b (unhide HL3) (unhide B3) (Nat.le_refl _)).mono ?_
  rintro e w4 ⟨rfl, l4, b4⟩
  have HL4 := hide l4
  have B4 := hide b4
  clear l4 b4 HL3 B3
  go_wp2_with fail
  refine (take_is aw2_ok [97] (by decide) am_one aw_c (unhide HL4) (unhide B4) (Nat.le_refl _)).mono ?_
  rintro e w5 ⟨rfl, l5, b5⟩
  have HL5 := hide l5
  have B5 := hide b5
  clear l5 b5 HL4 B4
  go_wp2_with fail
  refine (take_is aw2_ok [97] (by decide) am_one aw_d (unhide HL5) (unhide B5) (Nat.le_refl _)).mono ?_
  rintro e w6 ⟨rfl, l6, b6⟩
  have HL6 := hide l6
  have B6 := hide b6
  clear l6 b6 HL5 B5
  go_wp2_with fail
  refine (take_is aw2_ok [97] (by decide) am_one aw_e (unhide HL6) (unhide B6) (Nat.le_refl _)).mono ?_
  rintro e w7 ⟨rfl, l7, b7⟩
  have HL7 := hide l7
  have B7 := hide b7
  clear l7 b7 HL6 B6
  go_wp2_with fail
  refine (level_f (unhide HL7) aw3_ok [97] 103).mono ?_
  rintro e w8 ⟨rfl, b8⟩
  have HL8 := hide ((unhide HL7).below b8)
  have B8 := hide ((unhide B7).trans (b8.mono (Nat.le_trans (Nat.le_of_eq (unhide HPE).symm) (unhide B7).size)))
  clear b8 HL7 B7
  rw [aw_f.1]
  have he1 := unhide HE1
  go_wp2_with fail
  refine (level_f (unhide HL8) aw3_ok [98] 0).mono ?_
  rintro e w9 ⟨rfl, b9⟩
  have B9 := hide ((unhide B8).trans (b9.mono (Nat.le_trans (Nat.le_of_eq (unhide HPE).symm) (unhide B8).size)))
  clear b9 HL8 B8
  rw [aw_f.2]
  have he2 := unhide HE2
  go_wp2_with fail
  go_ret
  refine ⟨rfl, ?_⟩
  rw [unhide HPE]
  exact unhide B9
end Go.Proofs.Yteejnfkbjdpccaa
