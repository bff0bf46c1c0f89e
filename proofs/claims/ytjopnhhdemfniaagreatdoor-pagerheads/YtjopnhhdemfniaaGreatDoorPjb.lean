import Derived.Test.YtjopnhhdemfniaaGreatDoorPja
namespace Go.Proofs.YtjopnhhdemfniaaGreatDoor
open Go.RowKit
set_option maxHeartbeats 8000000
set_option maxRecDepth 8000
theorem rbox4 {B g : Nat} {a b c d : Value} {w0 w : World} (h : w0.heap[g]? = some (.cells #[a, b, c, d] 131 (0, 0))) (hb : Below B w0 w) (hg : g < B) :
    w.cell? ⟨g, 0, none⟩ = some a ∧ w.cell? ⟨g, 1, none⟩ = some b ∧ w.cell? ⟨g, 2, none⟩ = some c ∧ w.cell? ⟨g, 3, none⟩ = some d := by
  have h2 := (hb.block g hg).trans h
  have := fun j => cell_of_row w g j _ 131 (0, 0) h2
  refine ⟨?_, ?_, ?_, ?_⟩ <;> (rw [this]; rfl)
theorem hd_b (g r b : Int) (x : Bs) (v : Bool) (h : v = true ↔ (((1 ≤ g ∧ g ≤ 4611686018427387904) ∧ (8 ≤ b ∧ b ≤ 4096)) ∧ (r = 0 ∨ 2 ≤ r ∧ r < b)) ∧ x.length = 16) : v = Hd.may ⟨g, r, b, x⟩ := by
  rw [Bool.eq_iff_iff, h]
  simp only [Hd.may, isGn, Bool.and_eq_true, Bool.or_eq_true, decide_eq_true_eq]
theorem rmay_any (h : Hd) (w : World) : Calls Tryz.prog 76 #[hda h] w fun e w' => e = .returned (.bool h.may) ∧ Below w.heap.size w w' := by
  obtain ⟨g, r, b, x⟩ := h
  unfold hda
  simp only
  have HR := hide (fun v => hd_b g r b x v)
  generalize Hd.may ⟨g, r, b, x⟩ = R at *
  have HB := hide ((Below.refl w.heap.size w).alloc (Nat.le_refl _) (.cells #[I g, I r, I b, S x] 131))
  by_cases g1 : 1 ≤ g
  · by_cases g2 : g ≤ 4611686018427387904
    · by_cases b1 : 8 ≤ b
      · by_cases b2 : b ≤ 4096
        · by_cases hx : x.length = 16
          · have hx' : (x.length : Int) = 16 := by omega
            by_cases r0 : r = 0
            · subst r0
              go_enter Tryz.func76, Tryz.ntmps76
              go_wp2
              go_ret
              exact ⟨ret_bool (unhide HR _ (iff_of_true rfl ⟨⟨⟨⟨g1, g2⟩, b1, b2⟩, .inl trivial⟩, hx⟩)), unhide HB⟩
            · by_cases r1 : 2 ≤ r
              · by_cases r2 : r < b
                · go_enter Tryz.func76, Tryz.ntmps76
                  go_wp2
                  go_ret
                  exact ⟨ret_bool (by first | exact unhide HR true (iff_of_true rfl (by omega)) | exact unhide HR false (iff_of_false Bool.false_ne_true (by omega))), unhide HB⟩
                · go_enter Tryz.func76, Tryz.ntmps76
                  go_wp2
                  go_ret
                  exact ⟨ret_bool (by first | exact unhide HR true (iff_of_true rfl (by omega)) | exact unhide HR false (iff_of_false Bool.false_ne_true (by omega))), unhide HB⟩
              · go_enter Tryz.func76, Tryz.ntmps76
                go_wp2
                go_ret
                exact ⟨ret_bool (by first | exact unhide HR true (iff_of_true rfl (by omega)) | exact unhide HR false (iff_of_false Bool.false_ne_true (by omega))), unhide HB⟩
          · have hx' : ¬ (x.length : Int) = 16 := by omega
            have hx2 : ((x.length : Int) == 16) = false := by rw [beq_eq_false_iff_ne]; exact hx'
            by_cases r0 : r = 0
            · subst r0
              go_enter Tryz.func76, Tryz.ntmps76
              go_wp2
              go_ret
              exact ⟨ret_bool (by first | exact unhide HR true (iff_of_true rfl (by omega)) | exact unhide HR false (iff_of_false Bool.false_ne_true (by omega))), unhide HB⟩
            · by_cases r1 : 2 ≤ r
              · by_cases r2 : r < b
                · go_enter Tryz.func76, Tryz.ntmps76
                  go_wp2
                  go_ret
                  exact ⟨ret_bool (by first | exact unhide HR true (iff_of_true rfl (by omega)) | exact unhide HR false (iff_of_false Bool.false_ne_true (by omega))), unhide HB⟩
                · go_enter Tryz.func76, Tryz.ntmps76
                  go_wp2
                  go_ret
                  exact ⟨ret_bool (by first | exact unhide HR true (iff_of_true rfl (by omega)) | exact unhide HR false (iff_of_false Bool.false_ne_true (by omega))), unhide HB⟩
              · go_enter Tryz.func76, Tryz.ntmps76
                go_wp2
                go_ret
                exact ⟨ret_bool (by first | exact unhide HR true (iff_of_true rfl (by omega)) | exact unhide HR false (iff_of_false Bool.false_ne_true (by omega))), unhide HB⟩
        · go_enter Tryz.func76, Tryz.ntmps76
          go_wp2
          go_ret
          exact ⟨ret_bool (by first | exact unhide HR true (iff_of_true rfl (by omega)) | exact unhide HR false (iff_of_false Bool.false_ne_true (by omega))), unhide HB⟩
      · go_enter Tryz.func76, Tryz.ntmps76
        go_wp2
        go_ret
        exact ⟨ret_bool (by first | exact unhide HR true (iff_of_true rfl (by omega)) | exact unhide HR false (iff_of_false Bool.false_ne_true (by omega))), unhide HB⟩
    · go_enter Tryz.func76, Tryz.ntmps76
      go_wp2
      go_ret
      exact ⟨ret_bool (by first | exact unhide HR true (iff_of_true rfl (by omega)) | exact unhide HR false (iff_of_false Bool.false_ne_true (by omega))), unhide HB⟩
  · go_enter Tryz.func76, Tryz.ntmps76
    go_wp2
    go_ret
    exact ⟨ret_bool (by first | exact unhide HR true (iff_of_true rfl (by omega)) | exact unhide HR false (iff_of_false Bool.false_ne_true (by omega))), unhide HB⟩
theorem cat_ba (a b : Bs) : (⟨a.toArray⟩ : ByteArray) ++ ⟨b.toArray⟩ = ⟨(a ++ b).toArray⟩ := by
  apply ByteArray.ext
  simp [ByteArray.data_append]
end Go.Proofs.YtjopnhhdemfniaaGreatDoor
