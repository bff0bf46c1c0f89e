import Derived.Test.YteejnfkbjdpccaaLpb
namespace Go.Proofs.Yteejnfkbjdpccaa
open Go.RowKit Fl
set_option maxHeartbeats 2000000
section
variable {P : Program}
theorem run_storeF (w : World) (a : Addr) (m : Mode) (k : FloatKind) (b : Nat) : (store a (.float k b) m).run P w = stored P w a (.float k b) m := run_store P w a _ m rfl
theorem run_mulF (t : TypeId) {x y : Nat} (hx : x < 2139095040) (hy : Am y) (w : World) : (binOp .mul t (fl x) (fl y)).run P w = .ok (fl (ml x y)) w :=
  run_float_arith w .mul t .f32 x y _ (mul_am hx hy)
theorem run_addF (t : TypeId) {x y : Nat} (hx : x ≤ 2139095040) (hy : y ≤ 2139095040 ∨ y = 2147483648) (w : World) : (binOp .add t (fl x) (fl y)).run P w = .ok (fl (ad x y)) w :=
  run_float_arith w .add t .f32 x y _ (add_am hx hy)
theorem run_subF (t : TypeId) {x y : Nat} (hx : x < 2139095040) (hy : Am y) (h : nz y ≤ x) (w : World) : (binOp .sub t (fl x) (fl y)).run P w = .ok (fl (sb x y)) w :=
  run_float_arith w .sub t .f32 x y _ (sub_am hx hy h)
theorem run_minF (ts : Array TypeId) (t : TypeId) {x y : Nat} (hx : x ≤ 2139095040) (hy : y ≤ 2139095040) (w : World) : (Builtin.min_ ts t #[fl x, fl y]).run P w = .ok (fl (min x y)) w := by
  have ho : FloatKind.f32.format.order x y = some (compare x y) := ord_pos hx hy
  rcases Nat.lt_trichotomy x y with h | h | h
  · rw [Nat.compare_eq_lt.2 h] at ho
    have : min x y = x := by omega
    simp [Builtin.min_, Builtin.min2, ho, this]
  · subst h
    rw [Nat.compare_eq_eq.2 rfl] at ho
    simp [Builtin.min_, Builtin.min2, ho]
  · rw [Nat.compare_eq_gt.2 h] at ho
    have : min x y = y := by omega
    simp [Builtin.min_, Builtin.min2, ho, this]
end
theorem order_lss {x y : Nat} (hx : x < 2139095040) (hy : Am y) : (FloatKind.f32.format.order x y == some .lt) = decide (x < nz y) := by
  have ho : FloatKind.f32.format.order x y = some (compare (nz x) (nz y)) := ord_am (Or.inl hx) hy
  rw [ho, nz_pos (by omega)]
  by_cases h : x < nz y
  · rw [Nat.compare_eq_lt.2 h]; simp [h]
  · rcases Nat.lt_or_ge (nz y) x with q | q
    · rw [Nat.compare_eq_gt.2 q]; simp [h]
    · rw [Nat.compare_eq_eq.2 (by omega)]; simp [h]
theorem order_geq {x y : Nat} (hx : x < 2139095040) (hy : Am y) : (FloatKind.f32.format.order x y == some .gt || FloatKind.f32.format.order x y == some .eq) = decide (nz y ≤ x) := by
  have ho : FloatKind.f32.format.order x y = some (compare (nz x) (nz y)) := ord_am (Or.inl hx) hy
  rw [ho, nz_pos (by omega)]
  by_cases h : x < nz y
  · rw [Nat.compare_eq_lt.2 h]; simp; omega
  · rcases Nat.lt_or_ge (nz y) x with q | q
    · rw [Nat.compare_eq_gt.2 q]; simp; omega
    · rw [Nat.compare_eq_eq.2 (by omega)]; simp; omega
theorem order_eql {x y : Nat} (hx : x < 2139095040) (hy : Am y) : (FloatKind.f32.format.order x y == some .eq) = decide (x = nz y) := by
  have ho : FloatKind.f32.format.order x y = some (compare (nz x) (nz y)) := ord_am (Or.inl hx) hy
  rw [ho, nz_pos (by omega)]
  by_cases h : x < nz y
  · rw [Nat.compare_eq_lt.2 h]; simp; omega
  · rcases Nat.lt_or_ge (nz y) x with q | q
    · rw [Nat.compare_eq_gt.2 q]; simp; omega
    · rw [Nat.compare_eq_eq.2 (by omega)]; simp; omega
theorem isAmount_any (x : Nat) (w : World) : Calls Try.prog 20 #[fl x] w fun e w' => e = .returned (.bool (amt x)) ∧ w' = w := by
  have H : amt x = ((F.order x 0 == some .gt || F.order x 0 == some .eq) && (F.order x 2139095039 == some .lt || F.order x 2139095039 == some .eq)) := rfl
  have HF : FloatKind.f32.format = F := rfl
  go_enter Try.func20, Try.ntmps20
  go_wp2
  all_goals go_ret
  all_goals refine ⟨ret_bool ?_, rfl⟩
  all_goals simp_all
theorem nearest_any (n : Int) (w : World) : Calls Try.prog 23 #[I n] w fun e w' => e = .returned (I (nr n)) ∧ w' = w := by
  go_enter Try.func23, Try.ntmps23
  go_wp2
  all_goals go_ret
  all_goals refine ⟨ret_int ?_, rfl⟩
  all_goals (unfold nr; (repeat' split) <;> omega)
theorem letter_any (c : UInt8) (w : World) : Calls Try.prog 38 #[.int .u8 c.toNat] w fun e w' => e = .returned (.bool (isL c)) ∧ w' = w := by
  have h45 : (c == 45) = decide (c.toNat = 45) := by rw [Bool.eq_iff_iff]; simp [← UInt8.toNat_inj]
  have h95 : (c == 95) = decide (c.toNat = 95) := by rw [Bool.eq_iff_iff]; simp [← UInt8.toNat_inj]
  have h46 : (c == 46) = decide (c.toNat = 46) := by rw [Bool.eq_iff_iff]; simp [← UInt8.toNat_inj]
  unfold isL
  rw [h45, h95, h46]
  generalize c.toNat = n
  go_enter Try.func38, Try.ntmps38
  go_wp2
  all_goals go_ret
  all_goals refine ⟨ret_bool ?_, rfl⟩
  all_goals (first | (simp_all; done) | (simp_all; omega) | (rw [Bool.eq_iff_iff]; simp; omega))
end Go.Proofs.Yteejnfkbjdpccaa
