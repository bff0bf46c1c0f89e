import Derived.Test.YtpidmpefodnffaaGreatDoorLif
import Derived.Test.YtpidmpefodnffaaGreatDoorZfde
namespace Go.Proofs.YtpidmpefodnffaaGreatDoor
open Go Go.ChangeShapes Go.WideShapes Go.ChangeAt
theorem cells3 : Tryz.prog.cellsOf 3 = 1 := by kernel_rfl
theorem cells4 : Tryz.prog.cellsOf 4 = 1 := by kernel_rfl
theorem cells58 : Tryz.prog.cellsOf 58 = 9 := by kernel_rfl
/-- A text within a struct. -/
theorem open_text {H : Type} {enc : TypeId × Value → H} {W : World} {v : Value} {fuel : Nat} {y : DataW H × List MemPlace} (hf : DataW.trod enc Tryz.prog W 0 (fun _ => true) true fuel 9 [v] = some y) : ∃ x : Bs, v = S x ∧ x.length ≤ 9223372036854775807 := by
  obtain ⟨z, e, _, w⟩ := DataW.trod_string Tryz.underlying9 hf
  simp only [List.cons.injEq, and_true] at e
  subst e
  unfold maxLen at w
  exact ⟨z.data.toList, rfl, by rw [Array.length_toList]; exact Nat.le_trans w (by omega)⟩
/-- A number within a struct. -/
theorem open_int {H : Type} {enc : TypeId × Value → H} {W : World} {v : Value} {fuel : Nat} {y : DataW H × List MemPlace} (hf : DataW.trod enc Tryz.prog W 0 (fun _ => true) true fuel 3 [v] = some y) : ∃ x : Int, v = I x := by
  obtain ⟨z, e, _⟩ := DataW.trod_int Tryz.underlying3 hf
  simp only [List.cons.injEq, and_true] at e
  exact ⟨z, e⟩
/-- A truth within a struct. -/
theorem open_truth {H : Type} {enc : TypeId × Value → H} {W : World} {v : Value} {fuel : Nat} {y : DataW H × List MemPlace} (hf : DataW.trod enc Tryz.prog W 0 (fun _ => true) true fuel 4 [v] = some y) : ∃ x : Bool, v = .bool x := by
  obtain ⟨z, e, _⟩ := DataW.trod_bool Tryz.underlying4 hf
  simp only [List.cons.injEq, and_true] at e
  exact ⟨z, e⟩
end Go.Proofs.YtpidmpefodnffaaGreatDoor
namespace Go.Proofs.YtpidmpefodnffaaGreatDoor
open Go Go.ChangeShapes Go.WideShapes Go.ChangeAt
theorem cells60 : Tryz.prog.cellsOf 60 = 4 := by kernel_rfl
theorem cells62 : Tryz.prog.cellsOf 62 = 5 := by kernel_rfl
theorem cells64 : Tryz.prog.cellsOf 64 = 4 := by kernel_rfl
theorem cells66 : Tryz.prog.cellsOf 66 = 24 := by kernel_rfl
/-- A number within a struct, with its bounds. -/
theorem open_intb {H : Type} {enc : TypeId × Value → H} {W : World} {v : Value} {fuel : Nat} {y : DataW H × List MemPlace} (hf : DataW.trod enc Tryz.prog W 0 (fun _ => true) true fuel 3 [v] = some y) : ∃ x : Int, v = I x ∧ x ≤ 9223372036854775807 := by
  obtain ⟨z, e, _, q⟩ := DataW.trod_int Tryz.underlying3 hf
  simp only [List.cons.injEq, and_true] at e
  simp [Lit.wf, IntKind.min, IntKind.max, IntKind.signed, IntKind.bits] at q
  exact ⟨z, e, by omega⟩

set_option maxRecDepth 20000 in
theorem open_tokc {H : Type} {enc : TypeId × Value → H} {W : World} {v0 v1 v2 v3 v4 v5 v6 v7 v8 : Value} {fuel : Nat} {y : DataW H × List MemPlace} (hf : DataW.trod enc Tryz.prog W 0 (fun _ => true) true fuel 58 [v0, v1, v2, v3, v4, v5, v6, v7, v8] = some y) : ∃ (x0 : Int) (x1 : Int) (x2 : Int) (x3 : Bs) (x4 : Int) (x5 : Bool) (x6 : Int) (x7 : Int) (x8 : Bs), v0 = I x0 ∧ v1 = I x1 ∧ v2 = I x2 ∧ v3 = S x3 ∧ v4 = I x4 ∧ v5 = .bool x5 ∧ v6 = I x6 ∧ v7 = I x7 ∧ v8 = S x8 ∧ x0 ≤ 9223372036854775807 ∧ x1 ≤ 9223372036854775807 ∧ x2 ≤ 9223372036854775807 ∧ x3.length ≤ 9223372036854775807 ∧ x4 ≤ 9223372036854775807 ∧ x6 ≤ 9223372036854775807 ∧ x7 ≤ 9223372036854775807 ∧ x8.length ≤ 9223372036854775807 := by
  obtain ⟨xs, k, hk, hxy, _, hxl, hfs⟩ := DataW.trod_struct Tryz.underlying58 hf
  match xs, hxl with
  | [y0, y1, y2, y3, y4, y5, y6, y7, y8], _ =>
    have g0 := hfs 0 _ rfl
    have g1 := hfs 1 _ rfl
    have g2 := hfs 2 _ rfl
    have g3 := hfs 3 _ rfl
    have g4 := hfs 4 _ rfl
    have g5 := hfs 5 _ rfl
    have g6 := hfs 6 _ rfl
    have g7 := hfs 7 _ rfl
    have g8 := hfs 8 _ rfl
    simp [cells9, cells3, cells4] at g0 g1 g2 g3 g4 g5 g6 g7 g8
    obtain ⟨z0, e0, b0⟩ := open_intb g0
    obtain ⟨z1, e1, b1⟩ := open_intb g1
    obtain ⟨z2, e2, b2⟩ := open_intb g2
    obtain ⟨z3, e3, b3⟩ := open_text g3
    obtain ⟨z4, e4, b4⟩ := open_intb g4
    obtain ⟨z5, e5⟩ := open_truth g5
    obtain ⟨z6, e6, b6⟩ := open_intb g6
    obtain ⟨z7, e7, b7⟩ := open_intb g7
    obtain ⟨z8, e8, b8⟩ := open_text g8
    exact ⟨z0, z1, z2, z3, z4, z5, z6, z7, z8, e0, e1, e2, e3, e4, e5, e6, e7, e8, b0, b1, b2, b3, b4, b6, b7, b8⟩
set_option maxRecDepth 20000 in
theorem open_keyc {H : Type} {enc : TypeId × Value → H} {W : World} {v0 v1 v2 v3 : Value} {fuel : Nat} {y : DataW H × List MemPlace} (hf : DataW.trod enc Tryz.prog W 0 (fun _ => true) true fuel 60 [v0, v1, v2, v3] = some y) : ∃ (x0 : Int) (x1 : Bs) (x2 : Int) (x3 : Int), v0 = I x0 ∧ v1 = S x1 ∧ v2 = I x2 ∧ v3 = I x3 ∧ x0 ≤ 9223372036854775807 ∧ x1.length ≤ 9223372036854775807 ∧ x2 ≤ 9223372036854775807 ∧ x3 ≤ 9223372036854775807 := by
  obtain ⟨xs, k, hk, hxy, _, hxl, hfs⟩ := DataW.trod_struct Tryz.underlying60 hf
  match xs, hxl with
  | [y0, y1, y2, y3], _ =>
    have g0 := hfs 0 _ rfl
    have g1 := hfs 1 _ rfl
    have g2 := hfs 2 _ rfl
    have g3 := hfs 3 _ rfl
    simp [cells9, cells3] at g0 g1 g2 g3
    obtain ⟨z0, e0, b0⟩ := open_intb g0
    obtain ⟨z1, e1, b1⟩ := open_text g1
    obtain ⟨z2, e2, b2⟩ := open_intb g2
    obtain ⟨z3, e3, b3⟩ := open_intb g3
    exact ⟨z0, z1, z2, z3, e0, e1, e2, e3, b0, b1, b2, b3⟩
set_option maxRecDepth 20000 in
theorem open_evec {H : Type} {enc : TypeId × Value → H} {W : World} {v0 v1 v2 v3 v4 : Value} {fuel : Nat} {y : DataW H × List MemPlace} (hf : DataW.trod enc Tryz.prog W 0 (fun _ => true) true fuel 62 [v0, v1, v2, v3, v4] = some y) : ∃ (x0 : Int) (x1 : Int) (x2 : Int) (x3 : Int) (x4 : Bs), v0 = I x0 ∧ v1 = I x1 ∧ v2 = I x2 ∧ v3 = I x3 ∧ v4 = S x4 ∧ x0 ≤ 9223372036854775807 ∧ x1 ≤ 9223372036854775807 ∧ x2 ≤ 9223372036854775807 ∧ x3 ≤ 9223372036854775807 ∧ x4.length ≤ 9223372036854775807 := by
  obtain ⟨xs, k, hk, hxy, _, hxl, hfs⟩ := DataW.trod_struct Tryz.underlying62 hf
  match xs, hxl with
  | [y0, y1, y2, y3, y4], _ =>
    have g0 := hfs 0 _ rfl
    have g1 := hfs 1 _ rfl
    have g2 := hfs 2 _ rfl
    have g3 := hfs 3 _ rfl
    have g4 := hfs 4 _ rfl
    simp [cells9, cells3] at g0 g1 g2 g3 g4
    obtain ⟨z0, e0, b0⟩ := open_intb g0
    obtain ⟨z1, e1, b1⟩ := open_intb g1
    obtain ⟨z2, e2, b2⟩ := open_intb g2
    obtain ⟨z3, e3, b3⟩ := open_intb g3
    obtain ⟨z4, e4, b4⟩ := open_text g4
    exact ⟨z0, z1, z2, z3, z4, e0, e1, e2, e3, e4, b0, b1, b2, b3, b4⟩
set_option maxRecDepth 20000 in
theorem open_chac {H : Type} {enc : TypeId × Value → H} {W : World} {v0 v1 v2 v3 : Value} {fuel : Nat} {y : DataW H × List MemPlace} (hf : DataW.trod enc Tryz.prog W 0 (fun _ => true) true fuel 64 [v0, v1, v2, v3] = some y) : ∃ (x0 : Int) (x1 : Int) (x2 : Bs) (x3 : Bs), v0 = I x0 ∧ v1 = I x1 ∧ v2 = S x2 ∧ v3 = S x3 ∧ x0 ≤ 9223372036854775807 ∧ x1 ≤ 9223372036854775807 ∧ x2.length ≤ 9223372036854775807 ∧ x3.length ≤ 9223372036854775807 := by
  obtain ⟨xs, k, hk, hxy, _, hxl, hfs⟩ := DataW.trod_struct Tryz.underlying64 hf
  match xs, hxl with
  | [y0, y1, y2, y3], _ =>
    have g0 := hfs 0 _ rfl
    have g1 := hfs 1 _ rfl
    have g2 := hfs 2 _ rfl
    have g3 := hfs 3 _ rfl
    simp [cells9, cells3] at g0 g1 g2 g3
    obtain ⟨z0, e0, b0⟩ := open_intb g0
    obtain ⟨z1, e1, b1⟩ := open_intb g1
    obtain ⟨z2, e2, b2⟩ := open_text g2
    obtain ⟨z3, e3, b3⟩ := open_text g3
    exact ⟨z0, z1, z2, z3, e0, e1, e2, e3, b0, b1, b2, b3⟩
set_option maxRecDepth 20000 in
theorem open_small {H : Type} {enc : TypeId × Value → H} {W : World} {v : Value} {base : Nat} {d : DataW H} {ps : List MemPlace} (hval : Value.okWide Tryz.prog W .any base 66 v)
    (h : DataW.Trod enc Tryz.prog W 0 (fun _ => true) true 66 v d ps) : ∃ (x0 : Int) (x1 : Int) (x2 : Int) (x3 : Bs) (x4 : Int) (x5 : Bool) (x6 : Int) (x7 : Int) (x8 : Bs) (x9 : Int) (x10 : Bs) (x11 : Int) (x12 : Int) (x13 : Int) (x14 : Int) (x15 : Int) (x16 : Int) (x17 : Bs) (x18 : Int) (x19 : Int) (x20 : Bs) (x21 : Bs) (x22 : Int) (x23 : Int), v = .agg #[I x0, I x1, I x2, S x3, I x4, .bool x5, I x6, I x7, S x8, I x9, S x10, I x11, I x12, I x13, I x14, I x15, I x16, S x17, I x18, I x19, S x20, S x21, I x22, I x23] ∧ x17.length ≤ 9223372036854775807 ∧ x19 ≤ 9223372036854775807 := by
  obtain ⟨cs, rfl, hc⟩ := okWide_struct Tryz.underlying66 hval
  rw [cells66] at hc
  obtain ⟨fuel, hf⟩ := h
  obtain ⟨xs, k, hk, hxy, _, hxl, hfs⟩ := DataW.trod_struct Tryz.underlying66 hf
  obtain ⟨l⟩ := cs
  match xs, hxl, l, hc with
  | [y0, y1, y2, y3, y4, y5], _, [v0, v1, v2, v3, v4, v5, v6, v7, v8, v9, v10, v11, v12, v13, v14, v15, v16, v17, v18, v19, v20, v21, v22, v23], _ =>
    have g0 := hfs 0 _ rfl
    have g1 := hfs 1 _ rfl
    have g2 := hfs 2 _ rfl
    have g3 := hfs 3 _ rfl
    have g4 := hfs 4 _ rfl
    have g5 := hfs 5 _ rfl
    simp [cells58, cells60, cells62, cells64, cells3, Value.cells] at g0 g1 g2 g3 g4 g5
    obtain ⟨z0, z1, z2, z3, z4, z5, z6, z7, z8, rfl, rfl, rfl, rfl, rfl, rfl, rfl, rfl, rfl, _, _, _, _, _, _, _, _⟩ := open_tokc g0
    obtain ⟨z9, z10, z11, z12, rfl, rfl, rfl, rfl, _, _, _, _⟩ := open_keyc g1
    obtain ⟨z13, z14, z15, z16, z17, rfl, rfl, rfl, rfl, rfl, _, _, _, _, b17⟩ := open_evec g2
    obtain ⟨z18, z19, z20, z21, rfl, rfl, rfl, rfl, _, b19, _, _⟩ := open_chac g3
    obtain ⟨z22, rfl⟩ := open_int g4
    obtain ⟨z23, rfl⟩ := open_int g5
    exact ⟨z0, z1, z2, z3, z4, z5, z6, z7, z8, z9, z10, z11, z12, z13, z14, z15, z16, z17, z18, z19, z20, z21, z22, z23, rfl, b17, b19⟩
end Go.Proofs.YtpidmpefodnffaaGreatDoor
