import Derived.Test.YtpidmpefodnffaaGreatDoorLai
import Derived.Test.YtpidmpefodnffaaGreatDoorDsa
import Derived.Deep.Slices
import Derived.SizedLaws
import Derived.SliceStrings
namespace Go.Proofs.YtpidmpefodnffaaGreatDoor
open Go Go.ChangeShapes Go.WideShapes Go.ChangeAt
theorem cells9 : Tryz.prog.cellsOf 9 = 1 := by kernel_rfl
theorem cells30 : Tryz.prog.cellsOf 30 = 2 := by kernel_rfl
theorem laidOut : laidOutB Tryz.prog = true := by kernel_rfl
set_option maxRecDepth 20000 in
/-- A pair among the arguments. -/
theorem open_pair {H : Type} {enc : TypeId × Value → H} {W : World} {v : Value} {base : Nat} {d : DataW H} {ps : List MemPlace} (hval : Value.okWide Tryz.prog W .any base 30 v)
    (h : DataW.Trod enc Tryz.prog W 0 (fun _ => true) true 30 v d ps) :
    ∃ (x y : Bs), v = .agg #[S x, S y] ∧ x.length ≤ 9223372036854775807 ∧ y.length ≤ 9223372036854775807 := by
  obtain ⟨cs, rfl, hc⟩ := okWide_struct Tryz.underlying30 hval
  rw [cells30] at hc
  obtain ⟨fuel, hf⟩ := h
  obtain ⟨xs, k, hk, hxy, _, hxl, hfs⟩ := DataW.trod_struct Tryz.underlying30 hf
  obtain ⟨l⟩ := cs
  match xs, hxl, l, hc with
  | [y0, y1], _, [v0, v1], _ =>
    have g0 := hfs 0 _ rfl
    have g1 := hfs 1 _ rfl
    simp [cells9, Value.cells] at g0 g1
    obtain ⟨z0, ez0, _, w0⟩ := DataW.trod_string Tryz.underlying9 g0
    obtain ⟨z1, ez1, _, w1⟩ := DataW.trod_string Tryz.underlying9 g1
    simp only [List.cons.injEq, and_true] at ez0 ez1
    subst ez0 ez1
    unfold maxLen at w0 w1
    refine ⟨z0.data.toList, z1.data.toList, by simp, ?_, ?_⟩
    · rw [Array.length_toList]; exact Nat.le_trans w0 (by omega)
    · rw [Array.length_toList]; exact Nat.le_trans w1 (by omega)
end Go.Proofs.YtpidmpefodnffaaGreatDoor
