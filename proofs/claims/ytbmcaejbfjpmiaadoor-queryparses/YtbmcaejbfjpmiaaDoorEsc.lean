import Derived.Test.YtbmcaejbfjpmiaaDoorShlf
import Derived.Test.YtbmcaejbfjpmiaaDoorByb
import Derived.WalkKit
import Derived.BigCall
namespace Go.Proofs.YtbmcaejbfjpmiaaDoor
open Go.RowKit Go.Lib
/-- The tables and the number of the library's that the program reads, below B. -/
def Env (B : Nat) (w : World) : Prop := 3 ≤ B ∧ B ≤ w.heap.size ∧ (∃ m, w.cell? ⟨2, 0, none⟩ = some (.int .i64 m)) ∧ Utf8Tabs 0 1 w
theorem Env.below {B : Nat} {w w' : World} (h : Env B w) (b : Below B w w') : Env B w' := by
  obtain ⟨h1, h2, ⟨m, h3⟩, h4, h5⟩ := h
  have hc : ∀ (k o : Nat), k < 3 → w'.cell? ⟨k, o, none⟩ = w.cell? ⟨k, o, none⟩ := fun k o hk => b.cell (p := ⟨k, o, none⟩) (by show k < B; omega)
  refine ⟨h1, Nat.le_trans h2 b.size, ⟨m, by rw [hc 2 0 (by omega)]; exact h3⟩, fun c hcc => by rw [hc 0 c (by omega)]; exact h4 c hcc, fun i hi => ?_⟩
  rw [hc 1 _ (by omega), hc 1 _ (by omega)]
  exact h5 i hi
theorem Env.top {B : Nat} {w : World} (h : Env B w) {B' : Nat} (h1 : B ≤ B') (h2 : B' ≤ w.heap.size) : Env B' w := ⟨by have := h.1; omega, h2, h.2.2⟩
theorem digit_at (n : Nat) (h : n < 16) (hs : n < (ByteArray.mk hexs.toArray).size) : (ByteArray.mk hexs.toArray)[n]'hs = hexd n := by
  have e : (ByteArray.mk hexs.toArray)[n]'hs = hexs[n]'h := rfl
  rw [e]
  unfold hexd
  rw [List.getD_eq_getElem?_getD, List.getElem?_eq_getElem h]
  rfl
abbrev Bd (B b : Nat) (acc : List UInt8) (w : World) : Prop := IsBuilderF 50 5 B b (byteCells acc) w
set_option maxHeartbeats 1000000 in
set_option maxRecDepth 8000 in
theorem escapeByte_any (B b : Nat) (acc : List UInt8) (c : UInt8) (w : World) (h : Bd B b acc w) (hl : acc.length + 3 ≤ 140737488355328) (hB : B ≤ w.heap.size) :
    Calls Tryd.prog 39 #[.pointer (some ⟨b, 0, none⟩), .int .u8 (c.toNat : Int)] w fun e w' => e = .returned (.tuple #[]) ∧ Bd B b (acc ++ [37, hexd (c.toNat / 16), hexd (c.toNat % 16)]) w' ∧ Below B w w' ∧ OthersKept 5 (some b) w w' := by
  have hlt := c.toNat_lt
  have hsz : (ByteArray.mk hexs.toArray).size = 16 := rfl
  have d1 := digit_at (c.toNat / 16) (by omega) (by rw [hsz]; omega)
  have d2 := digit_at (c.toNat % 16) (by omega) (by rw [hsz]; omega)
  have hl0 : (byteCells acc).length = acc.length := byteCells_length acc
  have b1 : (c.toNat : Int) / 16 < 16 := by omega
  have b2 : (c.toNat : Int) % 16 < 16 := by omega
  go_enter Tryd.func39, Tryd.ntmps39
  go_wp2_with (go_at_call 34; refine (Tryd.Builder_WriteByte_k B b _ 37 _ h (by omega) hB).mono ?_)
  rintro e w1 ⟨rfl, h1, k1, o1⟩
  have s1 := k1.size
  have hl1 : (byteCells acc ++ [Value.int .u8 37]).length = acc.length + 1 := by simp [hl0]
  go_wp2_with (go_at_call 34; refine (Tryd.Builder_WriteByte_k B b _ _ w1 (.inr h1) (by rw [hl1]; omega) (by omega)).mono ?_)
  rintro e w2 ⟨rfl, h2, k2, o2⟩
  have s2 := k2.size
  go_wp2_with (go_at_call 34; refine (Tryd.Builder_WriteByte_k B b _ _ w2 (.inr h2) (by rw [List.length_append, hl1, List.length_singleton]; omega) (by omega)).mono ?_)
  rintro e w3 ⟨rfl, h3, k3, o3⟩
  go_wp2
  go_end0
  refine ⟨rfl, ?_, (k1.trans k2).trans k3, (o1.trans o2).trans o3⟩
  unfold Bd
  rw [byteCells_append]
  refine .inr ?_
  simpa [byteCells] using h3
end Go.Proofs.YtbmcaejbfjpmiaaDoor
