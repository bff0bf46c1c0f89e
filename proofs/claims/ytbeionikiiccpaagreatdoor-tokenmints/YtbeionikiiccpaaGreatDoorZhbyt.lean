import Derived.Test.YtbeionikiiccpaaGreatDoorZhmet
import Derived.Test.YtbeionikiiccpaaGreatDoorZhcrc
namespace Go.Proofs.YtbeionikiiccpaaGreatDoor
open Go.RowKit
open Sha
set_option maxRecDepth 8000
/-- The bytes of a text in new memory. -/
theorem wpList_bytesH {ops : Array Oper} {rest : List Oper} {o : Oper} {a : Act} {w : World} {Q : Exit → Act → World → Prop} (hgd : o.guard = none) (x : Operand) (ho : o.op = .convert 9 49 x)
    (s : List UInt8) (hx : a.eval x = .string ⟨s.toArray⟩)
    (h : ∀ w' cap, (∀ j, j < s.length → w'.cell? ⟨w.heap.size, j, none⟩ = some (.int .u8 ((s.getD j 0).toNat : Int))) → (∀ j, j < s.length → w'.frozen? ⟨w.heap.size, j, none⟩ = false) →
      Below w.heap.size w w' → w.heap.size < w'.heap.size → wpList Tryz.prog ops Q rest (a.put o.dst (.slice (some ⟨w.heap.size, 0, none⟩) s.length cap)) w') : wpList Tryz.prog ops Q (o :: rest) a w := by
  refine wpList_plain hgd fun K hK => ?_
  have hrun := run_bytes_of_string (P := Tryz.prog) w 9 49 5 ⟨s.toArray⟩ Tryz.underlying9 Tryz.underlying49 Tryz.underlying5
  have hsz : (ByteArray.mk s.toArray).size = s.length := by simp [ByteArray.size]
  unfold Oper.wp execOp
  simp only [ho, hx, Sem.run_bind, hrun, Result.andThen_ok]
  rw [hsz]
  refine hK _ _ (h _ _ ?_ ?_ ?_ ?_)
  · intro j hj
    have e := World.cell?_alloc_mark w.drew (bytesRow ⟨s.toArray⟩ (grownCap w s.length 0 5)) 5 ((bytesRow ⟨s.toArray⟩ (grownCap w s.length 0 5)).size, (bytesRow ⟨s.toArray⟩ (grownCap w s.length 0 5)).size + 1) j
    refine e.trans ?_
    rw [bytesRow_at _ _ _ (by simpa using hj)]
    simp [hj]
  · intro j hj
    have e := World.frozen?_alloc_mark w.drew (bytesRow ⟨s.toArray⟩ (grownCap w s.length 0 5)) 5 (bytesRow ⟨s.toArray⟩ (grownCap w s.length 0 5)).size ((bytesRow ⟨s.toArray⟩ (grownCap w s.length 0 5)).size + 1) j
    refine e.trans ?_
    have : s.length ≤ (bytesRow ⟨s.toArray⟩ (grownCap w s.length 0 5)).size := by simp [bytesRow]
    simp; omega
  · exact ((Below.refl _ _).drew).alloc (Nat.le_refl _) _
  · simp
end Go.Proofs.YtbeionikiiccpaaGreatDoor
namespace Go.Proofs.YtbeionikiiccpaaGreatDoor
open Go.RowKit
open Sha
set_option maxRecDepth 8000
theorem owns_row {w : World} {base g n : Nat} {e : TypeId} {xs : List Value} (h : w.ownsRow base e 1 (.slice (some ⟨g, 0, none⟩) n n) n xs) : Row w g xs.toArray e := by
  obtain ⟨h1, h2⟩ := h
  rcases h2 with ⟨q, _⟩ | ⟨g', cap, cur, e1, _, e3, _, _, e5, e6⟩
  · simp at q
  · simp only [Value.slice.injEq, Option.some.injEq, Addr.mk.injEq, and_true, true_and] at e1
    obtain ⟨rfl, rfl⟩ := e1
    have : cur.toList = xs := by rw [← e6, List.take_of_length_le (by simp [e5])]
    rw [← this]
    exact e3
theorem arr_copy (z l : List UInt8) : (((z.map B).toArray).toList.take 0 ++ l.map B ++ ((z.map B).toArray).toList.drop (0 + (l.map B).length)).toArray = cB (spl z 0 l) := by
  simp [cB, spl, List.map_drop]
theorem mac_short (K t : List UInt8) (h : K.length ≤ 64) : mac K t = sum (msk K 92 ++ sum (msk K 54 ++ t)) := by
  simp only [mac, if_neg (show ¬ 64 < K.length by omega)]
theorem msk_zeros (K : List UInt8) (p : Nat) (m : UInt8) : msk (K ++ List.replicate p 0) m = msk K m := by
  unfold msk
  apply List.map_congr_left
  intro i _
  congr 1
  by_cases h : i < K.length
  · simp [List.getElem?_append_left h]
  · simp only [List.getD_eq_getElem?_getD, List.getElem?_append_right (by omega : K.length ≤ i)]
    rw [List.getElem?_eq_none (by omega : K.length ≤ i)]
    by_cases q : i - K.length < p
    · simp [q]
    · simp [q]
theorem mac_zeros (K t : List UInt8) (p : Nat) (h : K.length + p ≤ 64) : mac (K ++ List.replicate p 0) t = mac K t := by
  rw [mac_short _ _ (by simp; omega), mac_short _ _ (by omega), msk_zeros, msk_zeros]
end Go.Proofs.YtbeionikiiccpaaGreatDoor
