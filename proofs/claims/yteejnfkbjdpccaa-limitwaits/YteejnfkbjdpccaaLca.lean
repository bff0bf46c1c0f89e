import Derived.Test.YteejnfkbjdpccaaLpd
import Derived.Test.YteejnfkbjdpccaaLbj
import Derived.Test.YteejnfkbjdpccaaLbk
namespace Go.Proofs.Yteejnfkbjdpccaa
open Go.RowKit Fl
set_option maxHeartbeats 4000000
set_option maxRecDepth 8000
/-- Somebody asks: who, how much, how much later. -/
structure As where
  w : Int
  c : Int
  p : Int
  l : Int
abbrev as0 : As := ⟨0, 0, 0, 0⟩
def As.wf (q : As) : Prop := (-9223372036854775808 ≤ q.w ∧ q.w ≤ 9223372036854775807) ∧ (-9223372036854775808 ≤ q.c ∧ q.c ≤ 9223372036854775807) ∧ (-9223372036854775808 ≤ q.p ∧ q.p ≤ 9223372036854775807) ∧ (-9223372036854775808 ≤ q.l ∧ q.l ≤ 9223372036854775807)
def Aks (w : World) (a : Option Addr) (n : Nat) (l : List As) : Prop :=
  n = l.length ∧ (∀ q ∈ l, q.wf) ∧ (0 < n → ∃ p o, a = some ⟨p, o, none⟩ ∧ ∀ j, j < n → w.cell? ⟨p, o + j * 4, none⟩ = some (I (l.getD j as0).w) ∧ w.cell? ⟨p, o + j * 4 + 1, none⟩ = some (I (l.getD j as0).c) ∧ w.cell? ⟨p, o + j * 4 + 2, none⟩ = some (I (l.getD j as0).p) ∧ w.cell? ⟨p, o + j * 4 + 3, none⟩ = some (I (l.getD j as0).l))
theorem Aks.at {w : World} {a : Option Addr} {n : Nat} {l : List As} (h : Aks w a n l) {j : Nat} (hj : j < n) : ∃ p o, a = some ⟨p, o, none⟩ ∧ p < w.heap.size ∧ w.cell? ⟨p, o + j * 4, none⟩ = some (I (l.getD j as0).w) ∧ w.cell? ⟨p, o + j * 4 + 1, none⟩ = some (I (l.getD j as0).c) ∧ w.cell? ⟨p, o + j * 4 + 2, none⟩ = some (I (l.getD j as0).p) ∧ w.cell? ⟨p, o + j * 4 + 3, none⟩ = some (I (l.getD j as0).l) := by
  obtain ⟨p, o, e, hc⟩ := h.2.2 (by omega)
  exact ⟨p, o, e, blk_lt (hc j hj).1, hc j hj⟩
theorem Aks.wfa {w : World} {a : Option Addr} {n : Nat} {l : List As} (h : Aks w a n l) {j : Nat} (hj : j < n) : (l.getD j as0).wf := by
  have hl : j < l.length := by have := h.1; omega
  rw [List.getD_eq_getElem?_getD, List.getElem?_eq_getElem hl]
  exact h.2.1 _ (List.getElem_mem hl)
theorem Aks.below {w w' : World} {a : Option Addr} {n : Nat} {l : List As} (h : Aks w a n l) (hb : Below w.heap.size w w') : Aks w' a n l := by
  refine ⟨h.1, h.2.1, fun hn => ?_⟩
  obtain ⟨p, o, e, hc⟩ := h.2.2 hn
  exact ⟨p, o, e, fun j hj => ⟨(hb.cell (by exact blk_lt (hc j hj).1)).trans (hc j hj).1, (hb.cell (by exact blk_lt (hc j hj).1)).trans (hc j hj).2.1, (hb.cell (by exact blk_lt (hc j hj).1)).trans (hc j hj).2.2.1, (hb.cell (by exact blk_lt (hc j hj).1)).trans (hc j hj).2.2.2⟩⟩
/-- A burst of the law's: above nought. -/
theorem burst_ok (c d : Int) : F.add (nv c d) 1065353216 = some (ad (nv c d) 1065353216) ∧ 0 < ad (nv c d) 1065353216 ∧ ad (nv c d) 1065353216 < 2139095040 := by
  have h := (nv_some c d).2
  refine ⟨add_am (by omega) (Or.inl (by decide)), ?_, ?_⟩
  · have h1 := ad_mono (x := 1065353216) (y := 0) (z := nv c d) (Or.inl (by decide)) (Or.inl (by omega)) (by rw [nz_pos (x := 0) (by decide), nz_pos (x := nv c d) (by omega)]; omega)
    have e : ad (nv c d) 1065353216 = ad 1065353216 (nv c d) := by
      unfold ad
      rw [nz_pos (x := 1065353216) (by decide), nz_pos (x := nv c d) (by omega), if_neg (by omega), if_neg (by omega), Nat.add_comm]
    rw [e]
    have h2 : ad 1065353216 0 = 1065353216 := ad_nought (by decide) (by decide)
    omega
  · have e : ad (nv c d) 1065353216 = ad 1065353216 (nv c d) := by
      unfold ad
      rw [nz_pos (x := 1065353216) (by decide), nz_pos (x := nv c d) (by omega), if_neg (by omega), if_neg (by omega), Nat.add_comm]
    rw [e]
    have h1 := ad_mono (x := 1065353216) (y := nv c d) (z := 1442840576) (Or.inl (by omega)) (Or.inl (by decide)) (by rw [nz_pos (x := 1442840576) (by decide), nz_pos (x := nv c d) (by omega)]; omega)
    have h2 : ad 1065353216 1442840576 < 2139095040 := by decide
    omega
end Go.Proofs.Yteejnfkbjdpccaa
