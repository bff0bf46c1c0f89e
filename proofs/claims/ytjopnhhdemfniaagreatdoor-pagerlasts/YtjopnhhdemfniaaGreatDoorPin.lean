import Derived.Test.YtjopnhhdemfniaaGreatDoorPil
import Derived.Test.YtjopnhhdemfniaaGreatDoorZpic
import Derived.Defers
namespace Go.Proofs.YtjopnhhdemfniaaGreatDoor
open Go.RowKit
set_option maxHeartbeats 8000000
set_option maxRecDepth 8000
variable {P D : Nat} {d : Ds} {p : Pr} {vw vl vu : Value} {w w' : World}
theorem fin_ok (b8 b9 b10 b4 : Nat) (u : FrameMode) (w : World) (h8 : w.cell? ⟨b8, 0, none⟩ = some (I 0)) : CallsD Tryz.prog 193 #[ptr b8, ptr b9, ptr b10, ptr b4] u w fun e u' w' => u' = u ∧ (e = .returned (.tuple #[]) ∧ w' = w) := by
  go_enter_d Tryz.func193, Tryz.ntmps193
  go_wp2
  go_end0
  exact ⟨rfl, rfl⟩
/-- The pager is put back, in doubt. -/
def back (w : World) (P : Nat) (h : Hd) (v : Value) : World := ((((((w.setCell ⟨P, 1, none⟩ (I h.gen)).setCell ⟨P, 2, none⟩ (I h.root)).setCell ⟨P, 3, none⟩ (I h.blocks)).setCell ⟨P, 4, none⟩ (S h.note)).setCell ⟨P, 5, none⟩ v).setCell ⟨P, 7, none⟩ (.bool true))
theorem fin_bad (b8 b9 b10 b4 : Nat) (u : FrameMode) (w : World) (er : Int) (hn : (er != 0) = true) (h8 : w.cell? ⟨b8, 0, none⟩ = some (I er)) (x : Hd) (q : Option Addr) (ul cap : Nat) (h9 : w.heap[b9]? = some (.cells (hdc x) 123 (0, 0))) (h10 : w.cell? ⟨b10, 0, none⟩ = some (.slice q ul cap)) (h4 : w.cell? ⟨b4, 0, none⟩ = some (ptr P)) (h : PD P D d p vw vl vu w) : CallsD Tryz.prog 193 #[ptr b8, ptr b9, ptr b10, ptr b4] u w fun e u' w' => u' = u ∧ (e = .returned (.tuple #[]) ∧ w' = back w P x (.slice q ul cap)) := by
  obtain ⟨c0, c1, c2, c3, c4, c5, c6, c7⟩ := h.c
  have f1 := frz h.blk 1
  have f2 := frz h.blk 2
  have f3 := frz h.blk 3
  have f4 := frz h.blk 4
  have f5 := frz h.blk 5
  have f7 := frz h.blk 7
  have hPl := h.lt
  obtain ⟨q0, cap0, hv0⟩ := owns_form h.us
  obtain ⟨g, r, b, nt⟩ := x
  unfold hdc at h9
  unfold back
  simp only at h9 ⊢
  obtain ⟨d0, d1, d2, d3⟩ := box4 h9 (Below.refl _ _) (lt_of_row h9)
  clear h h9
  rw [hv0] at c5
  generalize p.use.length = pl at *
  go_enter_d Tryz.func193, Tryz.ntmps193
  go_wp2
  go_end0
  exact ⟨rfl, rfl⟩
theorem PD.back (h : PD P D d p vw vl vu w) (x : Hd) (v : Value) (us : Us) (hu : Uls w v us) (hl : us.length = d.last.length) : PD P D d { p with h := x, use := us, doubt := true } vw vl v (back w P x v) ∧ Only (fun k => k = P) w (back w P x v) := by
  have o1 := Only.setCell w ⟨P, 1, none⟩ (I x.gen)
  have h1 := h.set (p' := { p with h := ⟨x.gen, p.h.root, p.h.blocks, p.h.note⟩ }) (vu' := vu) 1 (I x.gen) rfl h.us h.len
  have h2 := h1.set (p' := { p with h := ⟨x.gen, x.root, p.h.blocks, p.h.note⟩ }) (vu' := vu) 2 (I x.root) rfl h1.us h1.len
  have h3 := h2.set (p' := { p with h := ⟨x.gen, x.root, x.blocks, p.h.note⟩ }) (vu' := vu) 3 (I x.blocks) rfl h2.us h2.len
  have h4 := h3.set (p' := { p with h := x }) (vu' := vu) 4 (S x.note) rfl h3.us h3.len
  have oo := (((o1.put ⟨P, 2, none⟩ (I x.root) (.inl rfl)).put ⟨P, 3, none⟩ (I x.blocks) (.inl rfl)).put ⟨P, 4, none⟩ (S x.note) (.inl rfl))
  have hu4 := owns_only hu oo (fun k hk e => by
    obtain ⟨cs, q⟩ := owns_lt hu k hk
    rw [show k = P from e, h.blk] at q
    cases q)
  have h5 := h4.set (p' := { p with h := x, use := us }) (vu' := v) 5 v rfl hu4 hl
  have h7 := h5.set (p' := { p with h := x, use := us, doubt := true }) (vu' := v) 7 (.bool true) rfl h5.us hl
  exact ⟨h7, (oo.put ⟨P, 5, none⟩ v (.inl rfl)).put ⟨P, 7, none⟩ (.bool true) (.inl rfl)⟩
end Go.Proofs.YtjopnhhdemfniaaGreatDoor
