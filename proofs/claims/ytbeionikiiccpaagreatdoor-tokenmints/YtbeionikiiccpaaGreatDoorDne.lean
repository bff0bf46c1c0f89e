import Derived.Test.YtbeionikiiccpaaGreatDoorAsh
import Derived.Test.YtbeionikiiccpaaGreatDoorNrd
namespace Go.Proofs.YtbeionikiiccpaaGreatDoor
open Go.RowKit Go.Lib
/-- The variable errors.errorType as it is laid. -/
def Lay (w : World) : Prop := w.cell? ⟨3, 0, none⟩ = some (.iface 94 (.agg #[.pointer (some ⟨5, 36, none⟩)]))
theorem Lay.pos {w : World} (h : Lay w) : 3 < w.heap.size := by
  unfold Lay at h
  rcases Nat.lt_or_ge 3 w.heap.size with h0 | h0
  · exact h0
  · simp [World.cell?, Array.getElem?_eq_none h0] at h
theorem Lay.keep {P : Nat → Prop} {w w' : World} (h : Lay w) (ho : Only P w w') (h0 : ¬ P 3) : Lay w' := (World.cell?_of_block (ho.block 3 h.pos h0)).trans h
theorem Lay.below {w w' : World} (h : Lay w) (hb : Below w.heap.size w w') : Lay w' := h.keep (Only.of_below (P := fun _ => False) hb) (fun q => q)
theorem as_hit (e : Int) (t : Addr) (old : Value) (w : World) (hg : Lay w) (ht0 : w.cell? t = some old) (hf0 : w.frozen? t = false) :
    Calls Tryz.prog 46 #[.iface 71 (.agg #[.int .i64 e]), .iface 74 (.pointer (some t))] w fun ev w' => ev = .returned (.bool true) ∧ w'.cell? t = some (.int .i64 e) ∧ Only (fun k => k = t.block) w w' := by
  have htl : t.block < w.heap.size := by
    rcases Nat.lt_or_ge t.block w.heap.size with h | h
    · exact h
    · simp [World.cell?, Array.getElem?_eq_none h] at ht0
  refine (as_world e t old w hg ht0 hf0).mono ?_
  rintro ev w' ⟨rfl, rfl⟩
  refine ⟨rfl, ?_, ?_⟩
  · refine World.cell?_setCell_same (u := old) _ _ _ ?_
    rw [World.cell?_alloc_lt _ _ t (by simp; omega), World.cell?_alloc_lt _ _ t (by simp; omega), World.cell?_alloc_lt _ _ t (by simp; omega), World.cell?_alloc_lt _ _ t htl]
    exact ht0
  · refine Only.trans ?_ (Only.setCell _ t _) (fun k _ q => q)
    exact ((((Only.alloc _ w _).trans (Only.alloc (fun _ => False) _ _) (fun _ _ q => q.elim)).trans (Only.alloc (fun _ => False) _ _) (fun _ _ q => q.elim)).trans (Only.alloc (fun _ => False) _ _) (fun _ _ q => q.elim))
set_option maxHeartbeats 1000000 in
set_option maxRecDepth 8000 in
theorem wdone_bad (b : Nat) (v : Value) (X : List UInt8) (E : Nat) (w : World) (h : WAt b v X E w) (hE : E ≠ 0) (hg : Lay w) :
    Calls Tryz.prog 27 #[.pointer (some ⟨b, 0, none⟩)] w fun e w' => e = .returned (.tuple #[.string ⟨#[]⟩, .int .i64 E]) ∧ Below w.heap.size w w' := by
  have c1 := h.c1
  rw [errV_ne hE] at c1
  have hlt := lt_of_row h.row
  have hl := hg.below ((Below.refl _ _).alloc (Nat.le_refl _) (.cells #[.int .i64 0] 71))
  have HL := hide hl
  clear h hl hg
  go_enter Tryz.func27, Tryz.ntmps27
  go_wp2_with fail
  refine (as_hit (E : Int) ⟨w.heap.size, 0, none⟩ (.int .i64 0) _ (unhide HL) (by simp) (by simp)).mono ?_
  rintro e w1 ⟨rfl, hc, ho⟩
  have hb : Below w.heap.size w w1 := ho.below ((Below.refl w.heap.size w).alloc (Nat.le_refl _) _) (by simp) (by rintro k rfl; exact Nat.le_refl _)
  have HB := hide hb
  clear hb ho HL
  go_wp2
  go_quiet (fail)
  all_goals go_wp2
  all_goals (go_ret2; exact ⟨rfl, (unhide HB) |> fun q => ⟨q.os, q.tape, q.output, q.size, q.block⟩⟩)
set_option maxHeartbeats 1000000 in
set_option maxRecDepth 8000 in
theorem rdone_bad (b g off cap : Nat) (R : List UInt8) (E : Nat) (w : World) (h : RAt b g off cap R E w) (hE : E ≠ 0) (hg : Lay w) :
    Calls Tryz.prog 58 #[.pointer (some ⟨b, 0, none⟩)] w fun e w' => e = .returned (.int .i64 (rDone R E)) ∧ Below w.heap.size w w' := by
  have c1 := h.c1
  rw [errV_ne hE] at c1
  have hlt := lt_of_row h.row
  have HD : Hid (rDone R E = E) := hide (by simp [rDone, hE])
  have hl := hg.below ((Below.refl _ _).alloc (Nat.le_refl _) (.cells #[.int .i64 0] 71))
  have HL := hide hl
  clear h hl hg
  go_enter Tryz.func58, Tryz.ntmps58
  go_wp2_with fail
  refine (as_hit (E : Int) ⟨w.heap.size, 0, none⟩ (.int .i64 0) _ (unhide HL) (by simp) (by simp)).mono ?_
  rintro e w1 ⟨rfl, hc, ho⟩
  have hb : Below w.heap.size w w1 := ho.below ((Below.refl w.heap.size w).alloc (Nat.le_refl _) _) (by simp) (by rintro k rfl; exact Nat.le_refl _)
  have HB := hide hb
  clear hb ho HL
  go_wp2
  go_ret
  exact ⟨by rw [unhide HD]; rfl, unhide HB⟩
theorem rdone_any (b g off cap : Nat) (R : List UInt8) (E : Nat) (w : World) (h : RAt b g off cap R E w) (hg : Lay w) :
    Calls Tryz.prog 58 #[.pointer (some ⟨b, 0, none⟩)] w fun e w' => e = .returned (.int .i64 (rDone R E)) ∧ Below w.heap.size w w' := by
  by_cases hE : E = 0
  · subst hE; exact rdone_ok b g off cap R w h
  · exact rdone_bad b g off cap R E w h hE hg
/-- What Done of a Writer says. -/
def wDone (X : List UInt8) (E : Nat) : List UInt8 × Nat := if E = 0 then (X, 0) else ([], E)
theorem wdone_any (b : Nat) (v : Value) (X : List UInt8) (E : Nat) (w : World) (h : WAt b v X E w) (hg : Lay w) :
    Calls Tryz.prog 27 #[.pointer (some ⟨b, 0, none⟩)] w fun e w' => e = .returned (.tuple #[.string ⟨(wDone X E).1.toArray⟩, .int .i64 (wDone X E).2]) ∧ Below w.heap.size w w' := by
  by_cases hE : E = 0
  · subst hE; exact wdone_ok b v X w h
  · have : wDone X E = ([], E) := by simp [wDone, hE]
    rw [this]
    exact wdone_bad b v X E w h hE hg
end Go.Proofs.YtbeionikiiccpaaGreatDoor
