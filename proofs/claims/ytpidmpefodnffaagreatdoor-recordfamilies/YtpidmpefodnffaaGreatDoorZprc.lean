import Derived.Test.YtpidmpefodnffaaGreatDoorZfde
import Derived.Test.YtpidmpefodnffaaGreatDoorRib
namespace Go.Proofs.YtpidmpefodnffaaGreatDoor
open Go.RowKit
set_option maxHeartbeats 4000000
set_option maxRecDepth 8000
def endKl (en : Int) (id : Int) : List Bs := [[120], be 6 en.toNat, be 8 id.toNat]
def endVl (_en : Int) (_id : Int) : List Bs := []
theorem endB {en : Int} {id : Int} (h : endOK en id = true) : (0 ≤ en ∧ en < 281474976710656 ∧ en ≤ 9223372036854775807) ∧ (0 ≤ id ∧ id < 18446744073709551616 ∧ id ≤ 9223372036854775807) := by
  simp only [endOK, tim, idn, Bool.and_eq_true, decide_eq_true_eq] at h
  omega
def subKl (su : Bs) (id : Int) : List Bs := [[115], su, [0], be 8 id.toNat]
def subVl (_su : Bs) (_id : Int) : List Bs := []
theorem subB {su : Bs} {id : Int} (h : subOK su id = true) : su.length ≤ 100 ∧ (0 ≤ id ∧ id < 18446744073709551616 ∧ id ≤ 9223372036854775807) := by
  simp only [subOK, idn, Bool.and_eq_true, decide_eq_true_eq] at h
  have := right_one h.1
  omega
end Go.Proofs.YtpidmpefodnffaaGreatDoor
namespace Go.Proofs.YtpidmpefodnffaaGreatDoor
open Go.RowKit
set_option maxHeartbeats 4000000
set_option maxRecDepth 8000
theorem lp76 (en : Int) (id : Int) (T : Nat) (W : World) (hT : W.heap[T]? = some (.cells #[I en, I id] 115 (0, 0))) (hok : endOK en id = true) : Calls Tryz.prog 76 #[ptr T] W fun e w3 => ∃ c : Nat → Nat, e = .returned (.agg #[.slice (some ⟨c 0, 0, none⟩) 3 3, .slice none 0 0]) ∧ Below W.heap.size W w3 ∧ ∀ W', Below w3.heap.size w3 W' → Calls Tryz.prog 77 #[.agg #[.slice (some ⟨c 0, 0, none⟩) 3 3, .slice none 0 0]] W' fun e w' => e = .returned (.agg #[S (cat (lx (endKl en id)) 3), S (cat (lx (endVl en id)) 0)]) ∧ Below W'.heap.size W' w' := by
  have hlT := lt_of_row hT
  refine (lay76 T W).mono ?_
  rintro e w3 ⟨c, rfl, hb3, hL1, ⟨hk0, hc0⟩⟩
  refine ⟨c, rfl, hb3, fun W' hW' => ?_⟩
  have d0 : w3.cell? ⟨T, 0, none⟩ = some (I en) := by unfold World.cell?; rw [(hb3.block _ hlT).trans hT]; rfl
  have d1 : w3.cell? ⟨T, 1, none⟩ = some (I id) := by unfold World.cell?; rw [(hb3.block _ hlT).trans hT]; rfl
  have eL1 : w3.cell? ⟨W.heap.size + 1, 0, none⟩ = some (S [120]) := by unfold World.cell?; rw [hL1]; rfl
  obtain ⟨b0, b1⟩ := endB hok
  exact pair_any (some ⟨c 0, 0, none⟩) none 3 0 (fun i => (#[(vW ⟨W.heap.size + 1, 0, none⟩ 1), (vI ⟨T, 0, none⟩ 6), (vI ⟨T, 1, none⟩ 8)] : Array Value).getD i undef) (fun _ => undef) (lx (endKl en id)) (lx (endVl en id)) W' (by decide) (by decide)
    (fun _ => ⟨c 0, 0, rfl, fun i hi => by rw [Nat.zero_add]; unfold World.cell?; rw [(hW'.block _ (lt_of_row hc0)).trans hc0]; match i, hi with | 0, _ => rfl | 1, _ => rfl | 2, _ => rfl | (k + 3), h => exact absurd h (by omega)⟩)
    (fun h => absurd h (by decide))
    (fun W hW i hi => by match i, hi with
    | 0, _ => exact Pf.W _ 1 _ (cell_below eL1 (hW'.trans (hW.mono hW'.size)) (cell_lt eL1))
    | 1, _ => exact Pf.I _ 6 _ (cell_below d0 (hW'.trans (hW.mono hW'.size)) (cell_lt d0)) (by decide) (by decide) b0.1 (by show _ < (281474976710656 : Int); exact b0.2.1) b0.2.2
    | 2, _ => exact Pf.I _ 8 _ (cell_below d1 (hW'.trans (hW.mono hW'.size)) (cell_lt d1)) (by decide) (by decide) b1.1 (by show _ < (18446744073709551616 : Int); exact b1.2.1) b1.2.2
    | (k + 3), h => exact absurd h (by omega))
    (fun W hW i hi => absurd hi (by omega))
    (by simp [cat, lx, endKl, be_len] <;> omega) (by simp [cat] <;> omega)
theorem lp78 (su : Bs) (id : Int) (T : Nat) (W : World) (hT : W.heap[T]? = some (.cells #[S su, I id] 120 (0, 0))) (hok : subOK su id = true) : Calls Tryz.prog 78 #[ptr T] W fun e w3 => ∃ c : Nat → Nat, e = .returned (.agg #[.slice (some ⟨c 0, 0, none⟩) 4 4, .slice none 0 0]) ∧ Below W.heap.size W w3 ∧ ∀ W', Below w3.heap.size w3 W' → Calls Tryz.prog 77 #[.agg #[.slice (some ⟨c 0, 0, none⟩) 4 4, .slice none 0 0]] W' fun e w' => e = .returned (.agg #[S (cat (lx (subKl su id)) 4), S (cat (lx (subVl su id)) 0)]) ∧ Below W'.heap.size W' w' := by
  have hlT := lt_of_row hT
  refine (lay78 T W).mono ?_
  rintro e w3 ⟨c, rfl, hb3, hL1, hL2, ⟨hk0, hc0⟩⟩
  refine ⟨c, rfl, hb3, fun W' hW' => ?_⟩
  have d0 : w3.cell? ⟨T, 0, none⟩ = some (S su) := by unfold World.cell?; rw [(hb3.block _ hlT).trans hT]; rfl
  have d1 : w3.cell? ⟨T, 1, none⟩ = some (I id) := by unfold World.cell?; rw [(hb3.block _ hlT).trans hT]; rfl
  have eL1 : w3.cell? ⟨W.heap.size + 1, 0, none⟩ = some (S [115]) := by unfold World.cell?; rw [hL1]; rfl
  have eL2 : w3.cell? ⟨W.heap.size + 1 + 1, 0, none⟩ = some (S [0]) := by unfold World.cell?; rw [hL2]; rfl
  obtain ⟨b0, b1⟩ := subB hok
  exact pair_any (some ⟨c 0, 0, none⟩) none 4 0 (fun i => (#[(vW ⟨W.heap.size + 1, 0, none⟩ 1), (vR ⟨T, 0, none⟩ 9), (vW ⟨W.heap.size + 1 + 1, 0, none⟩ 1), (vI ⟨T, 1, none⟩ 8)] : Array Value).getD i undef) (fun _ => undef) (lx (subKl su id)) (lx (subVl su id)) W' (by decide) (by decide)
    (fun _ => ⟨c 0, 0, rfl, fun i hi => by rw [Nat.zero_add]; unfold World.cell?; rw [(hW'.block _ (lt_of_row hc0)).trans hc0]; match i, hi with | 0, _ => rfl | 1, _ => rfl | 2, _ => rfl | 3, _ => rfl | (k + 4), h => exact absurd h (by omega)⟩)
    (fun h => absurd h (by decide))
    (fun W hW i hi => by match i, hi with
    | 0, _ => exact Pf.W _ 1 _ (cell_below eL1 (hW'.trans (hW.mono hW'.size)) (cell_lt eL1))
    | 1, _ => exact Pf.R _ 9 _ (cell_below d0 (hW'.trans (hW.mono hW'.size)) (cell_lt d0))
    | 2, _ => exact Pf.W _ 1 _ (cell_below eL2 (hW'.trans (hW.mono hW'.size)) (cell_lt eL2))
    | 3, _ => exact Pf.I _ 8 _ (cell_below d1 (hW'.trans (hW.mono hW'.size)) (cell_lt d1)) (by decide) (by decide) b1.1 (by show _ < (18446744073709551616 : Int); exact b1.2.1) b1.2.2
    | (k + 4), h => exact absurd h (by omega))
    (fun W hW i hi => absurd hi (by omega))
    (by simp [cat, lx, subKl, be_len] <;> omega) (by simp [cat] <;> omega)
end Go.Proofs.YtpidmpefodnffaaGreatDoor
