import Derived.Test.YtpidmpefodnffaaGreatDoorLyb
import Derived.Test.YtpidmpefodnffaaGreatDoorZfdi
namespace Go.Proofs.YtpidmpefodnffaaGreatDoor
open Go.RowKit
set_option maxHeartbeats 4000000
set_option maxRecDepth 8000
def memKl (fa : Int) (ge : Int) (_id : Int) : List Bs := [[109], be 8 fa.toNat, be 4 ge.toNat]
def memVl (_fa : Int) (_ge : Int) (id : Int) : List Bs := [be 8 id.toNat]
theorem memB {fa : Int} {ge : Int} {id : Int} (h : memOK fa ge id = true) : (0 ≤ fa ∧ fa < 18446744073709551616 ∧ fa ≤ 9223372036854775807) ∧ (0 ≤ ge ∧ ge < 4294967296 ∧ ge ≤ 9223372036854775807) ∧ (0 ≤ id ∧ id < 18446744073709551616 ∧ id ≤ 9223372036854775807) := by
  simp only [memOK, idn, gnr, Bool.and_eq_true, decide_eq_true_eq] at h
  omega
end Go.Proofs.YtpidmpefodnffaaGreatDoor
namespace Go.Proofs.YtpidmpefodnffaaGreatDoor
open Go.RowKit
set_option maxHeartbeats 4000000
set_option maxRecDepth 8000
theorem lp99 (fa : Int) (ge : Int) (id : Int) (T : Nat) (W : World) (hT : W.heap[T]? = some (.cells #[I fa, I ge, I id] 139 (0, 0))) (hok : memOK fa ge id = true) : Calls Tryz.prog 99 #[ptr T] W fun e w3 => ∃ c : Nat → Nat, e = .returned (.agg #[.slice (some ⟨c 0, 0, none⟩) 3 3, .slice (some ⟨c 1, 0, none⟩) 1 1]) ∧ Below W.heap.size W w3 ∧ ∀ W', Below w3.heap.size w3 W' → Calls Tryz.prog 77 #[.agg #[.slice (some ⟨c 0, 0, none⟩) 3 3, .slice (some ⟨c 1, 0, none⟩) 1 1]] W' fun e w' => e = .returned (.agg #[S (cat (lx (memKl fa ge id)) 3), S (cat (lx (memVl fa ge id)) 1)]) ∧ Below W'.heap.size W' w' := by
  have hlT := lt_of_row hT
  refine (lay99 T W).mono ?_
  rintro e w3 ⟨c, rfl, hb3, hL1, ⟨hk0, hc0⟩, ⟨hk1, hc1⟩⟩
  refine ⟨c, rfl, hb3, fun W' hW' => ?_⟩
  have d0 : w3.cell? ⟨T, 0, none⟩ = some (I fa) := by unfold World.cell?; rw [(hb3.block _ hlT).trans hT]; rfl
  have d1 : w3.cell? ⟨T, 1, none⟩ = some (I ge) := by unfold World.cell?; rw [(hb3.block _ hlT).trans hT]; rfl
  have d2 : w3.cell? ⟨T, 2, none⟩ = some (I id) := by unfold World.cell?; rw [(hb3.block _ hlT).trans hT]; rfl
  have eL1 : w3.cell? ⟨W.heap.size + 1, 0, none⟩ = some (S [109]) := by unfold World.cell?; rw [hL1]; rfl
  obtain ⟨b0, b1, b2⟩ := memB hok
  exact pair_any (some ⟨c 0, 0, none⟩) (some ⟨c 1, 0, none⟩) 3 1 (fun i => (#[(vW ⟨W.heap.size + 1, 0, none⟩ 1), (vI ⟨T, 0, none⟩ 8), (vI ⟨T, 1, none⟩ 4)] : Array Value).getD i undef) (fun i => (#[(vI ⟨T, 2, none⟩ 8)] : Array Value).getD i undef) (lx (memKl fa ge id)) (lx (memVl fa ge id)) W' (by decide) (by decide)
    (fun _ => ⟨c 0, 0, rfl, fun i hi => by rw [Nat.zero_add]; unfold World.cell?; rw [(hW'.block _ (lt_of_row hc0)).trans hc0]; match i, hi with | 0, _ => rfl | 1, _ => rfl | 2, _ => rfl | (k + 3), h => exact absurd h (by omega)⟩)
    (fun _ => ⟨c 1, 0, rfl, fun i hi => by rw [Nat.zero_add]; unfold World.cell?; rw [(hW'.block _ (lt_of_row hc1)).trans hc1]; match i, hi with | 0, _ => rfl | (k + 1), h => exact absurd h (by omega)⟩)
    (fun W hW i hi => by match i, hi with
    | 0, _ => exact Pf.W _ 1 _ (cell_below eL1 (hW'.trans (hW.mono hW'.size)) (cell_lt eL1))
    | 1, _ => exact Pf.I _ 8 _ (cell_below d0 (hW'.trans (hW.mono hW'.size)) (cell_lt d0)) (by decide) (by decide) b0.1 (by show _ < (18446744073709551616 : Int); exact b0.2.1) b0.2.2
    | 2, _ => exact Pf.I _ 4 _ (cell_below d1 (hW'.trans (hW.mono hW'.size)) (cell_lt d1)) (by decide) (by decide) b1.1 (by show _ < (4294967296 : Int); exact b1.2.1) b1.2.2
    | (k + 3), h => exact absurd h (by omega))
    (fun W hW i hi => by match i, hi with
    | 0, _ => exact Pf.I _ 8 _ (cell_below d2 (hW'.trans (hW.mono hW'.size)) (cell_lt d2)) (by decide) (by decide) b2.1 (by show _ < (18446744073709551616 : Int); exact b2.2.1) b2.2.2
    | (k + 1), h => exact absurd h (by omega))
    (by simp [cat, lx, memKl, be_len] <;> omega) (by simp [cat, lx, memVl, be_len] <;> omega)
end Go.Proofs.YtpidmpefodnffaaGreatDoor
