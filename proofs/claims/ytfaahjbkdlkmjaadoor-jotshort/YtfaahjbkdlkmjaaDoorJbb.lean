import Derived.Test.YtfaahjbkdlkmjaaDoorJba
import Derived.WalkKit
import Derived.WalkLawsBesides
/- Jot: put, what stands for a byte, a text in quotes. -/
namespace Go.Proofs.YtfaahjbkdlkmjaaDoor
open Go Go.RowKit Go.Lib
set_option linter.unusedVariables false
set_option linter.unusedSimpArgs false
/-- What is wrong, as it is carried up. -/
abbrev flt (e at9 : Int) : Value := .iface 39 (.agg #[I e, I at9])
abbrev pan (e at9 : Int) : Ending := .panicked [{ v := flt e at9, recovered := false }]
abbrev done0 : Ending := .returned (.tuple #[])
/-- What a printer's call comes to. -/
def PrO (B b : Nat) (l s : Bs) (w : World) (e : Ending) (w' : World) : Prop :=
  if l.length + s.length ≤ 4000 then e = done0 ∧ Pr B b (l ++ s) w' ∧ Below B w w' ∧ OthersKept 5 (some b) w w' else e = pan 44 0 ∧ Below B w w'
theorem PrO.ok {B b : Nat} {l s : Bs} {w : World} {e : Ending} {w' : World} (hf : l.length + s.length ≤ 4000) (h : e = done0 ∧ Pr B b (l ++ s) w' ∧ Below B w w' ∧ OthersKept 5 (some b) w w') : PrO B b l s w e w' := by
  unfold PrO
  rw [if_pos hf]
  exact h
theorem PrO.bad {B b : Nat} {l s : Bs} {w : World} {e : Ending} {w' : World} (hf : ¬ l.length + s.length ≤ 4000) (h : e = pan 44 0 ∧ Below B w w') : PrO B b l s w e w' := by
  unfold PrO
  rw [if_neg hf]
  exact h
theorem strCells_bs (s : Bs) : strCells ⟨s.toArray⟩ = byteCells s := by simp [strCells, byteCells]
theorem byteCells_append (a b : Bs) : byteCells (a ++ b) = byteCells a ++ byteCells b := by simp [byteCells]
set_option maxHeartbeats 1000000 in
theorem put_any (B b : Nat) (l s : Bs) (w : World) (h : Pr B b l w) (hB : B ≤ w.heap.size) (hs : s.length ≤ 9223372036854775807) (hl : l.length ≤ 4000) :
    Calls Tryd.prog 22 #[.pointer (some ⟨b, 0, none⟩), S s] w (PrO B b l s w) := by
  have hL := len_any 46 B b (byteCells l) w h
  rw [byteCells_length] at hL
  have HL := hide hL
  clear hL
  by_cases hf : l.length + s.length ≤ 4000
  · refine Calls.mono (R := fun e w' => e = done0 ∧ Pr B b (l ++ s) w' ∧ Below B w w' ∧ OthersKept 5 (some b) w w') ?_ (fun e w' q => PrO.ok hf q)
    have hW := ws_any 46 lies46 (by decide) B b (byteCells l) ⟨s.toArray⟩ w h (by rw [byteCells_length, ba_len]; omega) hB
    rw [strCells_bs, ← byteCells_append] at hW
    have HW := hide hW
    clear hW h
    have hc : ¬ (4000 - (l.length : Int) < (s.length : Int)) := by omega
    go_enter Tryd.func22, Tryd.ntmps22
    go_wp2_with fail
    refine (unhide HL).mono ?_
    rintro e w1 ⟨rfl, hw1⟩
    rw [hw1]
    clear hw1 w1 HL
    go_wp2_with fail
    refine (unhide HW).mono ?_
    rintro e w1 ⟨rfl, h1, h2, h3⟩
    go_wp2_with fail
    go_end0
    exact ⟨rfl, .inr h1, h2, h3⟩
  · refine Calls.mono (R := fun e w' => e = pan 44 0 ∧ Below B w w') ?_ (fun e w' q => PrO.bad hf q)
    clear h
    have hc : (4000 - (l.length : Int) < (s.length : Int)) := by omega
    go_enter Tryd.func22, Tryd.ntmps22
    go_wp2_with fail
    refine (unhide HL).mono ?_
    rintro e w1 ⟨rfl, hw1⟩
    rw [hw1]
    clear hw1 w1 HL
    go_wp2_with fail
    exact ⟨rfl, rfl, Below.refl _ _⟩
end Go.Proofs.YtfaahjbkdlkmjaaDoor
