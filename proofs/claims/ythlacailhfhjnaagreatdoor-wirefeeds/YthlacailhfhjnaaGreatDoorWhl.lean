import Derived.Test.YthlacailhfhjnaaGreatDoorWhk
import Derived.Test.YthlacailhfhjnaaGreatDoorWcp
import Derived.Test.YthlacailhfhjnaaGreatDoorZdetl
import Derived.Test.YthlacailhfhjnaaGreatDoorZwbd
import Derived.BigRegion
namespace Go.Proofs.YthlacailhfhjnaaGreatDoor
open Go.RowKit Go.Lib
theorem sc_err {op : Bs → Option Fst} {p : Ps} {s : Bs} {e : Nat} (h : sc op p s = some (.error e)) : e ≠ 0 := by
  induction s generalizing p with
  | nil => cases h
  | cons b s ih =>
    simp only [sc] at h
    split at h
    · rename_i q
      simp only [Option.some.injEq, Except.error.injEq] at h
      rw [← h]
      exact q
    · split at h
      · cases h
      · exact ih h
theorem sc_rd {op : Bs → Option Fst} {p q : Ps} {s t : Bs} (hp : p.st ≤ 3) (h : sc op p s = some (.ok (q, t))) : q.rd + t.length = p.rd + s.length := by
  induction s generalizing p with
  | nil => cases h
  | cons b s ih =>
    simp only [sc] at h
    split at h
    · cases h
    · rename_i h1
      have h1' : (step op p b).2 = 0 := by simpa using h1
      have h2 := step_rd op p b h1' hp
      split at h
      · simp only [Option.some.injEq, Except.ok.injEq, Prod.mk.injEq] at h
        obtain ⟨rfl, rfl⟩ := h
        simp only [List.length_cons]
        omega
      · have := ih h2.2 h
        simp only [List.length_cons]
        omega
end Go.Proofs.YthlacailhfhjnaaGreatDoor
