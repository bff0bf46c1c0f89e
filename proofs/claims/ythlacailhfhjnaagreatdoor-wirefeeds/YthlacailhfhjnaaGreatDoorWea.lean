import Derived.Test.YthlacailhfhjnaaGreatDoorZwdd
import Derived.Test.YthlacailhfhjnaaGreatDoorZwcg
namespace Go.Proofs.YthlacailhfhjnaaGreatDoor
open Go.RowKit Go.Lib
theorem fd_cnt (p : Ps) (s : Bs) (l : List Ms) : (fd p s l).2.1.length ≤ l.length + s.length := by
  induction s generalizing p l with
  | nil => simp [fd]
  | cons b s ih =>
    simp only [fd, List.length_cons]
    split
    · simp
    · split
      · have := ih p0 (l ++ [(step opM p b).1.ms])
        simp at this ⊢
        omega
      · have := ih (step opM p b).1 l
        omega
theorem step_hs (op : Bs → Option Fst) (p : Ps) (b : UInt8) : (step op p b).1.hs.length ≤ p.hs.length + 1 := by
  have h0 : pov.hs.length = 0 := rfl
  unfold step
  split
  · split
    · unfold judge
      split
      · unfold jFst
        split
        · simp only [h0]; omega
        · split
          · simp
          · simp only [h0]; omega
      · split
        · unfold jEnd
          split <;> simp
        · unfold jHdr
          split
          · simp only [h0]; omega
          · split
            · unfold jLen
              split
              · simp only [h0]; omega
              · split
                · simp only [h0]; omega
                · simp
            · split
              · simp only [h0]; omega
              · simp
    · split
      · simp only [h0]; omega
      · simp
  · split <;> simp
theorem fd_hs (p : Ps) (s : Bs) (l : List Ms) (hp : OkP p) (hl : ∀ m ∈ l, m.hs.length ≤ 33) : ∀ m ∈ (fd p s l).2.1, m.hs.length ≤ 33 := by
  induction s generalizing p l with
  | nil => exact hl
  | cons b s ih =>
    simp only [fd]
    split
    · exact hl
    · rename_i h1
      have h1' : (step opM p b).2 = 0 := by simpa using h1
      split
      · refine ih _ _ okP0 ?_
        intro m hm
        rw [List.mem_append, List.mem_singleton] at hm
        rcases hm with hm | rfl
        · exact hl m hm
        · have := step_hs opM p b
          have := hp.2.2.1
          show (step opM p b).1.hs.length ≤ 33
          omega
      · rename_i h2
        exact ih _ _ (step_ok opM p b hp h1' h2) hl
end Go.Proofs.YthlacailhfhjnaaGreatDoor
