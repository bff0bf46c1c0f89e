import Derived.Test.YthlacailhfhjnaaGreatDoorWic
import Derived.Deep.QuietTactic
import Derived.BigQuiet
namespace Go.Proofs.YthlacailhfhjnaaGreatDoor
open Go.RowKit Go.Lib
set_option maxHeartbeats 8000000 in
set_option maxRecDepth 8000 in
/-- A list of nothing but f reads as f. -/
theorem reads_any (a : Option Addr) (n c : Nat) (f : Fl) (w : World) (h : Fls w a n (List.replicate n f)) (hn : n ≤ 1000000000000) :
    Calls Tryz.prog 56 #[.slice a n c, .agg #[S f.1, S f.2]] w fun e w' => e = .returned (.bool true) ∧ Below w.heap.size w w' := by
  obtain ⟨fn, fv⟩ := f
  have b0 := (Below.refl w.heap.size w).alloc (Nat.le_refl _) (.cells #[S fn, S fv] 35)
  have HX := hide (And.intro b0 (And.intro (h.below b0) (heap_alloc_new w (.cells #[S fn, S fv] 35))))
  clear b0 h
  go_enter Tryz.func56, Tryz.ntmps56
  go_wp2
  generalize w.alloc (.cells #[S fn, S fv] 35) = W1 at *
  go_loopw [5] (fun i wr => ∃ k : Nat, k ≤ n ∧ i = .int .i64 k ∧ Below W1.heap.size W1 wr) (fun i _ => n - (Go.RowKit.intOf i).toNat)
  case atStart => exact ⟨0, by omega, rfl, Below.refl _ _⟩
  case round =>
    obtain ⟨k, hk, rfl, hb⟩ := hrel
    obtain ⟨b0, hf, hx⟩ := unhide HX
    by_cases hlt : k < n
    · obtain ⟨p, o, rfl, hpl, hc0, hc1⟩ := (hf.below hb).at hlt
      have hF : (List.replicate n (fn, fv)).getD k fl0 = (fn, fv) := by simp [hlt]
      rw [hF] at hc0 hc1
      simp only at hc0 hc1
      have hx' := (hb.block _ (lt_of_row hx)).trans hx
      have hd0 : wr.cell? ⟨w.heap.size, 0, none⟩ = some (S fn) := cell_of_row wr _ 0 _ 35 (0, 0) hx'
      have hd1 : wr.cell? ⟨w.heap.size, 1, none⟩ = some (S fv) := cell_of_row wr _ 1 _ 35 (0, 0) hx'
      have hlt' : (k : Int) < (n : Int) := by omega
      have HB := hide hb
      clear hb hf b0 hx hx' hF
      go_wp2
      go_quiet (fail)
      have HB2 := hide (below_dN (unhide HB) nq)
      generalize wr.drewN nq = w2 at *
      go_wp2
      refine ⟨⟨k + 1, by omega, by go_num, unhide HB2⟩, ?_⟩
      simp [Go.RowKit.intOf]; omega
    · have hd : decide (k < n) = false := by simp; omega
      have HB := hide (b0.trans (hb.mono b0.size))
      clear hb b0 hf hx
      go_wp2
      go_ret
      exact ⟨rfl, unhide HB⟩
end Go.Proofs.YthlacailhfhjnaaGreatDoor
