import Derived.Test.YtdncebdlhoogcaaByts
import Derived.Test.YtdncebdlhoogcaaRefc
namespace Go.Proofs.Ytdncebdlhoogcaa
open Go.RowKit
open Sha
theorem below_drewN' {B : Nat} {a w : World} (h : Below B a w) (n : Nat) : Below B a (w.drewN n) := ⟨h.os, h.tape, h.output, h.size, h.block⟩
set_option maxHeartbeats 1000000 in
theorem checks_walk (s t : List UInt8) (w : World) (hs : s.length ≤ 9223372036854775807) (ht : t.length ≤ 9223372036854775807) :
    Calls Try.prog 5 #[.string ⟨s.toArray⟩, .string ⟨t.toArray⟩] w fun e w' => e = .returned (.bool true) ∧ Below w.heap.size w w' := by
  go_enter Try.func5, Try.ntmps5
  go_wp2_with fail
  refine (known_any w).mono ?_
  rintro e w1 ⟨rfl, hb1⟩
  go_wp2_with (first | (refine wpList_bytes rfl (.tmp 8) rfl s (by rfl) ?_; intro w2 cap hcell hfro hb2 hlt; have HC := hide (run_text w2 w1.heap.size 0 s.length cap s rfl (fun j hj => by rw [Nat.zero_add]; exact hcell j hj)); have hbe2 := hb1.trans (hb2.mono hb1.size); clear hcell hfro hb1 hb2 hlt) | (refine wpList_conv rfl 33 9 (.tmp 9) rfl _ _ (by rfl) (unhide HC) ?_; clear HC))
  refine (crc_any s w2 hs).mono ?_
  rintro e w3 ⟨rfl, rfl⟩
  go_wp2_with fail
  refine (refcrc_any s w3 hs).mono ?_
  rintro e w4 ⟨rfl, rfl⟩
  go_wp2_with fail
  refine (same_any s t w4 hs).mono ?_
  rintro e w5 ⟨rfl, n5, rfl⟩
  by_cases hst : s = t
  · subst hst
    rw [show decide (s = s) = true from by simp]
    go_wp2_with fail
    refine (same_any s s _ hs).mono ?_
    rintro e w6 ⟨rfl, n6, rfl⟩
    rw [show decide (s = s) = true from by simp]
    go_wp2_with fail
    refine (same_any s s _ hs).mono ?_
    rintro e w7 ⟨rfl, n7, rfl⟩
    rw [show decide (s = s) = true from by simp]
    go_wp2
    go_ret
    exact ⟨rfl, below_drewN' hbe2 _⟩
  · rw [show decide (s = t) = false from by simpa using hst]
    have hne : (s == t) = false := by simpa using hst
    go_wp2_with fail
    refine (same_any s s _ hs).mono ?_
    rintro e w6 ⟨rfl, n6, rfl⟩
    rw [show decide (s = s) = true from by simp]
    go_wp2_with fail
    refine (same_any t s _ ht).mono ?_
    rintro e w7 ⟨rfl, n7, rfl⟩
    rw [show decide (t = s) = false from by simpa using fun q : t = s => hst q.symm]
    go_wp2
    go_ret
    exact ⟨rfl, below_drewN' hbe2 _⟩
end Go.Proofs.Ytdncebdlhoogcaa
