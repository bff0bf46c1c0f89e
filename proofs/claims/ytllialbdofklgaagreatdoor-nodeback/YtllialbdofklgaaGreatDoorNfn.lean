import Derived.Test.YtllialbdofklgaaGreatDoorNfkz
import Derived.BigQuiet
import Derived.Deep.QuietTactic
namespace Go.Proofs.YtllialbdofklgaaGreatDoor
open Go.RowKit
set_option maxHeartbeats 8000000
set_option maxRecDepth 8000
theorem cellsWeigh_any (a : Option Addr) (m cp : Nat) (l : List Ce) (w : World) (hc : Ces w a m l) (hm : m ≤ 9223372036854775807) :
    Calls Tryz.prog 31 #[.slice a m cp] w fun e w' => ∃ r : Nat, r ≤ 4294967294 ∧ (r ≤ 2147483647 → m ≤ 2147483647) ∧ e = .returned (I r) ∧ Below w.heap.size w w' := by
  have HC := hide hc
  have H0 := hide (addsUp_any 0 m w (by omega) hm)
  have h0 := add3_le 0 m
  have HK := hide (fun (h : add3 0 m ≤ 2147483647) => (add3_ok h).2)
  clear hc
  generalize add3 0 m = s0 at *
  go_enter Tryz.func31, Tryz.ntmps31
  go_wp2_with fail
  refine (unhide H0).mono ?_
  rintro e w1 ⟨rfl, rfl⟩
  go_wp2
  go_loopw [3, 4] (fun s i wr => ∃ (k r : Nat), k ≤ m ∧ i = .int .i64 k ∧ r ≤ 4294967294 ∧ (r ≤ 2147483647 → m ≤ 2147483647) ∧ s = .int .i64 r ∧ Below w1.heap.size w1 wr) (fun _ i _ => m - (Go.RowKit.intOf i).toNat)
  case atStart => exact ⟨0, s0, by omega, rfl, h0, unhide HK, rfl, Below.refl _ _⟩
  case round =>
    obtain ⟨k, r, hk, rfl, hr, hrm, rfl, hbw⟩ := hrel
    have HBW := hide hbw
    clear hbw
    have HRM := hide hrm
    clear hrm
    by_cases hlt : k < m
    · have hlt' : (k : Int) < (m : Int) := by omega
      have hd1 : decide ((k : Int) < (m : Int)) = true := by simpa using hlt'
      by_cases hr2 : r ≤ 2147483647
      · have hr2' : decide ((r : Int) ≤ 2147483647) = true := by rw [decide_eq_true_eq]; omega
        have hCe := (unhide HC).below (unhide HBW)
        have htx := hCe.txt k hlt
        obtain ⟨p, o, rfl, hcc⟩ := hCe.cel (by omega)
        obtain ⟨h1, h2, h3⟩ := hcc k hlt
        have hpl := blk_lt h1
        generalize (l.getD k ce0).k = ck at *
        generalize (l.getD k ce0).v = cv at *
        clear h3 hCe hcc
        have A1 := add3_le r ck.length
        have A2 := add3_le (add3 r ck.length) cv.length
        have HA1 := hide (fun W => addsUp_any r ck.length W (by omega) htx.1)
        have HA2 := hide (fun W => addsUp_any (add3 r ck.length) cv.length W (by omega) htx.2)
        have hok : add3 (add3 r ck.length) cv.length ≤ 2147483647 → m ≤ 2147483647 := fun h => unhide HRM hr2
        have HOK := hide hok
        clear hok
        generalize add3 r ck.length = r1 at *
        generalize add3 r1 cv.length = r2 at *
        go_wp2
        go_quiet ((go_at_call 10; with_reducible first | exact Calls.quiet_of_same (unhide HA1 _) | exact Calls.quiet_of_same (unhide HA2 _)))
        go_wp2
        go_roundw
        case rel => exact ⟨k + 1, r2, by omega, by go_num, A2, unhide HOK, rfl, bel_q (unhide HBW) _⟩
        case measure => simp [Go.RowKit.intOf]; omega
      · have hr2' : decide ((r : Int) ≤ 2147483647) = false := by rw [decide_eq_false_iff_not]; omega
        go_wp2
        go_ret
        exact ⟨r, hr, unhide HRM, rfl, unhide HBW⟩
    · have hd1 : decide ((k : Int) < (m : Int)) = false := by rw [decide_eq_false_iff_not]; omega
      go_wp2
      go_ret
      exact ⟨r, hr, unhide HRM, rfl, unhide HBW⟩
end Go.Proofs.YtllialbdofklgaaGreatDoor
