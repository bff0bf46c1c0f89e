import Derived.Test.YtbeionikiiccpaaGreatDoorTke
import Derived.Test.YtbeionikiiccpaaGreatDoorCby
namespace Go.Proofs.YtbeionikiiccpaaGreatDoor
open Go.RowKit Go.Lib Sha
set_option maxHeartbeats 4000000
set_option maxRecDepth 8000
abbrev ss : Bs := [115, 115, 115, 115, 115, 115, 115, 115, 115, 115, 115, 115, 115, 115, 115, 115, 115, 115, 115, 115, 115, 115, 115, 115]
abbrev lkr : Bs := [108, 107, 114, 95, 65, 65, 65, 65, 65, 65, 65, 65, 65, 65, 100, 122, 99, 51, 78, 122, 99, 51, 78, 122, 99, 51, 78, 122, 99, 51, 78, 122, 99, 51, 78, 122, 99, 51, 78, 122, 99, 51, 78, 122, 99, 51, 79, 50, 45, 98, 113, 118]
theorem lkr_is : tkn 1 7 ss = lkr := by decide +kernel
theorem awake_any (a0 a1 a2 : Addr) (w : World) (hE : Env a0 a1 a2 w) :
    Calls Tryz.prog 4 #[] w fun e w' => e = .returned (.bool true) ∧ Below w.heap.size w w' := by
  have hs : ss.length = 24 := rfl
  have H1 := hide (mint_any 1 7 ss w)
  rw [show mnt 1 7 ss = (lkr, 0) by rw [← lkr_is]; rfl] at H1
  have H4 := hide (mint_any 3 7 ss)
  rw [show mnt 3 7 ss = ([], 1) by rfl] at H4
  have HE := hide hE
  have HP1 : Hid (prs 1 lkr = .tuple #[I 7, S ss, I 0]) := hide (by unfold prs; rw [← lkr_is, rdT_tkn (.inl rfl) 7 ss (by omega) (by omega) rfl]; rfl)
  have HP2 : Hid (prs 2 lkr = .tuple #[I 0, S [], I 170]) := hide (by unfold prs; rw [← lkr_is, show (2 : Int) = 3 - 1 by rfl, rdT_other2]; rfl)
  clear hE hs
  go_enter Tryz.func4, Tryz.ntmps4
  go_wp2_with fail
  refine (unhide H1).mono ?_
  rintro e w1 ⟨rfl, hb1⟩
  have HE1 := hide ((unhide HE).below hb1)
  have HB1 := hide hb1
  clear hb1 H1 HE
  go_wp2_with fail
  refine (parse_any a0 a1 a2 1 (.inl rfl) lkr w1 (unhide HE1)).mono ?_
  rintro e w2 ⟨rfl, hb2⟩
  have HE2 := hide ((unhide HE1).below hb2)
  have HB2 := hide ((unhide HB1).trans (hb2.mono (unhide HB1).size))
  rw [unhide HP1]
  clear hb2 HE1 HB1
  go_wp2_with fail
  refine (parse_any a0 a1 a2 2 (.inr rfl) lkr w2 (unhide HE2)).mono ?_
  rintro e w3 ⟨rfl, hb3⟩
  have HB3 := hide ((unhide HB2).trans (hb3.mono (unhide HB2).size))
  rw [unhide HP2]
  clear hb3 HE2 HB2
  go_wp2_with fail
  refine (unhide H4 w3).mono ?_
  rintro e w4 ⟨rfl, hb4⟩
  have HB4 := hide ((unhide HB3).trans (hb4.mono (unhide HB3).size))
  clear hb4 HB3 HP1 HP2 H4
  go_wp2
  go_ret
  exact ⟨rfl, unhide HB4⟩
end Go.Proofs.YtbeionikiiccpaaGreatDoor
