import Derived.Test.YtjopnhhdemfniaaGreatDoorPji
namespace Go.Proofs.YtjopnhhdemfniaaGreatDoor
open Go.RowKit
set_option maxHeartbeats 8000000
set_option maxRecDepth 8000
theorem heads_any (s : Bs) (w : World) : Calls Tryz.prog 23 #[S s] w fun e w' => e = .returned (.bool true) ∧ Below w.heap.size w w' := by
  have H0 := hide (parseHead_any s w)
  have H1 := hide (fun W => rParseHead_any s W)
  generalize phr s = R at *
  obtain ⟨⟨g, r, b, x⟩, er⟩ := R
  simp only at H0 H1
  go_enter Tryz.func23, Tryz.ntmps23
  go_wp2_with fail
  refine (unhide H0).mono ?_
  rintro e w1 ⟨rfl, b1⟩
  have HB1 := hide b1
  clear b1
  go_wp2_with fail
  refine (unhide H1 _).mono ?_
  rintro e w2 ⟨rfl, b2⟩
  have HB2 := hide b2
  clear b2
  have c1 : (g == g) = true := by simp
  have c2 : (r == r) = true := by simp
  have c3 : (b == b) = true := by simp
  have c4 : (er == er) = true := by simp
  go_wp2
  go_ret
  exact ⟨by simp, (unhide HB1).trans ((unhide HB2).mono (unhide HB1).size)⟩
end Go.Proofs.YtjopnhhdemfniaaGreatDoor
