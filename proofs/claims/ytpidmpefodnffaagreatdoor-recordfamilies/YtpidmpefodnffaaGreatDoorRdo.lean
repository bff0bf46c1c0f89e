import Derived.Test.YtpidmpefodnffaaGreatDoorZwrta
import Derived.Test.YtpidmpefodnffaaGreatDoorZrca
import Derived.Test.YtpidmpefodnffaaGreatDoorZtra
import Derived.Test.YtpidmpefodnffaaGreatDoorZprc
import Derived.Test.YtpidmpefodnffaaGreatDoorZfde
namespace Go.Proofs.YtpidmpefodnffaaGreatDoor
open Go.RowKit Go.Lib
set_option maxHeartbeats 4000000
set_option maxRecDepth 8000
/-- What by makes of a number from -1 on. -/
def byz (size : Nat) (z : Int) : Bs := if z < 0 then List.replicate size 255 else be size z.toNat
theorem byz_len (size : Nat) (z : Int) : (byz size z).length = size := by
  unfold byz
  split
  · simp
  · exact be_len _ _
theorem byZ (z : Int) (size : Nat) (w : World) (h1 : 1 ≤ size) (h8 : size ≤ 8) (h0 : -1 ≤ z) (hz : z ≤ 9223372036854775807) :
    Calls Tryz.prog 62 #[I z, .int .i64 size] w fun e w' => e = .returned (S (byz size z)) ∧ Below w.heap.size w w' := by
  unfold byz
  by_cases h : z < 0
  · obtain rfl : z = -1 := by omega
    rw [if_pos h]
    exact by_neg size w h1 h8
  · rw [if_neg h]
    exact byI z size w h1 h8 (by omega) hz
theorem rEnds79 (en fa : Int) (w : World) (h1 : -1 ≤ en ∧ en ≤ 9223372036854775807) (h2 : -1 ≤ fa ∧ fa ≤ 9223372036854775807) : Calls Tryz.prog 79 #[I en, I fa] w fun e w' => e = .returned (.agg #[S (120 :: (byz 6 en ++ byz 8 fa)), S []]) ∧ Below w.heap.size w w' := by
  have HB := hide (show Below w.heap.size w (w.alloc (.cells #[S [], S []] 30)) from (Below.refl _ w).alloc (Nat.le_refl _) _)
  have HR := hide (heap_alloc_new w (.cells #[S [], S []] 30))
  generalize hW1 : w.alloc (.cells #[S [], S []] 30) = W1 at *
  have X0 := hide (fun W => byZ en 6 W (by decide) (by decide) h1.1 h1.2)
  have X1 := hide (fun W => byZ fa 8 W (by decide) (by decide) h2.1 h2.2)
  have l0 := byz_len 6 en
  have l1 := byz_len 8 fa
  generalize byz 6 en = x0 at *
  generalize byz 8 fa = x1 at *
  clear h1 h2
  go_enter Tryz.func79, Tryz.ntmps79
  go_wp2_with fail
  refine (unhide X0 W1).mono ?_
  rintro e W2 ⟨rfl, hb⟩
  have HB2 := hide ((unhide HB).trans (hb.mono (unhide HB).size))
  have HR2 := hide ((hb.block _ (lt_of_row (unhide HR))).trans (unhide HR))
  clear hb X0 HB HR hW1
  go_wp2_with fail
  refine (unhide X1 W2).mono ?_
  rintro e W3 ⟨rfl, hb⟩
  have HB3 := hide ((unhide HB2).trans (hb.mono (unhide HB2).size))
  have HR3 := hide ((hb.block _ (lt_of_row (unhide HR2))).trans (unhide HR2))
  clear hb X1 HB2 HR2
  go_wp2_with (refine wp_st30 rfl (.tmp 4) (.tmp 11) rfl w.heap.size (by rfl) (120 :: (x0 ++ x1)) [] (by rfl) #[S [], S []] rfl (unhide HR3) ?_)
  refine out1c (T := 30) (n := 2) (p := 4) (cs := #[S (120 :: (x0 ++ x1)), S []]) (fun _ => by kernel_rfl) (fun _ => by kernel_rfl) (Z := w.heap.size) (by rfl) (by rfl) (by rfl) (setRow_row (unhide HR3)) (by rfl) ?_
  exact ⟨rfl, (setRow_Only W3 w.heap.size #[S (120 :: (x0 ++ x1)), S []]).below (unhide HB3) (unhide HB3).size (fun k e => by omega)⟩
theorem rSubs80 (su : Bs) (fa : Int) (w : World) (hs : su.length ≤ 140737488354900) (h2 : -1 ≤ fa ∧ fa ≤ 9223372036854775807) : Calls Tryz.prog 80 #[S su, I fa] w fun e w' => e = .returned (.agg #[S (115 :: (su ++ 0 :: byz 8 fa)), S []]) ∧ Below w.heap.size w w' := by
  have HB := hide (show Below w.heap.size w (w.alloc (.cells #[S [], S []] 30)) from (Below.refl _ w).alloc (Nat.le_refl _) _)
  have HR := hide (heap_alloc_new w (.cells #[S [], S []] 30))
  generalize hW1 : w.alloc (.cells #[S [], S []] 30) = W1 at *
  have X1 := hide (fun W => byZ fa 8 W (by decide) (by decide) h2.1 h2.2)
  have l1 := byz_len 8 fa
  generalize byz 8 fa = x1 at *
  clear h2
  have E0 : ((⟨#[115]⟩ : ByteArray) ++ ⟨su.toArray⟩ ++ ⟨#[0]⟩ ++ ⟨x1.toArray⟩) = ⟨(115 :: (su ++ 0 :: x1)).toArray⟩ := by
    have e1 : ((⟨#[115]⟩ : ByteArray) ++ ⟨su.toArray⟩) = ⟨([115] ++ su).toArray⟩ := ba_app [115] su
    have e2 : ((⟨([115] ++ su).toArray⟩ : ByteArray) ++ ⟨#[0]⟩) = ⟨(([115] ++ su) ++ [0]).toArray⟩ := ba_app ([115] ++ su) [0]
    rw [e1, e2, ba_app]
    simp
  have HE := hide E0
  clear E0
  go_enter Tryz.func80, Tryz.ntmps80
  go_wp2_with fail
  refine (unhide X1 W1).mono ?_
  rintro e W3 ⟨rfl, hb⟩
  have HB3 := hide ((unhide HB).trans (hb.mono (unhide HB).size))
  have HR3 := hide ((hb.block _ (lt_of_row (unhide HR))).trans (unhide HR))
  clear hb X1 HB HR hW1
  go_wp2_with (refine wp_st30 rfl (.tmp 4) (.tmp 11) rfl w.heap.size (by rfl) (115 :: (su ++ 0 :: x1)) [] (congrArg (fun z => Value.agg #[Value.string z, S []]) (unhide HE)) #[S [], S []] rfl (unhide HR3) ?_)
  refine out1c (T := 30) (n := 2) (p := 4) (cs := #[S (115 :: (su ++ 0 :: x1)), S []]) (fun _ => by kernel_rfl) (fun _ => by kernel_rfl) (Z := w.heap.size) (by rfl) (by rfl) (by rfl) (setRow_row (unhide HR3)) (by rfl) ?_
  exact ⟨rfl, (setRow_Only W3 w.heap.size #[S (115 :: (su ++ 0 :: x1)), S []]).below (unhide HB3) (unhide HB3).size (fun k e => by omega)⟩
end Go.Proofs.YtpidmpefodnffaaGreatDoor
