import Derived.Test.YtpidmpefodnffaaGreatDoorZfdj
import Derived.Test.YtpidmpefodnffaaGreatDoorZprc
import Derived.Test.YtpidmpefodnffaaGreatDoorZfde
import Derived.Test.YtpidmpefodnffaaGreatDoorZpaa
namespace Go.Proofs.YtpidmpefodnffaaGreatDoor
open Go.RowKit
set_option maxHeartbeats 4000000
set_option maxRecDepth 8000
theorem keyL_any (n : Int) (w : World) : Calls Tryz.prog 57 #[I n] w fun e w' => e = .returned (.agg #[I n, S ab, I 5, I 9]) ∧ Below w.heap.size w w' := by
  have HR := hide (heap_alloc_new w (.cells #[I n, S ab, I 5, I 9] 60))
  have HB := hide ((Below.refl _ w).alloc (Nat.le_refl _) (.cells #[I n, S ab, I 5, I 9] 60))
  go_enter Tryz.func57, Tryz.ntmps57
  go_wp2
  refine out1c (T := 60) (n := 4) (p := 2) (cs := #[I n, S ab, I 5, I 9]) (fun _ => by kernel_rfl) (fun _ => by kernel_rfl) (Z := w.heap.size) (by rfl) (by rfl) (by rfl) (unhide HR) (by rfl) ?_
  exact ⟨rfl, unhide HB⟩
end Go.Proofs.YtpidmpefodnffaaGreatDoor
namespace Go.Proofs.YtpidmpefodnffaaGreatDoor
open Go.RowKit
set_option maxHeartbeats 4000000
set_option maxRecDepth 8000
theorem k7 : keyP 7 ab 5 9 = (([107, 0, 0, 0, 7], ab ++ [0, 0, 0, 0, 0, 5, 0, 0, 0, 0, 0, 9]), 0) := by decide +kernel
theorem k0 : keyP 0 ab 5 9 = (([], []), 140) := by decide +kernel
theorem g7 : keyG [107, 0, 0, 0, 7] (ab ++ [0, 0, 0, 0, 0, 5, 0, 0, 0, 0, 0, 9]) = true := by decide +kernel
theorem n7 : key_nu [107, 0, 0, 0, 7] = 7 ∧ key_se (ab ++ [0, 0, 0, 0, 0, 5, 0, 0, 0, 0, 0, 9]) = ab ∧ key_fr (ab ++ [0, 0, 0, 0, 0, 5, 0, 0, 0, 0, 0, 9]) = 5 ∧ key_un (ab ++ [0, 0, 0, 0, 0, 5, 0, 0, 0, 0, 0, 9]) = 9 := by decide +kernel
theorem awake_any (w : World) : Calls Tryz.prog 10 #[] w fun e w' => e = .returned (.bool true) ∧ Below w.heap.size w w' := by
  obtain ⟨vv, hvv⟩ : ∃ vv : Bs, vv = ab ++ [0, 0, 0, 0, 0, 5, 0, 0, 0, 0, 0, 9] := ⟨_, rfl⟩
  have hvl : vv.length = 36 := by rw [hvv]; rfl
  have hv36 : (vv.length : Int) = 36 := by omega
  have HK := hide (fun n W => keyL_any n W)
  have HP : Hid (∀ W, Calls Tryz.prog 38 #[.agg #[I 7, S ab, I 5, I 9]] W fun e w' => e = .returned (.tuple #[.agg #[S [107, 0, 0, 0, 7], S vv], I 0]) ∧ Below W.heap.size W w') := hide (fun W => by
    have q := Print38 7 ab 5 9 W
    rw [k7, ← hvv] at q
    exact q)
  have HZ : Hid (∀ W, Calls Tryz.prog 38 #[.agg #[I 0, S ab, I 5, I 9]] W fun e w' => e = .returned (.tuple #[.agg #[S [], S []], I 140]) ∧ Below W.heap.size W w') := hide (fun W => by
    have q := Print38 0 ab 5 9 W
    rw [k0] at q
    exact q)
  have HG : Hid (∀ W, Calls Tryz.prog 40 #[.agg #[S [107, 0, 0, 0, 7], S vv]] W fun e w' => e = .returned (.tuple #[.agg #[I 7, S ab, I 5, I 9], I 0]) ∧ Below W.heap.size W w') := hide (fun W => by
    refine (Parse40 [107, 0, 0, 0, 7] vv W (by decide) (by omega)).mono ?_
    rintro e w' ⟨hb, hor⟩
    rw [hvv, g7, n7.1, n7.2.1, n7.2.2.1, n7.2.2.2] at hor
    rcases hor with ⟨_, q⟩ | ⟨q, _⟩
    · exact ⟨q, hb⟩
    · cases q)
  clear hvv
  go_enter Tryz.func10, Tryz.ntmps10
  go_wp2_with fail
  refine (unhide HK 7 w).mono ?_
  rintro e w1 ⟨rfl, h1⟩
  go_wp2_with fail
  refine (unhide HP w1).mono ?_
  rintro e w2 ⟨rfl, h2⟩
  have H2 := hide (h1.trans (h2.mono h1.size))
  have b3 : Below w2.heap.size w2 (w2.alloc (.cells #[S [107, 0, 0, 0, 7], S vv] 30)) := (Below.refl _ _).alloc (Nat.le_refl _) _
  have HR3 := hide (heap_alloc_new w2 (.cells #[S [107, 0, 0, 0, 7], S vv] 30))
  have H3 := hide ((unhide H2).trans (b3.mono (unhide H2).size))
  clear h1 h2 b3 H2
  have HG3 := hide (unhide HG (w2.alloc (.cells #[S [107, 0, 0, 0, 7], S vv] 30)))
  go_wp2_with fail
  refine (unhide HG3).mono ?_
  rintro e w4 ⟨rfl, h4⟩
  have HR4 := hide ((h4.block _ (lt_of_row (unhide HR3))).trans (unhide HR3))
  have H4 := hide ((unhide H3).trans (h4.mono (unhide H3).size))
  have b5 : Below w4.heap.size w4 (w4.alloc (.cells #[I 7, S ab, I 5, I 9] 60)) := (Below.refl _ _).alloc (Nat.le_refl _) _
  have HQ5 := hide (heap_alloc_new w4 (.cells #[I 7, S ab, I 5, I 9] 60))
  have HR5 := hide ((b5.block _ (lt_of_row (unhide HR4))).trans (unhide HR4))
  have H5 := hide ((unhide H4).trans (b5.mono (unhide H4).size))
  have HK5 := hide (unhide HK 0 (w4.alloc (.cells #[I 7, S ab, I 5, I 9] 60)))
  clear h4 b5 HG3 HG HP HR3 HR4 H3 H4
  generalize hP2 : w2.heap.size = P2 at *
  go_wp2_with fail
  refine (unhide HK5).mono ?_
  rintro e w6 ⟨rfl, h6⟩
  have HR6 := hide ((h6.block _ (lt_of_row (unhide HR5))).trans (unhide HR5))
  have HQ6 := hide ((h6.block _ (lt_of_row (unhide HQ5))).trans (unhide HQ5))
  have H6 := hide ((unhide H5).trans (h6.mono (unhide H5).size))
  clear h6 HK5 HR5 HQ5 H5
  generalize hP4 : w4.heap.size = P4 at *
  go_wp2_with fail
  refine (unhide HZ w6).mono ?_
  rintro e w7 ⟨rfl, h7⟩
  have HR7 := hide ((h7.block _ (lt_of_row (unhide HR6))).trans (unhide HR6))
  have HQ7 := hide ((h7.block _ (lt_of_row (unhide HQ6))).trans (unhide HQ6))
  have H7 := hide ((unhide H6).trans (h7.mono (unhide H6).size))
  have b8 : Below w7.heap.size w7 (w7.alloc (.cells #[S [], S []] 30)) := (Below.refl _ _).alloc (Nat.le_refl _) _
  have hR8 := (b8.block _ (lt_of_row (unhide HR7))).trans (unhide HR7)
  have hQ8 := (b8.block _ (lt_of_row (unhide HQ7))).trans (unhide HQ7)
  have H8 := hide ((unhide H7).trans (b8.mono (unhide H7).size))
  clear h7 b8 HR6 HQ6 HR7 HQ7 H6 H7 HZ hP2 hP4
  go_wp2_with fail
  generalize w7.alloc (.cells #[S [], S []] 30) = W8 at *
  have hK : ∀ W, Calls Tryz.prog 57 #[I 7] W fun e w' => e = .returned (.agg #[I 7, S ab, I 5, I 9]) ∧ Below W.heap.size W w' := unhide HK 7
  refine raw4 P2 P4 vv rfl (by rfl) (by rfl) _ W8 (by simp) rfl rfl rfl rfl rfl (fun _ _ W => Below W8.heap.size W8 W) ⟨(), (Below.refl _ _).drew⟩ (fun i hi c L W hW => hW)
    (fun W => by kernel_rfl) (fun W => by kernel_rfl) (fun W => by kernel_rfl)
    (fun c L W hW _ _ => s_ld (T := 9) (fun _ => by kernel_rfl) (by unfold World.cell?; rw [(hW.block _ (lt_of_row hR8)).trans hR8]; rfl))
    (fun W => by kernel_rfl)
    (fun c L W hW _ _ => s_ld (T := 9) (fun _ => by kernel_rfl) (by unfold World.cell?; rw [(hW.block _ (lt_of_row hR8)).trans hR8]; rfl))
    (fun W => by rw [hv36]; kernel_rfl)
    (fun c L W hW _ => s_ldr (T := 60) (n := 4) (fun _ => by kernel_rfl) (fun _ => by kernel_rfl) (o := 0) ((hW.block _ (lt_of_row hQ8)).trans hQ8) [I 7, S ab, I 5, I 9] rfl rfl)
    (fun c L W hW _ => (hK W).mono fun e w' q => ⟨c, fun _ _ => rfl, q.1, hW.trans (q.2.mono hW.size)⟩)
    (fun W => by kernel_rfl) ?_
  intro c L W hall hW
  simp only [Act.put, List.setIfInBounds_toArray, List.set_cons_succ, List.set_cons_zero]
  have HW := hide ((unhide H8).trans (hW.mono (unhide H8).size))
  clear hW hall hR8 hQ8 H8 hK HK hv36 hvl
  go_wp2
  go_ret
  exact ⟨rfl, unhide HW⟩
end Go.Proofs.YtpidmpefodnffaaGreatDoor
