import Derived.Test.YtpidmpefodnffaaGreatDoorZfdj
import Derived.Test.YtpidmpefodnffaaGreatDoorPab
import Derived.Test.YtpidmpefodnffaaGreatDoorPxa
namespace Go.Proofs.YtpidmpefodnffaaGreatDoor
open Go.RowKit
set_option maxHeartbeats 4000000
set_option maxRecDepth 8000
/-- What an entry of an index is read as. -/
def idx (k v : Bs) : Bs × Int × Int × Bs × Nat :=
  if memG k v then ([109], mem_ge k, mem_fa k, v, 0) else if endG k v then ([120], end_en k, end_id k, [], 0) else if subG k v then ([115], 0, sub_id k, sub_su k, 0) else ([], 0, 0, [], 141)
theorem memG_v {k v : Bs} (h : memG k v = true) : v.length = 8 := by
  unfold memG memP at h
  split at h
  · have e := congrArg (fun q => q.1.2) (beq_iff_eq.1 h)
    simp only at e
    rw [← e]
    simp [cat, lx, memVl, be_len]
  · have e := congrArg (fun q => q.2) (beq_iff_eq.1 h)
    cases e
theorem ParseIndex_any (k v : Bs) (w : World) (hk : k.length ≤ 9223372036854775807) (hv : v.length ≤ 9223372036854775807) : Calls Tryz.prog 54 #[.agg #[S k, S v]] w fun e w' => e = .returned (.tuple #[S (idx k v).1, I (idx k v).2.1, I (idx k v).2.2.1, S (idx k v).2.2.2.1, I (idx k v).2.2.2.2]) ∧ Below w.heap.size w w' := by
  have hb0 : Below w.heap.size w (w.alloc (.cells #[S k, S v] 30)) := (Below.refl _ w).alloc (Nat.le_refl _) _
  have c0 : (w.alloc (.cells #[S k, S v] 30)).cell? ⟨w.heap.size, 0, none⟩ = some (S k) := cell_new _ _ _ _ _ rfl
  have c1 : (w.alloc (.cells #[S k, S v] 30)).cell? ⟨w.heap.size, 1, none⟩ = some (S v) := cell_new _ _ _ _ _ rfl
  have hl1 : w.heap.size < (w.alloc (.cells #[S k, S v] 30)).heap.size := by simp
  have HM := hide (pa120 k v (w.alloc (.cells #[S k, S v] 30)) hk hv)
  have HE := hide (fun W => pa123 k v W hk hv)
  have HS := hide (fun W => pa125 k v W hk hv)
  have HV := hide (@memG_v k v)
  have HI : Hid (idx k v = if memG k v then ([109], mem_ge k, mem_fa k, v, 0) else if endG k v then ([120], end_en k, end_id k, [], 0) else if subG k v then ([115], 0, sub_id k, sub_su k, 0) else ([], 0, 0, [], 141)) := hide rfl
  have HB := hide hb0
  clear hk hv hb0
  generalize idx k v = R at *
  generalize memG k v = gm at *
  generalize endG k v = ge at *
  generalize subG k v = gs at *
  generalize hW1 : w.alloc (.cells #[S k, S v] 30) = W1 at *
  go_enter Tryz.func54, Tryz.ntmps54
  go_wp2_with fail
  refine (unhide HM).mono ?_
  rintro e w2 ⟨hw2, hor⟩
  have HB2 := hide ((unhide HB).trans (hw2.mono (unhide HB).size))
  replace c0 := cell_below c0 hw2 hl1
  replace c1 := cell_below c1 hw2 hl1
  have hl2 : w.heap.size < w2.heap.size := Nat.lt_of_lt_of_le hl1 hw2.size
  clear hw2 HM HB hW1
  rcases hor with ⟨hg, rfl⟩ | ⟨hg, rfl⟩
  · have hv8 := unhide HV hg
    rw [hg, if_pos rfl] at HI
    have HC := hide (fun W => clone_any v W (by omega))
    have hb3 : Below w2.heap.size w2 (w2.alloc (.cells #[I (mem_fa k), I (mem_ge k), I (mem_id v)] 139)) := (Below.refl _ _).alloc (Nat.le_refl _) _
    have m0 : (w2.alloc (.cells #[I (mem_fa k), I (mem_ge k), I (mem_id v)] 139)).cell? ⟨w2.heap.size, 0, none⟩ = some (I (mem_fa k)) := cell_new _ _ _ _ _ rfl
    have m1 : (w2.alloc (.cells #[I (mem_fa k), I (mem_ge k), I (mem_id v)] 139)).cell? ⟨w2.heap.size, 1, none⟩ = some (I (mem_ge k)) := cell_new _ _ _ _ _ rfl
    have hl3 : w2.heap.size < (w2.alloc (.cells #[I (mem_fa k), I (mem_ge k), I (mem_id v)] 139)).heap.size := by simp
    replace c1 := cell_below c1 hb3 hl2
    have HB3 := hide ((unhide HB2).trans (hb3.mono (unhide HB2).size))
    clear HE HS HV c0 HB2 hg hv8
    go_wp2_with fail
    generalize w2.alloc (.cells #[I (mem_fa k), I (mem_ge k), I (mem_id v)] 139) = W3 at *
    refine rix3 w2.heap.size w.heap.size (mem_ge k) (mem_fa k) v rfl (by rfl) (by rfl) _ W3 (by simp) rfl rfl (fun _ _ W => Below W3.heap.size W3 W) ⟨(), (Below.refl _ _).drew⟩ (fun i hi c L W hW => hW)
      (fun c L W hW _ _ => s_ld (T := 3) (fun _ => by kernel_rfl) (cell_below m1 hW hl3))
      (fun c L W hW _ _ => s_ld (T := 3) (fun _ => by kernel_rfl) (cell_below m0 hW hl3))
      (fun c L W hW _ _ => s_ld (T := 9) (fun _ => by kernel_rfl) (cell_below c1 hW (show w.heap.size < W3.heap.size by omega)))
      (fun c L W hW _ _ => (unhide HC W).mono fun e w' q => ⟨c, fun _ _ => rfl, q.1, hW.trans (q.2.mono hW.size)⟩) ?_
    intro c L W hall hW
    simp only [Act.put, List.setIfInBounds_toArray, List.set_cons_succ, List.set_cons_zero]
    have HW := hide ((unhide HB3).trans (hW.mono (unhide HB3).size))
    clear hW hall HC m0 m1 c1 HB3
    go_wp2
    refine bodyPost_ret (v := .tuple #[S [109], I (mem_ge k), I (mem_fa k), S v, I 0]) (by simp [results]) rfl ?_
    rw [unhide HI]
    exact ⟨rfl, unhide HW⟩
  · have HI2 : Hid (R = if ge then ([120], end_en k, end_id k, [], 0) else if gs then ([115], 0, sub_id k, sub_su k, 0) else ([], 0, 0, [], 141)) := hide (by rw [unhide HI, hg]; rfl)
    have hb3 : Below w2.heap.size w2 (w2.alloc (.cells #[I 0, I 0, I 0] 139)) := (Below.refl _ _).alloc (Nat.le_refl _) _
    have hl3 : w.heap.size < (w2.alloc (.cells #[I 0, I 0, I 0] 139)).heap.size := Nat.lt_of_lt_of_le hl2 hb3.size
    replace c0 := cell_below c0 hb3 hl2
    replace c1 := cell_below c1 hb3 hl2
    have HB3 := hide ((unhide HB2).trans (hb3.mono (unhide HB2).size))
    have HE3 := hide (unhide HE (w2.alloc (.cells #[I 0, I 0, I 0] 139)))
    clear HB2 HE HV HI hg hb3
    go_wp2_with fail
    refine (unhide HE3).mono ?_
    rintro e w4 ⟨hw4, hor⟩
    have HB4 := hide ((unhide HB3).trans (hw4.mono (unhide HB3).size))
    replace c0 := cell_below c0 hw4 hl3
    replace c1 := cell_below c1 hw4 hl3
    have hl4 : w.heap.size < w4.heap.size := Nat.lt_of_lt_of_le hl3 hw4.size
    clear hw4 HE3 HB3
    rcases hor with ⟨hg, rfl⟩ | ⟨hg, rfl⟩
    · rw [hg, if_pos rfl] at HI2
      have hb5 : Below w4.heap.size w4 (w4.alloc (.cells #[I (end_en k), I (end_id k)] 115)) := (Below.refl _ _).alloc (Nat.le_refl _) _
      have m0 : (w4.alloc (.cells #[I (end_en k), I (end_id k)] 115)).cell? ⟨w4.heap.size, 0, none⟩ = some (I (end_en k)) := cell_new _ _ _ _ _ rfl
      have m1 : (w4.alloc (.cells #[I (end_en k), I (end_id k)] 115)).cell? ⟨w4.heap.size, 1, none⟩ = some (I (end_id k)) := cell_new _ _ _ _ _ rfl
      have hl5 : w4.heap.size < (w4.alloc (.cells #[I (end_en k), I (end_id k)] 115)).heap.size := by simp
      have HB5 := hide ((unhide HB4).trans (hb5.mono (unhide HB4).size))
      clear HS c0 c1 HB4 hg hb5
      go_wp2_with fail
      generalize w4.alloc (.cells #[I (end_en k), I (end_id k)] 115) = W5 at *
      refine rix6 w4.heap.size (end_en k) (end_id k) rfl (by rfl) (by rfl) _ W5 (by simp) rfl (fun _ _ W => Below W5.heap.size W5 W) ⟨(), (Below.refl _ _).drew⟩ (fun i hi c L W hW => hW)
        (fun c L W hW _ _ => s_ld (T := 3) (fun _ => by kernel_rfl) (cell_below m0 hW hl5))
        (fun c L W hW _ _ => s_ld (T := 3) (fun _ => by kernel_rfl) (cell_below m1 hW hl5)) ?_
      intro c L W hall hW
      simp only [Act.put, List.setIfInBounds_toArray, List.set_cons_succ, List.set_cons_zero]
      have HW := hide ((unhide HB5).trans (hW.mono (unhide HB5).size))
      clear hW hall m0 m1 HB5
      go_wp2
      refine bodyPost_ret (v := .tuple #[S [120], I (end_en k), I (end_id k), S [], I 0]) (by simp [results]) rfl ?_
      rw [unhide HI2]
      exact ⟨rfl, unhide HW⟩
    · have HI3 : Hid (R = if gs then ([115], 0, sub_id k, sub_su k, 0) else ([], 0, 0, [], 141)) := hide (by rw [unhide HI2, hg]; rfl)
      have hb5 : Below w4.heap.size w4 (w4.alloc (.cells #[I 0, I 0] 115)) := (Below.refl _ _).alloc (Nat.le_refl _) _
      have hl5 : w.heap.size < (w4.alloc (.cells #[I 0, I 0] 115)).heap.size := Nat.lt_of_lt_of_le hl4 hb5.size
      replace c0 := cell_below c0 hb5 hl4
      replace c1 := cell_below c1 hb5 hl4
      have HB5 := hide ((unhide HB4).trans (hb5.mono (unhide HB4).size))
      have HS5 := hide (unhide HS (w4.alloc (.cells #[I 0, I 0] 115)))
      clear HB4 HS HI2 hg hb5
      go_wp2_with fail
      refine (unhide HS5).mono ?_
      rintro e w6 ⟨hw6, hor⟩
      have HB6 := hide ((unhide HB5).trans (hw6.mono (unhide HB5).size))
      clear hw6 HS5 HB5 c0 c1
      rcases hor with ⟨hg, rfl⟩ | ⟨hg, rfl⟩
      · rw [hg, if_pos rfl] at HI3
        have hb7 : Below w6.heap.size w6 (w6.alloc (.cells #[S (sub_su k), I (sub_id k)] 120)) := (Below.refl _ _).alloc (Nat.le_refl _) _
        have m0 : (w6.alloc (.cells #[S (sub_su k), I (sub_id k)] 120)).cell? ⟨w6.heap.size, 0, none⟩ = some (S (sub_su k)) := cell_new _ _ _ _ _ rfl
        have m1 : (w6.alloc (.cells #[S (sub_su k), I (sub_id k)] 120)).cell? ⟨w6.heap.size, 1, none⟩ = some (I (sub_id k)) := cell_new _ _ _ _ _ rfl
        have hl7 : w6.heap.size < (w6.alloc (.cells #[S (sub_su k), I (sub_id k)] 120)).heap.size := by simp
        have HB7 := hide ((unhide HB6).trans (hb7.mono (unhide HB6).size))
        clear HB6 hg hb7
        go_wp2_with fail
        generalize w6.alloc (.cells #[S (sub_su k), I (sub_id k)] 120) = W7 at *
        refine rix9 w6.heap.size (sub_su k) (sub_id k) rfl (by rfl) (by rfl) _ W7 (by simp) rfl (fun _ _ W => Below W7.heap.size W7 W) ⟨(), (Below.refl _ _).drew⟩ (fun i hi c L W hW => hW)
          (fun c L W hW _ _ => s_ld (T := 3) (fun _ => by kernel_rfl) (cell_below m1 hW hl7))
          (fun c L W hW _ _ => s_ld (T := 9) (fun _ => by kernel_rfl) (cell_below m0 hW hl7)) ?_
        intro c L W hall hW
        simp only [Act.put, List.setIfInBounds_toArray, List.set_cons_succ, List.set_cons_zero]
        have HW := hide ((unhide HB7).trans (hW.mono (unhide HB7).size))
        clear hW hall m0 m1 HB7
        go_wp2
        refine bodyPost_ret (v := .tuple #[S [115], I 0, I (sub_id k), S (sub_su k), I 0]) (by simp [results]) rfl ?_
        rw [unhide HI3]
        exact ⟨rfl, unhide HW⟩
      · have HI4 : Hid (R = ([], 0, 0, [], 141)) := hide (by rw [unhide HI3, hg]; rfl)
        have HB7 := hide ((unhide HB6).trans (((Below.refl _ w6).alloc (Nat.le_refl _) (.cells #[S [], I 0] 120)).mono (unhide HB6).size))
        clear HB6 hg HI3
        go_wp2
        refine bodyPost_ret (v := .tuple #[S [], I 0, I 0, S [], I 141]) (by simp [results]) rfl ?_
        rw [unhide HI4]
        exact ⟨rfl, unhide HB7⟩
theorem keyL_any (n : Int) (w : World) : Calls Tryz.prog 57 #[I n] w fun e w' => e = .returned (.agg #[I n, S ab, I 5, I 9]) ∧ Below w.heap.size w w' := by
  have HR := hide (heap_alloc_new w (.cells #[I n, S ab, I 5, I 9] 60))
  have HB := hide ((Below.refl _ w).alloc (Nat.le_refl _) (.cells #[I n, S ab, I 5, I 9] 60))
  go_enter Tryz.func57, Tryz.ntmps57
  go_wp2
  refine out1c (T := 60) (n := 4) (p := 2) (cs := #[I n, S ab, I 5, I 9]) (fun _ => by kernel_rfl) (fun _ => by kernel_rfl) (Z := w.heap.size) (by rfl) (by rfl) (by rfl) (unhide HR) (by rfl) ?_
  exact ⟨rfl, unhide HB⟩
end Go.Proofs.YtpidmpefodnffaaGreatDoor
namespace Go.Proofs.YtpidmpefodnffaaGreatDoor
open Go.RowKit
set_option maxHeartbeats 4000000
set_option maxRecDepth 8000
theorem k7 : keyP 7 ab 5 9 = (([107, 0, 0, 0, 7], ab ++ [0, 0, 0, 0, 0, 5, 0, 0, 0, 0, 0, 9]), 0) := by decide +kernel
theorem k0 : keyP 0 ab 5 9 = (([], []), 140) := by decide +kernel
theorem g7 : keyG [107, 0, 0, 0, 7] (ab ++ [0, 0, 0, 0, 0, 5, 0, 0, 0, 0, 0, 9]) = true := by decide +kernel
theorem n7 : key_nu [107, 0, 0, 0, 7] = 7 ∧ key_se (ab ++ [0, 0, 0, 0, 0, 5, 0, 0, 0, 0, 0, 9]) = ab ∧ key_fr (ab ++ [0, 0, 0, 0, 0, 5, 0, 0, 0, 0, 0, 9]) = 5 ∧ key_un (ab ++ [0, 0, 0, 0, 0, 5, 0, 0, 0, 0, 0, 9]) = 9 := by decide +kernel
theorem awake_any (w : World) : Calls Tryz.prog 10 #[] w fun e w' => e = .returned (.bool true) ∧ Below w.heap.size w w' := by
  obtain ⟨vv, hvv⟩ : ∃ vv : Bs, vv = ab ++ [0, 0, 0, 0, 0, 5, 0, 0, 0, 0, 0, 9] := ⟨_, rfl⟩
  have hvl : vv.length = 36 := by rw [hvv]; rfl
  have hv36 : (vv.length : Int) = 36 := by omega
  have HK := hide (fun n W => keyL_any n W)
  have HP : Hid (∀ W, Calls Tryz.prog 38 #[.agg #[I 7, S ab, I 5, I 9]] W fun e w' => e = .returned (.tuple #[.agg #[S [107, 0, 0, 0, 7], S vv], I 0]) ∧ Below W.heap.size W w') := hide (fun W => by
    have q := Print38 7 ab 5 9 W
    rw [k7, ← hvv] at q
    exact q)
  have HZ : Hid (∀ W, Calls Tryz.prog 38 #[.agg #[I 0, S ab, I 5, I 9]] W fun e w' => e = .returned (.tuple #[.agg #[S [], S []], I 140]) ∧ Below W.heap.size W w') := hide (fun W => by
    have q := Print38 0 ab 5 9 W
    rw [k0] at q
    exact q)
  have HG : Hid (∀ W, Calls Tryz.prog 40 #[.agg #[S [107, 0, 0, 0, 7], S vv]] W fun e w' => e = .returned (.tuple #[.agg #[I 7, S ab, I 5, I 9], I 0]) ∧ Below W.heap.size W w') := hide (fun W => by
    refine (Parse40 [107, 0, 0, 0, 7] vv W (by decide) (by omega)).mono ?_
    rintro e w' ⟨hb, hor⟩
    rw [hvv, g7, n7.1, n7.2.1, n7.2.2.1, n7.2.2.2] at hor
    rcases hor with ⟨_, q⟩ | ⟨q, _⟩
    · exact ⟨q, hb⟩
    · cases q)
  clear hvv
  go_enter Tryz.func10, Tryz.ntmps10
  go_wp2_with fail
  refine (unhide HK 7 w).mono ?_
  rintro e w1 ⟨rfl, h1⟩
  go_wp2_with fail
  refine (unhide HP w1).mono ?_
  rintro e w2 ⟨rfl, h2⟩
  have H2 := hide (h1.trans (h2.mono h1.size))
  have b3 : Below w2.heap.size w2 (w2.alloc (.cells #[S [107, 0, 0, 0, 7], S vv] 30)) := (Below.refl _ _).alloc (Nat.le_refl _) _
  have HR3 := hide (heap_alloc_new w2 (.cells #[S [107, 0, 0, 0, 7], S vv] 30))
  have H3 := hide ((unhide H2).trans (b3.mono (unhide H2).size))
  clear h1 h2 b3 H2
  have HG3 := hide (unhide HG (w2.alloc (.cells #[S [107, 0, 0, 0, 7], S vv] 30)))
  go_wp2_with fail
  refine (unhide HG3).mono ?_
  rintro e w4 ⟨rfl, h4⟩
  have HR4 := hide ((h4.block _ (lt_of_row (unhide HR3))).trans (unhide HR3))
  have H4 := hide ((unhide H3).trans (h4.mono (unhide H3).size))
  have b5 : Below w4.heap.size w4 (w4.alloc (.cells #[I 7, S ab, I 5, I 9] 60)) := (Below.refl _ _).alloc (Nat.le_refl _) _
  have HQ5 := hide (heap_alloc_new w4 (.cells #[I 7, S ab, I 5, I 9] 60))
  have HR5 := hide ((b5.block _ (lt_of_row (unhide HR4))).trans (unhide HR4))
  have H5 := hide ((unhide H4).trans (b5.mono (unhide H4).size))
  have HK5 := hide (unhide HK 0 (w4.alloc (.cells #[I 7, S ab, I 5, I 9] 60)))
  clear h4 b5 HG3 HG HP HR3 HR4 H3 H4
  generalize hP2 : w2.heap.size = P2 at *
  go_wp2_with fail
  refine (unhide HK5).mono ?_
  rintro e w6 ⟨rfl, h6⟩
  have HR6 := hide ((h6.block _ (lt_of_row (unhide HR5))).trans (unhide HR5))
  have HQ6 := hide ((h6.block _ (lt_of_row (unhide HQ5))).trans (unhide HQ5))
  have H6 := hide ((unhide H5).trans (h6.mono (unhide H5).size))
  clear h6 HK5 HR5 HQ5 H5
  generalize hP4 : w4.heap.size = P4 at *
  go_wp2_with fail
  refine (unhide HZ w6).mono ?_
  rintro e w7 ⟨rfl, h7⟩
  have HR7 := hide ((h7.block _ (lt_of_row (unhide HR6))).trans (unhide HR6))
  have HQ7 := hide ((h7.block _ (lt_of_row (unhide HQ6))).trans (unhide HQ6))
  have H7 := hide ((unhide H6).trans (h7.mono (unhide H6).size))
  have b8 : Below w7.heap.size w7 (w7.alloc (.cells #[S [], S []] 30)) := (Below.refl _ _).alloc (Nat.le_refl _) _
  have hR8 := (b8.block _ (lt_of_row (unhide HR7))).trans (unhide HR7)
  have hQ8 := (b8.block _ (lt_of_row (unhide HQ7))).trans (unhide HQ7)
  have H8 := hide ((unhide H7).trans (b8.mono (unhide H7).size))
  clear h7 b8 HR6 HQ6 HR7 HQ7 H6 H7 HZ hP2 hP4
  go_wp2_with fail
  generalize w7.alloc (.cells #[S [], S []] 30) = W8 at *
  have hK : ∀ W, Calls Tryz.prog 57 #[I 7] W fun e w' => e = .returned (.agg #[I 7, S ab, I 5, I 9]) ∧ Below W.heap.size W w' := unhide HK 7
  refine raw4 P2 P4 vv rfl (by rfl) (by rfl) _ W8 (by simp) rfl rfl rfl rfl rfl (fun _ _ W => Below W8.heap.size W8 W) ⟨(), (Below.refl _ _).drew⟩ (fun i hi c L W hW => hW)
    (fun W => by kernel_rfl) (fun W => by kernel_rfl) (fun W => by kernel_rfl)
    (fun c L W hW _ _ => s_ld (T := 9) (fun _ => by kernel_rfl) (by unfold World.cell?; rw [(hW.block _ (lt_of_row hR8)).trans hR8]; rfl))
    (fun W => by kernel_rfl)
    (fun c L W hW _ _ => s_ld (T := 9) (fun _ => by kernel_rfl) (by unfold World.cell?; rw [(hW.block _ (lt_of_row hR8)).trans hR8]; rfl))
    (fun W => by rw [hv36]; kernel_rfl)
    (fun c L W hW _ => s_ldr (T := 60) (n := 4) (fun _ => by kernel_rfl) (fun _ => by kernel_rfl) (o := 0) ((hW.block _ (lt_of_row hQ8)).trans hQ8) [I 7, S ab, I 5, I 9] rfl rfl)
    (fun c L W hW _ => (hK W).mono fun e w' q => ⟨c, fun _ _ => rfl, q.1, hW.trans (q.2.mono hW.size)⟩)
    (fun W => by kernel_rfl) ?_
  intro c L W hall hW
  simp only [Act.put, List.setIfInBounds_toArray, List.set_cons_succ, List.set_cons_zero]
  have HW := hide ((unhide H8).trans (hW.mono (unhide H8).size))
  clear hW hall hR8 hQ8 H8 hK HK hv36 hvl
  go_wp2
  go_ret
  exact ⟨rfl, unhide HW⟩
end Go.Proofs.YtpidmpefodnffaaGreatDoor
