import Derived.Test.YtfaahjbkdlkmjaaDoorJxf
import Derived.Test.YtfaahjbkdlkmjaaDoorJxb
import Derived.Test.YtfaahjbkdlkmjaaDoorJev
import Derived.Test.YtfaahjbkdlkmjaaDoorJxg
/- Jot: the law's first calls. -/
namespace Go.Proofs.YtfaahjbkdlkmjaaDoor
open Go Go.RowKit Go.Lib
set_option linter.unusedVariables false
set_option linter.unusedSimpArgs false
def kn7T : List (Op × Option Tmp × Option (Nat × Bool)) := [
  (.move (.tmp 4), some 77, none),
  (.binOp .eql 9 (.tmp 77) (.const (.string ⟨#[123, 34, 97, 34, 58, 48, 44, 34, 98, 34, 58, 91, 93, 125]⟩)) 9, some 78, none),
  (.move (.tmp 78), some 79, none),
  (.move (.tmp 5), some 80, some (2, true)),
  (.binOp .eql 28 (.tmp 80) (.const (I 0)) 28, some 81, some (2, true)),
  (.pick (.tmp 79) (.tmp 81) (.const (.bool false)), some 82, none),
  (.move (.tmp 82), some 83, none),
  (.move (.tmp 7), some 84, some (6, true)),
  (.pick (.tmp 83) (.tmp 84) (.const (.bool false)), some 85, none),
  (.move (.tmp 85), some 86, none),
  (.fieldAddr 25 (.tmp 6) 0, some 87, some (9, true)),
  (.load 3 (.tmp 87), some 88, some (9, true)),
  (.binOp .eql 3 (.tmp 88) (.const (I 3)) 3, some 89, some (9, true)),
  (.pick (.tmp 86) (.tmp 89) (.const (.bool false)), some 90, none),
  (.move (.tmp 90), some 91, none),
  (.move (.tmp 9), some 92, some (14, true)),
  (.binOp .eql 28 (.tmp 92) (.const (I 40)) 28, some 93, some (14, true)),
  (.pick (.tmp 91) (.tmp 93) (.const (.bool false)), some 94, none),
  (.move (.tmp 94), some 95, none),
  (.move (.tmp 10), some 96, some (18, true)),
  (.binOp .eql 3 (.tmp 96) (.const (I 3)) 3, some 97, some (18, true)),
  (.pick (.tmp 95) (.tmp 97) (.const (.bool false)), some 98, none),
  (.move (.tmp 98), some 99, none),
  (.load 25 (.tmp 6), some 100, some (22, true)),
  (.fieldAddr 25 (.tmp 1) 4, some 101, some (22, true)),
  (.load 23 (.tmp 101), some 102, some (22, true)),
  (.indexAddr 23 (.tmp 102) (.const (I 0)), some 103, some (22, true)),
  (.load 25 (.tmp 103), some 104, some (22, true)),
  (.call { callee := .value (.func 9), args := #[(.tmp 100), (.tmp 104)], argTypes := #[25, 25] }, some 105, some (22, true)),
  (.pick (.tmp 99) (.tmp 105) (.const (.bool false)), some 106, none),
  (.move (.tmp 106), some 107, none),
  (.load 25 (.tmp 6), some 108, some (30, true)),
  (.load 25 (.tmp 1), some 109, some (30, true)),
  (.call { callee := .value (.func 9), args := #[(.tmp 108), (.tmp 109)], argTypes := #[25, 25] }, some 110, some (30, true)),
  (.unOp .not 4 (.tmp 110), some 111, some (30, true)),
  (.pick (.tmp 107) (.tmp 111) (.const (.bool false)), some 112, none),
  (.assign (.tmp 112), some 0, none)]
def kn7V (g1 g6 b o xc : Nat) (X I9 K : Array Value) (_ : Unit) : Nat → Value
  | 0 => S [123, 34, 97, 34, 58, 48, 44, 34, 98, 34, 58, 91, 93, 125]
  | 1 => .bool true
  | 2 => .bool true
  | 3 => I 0
  | 4 => .bool true
  | 5 => .bool true
  | 6 => .bool true
  | 7 => .bool true
  | 8 => .bool true
  | 9 => .bool true
  | 10 => .pointer (some ⟨g6, 0, none⟩)
  | 11 => I 3
  | 12 => .bool true
  | 13 => .bool true
  | 14 => .bool true
  | 15 => I 40
  | 16 => .bool true
  | 17 => .bool true
  | 18 => .bool true
  | 19 => I 3
  | 20 => .bool true
  | 21 => .bool true
  | 22 => .bool true
  | 23 => .agg X
  | 24 => .pointer (some ⟨g1, 4, none⟩)
  | 25 => .slice (some ⟨b, o, none⟩) 2 xc
  | 26 => .pointer (some ⟨b, o, none⟩)
  | 27 => .agg I9
  | 28 => .bool true
  | 29 => .bool true
  | 30 => .bool true
  | 31 => .agg X
  | 32 => .agg K
  | 33 => .bool false
  | 34 => .bool true
  | 35 => .bool true
  | 36 => .bool true
  | _ => undef
theorem jp_x (w : World) : JP w none none kx0 := by
  unfold kx0
  rw [JP]
  exact ⟨by simp, ⟨by simp, fun x hx => absurd hx (by simp), fun h => absurd h (by simp)⟩, by simp, fun h => absurd h (by simp)⟩
set_option maxHeartbeats 16000000 in
set_option maxRecDepth 20000 in
theorem known_any (w : World) (hE : Env w) : Calls Tryd.prog 5 #[] w fun e w' => e = .returned (.bool true) ∧ Below w.heap.size w w' := by
  have HP := hide (parse_any kn1 w hE)
  have HE := hide hE
  clear hE
  go_enter Tryd.func5, Tryd.ntmps5
  go_wp2_with fail
  refine (unhide HP).mono ?_
  rintro e w1 ⟨hb1, it, hj, rfl, hjd⟩
  rw [prs_kn1] at hj
  simp only [prs_kn1]
  obtain ⟨j, na, nc, xa, xc⟩ := it
  simp only at hj hjd
  subst hj
  have hjd' := hjd
  unfold kj at hjd'
  rw [JD] at hjd'
  obtain ⟨-, ⟨hnm, -⟩, -, hxs⟩ := hjd'
  obtain ⟨p, q, rfl, hcn⟩ := hnm.2.2 (by simp)
  obtain ⟨b, o, rfl, -, hjs⟩ := hxs (by simp)
  unfold kx0 at hjs
  rw [JDs] at hjs
  obtain ⟨⟨na0, nc0, xa0, xc0, hc0, hj0⟩, hjs⟩ := hjs
  unfold kx1 at hjs
  rw [JDs] at hjs
  obtain ⟨⟨na1, nc1, xa1, xc1, hc1, hj1⟩, -⟩ := hjs
  have n0 := hcn 0 [97] rfl
  have i0 := hc0 0 (I 3) rfl
  have i1 := hc0 1 (I 0) rfl
  have i2 := hc0 2 (S []) rfl
  have i3 := hc0 3 (.slice na0 0 nc0) rfl
  have i4 := hc0 4 (.slice xa0 0 xc0) rfl
  have i5 := hc1 0 (I 5) rfl
  simp only [Nat.add_zero] at n0 i0 i5
  clear hcn hc0 hc1 hxs hnm HP
  have HJP := hide (JD.to kj hjd)
  have HJ0 := hide (JD.to kx0 hj0)
  clear hjd hj0 hj1
  simp only [It.agg, vJ]
  obtain ⟨W, hW, hr, hbw⟩ := mk25 w1 #[I 6, I 0, S [], .slice (some ⟨p, q, none⟩) 2 nc, .slice (some ⟨b, o, none⟩) 2 xc]
  have HW := hide hW
  have R1 := hide hr
  have HB := hide (hb1.trans (hbw.mono hb1.size))
  have N0 := hide (cell_old hbw n0)
  have I0 := hide (cell_old hbw i0)
  have I1 := hide (cell_old hbw i1)
  have I2 := hide (cell_old hbw i2)
  have I3 := hide (cell_old hbw i3)
  have I4 := hide (cell_old hbw i4)
  have I5 := hide (cell_old hbw i5)
  have HJ := hide (JP.keep hbw kj (unhide HJP))
  have HJz := hide (JP.keep hbw kx0 (unhide HJ0))
  have hg1 : w1.heap.size < W.heap.size := lt_of_row hr
  have HG1 := hide hg1
  have HS1 := hide hb1.size
  clear hW hr hbw hb1 n0 i0 i1 i2 i3 i4 i5 HJP HJ0 hg1
  go_upto_region 2 with (refine st25 rfl (.tmp 1) (.tmp 13) rfl w1.heap.size (by rfl) #[I 6, I 0, S [], .slice (some ⟨p, q, none⟩) 2 nc, .slice (some ⟨b, o, none⟩) 2 xc] (by rfl) #[I 0, I 0, S [], .slice none 0 0, .slice none 0 0] rfl rfl (heap_alloc_new w1 _) (by simp [Value.oneCell']) ?_; rw [← unhide HW]; clear HW)
  have hp := hide (show Calls Tryd.prog 7 #[.agg #[I 6, I 0, S [], .slice (some ⟨p, q, none⟩) 2 nc, .slice (some ⟨b, o, none⟩) 2 xc]] W (fun e w' => Below W.heap.size W w' ∧ e = .returned (.tuple #[S (prn kj).1, I (prn kj).2])) from print_any kj (some ⟨p, q, none⟩) nc (some ⟨b, o, none⟩) xc W ((unhide HE).below (unhide HB)) (unhide HJ) (by decide))
  rw [prn_kj] at hp
  have n0 := unhide N0
  have i0 := unhide I0
  have i5 := unhide I5
  have b0 : W.cell? ⟨w1.heap.size, 0, none⟩ = some (I 6) := cellr (unhide R1) rfl
  have b3 : W.cell? ⟨w1.heap.size, 3, none⟩ = some (.slice (some ⟨p, q, none⟩) 2 nc) := cellr (unhide R1) rfl
  have b4 : W.cell? ⟨w1.heap.size, 4, none⟩ = some (.slice (some ⟨b, o, none⟩) 2 xc) := cellr (unhide R1) rfl
  go_wp2_with (refine ld25 rfl (.tmp 1) rfl w1.heap.size (by rfl) #[I 6, I 0, S [], .slice (some ⟨p, q, none⟩) 2 nc, .slice (some ⟨b, o, none⟩) 2 xc] rfl (unhide R1) ?_)
  clear n0 i0 i5 b0 b3 b4 I5
  refine (unhide hp).mono ?_
  rintro e w3 ⟨h3, rfl⟩
  have R3 := hide ((h3.block _ (lt_of_row (unhide R1))).trans (unhide R1))
  have HB3 := hide ((unhide HB).trans (h3.mono (unhide HB).size))
  have HJ3 := hide (JP.keep h3 kj (unhide HJ))
  have HK3 := hide (JP.keep h3 kx0 (unhide HJz))
  have j0 := cell_old h3 (unhide I0)
  have j1 := cell_old h3 (unhide I1)
  have j2 := cell_old h3 (unhide I2)
  have j3 := cell_old h3 (unhide I3)
  have j4 := cell_old h3 (unhide I4)
  have HG := hide (get_known p q nc b o xc na0 nc0 xa0 xc0 w3 (cell_old h3 (unhide N0)) j0 j1 j2 j3 j4)
  have J0 := hide j0
  have J1 := hide j1
  have J2 := hide j2
  have J3 := hide j3
  have J4 := hide j4
  clear h3 hp R1 HB HJ HJz I0 I1 I2 I3 I4 N0 j0 j1 j2 j3 j4 HG1
  go_wp2_with (refine ld25 rfl (.tmp 1) rfl w1.heap.size (by rfl) #[I 6, I 0, S [], .slice (some ⟨p, q, none⟩) 2 nc, .slice (some ⟨b, o, none⟩) 2 xc] rfl (unhide R3) ?_)
  refine (unhide HG).mono ?_
  rintro e w4 ⟨rfl, h4⟩
  obtain ⟨W4, hW, hr, hbw⟩ := mk25 w4 #[I 3, I 0, S [], .slice none 0 0, .slice none 0 0]
  have HW := hide hW
  have hb4 := h4.trans (hbw.mono h4.size)
  have R4 := hide ((hb4.block _ (lt_of_row (unhide R3))).trans (unhide R3))
  have R6 := hide hr
  have HB4 := hide ((unhide HB3).trans (hb4.mono (unhide HB3).size))
  have HJ4 := hide (JP.keep hb4 kj (unhide HJ3))
  have HK4 := hide (JP.keep hb4 kx0 (unhide HK3))
  have K0 := hide (cell_old hb4 (unhide J0))
  have K1 := hide (cell_old hb4 (unhide J1))
  have K2 := hide (cell_old hb4 (unhide J2))
  have K3 := hide (cell_old hb4 (unhide J3))
  have K4 := hide (cell_old hb4 (unhide J4))
  have HP2 := hide (parse_any kn2 W4 ((unhide HE).below (unhide HB4)))
  clear hW hr hbw h4 hb4 R3 HB3 HJ3 HK3 J0 J1 J2 J3 J4 HG
  go_upto_region 6 with (refine st25 rfl (.tmp 6) (.tmp 70) rfl w4.heap.size (by rfl) #[I 3, I 0, S [], .slice none 0 0, .slice none 0 0] (by rfl) #[I 0, I 0, S [], .slice none 0 0, .slice none 0 0] rfl rfl (heap_alloc_new w4 _) (by simp [Value.oneCell']) ?_; rw [← unhide HW]; clear HW)
  go_wp2_with fail
  refine (unhide HP2).mono ?_
  rintro e w5 ⟨h5, it, hj, rfl, hjd⟩
  rw [prs_kn2] at hj
  simp only [prs_kn2]
  obtain ⟨j, na2, nc2, xa2, xc2⟩ := it
  simp only at hj hjd
  subst hj
  clear hjd
  simp only [It.agg, vJ]
  obtain ⟨W6, hW, hr, hbw⟩ := mk25 w5 #[I 0, I 0, S [], .slice na2 0 nc2, .slice xa2 0 xc2]
  have HW := hide hW
  have hb6 := h5.trans (hbw.mono h5.size)
  have R7 := hide ((hb6.block _ (lt_of_row (unhide R4))).trans (unhide R4))
  have R8 := hide ((hb6.block _ (lt_of_row (unhide R6))).trans (unhide R6))
  have HB6 := hide ((unhide HB4).trans (hb6.mono (unhide HB4).size))
  have HJ6 := hide (JP.keep hb6 kj (unhide HJ4))
  have HK6 := hide (JP.keep hb6 kx0 (unhide HK4))
  have L0 := hide (cell_old hb6 (unhide K0))
  have L1 := hide (cell_old hb6 (unhide K1))
  have L2 := hide (cell_old hb6 (unhide K2))
  have L3 := hide (cell_old hb6 (unhide K3))
  have L4 := hide (cell_old hb6 (unhide K4))
  clear hW hr hbw h5 hb6 R4 R6 HB4 HJ4 HK4 K0 K1 K2 K3 K4 HP2
  go_upto_region 7 with (refine st25 rfl (.tmp 8) (.tmp 74) rfl w5.heap.size (by rfl) #[I 0, I 0, S [], .slice na2 0 nc2, .slice xa2 0 xc2] (by rfl) #[I 0, I 0, S [], .slice none 0 0, .slice none 0 0] rfl rfl (heap_alloc_new w5 _) (by simp [Value.oneCell']) ?_; rw [← unhide HW]; clear HW)
  have HS1 := hide (show ∀ W, Below W6.heap.size W6 W → Calls Tryd.prog 9 #[.agg #[I 3, I 0, S [], .slice none 0 0, .slice none 0 0], .agg #[I 3, I 0, S [], .slice na0 0 nc0, .slice xa0 0 xc0]] W fun e w' => e = .returned (.bool true) ∧ Below W.heap.size W w' from fun W hW => by
    have := same_all kx0 kx0 none 0 none 0 na0 nc0 xa0 xc0 W (jp_x W) (JP.keep hW kx0 (unhide HK6))
    rw [eq_kx0] at this
    exact this)
  have HS2 := hide (show ∀ W, Below W6.heap.size W6 W → Calls Tryd.prog 9 #[.agg #[I 3, I 0, S [], .slice none 0 0, .slice none 0 0], .agg #[I 6, I 0, S [], .slice (some ⟨p, q, none⟩) 2 nc, .slice (some ⟨b, o, none⟩) 2 xc]] W fun e w' => e = .returned (.bool false) ∧ Below W.heap.size W w' from fun W hW => by
    have := same_all kx0 kj none 0 none 0 (some ⟨p, q, none⟩) nc (some ⟨b, o, none⟩) xc W (jp_x W) (JP.keep hW kj (unhide HJ6))
    rw [eq_kj] at this
    exact this)
  refine region_tabG kn7T [(4, S [123, 34, 97, 34, 58, 48, 44, 34, 98, 34, 58, 91, 93, 125]), (5, I 0), (7, .bool true), (6, .pointer (some ⟨w4.heap.size, 0, none⟩)), (9, I 40), (10, I 3), (1, .pointer (some ⟨w1.heap.size, 0, none⟩))] 113 [0, 1, 2, 3, 4, 5, 6, 7, 8, 9, 10, 12, 13, 14, 15, 16, 17, 18, 19, 20, 21, 22, 24, 26, 29, 30, 34, 35, 36] [] (kn7V w1.heap.size w4.heap.size b o xc #[I 3, I 0, S [], .slice none 0 0, .slice none 0 0] #[I 3, I 0, S [], .slice na0 0 nc0, .slice xa0 0 xc0] #[I 6, I 0, S [], .slice (some ⟨p, q, none⟩) 2 nc, .slice (some ⟨b, o, none⟩) 2 xc]) rfl (by rfl) (by rfl) rfl (fun c => by kernel_rfl) (fun c => by kernel_rfl) (fun c w => by kernel_rfl) _ W6 (Nat.le_of_ble_eq_true rfl) rfl (fun _ _ W => Below W6.heap.size W6 W) ⟨(), (Below.refl _ _).drew⟩ (fun i hi c L W hW => hW) ?spc ?_
  case spc =>
    intro i hi hp hs c L W hW hL hd
    rcases (by simp [kn7T] at hi hp hs; omega : i = 11 ∨ i = 23 ∨ i = 25 ∨ i = 27 ∨ i = 28 ∨ i = 31 ∨ i = 32 ∨ i = 33) with rfl | rfl | rfl | rfl | rfl | rfl | rfl | rfl
    · exact ⟨s_ld (T := 3) (fun _ => by kernel_rfl) (cellr ((hW.block _ (lt_of_row (unhide R8))).trans (unhide R8)) rfl), hW⟩
    · have f1 : (Instr.loadAt 25 (.pointer (some ⟨w4.heap.size, 0, none⟩))).run Tryd.prog W = .ok (.agg #[I 3, I 0, S [], .slice none 0 0, .slice none 0 0]) W := s_ldr (T := 25) (n := 5) (o := 0) (fun _ => by kernel_rfl) (fun _ => by kernel_rfl) ((hW.block _ (lt_of_row (unhide R8))).trans (unhide R8)) (#[I 3, I 0, S [], .slice none 0 0, .slice none 0 0]).toList rfl rfl
      exact ⟨f1, hW⟩
    · exact ⟨s_ld (T := 23) (fun _ => by kernel_rfl) (cellr ((hW.block _ (lt_of_row (unhide R7))).trans (unhide R7)) rfl), hW⟩
    · have f1 : (Instr.loadAt 25 (.pointer (some ⟨b, o, none⟩))).run Tryd.prog W = .ok (.agg #[I 3, I 0, S [], .slice na0 0 nc0, .slice xa0 0 xc0]) W := s_lda (T := 25) (n := 5) (fun _ => by kernel_rfl) (fun _ => by kernel_rfl) [I 3, I 0, S [], .slice na0 0 nc0, .slice xa0 0 xc0] rfl (fun j v hj => by
        match j, hj with
        | 0, hj => rw [← Option.some.inj hj]; exact cell_old hW (unhide L0)
        | 1, hj => rw [← Option.some.inj hj]; exact cell_old hW (unhide L1)
        | 2, hj => rw [← Option.some.inj hj]; exact cell_old hW (unhide L2)
        | 3, hj => rw [← Option.some.inj hj]; exact cell_old hW (unhide L3)
        | 4, hj => rw [← Option.some.inj hj]; exact cell_old hW (unhide L4)
        | j + 5, hj => simp at hj)
      exact ⟨f1, hW⟩
    · exact ⟨⟨_, _, Tryd.func9, by kernel_rfl, rfl⟩, (unhide HS1 W hW).mono fun e w' q => ⟨c, fun _ _ => rfl, q.1, hW.trans (q.2.mono hW.size)⟩⟩
    · have f1 : (Instr.loadAt 25 (.pointer (some ⟨w4.heap.size, 0, none⟩))).run Tryd.prog W = .ok (.agg #[I 3, I 0, S [], .slice none 0 0, .slice none 0 0]) W := s_ldr (T := 25) (n := 5) (o := 0) (fun _ => by kernel_rfl) (fun _ => by kernel_rfl) ((hW.block _ (lt_of_row (unhide R8))).trans (unhide R8)) (#[I 3, I 0, S [], .slice none 0 0, .slice none 0 0]).toList rfl rfl
      exact ⟨f1, hW⟩
    · have f1 : (Instr.loadAt 25 (.pointer (some ⟨w1.heap.size, 0, none⟩))).run Tryd.prog W = .ok (.agg #[I 6, I 0, S [], .slice (some ⟨p, q, none⟩) 2 nc, .slice (some ⟨b, o, none⟩) 2 xc]) W := s_ldr (T := 25) (n := 5) (o := 0) (fun _ => by kernel_rfl) (fun _ => by kernel_rfl) ((hW.block _ (lt_of_row (unhide R7))).trans (unhide R7)) (#[I 6, I 0, S [], .slice (some ⟨p, q, none⟩) 2 nc, .slice (some ⟨b, o, none⟩) 2 xc]).toList rfl rfl
      exact ⟨f1, hW⟩
    · exact ⟨⟨_, _, Tryd.func9, by kernel_rfl, rfl⟩, (unhide HS2 W hW).mono fun e w' q => ⟨c, fun _ _ => rfl, q.1, hW.trans (q.2.mono hW.size)⟩⟩
  intro c L W7 hall hW
  simp only [frmL, kn7T, kn7V, Act.put, List.setIfInBounds_toArray, List.set_cons_succ, List.set_cons_zero]
  have HB7 := hide ((unhide HB6).trans (hW.mono (unhide HB6).size))
  clear hall hW HS1 HS2 R7 R8 HB6 HJ6 HK6 L0 L1 L2 L3 L4
  go_wp2_with fail
  go_ret
  exact ⟨rfl, unhide HB7⟩
end Go.Proofs.YtfaahjbkdlkmjaaDoor
