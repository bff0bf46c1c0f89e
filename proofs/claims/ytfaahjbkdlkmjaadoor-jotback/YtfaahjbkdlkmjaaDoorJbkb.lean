import Derived.Test.YtfaahjbkdlkmjaaDoorJbka
/- Jot: JotBack. -/
namespace Go.Proofs.YtfaahjbkdlkmjaaDoor
open Go Go.RowKit Go.Lib
set_option linter.unusedVariables false
set_option linter.unusedSimpArgs false
set_option maxHeartbeats 4000000 in
set_option maxRecDepth 20000 in
theorem back_any (j : J) (na : Option Addr) (nc : Nat) (xa : Option Addr) (xc : Nat) (w : World) (hE : Env w) (hj : JP w na xa j) :
    Calls Tryd.prog 3 #[vJ j.k j.n j.t na j.ns.length nc xa j.xs.length xc] w fun e w' => e = .returned (.bool true) ∧ Below w.heap.size w w' := by
  obtain ⟨W1, hW1⟩ : ∃ W1, w.alloc (.cells #[I j.k, I j.n, S j.t, .slice na j.ns.length nc, .slice xa j.xs.length xc] 25) = W1 := ⟨_, rfl⟩
  have hb1 : Below w.heap.size w W1 := by rw [← hW1]; exact (Below.refl _ _).alloc (Nat.le_refl _) _
  have r1 : W1.heap[w.heap.size]? = some (.cells #[I j.k, I j.n, S j.t, .slice na j.ns.length nc, .slice xa j.xs.length xc] 25 (0, 0)) := by rw [← hW1]; exact heap_alloc_new w _
  have HK := hide (known_any W1 (hE.below hb1))
  have HE := hide hE
  have HB1 := hide hb1
  have R1 := hide r1
  have HJ := hide hj
  clear hb1 r1 hE hj
  unfold vJ
  go_enter Tryd.func3, Tryd.ntmps3
  go_wp2_with fail
  clear hW1
  refine (unhide HK).mono ?_
  rintro e w1 ⟨rfl, h1⟩
  have r2 := (h1.block _ (lt_of_row (unhide R1))).trans (unhide R1)
  have hb2 := (unhide HB1).trans (h1.mono (unhide HB1).size)
  have hlf := left_all j na nc xa xc 10000 w1 (JP.keep hb2 j (unhide HJ)) (by omega) (by omega)
  have hdp := lft_dep j 10000
  have a0 : w1.cell? ⟨w.heap.size, 0, none⟩ = some (I j.k) := cellr r2 rfl
  have a1 : w1.cell? ⟨w.heap.size, 1, none⟩ = some (I j.n) := cellr r2 rfl
  have a2 : w1.cell? ⟨w.heap.size, 2, none⟩ = some (S j.t) := cellr r2 rfl
  have a3 : w1.cell? ⟨w.heap.size, 3, none⟩ = some (.slice na j.ns.length nc) := cellr r2 rfl
  have a4 : w1.cell? ⟨w.heap.size, 4, none⟩ = some (.slice xa j.xs.length xc) := cellr r2 rfl
  have HLF := hide hlf
  have HDP := hide hdp
  have R2 := hide r2
  have HB2 := hide hb2
  unfold vJ at HLF
  clear h1 HK R1 HB1 r2 hb2 hlf hdp
  go_wp2_with fail
  refine (unhide HLF).mono ?_
  rintro e w2 ⟨rfl, h2⟩
  have HR3 := hide ((h2.block _ (lt_of_row (unhide R2))).trans (unhide R2))
  have HB3 := hide ((unhide HB2).trans (h2.mono (unhide HB2).size))
  clear h2 HLF R2 HB2 a0 a1 a2 a3 a4
  by_cases hneg : lft j 10000 < 0
  · clear HDP
    generalize lft j 10000 = V at *
    go_wp2_with fail
    go_ret
    exact ⟨rfl, unhide HB3⟩
  · have hd9 : dep j ≤ 1000000 := by have := unhide HDP (by omega); omega
    have hpn := hide (show Calls Tryd.prog 7 #[.agg #[I j.k, I j.n, S j.t, .slice na j.ns.length nc, .slice xa j.xs.length xc]] w2 (fun e w' => Below w2.heap.size w2 w' ∧ e = .returned (.tuple #[S (prn j).1, I (prn j).2])) from print_any j na nc xa xc w2 ((unhide HE).below (unhide HB3)) (JP.keep (unhide HB3) j (unhide HJ)) hd9)
    clear HDP hd9
    generalize lft j 10000 = V at *
    go_wp2_with (refine ld25 rfl (.tmp 1) rfl w.heap.size (by rfl) #[I j.k, I j.n, S j.t, .slice na j.ns.length nc, .slice xa j.xs.length xc] rfl (unhide HR3) ?_)
    refine (unhide hpn).mono ?_
    rintro e w3 ⟨h3, rfl⟩
    have R3 := hide ((h3.block _ (lt_of_row (unhide HR3))).trans (unhide HR3))
    have HB4 := hide ((unhide HB3).trans (h3.mono (unhide HB3).size))
    clear h3 hpn HR3 HB3 hneg
    rcases hp : prn j with ⟨s, e0⟩
    rcases back_pure hp with ⟨he, rfl⟩ | ⟨rfl, p2, p3, p4⟩
    · have he' : (e0 != 0) = true := by simpa using he
      clear hp
      go_wp2_with fail
      go_ret
      exact ⟨rfl, unhide HB4⟩
    · have HP3 := hide (parse_any s w3 ((unhide HE).below (unhide HB4)))
      have P2 := hide p2
      have P3 := hide p3
      have P4 := hide p4
      clear hp p2 p3 p4
      go_wp2_with fail
      refine (unhide HP3).mono ?_
      rintro e w4 ⟨h4, it2, hj2, rfl, hjd2⟩
      rw [unhide P2] at hj2
      rw [unhide P2]
      obtain ⟨j2, na2, nc2, xa2, xc2⟩ := it2
      simp only at hj2 hjd2
      simp only [It.agg, vJ]
      obtain ⟨W5, hW, hr, hbw⟩ := mk25 w4 #[I j2.k, I j2.n, S j2.t, .slice na2 j2.ns.length nc2, .slice xa2 j2.xs.length xc2]
      have HW := hide hW
      have hb5 := h4.trans (hbw.mono h4.size)
      have R5 := hide ((hb5.block _ (lt_of_row (unhide R3))).trans (unhide R3))
      have R6 := hide hr
      have HB5 := hide ((unhide HB4).trans (hb5.mono (unhide HB4).size))
      have HJ5 := hide (JP.keep hbw j2 (JD.to j2 hjd2))
      have hpn := hide (show Calls Tryd.prog 7 #[.agg #[I j2.k, I j2.n, S j2.t, .slice na2 j2.ns.length nc2, .slice xa2 j2.xs.length xc2]] W5 (fun e w' => Below W5.heap.size W5 w' ∧ e = .returned (.tuple #[S (prn j2).1, I (prn j2).2])) from print_any j2 na2 nc2 xa2 xc2 W5 ((unhide HE).below (unhide HB5)) (unhide HJ5) (by have h9 : j2 = j := hj2; rw [h9]; have := unhide P4; omega))
      rw [show prn j2 = (s, 0) by rw [hj2]; exact unhide P3] at hpn
      have HJJ := hide hj2
      clear hW hr hbw h4 hb5 R3 HB4 HP3 hjd2 hj2
      go_wp2_with (first | (refine st25 rfl (.tmp 6) (.tmp 33) rfl w4.heap.size (by rfl) #[I j2.k, I j2.n, S j2.t, .slice na2 j2.ns.length nc2, .slice xa2 j2.xs.length xc2] (by rfl) #[I 0, I 0, S [], .slice none 0 0, .slice none 0 0] rfl rfl (heap_alloc_new w4 _) (by simp [Value.oneCell']) ?_; rw [← unhide HW]; clear HW) | (refine ld25 rfl (.tmp 6) rfl w4.heap.size (by rfl) #[I j2.k, I j2.n, S j2.t, .slice na2 j2.ns.length nc2, .slice xa2 j2.xs.length xc2] rfl (unhide R6) ?_))
      refine (unhide hpn).mono ?_
      rintro e w6 ⟨h6, rfl⟩
      have R7 := hide ((h6.block _ (lt_of_row (unhide R5))).trans (unhide R5))
      have R8 := hide ((h6.block _ (lt_of_row (unhide R6))).trans (unhide R6))
      have HB6 := hide ((unhide HB5).trans (h6.mono (unhide HB5).size))
      have hsm := same_all j2 j na2 nc2 xa2 xc2 na nc xa xc w6 (JP.keep h6 j2 (unhide HJ5)) (JP.keep (unhide HB6) j (unhide HJ))
      rw [show eqJ j2 j = true by rw [unhide HJJ]; exact eqJ_refl j] at hsm
      have HSM := hide hsm
      unfold vJ at HSM
      clear h6 hpn R5 R6 HB5 HJ5 hsm
      go_wp2_with (first | (refine ld25 rfl (.tmp 6) rfl w4.heap.size (by rfl) #[I j2.k, I j2.n, S j2.t, .slice na2 j2.ns.length nc2, .slice xa2 j2.xs.length xc2] rfl (unhide R8) ?_) | (refine ld25 rfl (.tmp 1) rfl w.heap.size (by rfl) #[I j.k, I j.n, S j.t, .slice na j.ns.length nc, .slice xa j.xs.length xc] rfl (unhide R7) ?_))
      refine (unhide HSM).mono ?_
      rintro e w7 ⟨rfl, h7⟩
      have HB7 := hide ((unhide HB6).trans (h7.mono (unhide HB6).size))
      clear h7 HSM HB6 R7 R8
      go_wp2_with fail
      go_ret
      exact ⟨rfl, unhide HB7⟩
end Go.Proofs.YtfaahjbkdlkmjaaDoor
