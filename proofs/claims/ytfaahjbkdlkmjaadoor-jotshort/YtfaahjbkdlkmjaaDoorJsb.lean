import Derived.Test.YtfaahjbkdlkmjaaDoorJxk
import Derived.Test.YtfaahjbkdlkmjaaDoorJxa
/- Jot: JotShort. -/
namespace Go.Proofs.YtfaahjbkdlkmjaaDoor
open Go Go.RowKit Go.Lib
set_option linter.unusedVariables false
set_option linter.unusedSimpArgs false
set_option maxHeartbeats 4000000 in
set_option maxRecDepth 20000 in
theorem short_any (s : Bs) (w : World) (hE : Env w) : Calls Tryd.prog 4 #[S s] w fun e w' => e = .returned (.bool true) ∧ Below w.heap.size w w' := by
  have HK := hide (known_any w hE)
  have HE := hide hE
  clear hE
  go_enter Tryd.func4, Tryd.ntmps4
  go_wp2_with fail
  refine (unhide HK).mono ?_
  rintro e w1 ⟨rfl, h1⟩
  have HP := hide (parse_any s w1 ((unhide HE).below h1))
  have H1 := hide h1
  clear h1 HK
  go_wp2_with fail
  refine (unhide HP).mono ?_
  rintro e w2 ⟨h2, it, hj, rfl, hjd⟩
  rcases hp : prs s with ⟨j0, e0, a0⟩
  rw [hp] at hj
  simp only at hj
  obtain ⟨j, na, nc, xa, xc⟩ := it
  simp only at hj hjd
  subst hj
  simp only [It.agg, vJ]
  obtain ⟨W, hW, hr, hbw⟩ := mk25 w2 #[I j.k, I j.n, S j.t, .slice na j.ns.length nc, .slice xa j.xs.length xc]
  have HW := hide hW
  have HR := hide hr
  have HB := hide ((unhide H1).trans ((h2.mono (unhide H1).size)))
  have HBW := hide ((unhide HB).trans (hbw.mono (unhide HB).size))
  have HJ := hide (JP.keep hbw j (JD.to j hjd))
  have HPR := hide hp
  clear hjd hW hr hbw h2 HP H1
  by_cases he : e0 = 0
  · subst he
    obtain ⟨p1, p2, p3, p4⟩ := short_pure hp rfl
    have hpn := hide (show Calls Tryd.prog 7 #[.agg #[I j.k, I j.n, S j.t, .slice na j.ns.length nc, .slice xa j.xs.length xc]] W (fun e w' => Below W.heap.size W w' ∧ e = .returned (.tuple #[S (prn j).1, I (prn j).2])) from print_any j na nc xa xc W ((unhide HE).below (unhide HBW)) (unhide HJ) (by omega))
    rw [p1] at hpn
    have p4' : ((pt j).length : Int) ≤ (s.length : Int) := by omega
    have P2 := hide p2
    have P4 := hide p4'
    clear hp HPR p1 p2 p3 p4 p4'
    go_wp2_with (first | (refine st25 rfl (.tmp 4) (.tmp 17) rfl w2.heap.size (by rfl) #[I j.k, I j.n, S j.t, .slice na j.ns.length nc, .slice xa j.xs.length xc] (by rfl) #[I 0, I 0, S [], .slice none 0 0, .slice none 0 0] rfl rfl (heap_alloc_new w2 _) (by simp [Value.oneCell']) ?_; rw [← unhide HW]; clear HW) | (refine ld25 rfl (.tmp 4) rfl w2.heap.size (by rfl) #[I j.k, I j.n, S j.t, .slice na j.ns.length nc, .slice xa j.xs.length xc] rfl (unhide HR) ?_))
    refine (unhide hpn).mono ?_
    rintro e w3 ⟨h3, rfl⟩
    have R3 := hide ((h3.block _ (lt_of_row (unhide HR))).trans (unhide HR))
    have HB3 := hide ((unhide HBW).trans (h3.mono (unhide HBW).size))
    have HJ3 := hide (JP.keep h3 j (unhide HJ))
    have HP3 := hide (parse_any (pt j) w3 ((unhide HE).below (unhide HB3)))
    clear h3 hpn HR HB HBW HJ
    go_wp2_with fail
    refine (unhide HP3).mono ?_
    rintro e w4 ⟨h4, it2, hj2, rfl, hjd2⟩
    rw [unhide P2] at hj2
    rw [unhide P2]
    obtain ⟨j2, na2, nc2, xa2, xc2⟩ := it2
    simp only at hj2 hjd2
    have HJJ := hide hj2
    simp only [It.agg, vJ]
    obtain ⟨W5, hW, hr, hbw⟩ := mk25 w4 #[I j2.k, I j2.n, S j2.t, .slice na2 j2.ns.length nc2, .slice xa2 j2.xs.length xc2]
    have HW := hide hW
    have hb5 := h4.trans (hbw.mono h4.size)
    have R5 := hide ((hb5.block _ (lt_of_row (unhide R3))).trans (unhide R3))
    have R6 := hide hr
    have HB5 := hide ((unhide HB3).trans (hb5.mono (unhide HB3).size))
    have hsm := same_all j2 j na2 nc2 xa2 xc2 na nc xa xc W5 (JP.keep hbw j2 (JD.to j2 hjd2)) (JP.keep hb5 j (unhide HJ3))
    rw [show eqJ j2 j = true by rw [hj2]; exact eqJ_refl j] at hsm
    have HSM := hide hsm
    unfold vJ at HSM
    clear hW hr hbw h4 hb5 R3 HB3 HJ3 HP3 hjd2 hsm hj2
    go_wp2_with (first | (refine st25 rfl (.tmp 9) (.tmp 31) rfl w4.heap.size (by rfl) #[I j2.k, I j2.n, S j2.t, .slice na2 j2.ns.length nc2, .slice xa2 j2.xs.length xc2] (by rfl) #[I 0, I 0, S [], .slice none 0 0, .slice none 0 0] rfl rfl (heap_alloc_new w4 _) (by simp [Value.oneCell']) ?_; rw [← unhide HW]; clear HW) | (refine ld25 rfl (.tmp 9) rfl w4.heap.size (by rfl) #[I j2.k, I j2.n, S j2.t, .slice na2 j2.ns.length nc2, .slice xa2 j2.xs.length xc2] rfl (unhide R6) ?_) | (refine ld25 rfl (.tmp 4) rfl w2.heap.size (by rfl) #[I j.k, I j.n, S j.t, .slice na j.ns.length nc, .slice xa j.xs.length xc] rfl (unhide R5) ?_))
    refine (unhide HSM).mono ?_
    rintro e w6 ⟨rfl, h6⟩
    have HB6 := hide ((unhide HB5).trans (h6.mono (unhide HB5).size))
    have q4 := unhide P4
    clear h6 HSM HB5 R5 R6
    go_wp2_with fail
    go_ret
    exact ⟨rfl, unhide HB6⟩
  · have he' : (e0 != 0) = true := by simpa using he
    go_wp2_with (first | (refine st25 rfl (.tmp 4) (.tmp 17) rfl w2.heap.size (by rfl) #[I j.k, I j.n, S j.t, .slice na j.ns.length nc, .slice xa j.xs.length xc] (by rfl) #[I 0, I 0, S [], .slice none 0 0, .slice none 0 0] rfl rfl (heap_alloc_new w2 _) (by simp [Value.oneCell']) ?_; rw [← unhide HW]; clear HW))
    go_ret
    exact ⟨rfl, unhide HBW⟩
end Go.Proofs.YtfaahjbkdlkmjaaDoor
