import Derived.Test.YtbeionikiiccpaaDoorTkj
namespace Go.Proofs.YtbeionikiiccpaaDoor
open Go.RowKit Go.Lib Sha
set_option maxHeartbeats 4000000
set_option maxRecDepth 8000
theorem rparse_any (k : Int) (hk : isK k) (t : Bs) (w : World) :
    Calls Tryd.prog 8 #[I k, S t] w fun e w' => e = .returned (prs k t) ∧ Below w.heap.size w w' := by
  by_cases h1 : (pre (3 - k)).isPrefixOf t = true
  · have e : prs k t = .tuple #[I 0, S [], I 170] := by unfold prs rdT; rw [if_pos h1]; rfl
    rw [e]
    exact rparse_other k hk t w h1
  · have h1' : (pre (3 - k)).isPrefixOf t = false := Bool.eq_false_iff.2 h1
    by_cases h2 : t.length ≠ 52 ∨ (pre k).isPrefixOf t = false
    · have e : prs k t = .tuple #[I 0, S [], I 171] := by unfold prs rdT; rw [if_neg h1, if_pos h2]; rfl
      rw [e]
      exact rparse_form k hk t w h1' h2
    · have h3 : t.length = 52 := by
        rcases Nat.decEq t.length 52 with q | q
        · exact absurd (.inl q) h2
        · exact q
      have h4 : (pre k).isPrefixOf t = true := by
        cases q : (pre k).isPrefixOf t
        · exact absurd (.inr q) h2
        · rfl
      exact rparse_body k hk t w h1' h3 h4
theorem tokenParses_any (a0 a1 a2 : Addr) (kind : Int) (t : Bs) (w : World) (hE : Env a0 a1 a2 w) (hs : t.length ≤ 2147483647) :
    Calls Tryd.prog 3 #[I kind, S t] w fun e w' => e = .returned (.bool true) ∧ Below w.heap.size w w' := by
  have hsi : (t.length : Int) ≤ 2147483647 := by omega
  have HE := hide hE
  by_cases hk : isK kind
  · have HP := hide (fun w hE => parse_any a0 a1 a2 kind hk t w hE)
    have HR := hide (fun w => rparse_any kind hk t w)
    rw [show prs kind t = .tuple #[I ((rdT kind t).1 : Int), S (rdT kind t).2.1, I (ern (rdT kind t).2.2)] from rfl] at HP HR
    generalize ((rdT kind t).1 : Int) = x1 at *
    generalize (rdT kind t).2.1 = x2 at *
    generalize ern (rdT kind t).2.2 = x3 at *
    clear hE hk
    go_enter Tryd.func3, Tryd.ntmps3
    go_wp2_with fail
    refine (awake_any a0 a1 a2 w (unhide HE)).mono ?_
    rintro e w1 ⟨rfl, hb1⟩
    have HB1 := hide hb1
    have HE1 := hide ((unhide HE).below hb1)
    clear hb1 HE
    go_wp2_with fail
    refine (unhide HP _ (unhide HE1)).mono ?_
    rintro e w2 ⟨rfl, hb2⟩
    have HB2 := hide ((unhide HB1).trans (hb2.mono (unhide HB1).size))
    clear hb2 HB1 HE1
    go_wp2_with fail
    refine (unhide HR _).mono ?_
    rintro e w3 ⟨rfl, hb3⟩
    have HB3 := hide ((unhide HB2).trans (hb3.mono (unhide HB2).size))
    clear hb3 HB2
    go_wp2
    go_ret
    exact ⟨rfl, unhide HB3⟩
  · have HP := hide (fun w => parse_no kind hk t w)
    have HR := hide (fun w => rparse_no kind hk t w)
    clear hE hk
    go_enter Tryd.func3, Tryd.ntmps3
    go_wp2_with fail
    refine (awake_any a0 a1 a2 w (unhide HE)).mono ?_
    rintro e w1 ⟨rfl, hb1⟩
    have HB1 := hide hb1
    clear hb1 HE
    go_wp2_with fail
    refine (unhide HP _).mono ?_
    rintro e w2 ⟨rfl, rfl⟩
    go_wp2_with fail
    refine (unhide HR _).mono ?_
    rintro e w3 ⟨rfl, rfl⟩
    go_wp2
    go_ret
    exact ⟨rfl, unhide HB1⟩
theorem parses_long (kind : Int) (t : Bs) (w : World) (h : 2147483647 < t.length) :
    Calls Tryd.prog 3 #[I kind, S t] w fun e w' => e = .returned (.bool true) ∧ Below w.heap.size w w' := by
  have hi : (2147483647 : Int) < (t.length : Int) := by omega
  go_enter Tryd.func3, Tryd.ntmps3
  go_wp2
  go_ret
  exact ⟨rfl, Below.refl _ _⟩
end Go.Proofs.YtbeionikiiccpaaDoor
