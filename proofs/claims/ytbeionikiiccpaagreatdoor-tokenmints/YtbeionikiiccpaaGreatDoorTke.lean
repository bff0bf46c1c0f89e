import Derived.Test.YtbeionikiiccpaaGreatDoorTkd
namespace Go.Proofs.YtbeionikiiccpaaGreatDoor
open Go.RowKit Go.Lib Sha
set_option maxHeartbeats 4000000
set_option maxRecDepth 8000
theorem rdT_cases (k : Int) (t : Bs) : (rdT k t).2.2 = 0 ∨ rdT k t = (0, [], 1) ∨ rdT k t = (0, [], 2) ∨ rdT k t = (0, [], 3) := by
  unfold rdT
  split
  · exact .inr (.inl rfl)
  · split
    · exact .inr (.inr (.inl rfl))
    · split
      · exact .inr (.inr (.inl rfl))
      · split
        · split
          · exact .inl rfl
          · exact .inr (.inr (.inr rfl))
        · exact .inr (.inr (.inl rfl))
/-- readAs, where nothing is wrong. -/
theorem readAs_ok (a0 a1 a2 : Addr) (k : Int) (hk : isK k) (t : Bs) (w : World) (hE : Env a0 a1 a2 w) (h0 : (rdT k t).2.2 = 0) :
    Calls Tryz.prog 19 #[I k, S t] w fun e w' => e = .returned (.tuple #[I ((rdT k t).1 : Int), S (rdT k t).2.1, .nilIface]) ∧ Below w.heap.size w w' := by
  have HR := hide (read_any a0 a1 a2 k hk t w hE)
  rw [show rdV a0 a1 a2 (rdT k t) = .tuple #[I ((rdT k t).1 : Int), S (rdT k t).2.1, .nilIface] by unfold rdV; rw [h0]; rfl] at HR
  clear hE hk h0
  generalize ((rdT k t).1 : Int) = n at *
  generalize (rdT k t).2.1 = s at *
  go_enter Tryz.func19, Tryz.ntmps19
  go_wp2_with (first | (go_at_call 39; refine (unhide HR).mono ?_; rintro e w1 ⟨rfl, hb⟩))
  go_ret3
  exact ⟨rfl, hb⟩
theorem readAs_bad (a0 a1 a2 : Addr) (k : Int) (hk : isK k) (t : Bs) (w : World) (hE : Env a0 a1 a2 w) (m : Nat) (a : Addr) (hm : rdT k t = (0, [], m)) (ha : wrV a0 a1 a2 m = .iface 148 (.pointer (some a))) :
    Calls Tryz.prog 19 #[I k, S t] w fun e w' => e = .returned (.tuple #[I 0, S [], .iface 63 (.agg #[I k, .iface 148 (.pointer (some a))])]) ∧ Below w.heap.size w w' := by
  have HR := hide (read_any a0 a1 a2 k hk t w hE)
  rw [show rdV a0 a1 a2 (rdT k t) = .tuple #[I 0, S [], .iface 148 (.pointer (some a))] by rw [hm]; unfold rdV; rw [ha]; rfl] at HR
  clear hE hk hm ha
  go_enter Tryz.func19, Tryz.ntmps19
  go_wp2_with (first | (go_at_call 39; refine (unhide HR).mono ?_; rintro e w1 ⟨rfl, hb⟩))
  go_ret3
  exact ⟨rfl, hb⟩
theorem isSame_any (k : Int) (b : Addr) (w : World) :
    Calls Tryz.prog 20 #[.iface 63 (.agg #[I k, .iface 148 (.pointer (some b))]), .iface 148 (.pointer (some b))] w fun e w' => e = .returned (.bool true) ∧ Below w.heap.size w w' := by
  refine (is_same k b w).mono ?_
  rintro e w' ⟨rfl, rfl⟩
  exact ⟨rfl, (Below.refl _ _).alloc (Nat.le_refl _) _⟩
theorem isOther_any (k : Int) (a b : Addr) (w : World) (hne : a ≠ b) (ha : ∃ c t, w.heap[a.block]? = some (.cells c t (0, 0))) (hb : ∃ c t, w.heap[b.block]? = some (.cells c t (0, 0))) :
    Calls Tryz.prog 20 #[.iface 63 (.agg #[I k, .iface 148 (.pointer (some a))]), .iface 148 (.pointer (some b))] w fun e w' => e = .returned (.bool false) ∧ Below w.heap.size w w' := by
  obtain ⟨ca, ta, ha⟩ := ha
  obtain ⟨cb, tb, hb⟩ := hb
  refine (is_other k b a ca cb ta tb w hne ha hb).mono ?_
  rintro e w' ⟨rfl, rfl⟩
  exact ⟨rfl, (Below.refl _ _).alloc (Nat.le_refl _) _⟩
/-- What Parse answers. -/
def ern : Nat → Int
  | 1 => 170
  | 2 => 171
  | 3 => 172
  | _ => 0
def prs (k : Int) (t : Bs) : Value := .tuple #[I ((rdT k t).1 : Int), S (rdT k t).2.1, I (ern (rdT k t).2.2)]
theorem parse_any (a0 a1 a2 : Addr) (k : Int) (hk : isK k) (t : Bs) (w : World) (hE : Env a0 a1 a2 w) :
    Calls Tryz.prog 9 #[I k, S t] w fun e w' => e = .returned (prs k t) ∧ Below w.heap.size w w' := by
  have HK := hide (isKind_yes k hk)
  rcases rdT_cases k t with h0 | h0 | h0 | h0
  · have HR := hide (readAs_ok a0 a1 a2 k hk t w hE h0)
    have HE := hide hE
    have HP : Hid (prs k t = .tuple #[I ((rdT k t).1 : Int), S (rdT k t).2.1, I 0]) := hide (by unfold prs; rw [h0]; rfl)
    clear hE hk h0
    generalize prs k t = P at *
    generalize ((rdT k t).1 : Int) = n at *
    generalize (rdT k t).2.1 = s at *
    go_enter Tryz.func9, Tryz.ntmps9
    go_wp2_with (first | (go_at_call 10; refine (unhide HK _).mono ?_; rintro e w' ⟨rfl, rfl⟩) | (go_at_call 19; refine (unhide HR).mono ?_; rintro e w1 ⟨rfl, hb⟩; have HB := hide hb; have c0 := ((unhide HE).below hb).c0; have c1 := ((unhide HE).below hb).c1; have c2 := ((unhide HE).below hb).c2; clear hb) | (go_at_call 20; refine (is_nil _ _).mono ?_; rintro e w' ⟨rfl, rfl⟩))
    go_ret3
    exact ⟨by rw [unhide HP]; rfl, unhide HB⟩
  · have HR := hide (readAs_bad a0 a1 a2 k hk t w hE 1 a0 h0 rfl)
    have HE := hide hE
    have HP : Hid (prs k t = .tuple #[I 0, S [], I 170]) := hide (by unfold prs; rw [h0]; rfl)
    clear hE hk h0
    generalize prs k t = P at *
    go_enter Tryz.func9, Tryz.ntmps9
    go_wp2_with (first | (go_at_call 10; refine (unhide HK _).mono ?_; rintro e w' ⟨rfl, rfl⟩) | (go_at_call 19; refine (unhide HR).mono ?_; rintro e w1 ⟨rfl, hb⟩; have HB := hide hb; have c0 := ((unhide HE).below hb).c0; clear hb) | (go_at_call 20; refine (isSame_any k a0 _).mono ?_; rintro e w2 ⟨rfl, hb2⟩))
    go_ret3
    exact ⟨by rw [unhide HP]; rfl, (unhide HB).trans (hb2.mono (unhide HB).size)⟩
  · have HR := hide (readAs_bad a0 a1 a2 k hk t w hE 2 a1 h0 rfl)
    have HE := hide hE
    have HP : Hid (prs k t = .tuple #[I 0, S [], I 171]) := hide (by unfold prs; rw [h0]; rfl)
    clear hE hk h0
    generalize prs k t = P at *
    go_enter Tryz.func9, Tryz.ntmps9
    go_wp2_with (first | (go_at_call 10; refine (unhide HK _).mono ?_; rintro e w' ⟨rfl, rfl⟩) | (go_at_call 19; refine (unhide HR).mono ?_; rintro e w1 ⟨rfl, hb⟩; have HB := hide hb; have HE1 := hide ((unhide HE).below hb); have c0 := (unhide HE1).c0; clear hb HE))
    refine (isOther_any k a1 a0 w1 (unhide HE1).n01.symm (unhide HE1).b1 (unhide HE1).b0).mono ?_
    rintro e w2 ⟨rfl, hb2⟩
    have HB2 := hide ((unhide HB).trans (hb2.mono (unhide HB).size))
    have c1 := ((unhide HE1).below hb2).c1
    clear hb2 HB HE1 c0
    go_wp2_with (first | (go_at_call 20; refine (isSame_any k a1 _).mono ?_; rintro e w3 ⟨rfl, hb3⟩))
    go_ret3
    exact ⟨by rw [unhide HP]; rfl, (unhide HB2).trans (hb3.mono (unhide HB2).size)⟩
  · have HR := hide (readAs_bad a0 a1 a2 k hk t w hE 3 a2 h0 rfl)
    have HE := hide hE
    have HP : Hid (prs k t = .tuple #[I 0, S [], I 172]) := hide (by unfold prs; rw [h0]; rfl)
    clear hE hk h0
    generalize prs k t = P at *
    go_enter Tryz.func9, Tryz.ntmps9
    go_wp2_with (first | (go_at_call 10; refine (unhide HK _).mono ?_; rintro e w' ⟨rfl, rfl⟩) | (go_at_call 19; refine (unhide HR).mono ?_; rintro e w1 ⟨rfl, hb⟩; have HB := hide hb; have HE1 := hide ((unhide HE).below hb); have c0 := (unhide HE1).c0; clear hb HE))
    refine (isOther_any k a2 a0 w1 (unhide HE1).n02.symm (unhide HE1).b2 (unhide HE1).b0).mono ?_
    rintro e w2 ⟨rfl, hb2⟩
    have HB2 := hide ((unhide HB).trans (hb2.mono (unhide HB).size))
    have HE2 := hide ((unhide HE1).below hb2)
    have c1 := (unhide HE2).c1
    clear hb2 HB HE1 c0
    go_wp2_with fail
    refine (isOther_any k a2 a1 w2 (unhide HE2).n12.symm (unhide HE2).b2 (unhide HE2).b1).mono ?_
    rintro e w3 ⟨rfl, hb3⟩
    have HB3 := hide ((unhide HB2).trans (hb3.mono (unhide HB2).size))
    have c2 := ((unhide HE2).below hb3).c2
    clear hb3 HB2 HE2 c1
    go_wp2_with (first | (go_at_call 20; refine (isSame_any k a2 _).mono ?_; rintro e w4 ⟨rfl, hb4⟩))
    go_ret3
    exact ⟨by rw [unhide HP]; rfl, (unhide HB3).trans (hb4.mono (unhide HB3).size)⟩
theorem parse_no (k : Int) (hk : ¬ isK k) (t : Bs) (w : World) :
    Calls Tryz.prog 9 #[I k, S t] w fun e w' => e = .returned (.tuple #[I 0, S [], I 1]) ∧ w' = w := by
  have HK := hide (isKind_no k hk)
  clear hk
  go_enter Tryz.func9, Tryz.ntmps9
  go_wp2_with (first | (go_at_call 10; refine (unhide HK _).mono ?_; rintro e w' ⟨rfl, rfl⟩))
  go_ret3
  exact ⟨rfl, rfl⟩
end Go.Proofs.YtbeionikiiccpaaGreatDoor
