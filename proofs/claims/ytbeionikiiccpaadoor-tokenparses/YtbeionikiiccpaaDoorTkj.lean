import Derived.Test.YtbeionikiiccpaaDoorTki
import Derived.Test.YtbeionikiiccpaaDoorRgtp
namespace Go.Proofs.YtbeionikiiccpaaDoor
open Go.RowKit Go.Lib Sha
set_option maxHeartbeats 4000000
set_option maxRecDepth 8000
theorem rcheck_any (s : Bs) (w : World) (hs : s.length ≤ 1000000) : Calls Tryd.prog 22 #[S s] w fun e w' => e = .returned (S (be 4 (crc s).toNat)) ∧ Below w.heap.size w w' := by
  have hu0 := u_lo (crc s)
  have hu1 := u_hi (crc s)
  have HC := hide (refcrc_any s w (by omega))
  have HB := hide (big4_any (crc s).toNat w (crc s).toNat_lt)
  have HU : u (crc s) = ((crc s).toNat : Int) := rfl
  rw [HU] at HC hu0 hu1
  generalize (crc s).toNat = n at *
  clear HU
  go_enter Tryd.func22, Tryd.ntmps22
  go_wp2_with fail
  refine (unhide HC).mono ?_
  rintro e w1 ⟨rfl, rfl⟩
  go_wp2_with fail
  refine (unhide HB).mono ?_
  rintro e w2 ⟨rfl, hb⟩
  have HB2 := hide hb
  clear hb
  go_wp2
  go_ret
  exact ⟨rfl, unhide HB2⟩
theorem rparse_no (k : Int) (hk : ¬ isK k) (t : Bs) (w : World) :
    Calls Tryd.prog 8 #[I k, S t] w fun e w' => e = .returned (.tuple #[I 0, S [], I 1]) ∧ w' = w := by
  have HK := hide (rprefix_no k hk)
  clear hk
  go_enter Tryd.func8, Tryd.ntmps8
  go_wp2_with (first | (go_at_call 18; refine (unhide HK _).mono ?_; rintro e w' ⟨rfl, rfl⟩))
  go_ret3
  exact ⟨rfl, rfl⟩
theorem rparse_other (k : Int) (hk : isK k) (t : Bs) (w : World) (h1 : (pre (3 - k)).isPrefixOf t = true) :
    Calls Tryd.prog 8 #[I k, S t] w fun e w' => e = .returned (.tuple #[I 0, S [], I 170]) ∧ Below w.heap.size w w' := by
  have hk3 : isK (3 - k) := by unfold isK at *; omega
  have hkb : 1 ≤ k ∧ k ≤ 2 := by unfold isK at hk; omega
  have HK := hide (rprefix_yes k hk)
  have HK3 := hide (rprefix_yes (3 - k) hk3)
  have HH := hide (begins_any t (pre (3 - k)))
  rw [h1] at HH
  have hpe : (pre k == []) = false := by rcases hk with rfl | rfl <;> rfl
  clear h1 hk hk3
  generalize pre k = p at *
  generalize pre (3 - k) = p' at *
  go_enter Tryd.func8, Tryd.ntmps8
  go_wp2_with fail
  refine (unhide HK _).mono ?_
  rintro e w1 ⟨rfl, rfl⟩
  go_wp2_with fail
  refine (unhide HK3 _).mono ?_
  rintro e w2 ⟨rfl, rfl⟩
  go_wp2_with fail
  refine (unhide HH _).mono ?_
  rintro e w3 ⟨rfl, rfl⟩
  go_wp2
  go_ret3
  exact ⟨rfl, Below.refl _ _⟩
theorem rparse_form (k : Int) (hk : isK k) (t : Bs) (w : World) (h1 : (pre (3 - k)).isPrefixOf t = false) (h2 : t.length ≠ 52 ∨ (pre k).isPrefixOf t = false) :
    Calls Tryd.prog 8 #[I k, S t] w fun e w' => e = .returned (.tuple #[I 0, S [], I 171]) ∧ Below w.heap.size w w' := by
  have hk3 : isK (3 - k) := by unfold isK at *; omega
  have hkb : 1 ≤ k ∧ k ≤ 2 := by unfold isK at hk; omega
  have HK := hide (rprefix_yes k hk)
  have HK3 := hide (rprefix_yes (3 - k) hk3)
  have HH := hide (begins_any t (pre (3 - k)))
  rw [h1] at HH
  have HO := hide (begins_any t (pre k))
  have hpe : (pre k == []) = false := by rcases hk with rfl | rfl <;> rfl
  clear h1 hk hk3
  generalize (pre k).isPrefixOf t = own at *
  generalize pre k = p at *
  generalize pre (3 - k) = p' at *
  go_enter Tryd.func8, Tryd.ntmps8
  go_wp2_with fail
  refine (unhide HK _).mono ?_
  rintro e w1 ⟨rfl, rfl⟩
  go_wp2_with fail
  refine (unhide HK3 _).mono ?_
  rintro e w2 ⟨rfl, rfl⟩
  go_wp2_with fail
  refine (unhide HH _).mono ?_
  rintro e w3 ⟨rfl, rfl⟩
  go_wp2_with fail
  refine (unhide HO _).mono ?_
  rintro e w4 ⟨rfl, rfl⟩
  by_cases hl : t.length = 52
  · have hli : (t.length : Int) = 52 := by omega
    have ho : own = false := by
      rcases h2 with q | q
      · exact absurd hl q
      · exact q
    subst ho
    go_wp2
    go_ret3
    exact ⟨rfl, Below.refl _ _⟩
  · have hli : ¬ (t.length : Int) = 52 := by omega
    go_wp2
    go_ret3
    exact ⟨rfl, Below.refl _ _⟩
theorem s_from32 (X : Bs) (W : World) (h : 32 ≤ X.length) : (Instr.sliceAt 9 (S X) (some (.int .i64 32)) none none).run Tryd.prog W = .ok (S (X.drop 32)) W := s_from X 32 h
theorem s_to32 (X : Bs) (W : World) (h : 32 ≤ X.length) : (Instr.sliceAt 9 (S X) none (some (.int .i64 32)) none).run Tryd.prog W = .ok (S (X.take 32)) W := s_to X 32 h
theorem s_neS (x y : Operand) (a b : Bs) (W : World) : (do eqGuard .neq 9 x y (S a) (S b); binOp .neq 9 (S a) (S b) : Sem Value).run Tryd.prog W = .ok (.bool (!(a == b))) W := by
  simp [go_sem, eqGuard]
/-- The rest of it, where the text is long enough and begins rightly. -/
theorem rparse_body (k : Int) (hk : isK k) (t : Bs) (w : World) (h1 : (pre (3 - k)).isPrefixOf t = false) (h2 : t.length = 52) (h3 : (pre k).isPrefixOf t = true) :
    Calls Tryd.prog 8 #[I k, S t] w fun e w' => e = .returned (prs k t) ∧ Below w.heap.size w w' := by
  have hk3 : isK (3 - k) := by unfold isK at *; omega
  have hkb : 1 ≤ k ∧ k ≤ 2 := by unfold isK at hk; omega
  have HK := hide (rprefix_yes k hk)
  have HK3 := hide (rprefix_yes (3 - k) hk3)
  have HH := hide (begins_any t (pre (3 - k)))
  rw [h1] at HH
  have HO := hide (begins_any t (pre k))
  rw [h3] at HO
  have hpe : (pre k == []) = false := by rcases hk with rfl | rfl <;> rfl
  have HR : Hid (rdT k t = match d64 (t.drop 4) with
    | none => (0, [], 2)
    | some b =>
      if 1 ≤ nat (b.take 8) ∧ nat (b.take 8) ≤ 4611686018427387904 then
        if nat (b.drop 32) = (cks k (nat (b.take 8)) ((b.drop 8).take 24)).toNat then (nat (b.take 8), (b.drop 8).take 24, 0) else (0, [], 3)
      else (0, [], 2)) := hide (by
    unfold rdT
    rw [if_neg (by rw [h1]; simp), if_neg (by rw [h3]; simp [h2])]
    cases d64 (t.drop 4) <;> rfl)
  have HP := hide (show prs k t = .tuple #[I ((rdT k t).1 : Int), S (rdT k t).2.1, I (ern (rdT k t).2.2)] from rfl)
  have hpl := pre_len k
  have hpli : ((pre k).length : Int) = 4 := by omega
  have h2i : (t.length : Int) = 52 := by omega
  have HX : Hid (Value.string ((ByteArray.mk t.toArray).extract 4 52) = S (t.drop 4)) := hide (by rw [ba_cut, List.take_of_length_le (by simp; omega)])
  have HB := hide (reffrombase64_any (t.drop 4) w (by simp; omega))
  have HD : Hid (∀ b, d64 (t.drop 4) = some b → b.length = 36) := hide (fun b q => d64_len q (by simp [h2]))
  have HCK : Hid (∀ n s, cks k n s = crc (pre k ++ nmd n s)) := hide (fun _ _ => rfl)
  generalize prs k t = P at *
  generalize rdT k t = R at *
  clear h1 hk hk3 h3
  generalize pre k = p at *
  generalize pre (3 - k) = p' at *
  go_enter Tryd.func8, Tryd.ntmps8
  go_wp2_with fail
  refine (unhide HK _).mono ?_
  rintro e w1 ⟨rfl, rfl⟩
  go_wp2_with fail
  refine (unhide HK3 _).mono ?_
  rintro e w2 ⟨rfl, rfl⟩
  go_wp2_with fail
  refine (unhide HH _).mono ?_
  rintro e w3 ⟨rfl, rfl⟩
  go_wp2_with fail
  refine (unhide HO _).mono ?_
  rintro e w4 ⟨rfl, rfl⟩
  clear HK HK3 HH HO
  go_wp2_with fail
  rw [unhide HX]
  refine (unhide HB).mono ?_
  rintro e w5 ⟨rfl, hb5⟩
  have HB5 := hide hb5
  clear hb5 HB HX
  cases hd : d64 (t.drop 4) with
  | none =>
    have hR := unhide HR
    rw [hd] at hR
    have HP2 : Hid (P = .tuple #[I 0, S [], I 171]) := hide (by rw [unhide HP, hR]; rfl)
    rw [show told2 none = .tuple #[S [], I 24] from rfl]
    clear hR HR HP HD hd
    go_wp2
    go_ret3
    exact ⟨by rw [unhide HP2]; rfl, unhide HB5⟩
  | some b =>
    have hb := unhide HD b hd
    have hR := unhide HR
    rw [hd] at hR
    simp only at hR
    have hbi : (b.length : Int) = 36 := by omega
    rw [show told2 (some b) = .tuple #[S b, I 0] from rfl]
    have HI := hide (id_any (b.take 8) w5 (by simp; omega))
    have h8 : Value.string ((ByteArray.mk b.toArray).extract 0 8) = S (b.take 8) := by rw [ba_cut]; rfl
    have H8 := hide h8
    clear HR hd HD h8
    go_wp2_with fail
    rw [unhide H8]
    refine (unhide HI).mono ?_
    rintro e w6 ⟨rfl, rfl⟩
    clear HI H8
    by_cases hid : 1 ≤ nat (b.take 8) ∧ nat (b.take 8) ≤ 4611686018427387904
    · rw [if_pos hid] at hR
      have hv : idv (b.take 8) = nat (b.take 8) := by unfold idv; rw [if_pos hid.2]
      rw [hv]
      have hne : ¬ ((nat (b.take 8) : Nat) : Int) = 0 := by omega
      have HCR := hide (fun w => rcheck_any (p ++ b.take 32) w (by simp; omega))
      have HQ : Hid ((!(b.drop 32 == be 4 (crc (p ++ b.take 32)).toNat)) = true ↔ R = (0, [], 3)) := hide (by
        have e1 : nmd (nat (b.take 8)) ((b.drop 8).take 24) = b.take 32 := by
          unfold nmd
          rw [be_back (b.take 8) 8 (by simp [hb])]
          rw [show b.take 32 = b.take (8 + 24) from rfl, List.take_add]
        rw [unhide HCK, e1] at hR
        have e2 : (b.drop 32 == be 4 (crc (p ++ b.take 32)).toNat) = decide (nat (b.drop 32) = (crc (p ++ b.take 32)).toNat) := by
          rw [Bool.eq_iff_iff, beq_iff_eq, decide_eq_true_iff]
          constructor
          · intro q
            rw [q, nat_be, Nat.mod_eq_of_lt (crc (p ++ b.take 32)).toNat_lt]
          · intro q
            rw [← q, be_back (b.drop 32) 4 (by simp [hb])]
        rw [e2]
        by_cases q : nat (b.drop 32) = (crc (p ++ b.take 32)).toNat
        · rw [if_pos q] at hR
          rw [hR]
          simp [q]
        · rw [if_neg q] at hR
          rw [hR]
          simp [q])
      have HQ2 : Hid (R = (0, [], 3) ∨ R = (nat (b.take 8), (b.drop 8).take 24, 0)) := hide (by
        split at hR
        · exact .inr hR
        · exact .inl hR)
      clear hR hv
      generalize be 4 (crc (p ++ b.take 32)).toNat = ck at *
      generalize hnn : nat (b.take 8) = nn at *
      go_wp2
      refine rpa16 b p ck (!(b.drop 32 == ck)) (by kernel_rfl) (by kernel_rfl) (by kernel_rfl) _ _ (by show 61 ≤ Array.size _; simp) rfl rfl (fun _ _ W => Below w6.heap.size w6 W) ⟨(), (Below.refl _ _).drew⟩ (fun _ _ _ _ _ h => h) (fun W => s_from32 b W (by omega)) (fun W => s_to32 b W (by omega)) (fun W => s_cat _ _ _ _ (by simp; omega)) ?_ (fun W => s_neS _ _ _ _ W) ?_
      · intro c L W hW _ _
        refine (unhide HCR W).mono ?_
        rintro e w' ⟨rfl, hb'⟩
        exact ⟨(), fun _ _ => rfl, rfl, hW.trans (hb'.mono hW.size)⟩
      intro c L w7 hall hW
      clear hall
      have HB7 := hide ((unhide HB5).trans (hW.mono (unhide HB5).size))
      clear hW HCR HB5 HCK hid hne hpe hpl hpli hkb h2 h2i
      clear hnn
      cases hq : (!(b.drop 32 == ck))
      · have hR2 : R = (nn, (b.drop 8).take 24, 0) := by
          rcases unhide HQ2 with q | q
          · rw [(unhide HQ).2 q] at hq; cases hq
          · exact q
        have HP2 : Hid (P = .tuple #[I (nn : Int), S ((b.drop 8).take 24), I 0]) := hide (by rw [unhide HP, hR2]; rfl)
        have H24 : Value.string ((ByteArray.mk b.toArray).extract 8 32) = S ((b.drop 8).take 24) := by rw [ba_cut]
        have H24' := hide H24
        clear HQ HQ2 HP hR2 hq H24
        generalize b.drop 32 = d32 at *
        generalize p ++ b.take 32 = t33 at *
        generalize b.take 32 = t32 at *
        generalize t.drop 4 = d4 at *
        simp only [Act.put, List.setIfInBounds_toArray, List.set_cons_succ, List.set_cons_zero]
        go_wp2
        go_quiet (fail)
        all_goals go_wp2
        all_goals (go_ret3; refine ⟨?_, (unhide HB7) |> fun q => ⟨q.os, q.tape, q.output, q.size, q.block⟩⟩)
        all_goals (rw [unhide HP2, ← unhide H24']; rfl)
      · have hR2 : R = (0, [], 3) := (unhide HQ).1 hq
        have HP2 : Hid (P = .tuple #[I 0, S [], I 172]) := hide (by rw [unhide HP, hR2]; rfl)
        clear HQ HQ2 HP hR2 hq
        generalize b.drop 32 = d32 at *
        generalize p ++ b.take 32 = t33 at *
        generalize b.take 32 = t32 at *
        generalize t.drop 4 = d4 at *
        simp only [Act.put, List.setIfInBounds_toArray, List.set_cons_succ, List.set_cons_zero]
        go_wp2
        go_ret3
        exact ⟨by rw [unhide HP2]; rfl, unhide HB7⟩
    · rw [if_neg hid] at hR
      have hv : idv (b.take 8) = 0 := by unfold idv; split <;> omega
      rw [hv]
      have HP2 : Hid (P = .tuple #[I 0, S [], I 171]) := hide (by rw [unhide HP, hR]; rfl)
      clear hR hid hv HP
      go_wp2
      go_ret3
      exact ⟨by rw [unhide HP2]; rfl, unhide HB5⟩
end Go.Proofs.YtbeionikiiccpaaDoor
