import Derived.Test.YtbeionikiiccpaaDoorTke
import Derived.Test.YtbeionikiiccpaaDoorCby
namespace Go.Proofs.YtbeionikiiccpaaDoor
open Go.RowKit Go.Lib Sha
set_option maxHeartbeats 4000000
set_option maxRecDepth 8000
/-- Which of n things a raw number speaks of. -/
def pkv (c n : Int) : Int := if c < 0 then (-(c + 1)) % n else c % n
theorem pkv_lo (c n : Int) (hn : 0 < n) : 0 ≤ pkv c n := by unfold pkv; split <;> exact Int.emod_nonneg _ (by omega)
theorem pkv_hi (c n : Int) (hn : 0 < n) : pkv c n < n := by unfold pkv; split <;> exact Int.emod_lt_of_pos _ hn
theorem pick_any (c n : Int) (w : World) (c0 : -9223372036854775808 ≤ c) (c1 : c ≤ 9223372036854775807) (n0 : 0 < n) (n1 : n ≤ 9223372036854775807) :
    Calls Tryd.prog 10 #[I c, I n] w fun e w' => e = .returned (I (pkv c n)) ∧ w' = w := by
  have hn0 : ¬ n = 0 := by omega
  by_cases h : c < 0
  · have HP := hide (show pkv c n = (-(c + 1)) % n by unfold pkv; rw [if_pos h])
    have hm1 := Int.emod_nonneg (-(c + 1)) (show n ≠ 0 by omega)
    have hm2 := Int.emod_lt_of_pos (-(c + 1)) n0
    have ht : (-(c + 1)).tmod n = (-(c + 1)) % n := Int.tmod_eq_emod_of_nonneg (by omega)
    go_enter Tryd.func10, Tryd.ntmps10
    go_wp2
    go_ret
    refine ⟨?_, rfl⟩
    rw [unhide HP, ← ht]
    rfl
  · have HP := hide (show pkv c n = c % n by unfold pkv; rw [if_neg h])
    have hm1 := Int.emod_nonneg c (show n ≠ 0 by omega)
    have hm2 := Int.emod_lt_of_pos c n0
    have ht : c.tmod n = c % n := Int.tmod_eq_emod_of_nonneg (by omega)
    go_enter Tryd.func10, Tryd.ntmps10
    go_wp2
    go_ret
    refine ⟨?_, rfl⟩
    rw [unhide HP, ← ht]
    rfl
/-- A secret of a raw text. -/
def szd (s : Bs) : Bs := if 24 < s.length then s.take 24 else s ++ List.replicate (24 - s.length) 0
theorem szd_len (s : Bs) : (szd s).length = 24 := by unfold szd; split <;> simp <;> omega
theorem lsized_any (s : Bs) (w : World) (hs : s.length ≤ 9223372036854775807) :
    Calls Tryd.prog 12 #[S s] w fun e w' => e = .returned (S (szd s)) ∧ Below w.heap.size w w' := by
  by_cases h : 24 < s.length
  · have hi : (24 : Int) < (s.length : Int) := by omega
    have HP := hide (show szd s = s.take 24 by unfold szd; rw [if_pos h])
    go_enter Tryd.func12, Tryd.ntmps12
    go_wp2
    go_ret
    refine ⟨?_, Below.refl _ _⟩
    rw [unhide HP]
    show Ending.returned (.string ((ByteArray.mk s.toArray).extract 0 24)) = _
    rw [ba_cut]
    rfl
  · have hi : ¬ (24 : Int) < (s.length : Int) := by omega
    obtain ⟨n, hn⟩ : ∃ n : Nat, n = 24 - s.length := ⟨_, rfl⟩
    have hni : (24 : Int) - (s.length : Int) = (n : Int) := by omega
    have HP := hide (show szd s = s ++ List.replicate n 0 by unfold szd; rw [if_neg h, hn])
    have hcat : s.length + (List.replicate n (0 : UInt8)).length ≤ 9223372036854775807 := by simp; omega
    have HN := hide hni
    clear hni
    have hlo : (0 : Int) ≤ 24 - (s.length : Int) := by omega
    go_enter Tryd.func12, Tryd.ntmps12
    go_wp2_with (first
      | (refine make1 inf5 Tryd.underlying33 rfl (.tmp 11) (.tmp 11) rfl _ _ n (by rfl) (by rfl) (unhide HN) (unhide HN) (by omega) ?_; intro w1 hb1 k1
         have HX := hide (run_text w1 w.heap.size 0 n n (List.replicate n 0) (by simp) (fun j hj => by rw [Nat.zero_add, hb1.cell]; simp [hj]))
         have HK := hide k1
         clear hb1 k1)
      | (refine wpList_conv rfl 33 9 (.tmp 12) rfl _ _ (by rfl) (unhide HX) ?_))
    go_ret
    refine ⟨?_, unhide HK⟩
    rw [unhide HP]
    show Ending.returned (.string ((ByteArray.mk s.toArray) ++ ⟨Array.replicate (24 - s.length) 0⟩)) = _
    rw [← hn, show Array.replicate n (0 : UInt8) = (List.replicate n 0).toArray by simp, ba_app]
abbrev ss : Bs := [115, 115, 115, 115, 115, 115, 115, 115, 115, 115, 115, 115, 115, 115, 115, 115, 115, 115, 115, 115, 115, 115, 115, 115]
abbrev lkr : Bs := [108, 107, 114, 95, 65, 65, 65, 65, 65, 65, 65, 65, 65, 65, 100, 122, 99, 51, 78, 122, 99, 51, 78, 122, 99, 51, 78, 122, 99, 51, 78, 122, 99, 51, 78, 122, 99, 51, 78, 122, 99, 51, 78, 122, 99, 51, 79, 50, 45, 98, 113, 118]
theorem lkr_is : tkn 1 7 ss = lkr := by decide +kernel
theorem awake_any (a0 a1 a2 : Addr) (w : World) (hE : Env a0 a1 a2 w) :
    Calls Tryd.prog 6 #[] w fun e w' => e = .returned (.bool true) ∧ Below w.heap.size w w' := by
  have hs : ss.length = 24 := rfl
  have H1 := hide (mint_any 1 7 ss w)
  rw [show mnt 1 7 ss = (lkr, 0) by rw [← lkr_is]; rfl] at H1
  have H4 := hide (mint_any 3 7 ss)
  rw [show mnt 3 7 ss = ([], 1) by rfl] at H4
  have HE := hide hE
  have HP1 : Hid (prs 1 lkr = .tuple #[I 7, S ss, I 0]) := hide (by unfold prs; rw [← lkr_is, rdT_tkn (.inl rfl) 7 ss (by omega) (by omega) rfl]; rfl)
  have HP2 : Hid (prs 2 lkr = .tuple #[I 0, S [], I 170]) := hide (by unfold prs; rw [← lkr_is, show (2 : Int) = 3 - 1 by rfl, rdT_other2]; rfl)
  clear hE hs
  go_enter Tryd.func6, Tryd.ntmps6
  go_wp2_with fail
  refine (unhide H1).mono ?_
  rintro e w1 ⟨rfl, hb1⟩
  have HE1 := hide ((unhide HE).below hb1)
  have HB1 := hide hb1
  clear hb1 H1 HE
  go_wp2_with fail
  refine (parse_any a0 a1 a2 1 (.inl rfl) lkr w1 (unhide HE1)).mono ?_
  rintro e w2 ⟨rfl, hb2⟩
  have HE2 := hide ((unhide HE1).below hb2)
  have HB2 := hide ((unhide HB1).trans (hb2.mono (unhide HB1).size))
  rw [unhide HP1]
  clear hb2 HE1 HB1
  go_wp2_with fail
  refine (parse_any a0 a1 a2 2 (.inr rfl) lkr w2 (unhide HE2)).mono ?_
  rintro e w3 ⟨rfl, hb3⟩
  have HB3 := hide ((unhide HB2).trans (hb3.mono (unhide HB2).size))
  rw [unhide HP2]
  clear hb3 HE2 HB2
  go_wp2_with fail
  refine (unhide H4 w3).mono ?_
  rintro e w4 ⟨rfl, hb4⟩
  have HB4 := hide ((unhide HB3).trans (hb4.mono (unhide HB3).size))
  clear hb4 HB3 HP1 HP2 H4
  go_wp2
  go_ret
  exact ⟨rfl, unhide HB4⟩
end Go.Proofs.YtbeionikiiccpaaDoor
