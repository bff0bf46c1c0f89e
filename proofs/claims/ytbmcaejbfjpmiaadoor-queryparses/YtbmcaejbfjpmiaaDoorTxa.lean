import Derived.Test.YtbmcaejbfjpmiaaDoorAwk
namespace Go.Proofs.YtbmcaejbfjpmiaaDoor
open Go.RowKit Go.Lib
def addN (n m : Nat) : Nat := if 2147483647 < n ∨ 2147483647 < m then 2147483648 else n + m
theorem adds_any (n m : Nat) (w : World) (hn : n ≤ 9223372036854775807) (hm : m ≤ 9223372036854775807) :
    Calls Tryd.prog 8 #[.int .i64 n, .int .i64 m] w fun e w' => e = .returned (.int .i64 (addN n m : Nat)) ∧ w' = w := by
  unfold addN
  by_cases h1 : 2147483647 < n
  · rw [if_pos (.inl h1)]
    have i1 : (2147483647 : Int) < n := by omega
    go_enter Tryd.func8, Tryd.ntmps8
    go_wp2
    go_ret
    exact ⟨rfl, rfl⟩
  · by_cases h2 : 2147483647 < m
    · rw [if_pos (.inr h2)]
      have i2 : (2147483647 : Int) < m := by omega
      have i1 : ¬ (2147483647 : Int) < n := by omega
      go_enter Tryd.func8, Tryd.ntmps8
      go_wp2
      go_ret
      exact ⟨rfl, rfl⟩
    · rw [if_neg (by omega)]
      have i2 : ¬ (2147483647 : Int) < m := by omega
      have i1 : ¬ (2147483647 : Int) < n := by omega
      have j1 : decide ((2147483647 : Int) < n) = false := by simpa using i1
      have j2 : decide ((2147483647 : Int) < m) = false := by simpa using i2
      go_enter Tryd.func8, Tryd.ntmps8
      go_wp2
      go_ret
      exact ⟨ret_int (by omega), rfl⟩
theorem addN_le {n m : Nat} (h : addN n m ≤ 2147483647) : n + m ≤ 2147483647 ∧ addN n m = n + m := by
  unfold addN at h ⊢
  split at h
  · omega
  · rename_i q
    rw [if_neg q]
    exact ⟨h, rfl⟩
theorem addN_bd (n m : Nat) : addN n m ≤ 4294967294 := by
  unfold addN
  split <;> omega
set_option maxHeartbeats 4000000 in
set_option maxRecDepth 8000 in
theorem texts_walk (s t : List UInt8) (w : World) (hE : Env w.heap.size w) (hs : s.length ≤ 9223372036854775807) (ht : t.length ≤ 9223372036854775807) :
    Calls Tryd.prog 3 #[S s, S t] w fun e w' => e = .returned (.bool true) ∧ Below w.heap.size w w' := by
  have HA := hide (adds_any s.length t.length w hs ht)
  by_cases hb : 2147483647 < addN s.length t.length
  · have ib : (2147483647 : Int) < (addN s.length t.length : Nat) := by omega
    generalize addN s.length t.length = A at *
    go_enter Tryd.func3, Tryd.ntmps3
    go_wp2_with fail
    refine (unhide HA).mono ?_
    rintro e w' ⟨rfl, rfl⟩
    go_wp2
    go_ret
    exact ⟨rfl, Below.refl _ _⟩
  · have hle := (addN_le (Nat.le_of_not_lt hb)).1
    have ib : ¬ (2147483647 : Int) < (addN s.length t.length : Nat) := by omega
    have HW := hide (awake_any w hE)
    have HE := hide hE
    have HR := hide (fun W => qUnescape_any t W (by omega))
    have HR2 := hide (fun W => refUnescape_any t W (by omega))
    obtain ⟨ta, te, hte⟩ : ∃ (ta : List UInt8) (te : Nat), tell2 (rd t) = .tuple #[S ta, .int .i64 (te : Nat)] := by
      cases rd t with
      | ok l => exact ⟨l, 0, rfl⟩
      | error x => obtain ⟨e, p⟩ := x; exact ⟨[], e, rfl⟩
    rw [hte] at HR HR2
    have HQ := hide (fun W (hW : Env W.heap.size W) => qEscape_any s W hW (by omega))
    have HQ2 := hide (fun W => refEscape_any s W (by omega))
    generalize addN s.length t.length = A at *
    clear hE hb hte
    generalize esc s = es at *
    go_enter Tryd.func3, Tryd.ntmps3
    go_wp2_with fail
    refine (unhide HA).mono ?_
    rintro e w' ⟨rfl, rfl⟩
    go_wp2_with fail
    refine (unhide HW).mono ?_
    rintro e w1 ⟨rfl, b1⟩
    have B1 := hide b1
    clear b1
    go_wp2_with fail
    refine (unhide HR w1).mono ?_
    rintro e w2 ⟨rfl, b2⟩
    have B2 := hide ((unhide B1).trans (b2.mono (unhide B1).size))
    clear b2
    go_wp2_with fail
    refine (unhide HR2 w2).mono ?_
    rintro e w3 ⟨rfl, b3⟩
    have B3 := hide ((unhide B2).trans (b3.mono (unhide B2).size))
    clear b3
    go_wp2_with fail
    refine (unhide HQ w3 ((unhide HE).next (unhide B3))).mono ?_
    rintro e w4 ⟨rfl, b4⟩
    have B4 := hide ((unhide B3).trans (b4.mono (unhide B3).size))
    clear b4
    go_wp2_with fail
    refine (unhide HQ2 w4).mono ?_
    rintro e w5 ⟨rfl, b5⟩
    have B5 := hide ((unhide B4).trans (b5.mono (unhide B4).size))
    clear b5
    go_wp2
    go_ret
    exact ⟨rfl, unhide B5⟩
end Go.Proofs.YtbmcaejbfjpmiaaDoor
